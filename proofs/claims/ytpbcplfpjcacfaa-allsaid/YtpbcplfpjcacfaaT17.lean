import Derived.Test.YtpbcplfpjcacfaaT16
namespace Go.Proofs.Ytpbcplfpjcacfaa
open Go.RowKit
set_option maxRecDepth 100000
set_option maxHeartbeats 8000000
theorem Mem.free {w:World} {r:Nat} {st:RS} {own:Own} {g:Gh} {vp vt vr ve:Value} (P:Mem w r st own g vp vt vr ve) {b j:Nat} (hb:own b=none) (u:Value):Mem (w.setCell ⟨b,j,none⟩ u) r st own g vp vt vr ve:=by
 have k:∀ c t,own c=some t→(w.setCell ⟨b,j,none⟩ u).heap[c]?=w.heap[c]?:=fun c t hc=>heap_setCell_ne _ _ _ _ _ (fun e=>by rw [e,hb] at hc; cases hc)
 exact {
  root:=by rw [k r _ P.rootTag]; exact P.root
  rootTag:=P.rootTag
  places:=P.places.frame (fun c hc=>k c _ hc) (fun _ h=>h)
  txns:=P.txns.frame (fun c hc=>k c _ hc) (fun _ h=>h)
  recs:=P.recs.frame (fun c hc=>k c _ hc) (fun _ h=>h)
  ended:=P.ended.frame (fun c hc=>k c _ hc) (fun _ h=>h)
  olds:=fun t ht=>(P.olds t ht).frame (fun c hc=>k c _ hc) (fun _ h=>h)
  puts:=fun t ht=>(P.puts t ht).frame (fun c hc=>k c _ hc) (fun _ h=>h)
  told:=fun t ht hr=>(P.told t ht hr).frame (fun c hc=>k c _ hc) (fun _ h=>h)
  toldV:=P.toldV
  old:=fun c hc=>by have:=P.old c hc; simpa using this }
theorem ownsRow_other {w:World} {B e size n R j:Nat} {v u:Value} {xs:List Value} (h:w.ownsRow B e size v n xs) (hR:R < B):(w.setCell ⟨R,j,none⟩ u).ownsRow B e size v n xs:=by
 obtain ⟨hl,ho⟩:=h
 refine ⟨hl,?_⟩
 rcases ho with h | ⟨b,c,d,e1,e2,e3,e4⟩
 ·exact .inl h
 ·exact .inr ⟨b,c,d,e1,e2,by rw [heap_setCell_ne _ _ _ _ _ (by omega)]; exact e3,e4⟩
theorem ans_pass {own own2:Own} {w w2:World} {r R B:Nat} {st:RS} {a:Ans} {v:Value} (hrow:w2.ownsRow B 94 2 v a.items.length (itemsV a.items)) (hB:R < B) (hrep:Rep w2 r st own2) (hchg:Chg own w w2 own2) (hv:∀ b,v.ownBlock=some b→own2 b=none) (hf:own2 R=none) (hw:w.heap.size≤R) :
  AnsPost own w r st a (.returned (.agg #[.int .i64 a.code,.int .i64 a.why,v])) (((w2.setCell ⟨R,0,none⟩ (.int .i64 a.code)).setCell ⟨R,1,none⟩ (.int .i64 a.why)).setCell ⟨R,2,none⟩ v) :=
 ⟨v,own2,rfl,ownsRow_lower (ownsRow_other (ownsRow_other (ownsRow_other hrow hB) hB) hB) (by omega),((hrep.free (j:=0) hf _).free (j:=1) hf _).free (j:=2) hf _,((hchg.free (j:=0) hw _).free (j:=1) hw _).free (j:=2) hw _,hv⟩
theorem labN_take {x:Wh} {l:List Rc} {k:Nat} {t:Rc} (h:l[k]?=some t):labN x (l.take (k+1))=labN x (l.take k)+(if sameL t.who.1 t.who.2.1 x.1 x.2.1 then 1 else 0):=by
 unfold labN
 rw [List.take_add_one,h,List.filter_append,List.length_append]
 simp only [Option.toList_some,List.filter_cons,List.filter_nil]
 split<;>simp
theorem labN_le (x:Wh) (l:List Rc):labN x l≤l.length:=List.length_filter_le _ _
theorem ask_any {N:Nat} (r:Nat) (st:RS) (own:Own) (x:Stp) (w:World) (hm:Rep w r st own) (A:Asking N st x) (hNb:N+1 < 4398046511104) :
  Calls Try.prog 93 #[.pointer (some ⟨r,0,none⟩),stepV x] w (AnsPost own w r (st.askT x).1 (st.askT x).2):=by
 have hfr:=hm.fresh
 have Hfr:Hid (∀ k,w.heap.size≤k→own k=none):=hfr
 have HA:Hid (Asking N st x):=A
 have hck:=A.fit.clock
 have hrL:=A.fit.recL
 have hop:=A.good.op
 unfold stepV
 clear hfr A
 go_enter Try.func93,Try.ntmps93
 go_wp2_with fail
 have hA:Below w.heap.size w ((w.alloc (.cells #[.int .i64 x.who.1,.int .i64 x.who.2.1,.int .i64 x.who.2.2,.int .i64 x.op,.int .i64 x.at_.1,.int .i64 x.at_.2,.int .i64 x.key,.int .i64 x.to_,.int .i64 x.value] 30)).alloc (.cells #[.int .i64 0,.int .i64 0,.slice none 0 0] 66)):=below2r
 have hX:Hid (((w.alloc (.cells #[.int .i64 x.who.1,.int .i64 x.who.2.1,.int .i64 x.who.2.2,.int .i64 x.op,.int .i64 x.at_.1,.int .i64 x.at_.2,.int .i64 x.key,.int .i64 x.to_,.int .i64 x.value] 30)).alloc (.cells #[.int .i64 0,.int .i64 0,.slice none 0 0] 66)).heap[w.heap.size]?=some (.cells (stepC x).toArray 30 (0,0))):=by
  unfold Hid; rw [Below.heap_alloc _ _ _ (by simp)]; exact heap_alloc_new w _
 have hR:Hid (((w.alloc (.cells #[.int .i64 x.who.1,.int .i64 x.who.2.1,.int .i64 x.who.2.2,.int .i64 x.op,.int .i64 x.at_.1,.int .i64 x.at_.2,.int .i64 x.key,.int .i64 x.to_,.int .i64 x.value] 30)).alloc (.cells #[.int .i64 0,.int .i64 0,.slice none 0 0] 66)).heap[w.heap.size+1]?=some (.cells #[.int .i64 0,.int .i64 0,.slice none 0 0] 66 (0,0))):=by
  unfold Hid
  have:=heap_alloc_new (w.alloc (.cells #[.int .i64 x.who.1,.int .i64 x.who.2.1,.int .i64 x.who.2.2,.int .i64 x.op,.int .i64 x.at_.1,.int .i64 x.at_.2,.int .i64 x.key,.int .i64 x.to_,.int .i64 x.value] 30)) (.cells #[.int .i64 0,.int .i64 0,.slice none 0 0] 66 (0,0))
  rw [World.size_alloc] at this; exact this
 have hzA:Hid (((w.alloc (.cells #[.int .i64 x.who.1,.int .i64 x.who.2.1,.int .i64 x.who.2.2,.int .i64 x.op,.int .i64 x.at_.1,.int .i64 x.at_.2,.int .i64 x.key,.int .i64 x.to_,.int .i64 x.value] 30)).alloc (.cells #[.int .i64 0,.int .i64 0,.slice none 0 0] 66)).heap.size=w.heap.size+2):=by unfold Hid; simp
 generalize (w.alloc (.cells #[.int .i64 x.who.1,.int .i64 x.who.2.1,.int .i64 x.who.2.2,.int .i64 x.op,.int .i64 x.at_.1,.int .i64 x.at_.2,.int .i64 x.key,.int .i64 x.to_,.int .i64 x.value] 30)).alloc (.cells #[.int .i64 0,.int .i64 0,.slice none 0 0] 66)=wA at *
 obtain ⟨ow,how⟩:∃ b,Hid (sameL x.at_.1 x.at_.2 x.who.1 x.who.2.1=b):=⟨_,rfl⟩
 obtain ⟨dn,hdn⟩:∃ b,Hid (domB x.who.1 x.who.2.1 x.at_.1 x.at_.2=b):=⟨_,rfl⟩
 refine (sameLabel_is how.out _).mono ?_
 rintro e w1 ⟨rfl,hb1⟩
 have hB1:Below w.heap.size w w1:=hA.trans (hb1.mono hA.size)
 have hX1:w1.heap[w.heap.size]?=some (.cells (stepC x).toArray 30 (0,0)):=by rw [hb1.block _ (by have:=hzA.out; omega)]; exact hX.out
 obtain ⟨c0,c1,c2,c3,c4,c5,c6,c7,c8⟩:=step_cells hX1
 have HX1:Hid (w1.heap[w.heap.size]?=some (.cells (stepC x).toArray 30 (0,0))):=hX1
 have HR1:Hid (w1.heap[w.heap.size+1]?=some (.cells #[.int .i64 0,.int .i64 0,.slice none 0 0] 66 (0,0))):=by unfold Hid; rw [hb1.block _ (by have:=hzA.out; omega)]; exact hR.out
 have hz1:w.heap.size+2≤w1.heap.size:=by have:=hb1.size; have:=hzA.out; omega
 clear hX1 hb1
 go_wp2_with fail
 have hdc:=dominates_any x.who.1 x.who.2.1 x.at_.1 x.at_.2 w1
 rw [hdn.out] at hdc
 refine hdc.mono ?_
 clear hdc
 rintro e w2 ⟨rfl,hb2⟩
 have hB2:Below w.heap.size w w2:=hB1.trans (hb2.mono hB1.size)
 have hz2:w.heap.size+2≤w2.heap.size:=by have:=hb2.size; omega
 have d0:=cell_later hb2 c0
 have d1:=cell_later hb2 c1
 have d2:=cell_later hb2 c2
 have d3:=cell_later hb2 c3
 have d4:=cell_later hb2 c4
 have d5:=cell_later hb2 c5
 have d6:=cell_later hb2 c6
 have d7:=cell_later hb2 c7
 have d8:=cell_later hb2 c8
 have HX2:Hid (w2.heap[w.heap.size]?=some (.cells (stepC x).toArray 30 (0,0))):=by unfold Hid; rw [hb2.block _ (by omega)]; exact HX1.out
 have HR2:Hid (w2.heap[w.heap.size+1]?=some (.cells #[.int .i64 0,.int .i64 0,.slice none 0 0] 66 (0,0))):=by unfold Hid; rw [hb2.block _ (by omega)]; exact HR1.out
 have HRep2:Hid (Rep w2 r st own):=hm.below hB2
 have k8:w2.cell? ⟨r,8,none⟩=some (.int .i64 st.clock):=by
  obtain ⟨g,vp,vt,vr,ve,m⟩:=HRep2.out
  rw [root_cell m.root]; rfl
 have hr2:r < w2.heap.size:=by
  obtain ⟨g,vp,vt,vr,ve,m⟩:=HRep2.out
  exact m.old r (by rw [m.rootTag]; simp)
 have l0:w.heap.size < w2.heap.size:=by omega
 have Hop:Hid (x.op=2∨x.op=3∨x.op=4∨x.op=5):=hop
 have hck2:st.clock+1 < 4398046511104:=by omega
 clear hb2 c0 c1 c2 c3 c4 c5 c6 c7 c8 HX1 HR1 hA hX hR hzA hm hB1 hop
 go_upto_region 3 with fail
 go_cut [7] from 12 to 51 (fun v wc=>∃ b,v=.pointer (some ⟨b,0,none⟩)∧Below w2.heap.size w2 wc∧w2.heap.size≤b∧Hid (wc.heap[b]?=some (.cells (recC { st.askR x with hi:=x.key }).toArray 108 (0,0))))
 case first =>
  have HS2:Hid (∀ W,Below w2.heap.size w2 W→W.cell? ⟨w.heap.size,0,none⟩=some (.int .i64 x.who.1)∧W.cell? ⟨w.heap.size,1,none⟩=some (.int .i64 x.who.2.1)∧W.cell? ⟨w.heap.size,2,none⟩=some (.int .i64 x.who.2.2)∧W.cell? ⟨w.heap.size,3,none⟩=some (.int .i64 x.op)∧W.cell? ⟨w.heap.size,4,none⟩=some (.int .i64 x.at_.1)∧W.cell? ⟨w.heap.size,5,none⟩=some (.int .i64 x.at_.2)∧W.cell? ⟨w.heap.size,6,none⟩=some (.int .i64 x.key)∧W.cell? ⟨r,8,none⟩=some (.int .i64 st.clock)):=fun W hB=>⟨cell_later hB d0,cell_later hB d1,cell_later hB d2,cell_later hB d3,cell_later hB d4,cell_later hB d5,cell_later hB d6,cell_later hB k8⟩
  have hS:=HS2.out w2.drew (Below.refl _ _).drew
  refine wp_region_Z (z:=23) (S:=fun W=>W.cell? ⟨w.heap.size,0,none⟩=some (.int .i64 x.who.1)∧W.cell? ⟨w.heap.size,1,none⟩=some (.int .i64 x.who.2.1)∧W.cell? ⟨w.heap.size,2,none⟩=some (.int .i64 x.who.2.2)∧W.cell? ⟨w.heap.size,3,none⟩=some (.int .i64 x.op)∧W.cell? ⟨w.heap.size,4,none⟩=some (.int .i64 x.at_.1)∧W.cell? ⟨w.heap.size,5,none⟩=some (.int .i64 x.at_.2)∧W.cell? ⟨w.heap.size,6,none⟩=some (.int .i64 x.key)∧W.cell? ⟨r,8,none⟩=some (.int .i64 st.clock)) (by kernel_rfl) ?_
  cases h4:(x.op == 4)
  ·skip
   refine zT (i:=0) (v:=?v1) (by decide +kernel) rfl (fun _ _ _ h=>h) hS (.inl ⟨by rfl,?y1⟩) ?_
   case y1=>(rintro wz ⟨zs0,zs1,zs2,zs3,zs4,zs5,zs6,zs7⟩; go_simp<;>with_reducible rfl)
   simp only [Act.put,z1,z2,z4,z5,z6]
   refine zT (i:=1) (v:=?v2) (by decide +kernel) rfl (fun _ _ _ h=>h) hS (.inl ⟨by rfl,?y2⟩) ?_
   case y2=>(rintro wz ⟨zs0,zs1,zs2,zs3,zs4,zs5,zs6,zs7⟩; go_simp<;>with_reducible rfl)
   simp only [Act.put,z1,z2,z3,z4,z5,z6]
   refine zT (i:=2) (v:=?v3) (by decide +kernel) rfl (fun _ _ _ h=>h) hS (.inl ⟨by rfl,?y3⟩) ?_
   case y3=>(rintro wz ⟨zs0,zs1,zs2,zs3,zs4,zs5,zs6,zs7⟩; go_simp<;>with_reducible rfl)
   simp only [Act.put,z1,z2,z3,z4,z5,z6]
   refine zT (i:=3) (v:=?v4) (by decide +kernel) rfl (fun _ _ _ h=>h) hS (.inl ⟨by rfl,?y4⟩) ?_
   case y4=>(rintro wz ⟨zs0,zs1,zs2,zs3,zs4,zs5,zs6,zs7⟩; go_simp<;>with_reducible rfl)
   simp only [Act.put,z1,z2,z3,z4,z5,z6]
   refine zT (i:=4) (v:=?v5) (by decide +kernel) rfl (fun _ _ _ h=>h) hS (.inl ⟨by rfl,?y5⟩) ?_
   case y5=>(rintro wz ⟨zs0,zs1,zs2,zs3,zs4,zs5,zs6,zs7⟩; go_simp<;>with_reducible rfl)
   simp only [Act.put,z1,z2,z3,z4,z5,z6]
   refine zT (i:=5) (v:=?v6) (by decide +kernel) rfl (fun _ _ _ h=>h) hS (.inl ⟨by rfl,?y6⟩) ?_
   case y6=>(rintro wz ⟨zs0,zs1,zs2,zs3,zs4,zs5,zs6,zs7⟩; go_simp<;>with_reducible rfl)
   simp only [Act.put,z1,z2,z3,z4,z5,z6]
   refine zT (i:=6) (v:=?v7) (by decide +kernel) rfl (fun _ _ _ h=>h) hS (.inl ⟨by rfl,?y7⟩) ?_
   case y7=>(rintro wz ⟨zs0,zs1,zs2,zs3,zs4,zs5,zs6,zs7⟩; go_simp<;>with_reducible rfl)
   simp only [Act.put,z1,z2,z3,z4,z5,z6]
   refine zT (i:=7) (v:=?v8) (by decide +kernel) rfl (fun _ _ _ h=>h) hS (.inl ⟨by rfl,?y8⟩) ?_
   case y8=>(rintro wz ⟨zs0,zs1,zs2,zs3,zs4,zs5,zs6,zs7⟩; go_simp<;>with_reducible rfl)
   simp only [Act.put,z1,z2,z3,z4,z5,z6]
   refine zT (i:=8) (v:=?v9) (by decide +kernel) rfl (fun _ _ _ h=>h) hS (.inl ⟨by rfl,?y9⟩) ?_
   case y9=>(rintro wz ⟨zs0,zs1,zs2,zs3,zs4,zs5,zs6,zs7⟩; go_simp<;>with_reducible rfl)
   simp only [Act.put,z1,z2,z3,z4,z5,z6]
   refine zT (i:=9) (v:=?v10) (by decide +kernel) rfl (fun _ _ _ h=>h) hS (.inl ⟨by rfl,?y10⟩) ?_
   case y10=>(rintro wz ⟨zs0,zs1,zs2,zs3,zs4,zs5,zs6,zs7⟩; go_simp<;>with_reducible rfl)
   simp only [Act.put,z1,z2,z3,z4,z5,z6]
   refine zT (i:=10) (v:=?v11) (by decide +kernel) rfl (fun _ _ _ h=>h) hS (.inl ⟨by rfl,?y11⟩) ?_
   case y11=>(rintro wz ⟨zs0,zs1,zs2,zs3,zs4,zs5,zs6,zs7⟩; go_simp<;>with_reducible rfl)
   simp only [Act.put,z1,z2,z3,z4,z5,z6]
   refine zT (i:=11) (v:=?v12) (by decide +kernel) rfl (fun _ _ _ h=>h) hS (.inl ⟨by rfl,?y12⟩) ?_
   case y12=>(rintro wz ⟨zs0,zs1,zs2,zs3,zs4,zs5,zs6,zs7⟩; go_simp<;>with_reducible rfl)
   simp only [Act.put,z1,z2,z3,z4,z5,z6]
   refine zT (i:=12) (v:=?v13) (by decide +kernel) rfl (fun _ _ _ h=>h) hS (.inl ⟨by rfl,?y13⟩) ?_
   case y13=>(rintro wz ⟨zs0,zs1,zs2,zs3,zs4,zs5,zs6,zs7⟩; go_simp<;>with_reducible rfl)
   simp only [Act.put,z1,z2,z3,z4,z5,z6]
   refine zT (i:=13) (v:=?v14) (by decide +kernel) rfl (fun _ _ _ h=>h) hS (.inl ⟨by rfl,?y14⟩) ?_
   case y14=>(rintro wz ⟨zs0,zs1,zs2,zs3,zs4,zs5,zs6,zs7⟩; go_simp<;>with_reducible rfl)
   simp only [Act.put,z1,z2,z3,z4,z5,z6]
   refine zT (i:=14) (v:=?v15) (by decide +kernel) rfl (fun _ _ _ h=>h) hS (.inl ⟨by rfl,?y15⟩) ?_
   case y15=>(rintro wz ⟨zs0,zs1,zs2,zs3,zs4,zs5,zs6,zs7⟩; go_simp<;>with_reducible rfl)
   simp only [Act.put,z1,z2,z3,z4,z5,z6]
   refine zT (i:=15) (v:=?v16) (by decide +kernel) rfl (fun _ _ _ h=>h) hS (.inl ⟨by rfl,?y16⟩) ?_
   case y16=>(rintro wz ⟨zs0,zs1,zs2,zs3,zs4,zs5,zs6,zs7⟩; go_simp<;>with_reducible rfl)
   simp only [Act.put,z1,z2,z3,z4,z5,z6]
   refine zT (i:=16) (v:=?v17) (by decide +kernel) rfl (fun _ _ _ h=>h) hS (.inl ⟨by rfl,?y17⟩) ?_
   case y17=>(rintro wz ⟨zs0,zs1,zs2,zs3,zs4,zs5,zs6,zs7⟩; go_simp<;>with_reducible rfl)
   simp only [Act.put,z1,z2,z3,z4,z5,z6]
   refine zT (i:=17) (v:=?v18) (by decide +kernel) rfl (fun _ _ _ h=>h) hS (.inl ⟨by rfl,?y18⟩) ?_
   case y18=>(rintro wz ⟨zs0,zs1,zs2,zs3,zs4,zs5,zs6,zs7⟩; go_simp<;>with_reducible rfl)
   simp only [Act.put,z1,z2,z3,z4,z5,z6]
   refine zT (i:=18) (v:=?v19) (by decide +kernel) rfl (fun _ _ _ h=>h) hS (.inl ⟨by rfl,?y19⟩) ?_
   case y19=>(rintro wz ⟨zs0,zs1,zs2,zs3,zs4,zs5,zs6,zs7⟩; go_simp<;>with_reducible rfl)
   simp only [Act.put,z1,z2,z3,z4,z5,z6]
   refine zT (i:=19) (v:=?v20) (by decide +kernel) rfl (fun _ _ _ h=>h) hS (.inl ⟨by rfl,?y20⟩) ?_
   case y20=>(rintro wz ⟨zs0,zs1,zs2,zs3,zs4,zs5,zs6,zs7⟩; go_simp<;>with_reducible rfl)
   simp only [Act.put,z1,z2,z3,z4,z5,z6]
   refine zT (i:=20) (v:=?v21) (by decide +kernel) rfl (fun _ _ _ h=>h) hS (.inl ⟨by rfl,?y21⟩) ?_
   case y21=>(rintro wz ⟨zs0,zs1,zs2,zs3,zs4,zs5,zs6,zs7⟩; go_simp<;>with_reducible rfl)
   simp only [Act.put,z1,z2,z3,z4,z5,z6]
   refine zT (i:=21) (v:=?v22) (by decide +kernel) rfl (fun _ _ _ h=>h) hS (.inl ⟨by rfl,?y22⟩) ?_
   case y22=>(rintro wz ⟨zs0,zs1,zs2,zs3,zs4,zs5,zs6,zs7⟩; go_simp<;>with_reducible rfl)
   simp only [Act.put,z1,z2,z3,z4,z5,z6]
   refine wpAnyZ_one (i:=22) (by decide +kernel) rfl (fun K hK=>?_)
   go_simp
   refine hK _ _ (fun _=>HS2.out _ (((Below.refl _ _).alloc (Nat.le_refl _) _).drew)) ?_
   clear hK
   refine wpAnyZ_one (i:=23) (by decide +kernel) rfl (fun K hK=>?_)
   go_simp
   refine hK _ _ (fun h=>absurd rfl h) ?_
   clear hK
   refine wpAnyZ_done (by decide +kernel) ?_ _
   go_wp2_with fail
   go_meet
   case rel =>
    refine ⟨w2.heap.size,rfl,((Below.refl _ _).alloc (Nat.le_refl _) _).drew,Nat.le_refl _,?_⟩
    have ew:IntKind.i64.wrap (st.clock+1)=st.clock+1:=IntWalk.i64_in _ (by omega)
    have ewr:(x.op == 5)=x.wr:=by
     have h5:¬ x.op=4:=by simpa using h4
     simp only [Stp.wr,h5,false_or]; rfl
    unfold Hid
    rw [ew,ewr]
    exact heap_alloc_new w2 _
  ·skip
   refine zT (i:=0) (v:=?v23) (by decide +kernel) rfl (fun _ _ _ h=>h) hS (.inl ⟨by rfl,?y23⟩) ?_
   case y23=>(rintro wz ⟨zs0,zs1,zs2,zs3,zs4,zs5,zs6,zs7⟩; go_simp<;>with_reducible rfl)
   simp only [Act.put,z1,z2,z4,z5,z6]
   refine zT (i:=1) (v:=?v24) (by decide +kernel) rfl (fun _ _ _ h=>h) hS (.inl ⟨by rfl,?y24⟩) ?_
   case y24=>(rintro wz ⟨zs0,zs1,zs2,zs3,zs4,zs5,zs6,zs7⟩; go_simp<;>with_reducible rfl)
   simp only [Act.put,z1,z2,z3,z4,z5,z6]
   refine zT (i:=2) (v:=?v25) (by decide +kernel) rfl (fun _ _ _ h=>h) hS (.inl ⟨by rfl,?y25⟩) ?_
   case y25=>(rintro wz ⟨zs0,zs1,zs2,zs3,zs4,zs5,zs6,zs7⟩; go_simp<;>with_reducible rfl)
   simp only [Act.put,z1,z2,z3,z4,z5,z6]
   refine zT (i:=3) (v:=?v26) (by decide +kernel) rfl (fun _ _ _ h=>h) hS (.inl ⟨by rfl,?y26⟩) ?_
   case y26=>(rintro wz ⟨zs0,zs1,zs2,zs3,zs4,zs5,zs6,zs7⟩; go_simp<;>with_reducible rfl)
   simp only [Act.put,z1,z2,z3,z4,z5,z6]
   refine zT (i:=4) (v:=?v27) (by decide +kernel) rfl (fun _ _ _ h=>h) hS (.inl ⟨by rfl,?y27⟩) ?_
   case y27=>(rintro wz ⟨zs0,zs1,zs2,zs3,zs4,zs5,zs6,zs7⟩; go_simp<;>with_reducible rfl)
   simp only [Act.put,z1,z2,z3,z4,z5,z6]
   refine zT (i:=5) (v:=?v28) (by decide +kernel) rfl (fun _ _ _ h=>h) hS (.inl ⟨by rfl,?y28⟩) ?_
   case y28=>(rintro wz ⟨zs0,zs1,zs2,zs3,zs4,zs5,zs6,zs7⟩; go_simp<;>with_reducible rfl)
   simp only [Act.put,z1,z2,z3,z4,z5,z6]
   refine zT (i:=6) (v:=?v29) (by decide +kernel) rfl (fun _ _ _ h=>h) hS (.inl ⟨by rfl,?y29⟩) ?_
   case y29=>(rintro wz ⟨zs0,zs1,zs2,zs3,zs4,zs5,zs6,zs7⟩; go_simp<;>with_reducible rfl)
   simp only [Act.put,z1,z2,z3,z4,z5,z6]
   refine zT (i:=7) (v:=?v30) (by decide +kernel) rfl (fun _ _ _ h=>h) hS (.inl ⟨by rfl,?y30⟩) ?_
   case y30=>(rintro wz ⟨zs0,zs1,zs2,zs3,zs4,zs5,zs6,zs7⟩; go_simp<;>with_reducible rfl)
   simp only [Act.put,z1,z2,z3,z4,z5,z6]
   refine zT (i:=8) (v:=?v31) (by decide +kernel) rfl (fun _ _ _ h=>h) hS (.inl ⟨by rfl,?y31⟩) ?_
   case y31=>(rintro wz ⟨zs0,zs1,zs2,zs3,zs4,zs5,zs6,zs7⟩; go_simp<;>with_reducible rfl)
   simp only [Act.put,z1,z2,z3,z4,z5,z6]
   refine zT (i:=9) (v:=?v32) (by decide +kernel) rfl (fun _ _ _ h=>h) hS (.inl ⟨by rfl,?y32⟩) ?_
   case y32=>(rintro wz ⟨zs0,zs1,zs2,zs3,zs4,zs5,zs6,zs7⟩; go_simp<;>with_reducible rfl)
   simp only [Act.put,z1,z2,z3,z4,z5,z6]
   refine zT (i:=10) (v:=?v33) (by decide +kernel) rfl (fun _ _ _ h=>h) hS (.inl ⟨by rfl,?y33⟩) ?_
   case y33=>(rintro wz ⟨zs0,zs1,zs2,zs3,zs4,zs5,zs6,zs7⟩; go_simp<;>with_reducible rfl)
   simp only [Act.put,z1,z2,z3,z4,z5,z6]
   refine zT (i:=11) (v:=?v34) (by decide +kernel) rfl (fun _ _ _ h=>h) hS (.inl ⟨by rfl,?y34⟩) ?_
   case y34=>(rintro wz ⟨zs0,zs1,zs2,zs3,zs4,zs5,zs6,zs7⟩; go_simp<;>with_reducible rfl)
   simp only [Act.put,z1,z2,z3,z4,z5,z6]
   refine zT (i:=12) (v:=undef) (by decide +kernel) rfl (fun _ _ _ h=>h) hS (.inr ⟨by rfl,rfl⟩) ?_
   simp only [Act.put,z1,z2,z3,z4,z5,z6]
   refine zT (i:=13) (v:=undef) (by decide +kernel) rfl (fun _ _ _ h=>h) hS (.inr ⟨by rfl,rfl⟩) ?_
   simp only [Act.put,z1,z2,z3,z4,z5,z6]
   refine zT (i:=14) (v:=undef) (by decide +kernel) rfl (fun _ _ _ h=>h) hS (.inr ⟨by rfl,rfl⟩) ?_
   simp only [Act.put,z1,z2,z3,z4,z5,z6]
   refine zT (i:=15) (v:=?v35) (by decide +kernel) rfl (fun _ _ _ h=>h) hS (.inl ⟨by rfl,?y35⟩) ?_
   case y35=>(rintro wz ⟨zs0,zs1,zs2,zs3,zs4,zs5,zs6,zs7⟩; go_simp<;>with_reducible rfl)
   simp only [Act.put,z1,z2,z3,z4,z5,z6]
   refine zT (i:=16) (v:=?v36) (by decide +kernel) rfl (fun _ _ _ h=>h) hS (.inl ⟨by rfl,?y36⟩) ?_
   case y36=>(rintro wz ⟨zs0,zs1,zs2,zs3,zs4,zs5,zs6,zs7⟩; go_simp<;>with_reducible rfl)
   simp only [Act.put,z1,z2,z3,z4,z5,z6]
   refine zT (i:=17) (v:=?v37) (by decide +kernel) rfl (fun _ _ _ h=>h) hS (.inl ⟨by rfl,?y37⟩) ?_
   case y37=>(rintro wz ⟨zs0,zs1,zs2,zs3,zs4,zs5,zs6,zs7⟩; go_simp<;>with_reducible rfl)
   simp only [Act.put,z1,z2,z3,z4,z5,z6]
   refine zT (i:=18) (v:=?v38) (by decide +kernel) rfl (fun _ _ _ h=>h) hS (.inl ⟨by rfl,?y38⟩) ?_
   case y38=>(rintro wz ⟨zs0,zs1,zs2,zs3,zs4,zs5,zs6,zs7⟩; go_simp<;>with_reducible rfl)
   simp only [Act.put,z1,z2,z3,z4,z5,z6]
   refine zT (i:=19) (v:=?v39) (by decide +kernel) rfl (fun _ _ _ h=>h) hS (.inl ⟨by rfl,?y39⟩) ?_
   case y39=>(rintro wz ⟨zs0,zs1,zs2,zs3,zs4,zs5,zs6,zs7⟩; go_simp<;>with_reducible rfl)
   simp only [Act.put,z1,z2,z3,z4,z5,z6]
   refine zT (i:=20) (v:=?v40) (by decide +kernel) rfl (fun _ _ _ h=>h) hS (.inl ⟨by rfl,?y40⟩) ?_
   case y40=>(rintro wz ⟨zs0,zs1,zs2,zs3,zs4,zs5,zs6,zs7⟩; go_simp<;>with_reducible rfl)
   simp only [Act.put,z1,z2,z3,z4,z5,z6]
   refine zT (i:=21) (v:=?v41) (by decide +kernel) rfl (fun _ _ _ h=>h) hS (.inl ⟨by rfl,?y41⟩) ?_
   case y41=>(rintro wz ⟨zs0,zs1,zs2,zs3,zs4,zs5,zs6,zs7⟩; go_simp<;>with_reducible rfl)
   simp only [Act.put,z1,z2,z3,z4,z5,z6]
   refine wpAnyZ_one (i:=22) (by decide +kernel) rfl (fun K hK=>?_)
   go_simp
   refine hK _ _ (fun _=>HS2.out _ (((Below.refl _ _).alloc (Nat.le_refl _) _).drew)) ?_
   clear hK
   refine wpAnyZ_one (i:=23) (by decide +kernel) rfl (fun K hK=>?_)
   go_simp
   refine hK _ _ (fun h=>absurd rfl h) ?_
   clear hK
   refine wpAnyZ_done (by decide +kernel) ?_ _
   go_wp2_with fail
   go_meet
   case rel =>
    refine ⟨w2.heap.size,rfl,((Below.refl _ _).alloc (Nat.le_refl _) _).drew,Nat.le_refl _,?_⟩
    have ew:IntKind.i64.wrap (st.clock+1)=st.clock+1:=IntWalk.i64_in _ (by omega)
    have ewr:true=x.wr:=by
     have h5:x.op=4:=by simpa using h4
     simp [Stp.wr,h5]
    unfold Hid
    rw [ew,ewr]
    exact heap_alloc_new w2 _
 case rest =>
  obtain ⟨b7,rfl,hB3,hb7,H7⟩:=hcut
  have hB3w:Below w.heap.size w wc:=hB2.trans (hB3.mono hB2.size)
  have f3:=cell_later hB3 d3
  have f7:=cell_later hB3 d7
  have g6:wc.cell? ⟨b7,6,none⟩=some (.int .i64 x.key):=by rw [cell_of_row _ _ _ _ _ _ H7.out]; rfl
  have z6:wc.frozen? ⟨b7,6,none⟩=false:=frozen_of_row _ _ _ _ _ H7.out
  go_upto_if 48 with fail
  go_cut [] from 12 to 51 (fun wd=>Below w2.heap.size w2 wd∧Hid (wd.heap[b7]?=some (.cells (recC (st.askR x)).toArray 108 (0,0))))
  case first =>
   cases h3':(x.op == 3)
   case true =>
    go_wp2_with fail
    go_meet
    case rel =>
     refine ⟨hB3.setCell hb7 _,?_⟩
     have h3:x.op=3:=by simpa using h3'
     have:=heap_setCell_same wc b7 6 _ _ (.int .i64 x.to_) H7.out
     unfold Hid
     rw [this]
     simp [recC,RS.askR,Stp.hi,h3]
   case false =>
    go_wp2_with fail
    go_meet
    case rel =>
     refine ⟨hB3,?_⟩
     have h3:¬ x.op=3:=by simpa using h3'
     have:=H7.out
     unfold Hid
     rw [this]
     simp [recC,RS.askR,Stp.hi,h3]
  case rest =>
   obtain ⟨hB4,H8⟩:=hcut
   rename World=>w4
   have hB4w:Below w.heap.size w w4:=hB2.trans (hB4.mono hB2.size)
   have hz4:=hB4.size
   have y7:w4.cell? ⟨b7,7,none⟩=some (.bool x.wr):=by rw [cell_of_row _ _ _ _ _ _ H8.out]; rfl
   have hbar:Hid (x.barred=(!dn || (x.wr && !ow))):=by unfold Hid Stp.barred; rw [how.out,hdn.out]
   have HR4:Hid (w4.heap[w.heap.size+1]?=some (.cells #[.int .i64 0,.int .i64 0,.slice none 0 0] 66 (0,0))):=by unfold Hid; rw [hB4.block _ (by omega)]; exact HR2.out
   have HX4:Hid (w4.heap[w.heap.size]?=some (.cells (stepC x).toArray 30 (0,0))):=by unfold Hid; rw [hB4.block _ (by omega)]; exact HX2.out
   have HRep4:Hid (Rep w4 r st own):=HRep2.out.below hB4
   clear d0 d1 d2 d3 d4 d5 d6 d7 d8 k8 f3 f7 g6 z6 H7 hB3 hB3w
   go_upto_region 6 with fail
   go_cut [61] from 12 to 61 (fun v wd=>v=.bool x.barred∧wd=w4)
   case first =>
    cases hd:dn
    ·subst hd
     go_wp2_with fail
     go_meet
     case rel=>exact ⟨by rw [hbar.out]; rfl,rfl⟩
    ·subst hd
     cases hwr:x.wr
     ·rw [hwr] at y7
      go_wp2_with fail
      go_meet
      case rel=>exact ⟨by rw [hbar.out,hwr]; rfl,rfl⟩
     ·rw [hwr] at y7
      cases ow
      all_goals
       go_wp2_with fail
       go_meet
      ·exact ⟨by rw [hbar.out,hwr]; rfl,rfl⟩
      ·exact ⟨by rw [hbar.out,hwr]; rfl,rfl⟩
   case rest =>
    obtain ⟨rfl,hw4⟩:=hcut
    subst hw4
    rename World=>w5
    cases hbr:x.barred
    ·obtain ⟨q,hq⟩:∃ q,Hid (q=st.askR x):=⟨_,rfl⟩
     have HQ:Hid (w5.rangeAt b7 0 (recC q)):=by
      intro j u hj
      rw [cell_of_row _ _ _ _ _ _ H8.out,← hq.out]; simpa using hj
     obtain ⟨g,vp,vt,vr,ve,m⟩:=HRep4.out
     obtain ⟨ao,cap,rfl,hmax,hel⟩:=m.recs.form len_recC
     have s5:w5.cell? ⟨r,5,none⟩=some (.slice ao st.recs.length cap):=by rw [root_cell m.root]; rfl
     have s2:w5.cell? ⟨r,2,none⟩=some (.int .i64 st.c):=by rw [root_cell m.root]; rfl
     have hr5:=m.old r (by rw [m.rootTag]; simp)
     have hb7l:b7 < w5.heap.size:=(Array.getElem?_eq_some_iff.1 H8.out).1
     clear m y7 hbar
     go_wp2_with fail
     go_loopw [8,9] (fun cn i wr=>∃ k:Nat,k≤st.recs.length∧i=.int .i64 k∧cn=.int .i64 (labN x.who (st.recs.take k):Nat)∧Hid (∀ c∈st.recs.take k,covP x.who q c=false)∧Below w5.heap.size w5 wr) (fun _ i _=>st.recs.length - (intOf i).toNat)
     case atStart=>exact ⟨0,Nat.zero_le _,rfl,rfl,fun c hc=>by simp at hc,Below.refl _ _⟩
     case round =>
      obtain ⟨k,hk,rfl,rfl,Hl,hnx⟩:=hrel
      have hzx:=hnx.size
      have e5:=cell_later hnx s5
      have e2:=cell_later hnx s2
      have hX5:wr.heap[w.heap.size]?=some (.cells (stepC x).toArray 30 (0,0)):=by rw [hnx.block _ (by omega)]; exact HX4.out
      have HX5:Hid (wr.heap[w.heap.size]?=some (.cells (stepC x).toArray 30 (0,0))):=hX5
      obtain ⟨p0,p1,p2,p3,p4,p5,p6,p7,p8⟩:=step_cells hX5
      have HQ5:Hid (wr.rangeAt b7 0 (recC q)):=rangeAt_below HQ.out hnx hb7l
      have hlb:labN x.who (st.recs.take k)≤1024:=Nat.le_trans (labN_le _ _) (by rw [List.length_take]; omega)
      obtain ⟨ln,hln⟩:∃ n,Hid (labN x.who (st.recs.take k)=n):=⟨_,rfl⟩
      rw [hln.out] at hlb ⊢
      clear hX5
      by_cases hlt:k < st.recs.length
      ·obtain ⟨bt,hao,_,hbt,hrg,_⟩:=hel k _ (List.getElem?_eq_getElem hlt)
       have gk:=List.getElem?_eq_getElem hlt
       generalize st.recs[k]=t at hrg gk
       have Gk:Hid (st.recs[k]?=some t):=gk
       have hrt:=rangeAt_below hrg hnx hbt
       have HT:Hid (wr.rangeAt bt (k*10) (recC t)):=hrt
       have zk:(k:Int) < (st.recs.length:Int):=by omega
       subst hao
       obtain ⟨y0,y1,y2,y3,y4,y5,y6,y7,y8,y9⟩:=rec_cells hrt
       obtain ⟨v0,v1,v2,v3,v4,v5,v6,v7,v8,v9⟩:=rec_cells HQ5.out
       have kne:=kin_some wr
       have k5:=kin_cell e5
       have kp0:=kin_cell p0
       have kp1:=kin_cell p1
       have kp2:=kin_cell p2
       have ky:=And.intro (kin_cell y0) <| And.intro (kin_cell y1) <| And.intro (kin_cell y2) <| And.intro (kin_cell y3) <| And.intro (kin_cell y4) <| And.intro (kin_cell y5) <| And.intro (kin_cell y6) <| And.intro (kin_cell y7) <| And.intro (kin_cell y8) (kin_cell y9)
       have kv:=And.intro (kin_cell v0) <| And.intro (kin_cell v1) <| And.intro (kin_cell v2) <| And.intro (kin_cell v3) <| And.intro (kin_cell v4) <| And.intro (kin_cell v5) <| And.intro (kin_cell v6) <| And.intro (kin_cell v7) <| And.intro (kin_cell v8) (kin_cell v9)
       obtain ⟨ky0,ky1,ky2,ky3,ky4,ky5,ky6,ky7,ky8,ky9⟩:=ky
       obtain ⟨kv0,kv1,kv2,kv3,kv4,kv5,kv6,kv7,kv8,kv9⟩:=kv
       simp only [Nat.zero_add] at kv0 kv1 kv2 kv3 kv4 kv5 kv6 kv7 kv8 kv9
       clear gk hrg hrt hel y2 y3 y4 y5 y6 y7 y8 y9 v0 v1 v2 v3 v4 v5 v6 v7 v8 v9
       go_upto_region 12 with fail
       go_cut [93] from 63 to 111 (fun z wd=>z=.bool (covP x.who q t)∧Below wr.heap.size wr wd)
       case first =>
        cases hsw:sameW t.who.1 t.who.2.1 t.who.2.2 x.who.1 x.who.2.1 x.who.2.2
        ·have HV:Hid (covP x.who q t=false):=by unfold Hid covP; rw [hsw]; rfl
         refine wp_region_kin (by kernel_rfl) (by kernel_rfl) ?_
         repeat (first | go_big_quiet_step ((go_at_call 46; exact Calls.kin (sameWho_is hsw _))) | quiet_step (fail))
         refine wpQuiet_nil ?_
         intro _ hw'
         obtain ⟨xq,hw''⟩:=hw'
         subst hw''
         go_wp2_with fail
         go_meet
         case rel=>exact ⟨by rw [HV.out],xq.h⟩
        ·have HV:Hid (covP x.who q t=coverB t q):=by unfold Hid covP; rw [hsw]; rfl
         obtain ⟨cv,hcv⟩:∃ b,Hid (coverB t q=b):=⟨_,rfl⟩
         refine wp_region_kin (by kernel_rfl) (by kernel_rfl) ?_
         repeat (first | go_big_quiet_step ((go_at_call 46; exact Calls.kin (sameWho_is hsw _))) | go_big_quiet_step ((go_at_call 114; exact Calls.kin (cover_is hcv.out _))) | quiet_step (fail))
         refine wpQuiet_nil ?_
         intro _ hw'
         obtain ⟨xq,hw''⟩:=hw'
         subst hw''
         go_wp2_with fail
         go_meet
         case rel=>exact ⟨by rw [HV.out,hcv.out],xq.h⟩
       case rest =>
        obtain ⟨rfl,hBd⟩:=hcut
        rename World=>w6
        have hB6:Below w5.heap.size w5 w6:=hnx.trans (hBd.mono hzx)
        cases hcv:covP x.who q t
        ·have kne:=kin_some w6
         have k5:=kin_cell (cell_later hBd e5)
         have kp0:=kin_cell (cell_later hBd p0)
         have kp1:=kin_cell (cell_later hBd p1)
         have ky0:=kin_cell (cell_later hBd y0)
         have ky1:=kin_cell (cell_later hBd y1)
         have HN:Hid (∀ c∈st.recs.take (k+1),covP x.who q c=false):=fun c hc=>by
          rw [List.take_add_one,Gk.out] at hc
          rcases List.mem_append.1 hc with h | h
          ·exact Hl.out c h
          ·simp at h; subst h; exact hcv
         cases hsl:sameL t.who.1 t.who.2.1 x.who.1 x.who.2.1
         ·have HL1:Hid (labN x.who (st.recs.take (k+1))=ln):=by unfold Hid; rw [labN_take Gk.out,hsl,hln.out]; rfl
          go_wp2_with fail
          refine wp_region_kin (by kernel_rfl) (by kernel_rfl) ?_
          repeat (first | go_big_quiet_step ((go_at_call 64; exact Calls.kin (sameLabel_is hsl _))) | quiet_step (fail))
          refine wpQuiet_nil ?_
          intro _ hw'
          obtain ⟨xq,hw''⟩:=hw'
          subst hw''
          have hB7:Below w5.heap.size w5 xq.w:=hB6.trans (xq.h.mono hB6.size)
          go_wp2
          go_roundw
          case rel=>exact ⟨k+1,by omega,by go_num,by rw [HL1.out],HN,hB7⟩
          case measure=>simp [intOf]; omega
         ·have HL1:Hid (labN x.who (st.recs.take (k+1))=ln+1):=by unfold Hid; rw [labN_take Gk.out,hsl,hln.out]; rfl
          go_wp2_with fail
          refine wp_region_kin (by kernel_rfl) (by kernel_rfl) ?_
          repeat (first | go_big_quiet_step ((go_at_call 64; exact Calls.kin (sameLabel_is hsl _))) | quiet_step (fail))
          refine wpQuiet_nil ?_
          intro _ hw'
          obtain ⟨xq,hw''⟩:=hw'
          subst hw''
          have hB7:Below w5.heap.size w5 xq.w:=hB6.trans (xq.h.mono hB6.size)
          go_wp2
          go_roundw
          case rel=>exact ⟨k+1,by omega,by go_num,by rw [HL1.out]; go_num,HN,hB7⟩
          case measure=>simp [intOf]; omega
        ·have Hf:Hid (st.askT x=st.does x):=by
          unfold Hid RS.askT
          rw [hbr,← hq.out,if_neg (by simp),if_pos]
          rw [List.any_eq_true]
          exact ⟨t,List.mem_of_getElem? Gk.out,hcv⟩
         have A:=HA.out
         obtain ⟨n,u,hun,huw,_⟩:=A.fit.liveAt A.live
         have hum:=List.mem_of_getElem? hun
         have hB6w:Below w.heap.size w w6:=hB4w.trans (hB6.mono hB4w.size)
         have hX6:w6.heap[w.heap.size]?=some (.cells (stepC x).toArray 30 (0,0)):=by rw [hBd.block _ (by omega)]; exact HX5.out
         obtain ⟨m0,m1,m2,m3,m4,m5,m6,m7,m8⟩:=step_cells hX6
         have hwk:=works_any r st own x n u w6 (HRep4.out.below hB6) A.fit.uniq hun huw (by have:=A.fit.plcL; omega) (by have:=A.fit.oldsL hum; omega) (by have:=(A.fit.puts u hum).1; omega) A.good
         rw [← does_at A.fit.uniq hun huw] at hwk
         unfold stepV at hwk
         clear hX6 A hun huw hum
         go_wp2_with fail
         refine hwk.mono ?_
         clear hwk
         rintro e w7 ⟨v,own7,rfl,hrow7,hrep7,hchg7,hv7⟩
         obtain ⟨ao7,cap7,rfl⟩:=ownsRow_slice hrow7
         have hnR:own (w.heap.size+1)=none:=Hfr.out _ (by omega)
         have hR7:w7.heap[w.heap.size+1]?=some (.cells #[.int .i64 0,.int .i64 0,.slice none 0 0] 66 (0,0)):=by
          rw [hchg7.block _ (by have:=hBd.size; omega) hnR,hB6.block _ (by omega)]; exact HR4.out
         obtain ⟨e0,e1,e2',f0,f1,f2⟩:=ans_cells hR7
         have hf7:=hchg7.none' hnR (by have:=hBd.size; omega)
         have HS:Hid (type_of% (ans_stored (.int .i64 (st.does x).2.code) (.int .i64 (st.does x).2.why) (.slice ao7 (st.does x).2.items.length cap7) hR7)):=ans_stored (.int .i64 (st.does x).2.code) (.int .i64 (st.does x).2.why) (.slice ao7 (st.does x).2.items.length cap7) hR7
         have HP:Hid (type_of% (ans_pass hrow7 (by have:=hBd.size; omega) hrep7 ((Chg.of_below hB6w).trans hchg7) hv7 hf7 (show w.heap.size≤w.heap.size+1 by omega))):=ans_pass hrow7 (by have:=hBd.size; omega) hrep7 ((Chg.of_below hB6w).trans hchg7) hv7 hf7 (by omega)
         clear hR7 hrow7 hrep7 hchg7 hv7
         unfold ansV
         go_wp2
         exact ret_ans Try.results93 rfl HS.out rfl (by rw [Hf.out]; exact HP.out)
      ·have ek:k=st.recs.length:=by omega
       subst ek
       have HLN:Hid (labN x.who st.recs=ln):=by have:=hln.out; rw [List.take_length] at this; exact this
       have HNC:Hid (st.recs.any (covP x.who q)=false):=by
        unfold Hid
        rw [List.any_eq_false]
        intro c hc
        rw [Hl.out c (by rw [List.take_length]; exact hc)]; simp
       have hBx:Below w.heap.size w wr:=hB4w.trans (hnx.mono hB4w.size)
       have HRx:Hid (wr.heap[w.heap.size+1]?=some (.cells #[.int .i64 0,.int .i64 0,.slice none 0 0] 66 (0,0))):=by unfold Hid; rw [hnx.block _ (by omega)]; exact HR4.out
       have hfR:own (w.heap.size+1)=none:=Hfr.out _ (by omega)
       clear hln Hl hel
       by_cases hqt:st.c≤(ln:Int)
       ·have Hf:Hid (st.askT x=(st,⟨4,0,[]⟩)):=by
         unfold Hid RS.askT
         rw [hbr,← hq.out,HNC.out,if_neg (by simp),if_neg (by simp),if_pos (by rw [HLN.out]; exact hqt)]
        go_wp2_with fail
        refine (code_any 4 _).mono ?_
        rintro e w6 ⟨rfl,hb6⟩
        have hR6:w6.heap[w.heap.size+1]?=some (.cells #[.int .i64 0,.int .i64 0,.slice none 0 0] 66 (0,0)):=by rw [hb6.block _ (by omega)]; exact HRx.out
        obtain ⟨e0,e1,e2',f0,f1,f2⟩:=ans_cells hR6
        have HS:Hid (type_of% (ans_stored (.int .i64 4) (.int .i64 0) (.slice none 0 0) hR6)):=ans_stored (.int .i64 4) (.int .i64 0) (.slice none 0 0) hR6
        have HP:Hid (type_of% (ans_out 4 0 (HRep4.out.below (hnx.trans (hb6.mono hzx))) ((Chg.of_below (own:=own) hBx).trans (Chg.of_below hb6)) hfR (show w.heap.size≤w.heap.size+1 by omega))):=ans_out 4 0 (HRep4.out.below (hnx.trans (hb6.mono hzx))) ((Chg.of_below (own:=own) hBx).trans (Chg.of_below hb6)) hfR (by omega)
        clear hR6 hb6
        unfold ansV
        go_wp2
        exact ret_ans Try.results93 rfl HS.out rfl (by rw [Hf.out]; exact HP.out)
       ·have dq:decide (st.c≤(ln:Int))=false:=by simpa using hqt
        have HCL:Hid (¬ st.c≤(labN x.who st.recs:Int)):=by unfold Hid; rw [HLN.out]; exact hqt
        obtain ⟨g,vp,vt,vr,ve,m⟩:=HRep4.out.below hnx
        obtain ⟨ao,cap,rfl,hmax,_⟩:=m.recs.form len_recC
        have k8:wr.cell? ⟨r,8,none⟩=some (.int .i64 st.clock):=by rw [root_cell m.root]; rfl
        have k5:wr.cell? ⟨r,5,none⟩=some (.slice ao st.recs.length cap):=by rw [root_cell m.root]; rfl
        have k2:wr.cell? ⟨r,2,none⟩=some (.int .i64 st.c):=by rw [root_cell m.root]; rfl
        have z8:wr.frozen? ⟨r,8,none⟩=false:=frozen_of_row _ r 8 _ _ m.root
        have hrx:r < wr.heap.size:=by omega
        have hb7x:b7 < wr.heap.size:=by omega
        have hrb:r≠b7:=by omega
        have hrw:r≠w.heap.size:=fun e=>by have:=m.rootTag; rw [e,Hfr.out _ (Nat.le_refl _)] at this; cases this
        have hb7n:own b7=none:=Hfr.out _ (by omega)
        have HMx:Hid (Mem (wr.setCell ⟨r,8,none⟩ (.int .i64 (st.clock+1))) r { st with clock:=st.clock+1 } own g vp vt (.slice ao st.recs.length cap) ve):=m.clock_set _
        have HCx:Hid (Chg own w (wr.setCell ⟨r,8,none⟩ (.int .i64 (st.clock+1))) own):=(Chg.of_below hBx).trans (Chg.cell m.rootTag)
        have Hkx:Hid (∀ b,b≠r→(wr.setCell ⟨r,8,none⟩ (.int .i64 (st.clock+1))).heap[b]?=wr.heap[b]?):=fun b hne=>heap_setCell_ne _ _ _ _ _ hne
        have Hsx:Hid ((wr.setCell ⟨r,8,none⟩ (.int .i64 (st.clock+1))).heap.size=wr.heap.size):=by unfold Hid; simp
        clear m s5 s2 e5 e2 p0 p1 p2 p3 p4 p5 p6 p7 p8
        have hwf:st.clock+1≤9223372036854775807:=by omega
        go_upto_region 19 with fail
        generalize wr.setCell ⟨r,8,none⟩ (.int .i64 (st.clock+1))=w6 at *
        have HQ6:Hid (w6.rangeAt b7 0 (recC q)):=fun j u hj=>by rw [World.cell?_of_block (Hkx.out b7 (by omega))]; exact HQ5.out j u hj
        have HX6:Hid (w6.heap[w.heap.size]?=some (.cells (stepC x).toArray 30 (0,0))):=by unfold Hid; rw [Hkx.out _ (by omega)]; exact HX5.out
        have HR6:Hid (w6.heap[w.heap.size+1]?=some (.cells #[.int .i64 0,.int .i64 0,.slice none 0 0] 66 (0,0))):=by unfold Hid; rw [Hkx.out _ (fun e=>by have:=HMx.out.rootTag; rw [← e,Hfr.out _ (by omega)] at this; cases this)]; exact HRx.out
        have hr6:r < w6.heap.size:=by have:=Hsx.out; omega
        have hb6:b7 < w6.heap.size:=by have:=Hsx.out; omega
        have hw6:w.heap.size+2≤w6.heap.size:=by have:=Hsx.out; omega
        have HF6:Hid (w6.heap[b7]?=some (.cells (recC q).toArray 108 (0,0))):=by
         unfold Hid; rw [Hkx.out b7 (by omega),hnx.block b7 hb7l,hq.out]; exact H8.out
        clear k8 k5 k2 z8 Hkx
        obtain ⟨b0,b1,b2,b3,b4,b5,b6,b7',b8,b9⟩:=rec_cells HQ6.out
        simp only [Nat.zero_add] at b0 b1 b2 b3 b4 b5 b6 b7' b8 b9
        have hhc:=hindered_any r _ own q w6 ⟨_,_,_,_,_,HMx.out⟩
        have hhe:RS.hindered { st with clock:=st.clock+1 } q=st.hindered q:=rfl
        rw [hhe] at hhc
        unfold recV at hhc
        cases hh:st.hindered q
        ·rw [hh] at hhc
         have Hf:Hid (st.askT x=st.took x):=by
          unfold Hid RS.askT
          rw [hbr,← hq.out,HNC.out,if_neg (by simp),if_neg (by simp),if_neg (by have:=HCL.out; omega),hh]; rfl
         go_wp2_with fail
         refine hhc.mono ?_
         clear hhc
         rintro e w7 ⟨rfl,hb7y⟩
         have HM7:Hid (Mem w7 r { st with clock:=st.clock+1 } own g vp vt (.slice ao st.recs.length cap) ve):=HMx.out.below hb7y
         have HC7:Hid (Chg own w w7 own):=HCx.out.trans (Chg.of_below hb7y)
         have HQ7:Hid (w7.rangeAt b7 0 (recC q)):=rangeAt_below HQ6.out hb7y hb6
         have HX7:Hid (w7.heap[w.heap.size]?=some (.cells (stepC x).toArray 30 (0,0))):=by unfold Hid; rw [hb7y.block _ (by omega)]; exact HX6.out
         have HR7:Hid (w7.heap[w.heap.size+1]?=some (.cells #[.int .i64 0,.int .i64 0,.slice none 0 0] 66 (0,0))):=by unfold Hid; rw [hb7y.block _ (by omega)]; exact HR6.out
         have hz7:=hb7y.size
         have hr7:r < w7.heap.size:=by omega
         have hb7z:b7 < w7.heap.size:=by omega
         clear hb7y b0 b1 b2 b3 b4 b5 b6 b7' b8 b9
         go_upto_region 21 with fail
         go_cut [] from 12 to 176 (fun wd=>Hid (Goes own w7 wd r (st.addRec q)))
         case first =>
          refine wp_region_Z (z:=10) (S:=fun W=>W.cell? ⟨r,5,none⟩=some (.slice ao st.recs.length cap)∧W.cell? ⟨b7,0,none⟩=some (.int .i64 q.who.1)∧W.cell? ⟨b7,1,none⟩=some (.int .i64 q.who.2.1)∧W.cell? ⟨b7,2,none⟩=some (.int .i64 q.who.2.2)∧W.cell? ⟨b7,3,none⟩=some (.int .i64 q.at_.1)∧W.cell? ⟨b7,4,none⟩=some (.int .i64 q.at_.2)∧W.cell? ⟨b7,5,none⟩=some (.int .i64 q.lo)∧W.cell? ⟨b7,6,none⟩=some (.int .i64 q.hi)∧W.cell? ⟨b7,7,none⟩=some (.bool q.write)∧W.cell? ⟨b7,8,none⟩=some (.bool q.waits)∧W.cell? ⟨b7,9,none⟩=some (.int .i64 q.came)) (by kernel_rfl) ?_
          have a5:w7.cell? ⟨r,5,none⟩=some (.slice ao st.recs.length cap):=by rw [root_cell HM7.out.root]; rfl
          obtain ⟨b0,b1,b2,b3,b4,b5,b6,b7',b8,b9⟩:=rec_cells HQ7.out
          simp only [Nat.zero_add] at b0 b1 b2 b3 b4 b5 b6 b7' b8 b9
          have hS:w7.drew.cell? ⟨r,5,none⟩=some (.slice ao st.recs.length cap)∧w7.drew.cell? ⟨b7,0,none⟩=some (.int .i64 q.who.1)∧w7.drew.cell? ⟨b7,1,none⟩=some (.int .i64 q.who.2.1)∧w7.drew.cell? ⟨b7,2,none⟩=some (.int .i64 q.who.2.2)∧w7.drew.cell? ⟨b7,3,none⟩=some (.int .i64 q.at_.1)∧w7.drew.cell? ⟨b7,4,none⟩=some (.int .i64 q.at_.2)∧w7.drew.cell? ⟨b7,5,none⟩=some (.int .i64 q.lo)∧w7.drew.cell? ⟨b7,6,none⟩=some (.int .i64 q.hi)∧w7.drew.cell? ⟨b7,7,none⟩=some (.bool q.write)∧w7.drew.cell? ⟨b7,8,none⟩=some (.bool q.waits)∧w7.drew.cell? ⟨b7,9,none⟩=some (.int .i64 q.came):=⟨a5,b0,b1,b2,b3,b4,b5,b6,b7',b8,b9⟩
          refine zT (i:=0) (v:=?v42) (by decide +kernel) rfl (fun _ _ _ h=>h) hS (.inl ⟨by rfl,?y42⟩) ?_
          case y42=>(rintro wz ⟨zs0,zs1,zs2,zs3,zs4,zs5,zs6,zs7,zs8,zs9,zs10⟩; go_simp<;>with_reducible rfl)
          simp only [Act.put,z1,z2,z4,z5,z6]
          refine zT (i:=1) (v:=?v43) (by decide +kernel) rfl (fun _ _ _ h=>h) hS (.inl ⟨by rfl,?y43⟩) ?_
          case y43=>(rintro wz ⟨zs0,zs1,zs2,zs3,zs4,zs5,zs6,zs7,zs8,zs9,zs10⟩; go_simp<;>with_reducible rfl)
          simp only [Act.put,z1,z2,z3,z4,z5,z6]
          refine zT (i:=2) (v:=?v44) (by decide +kernel) rfl (fun _ _ _ h=>h) hS (.inl ⟨by rfl,?y44⟩) ?_
          case y44=>(rintro wz ⟨zs0,zs1,zs2,zs3,zs4,zs5,zs6,zs7,zs8,zs9,zs10⟩; go_simp<;>with_reducible rfl)
          simp only [Act.put,z1,z2,z3,z4,z5,z6]
          refine zT (i:=3) (v:=?v45) (by decide +kernel) rfl (fun _ _ _ h=>h) hS (.inl ⟨by rfl,?y45⟩) ?_
          case y45=>(rintro wz ⟨zs0,zs1,zs2,zs3,zs4,zs5,zs6,zs7,zs8,zs9,zs10⟩; go_simp<;>with_reducible rfl)
          simp only [Act.put,z1,z2,z3,z4,z5,z6]
          refine zT (i:=4) (v:=?v46) (by decide +kernel) rfl (fun _ _ _ h=>h) hS (.inl ⟨by rfl,?y46⟩) ?_
          case y46=>(rintro wz ⟨zs0,zs1,zs2,zs3,zs4,zs5,zs6,zs7,zs8,zs9,zs10⟩; go_simp<;>with_reducible rfl)
          simp only [Act.put,z1,z2,z3,z4,z5,z6]
          refine zT (i:=5) (v:=?v47) (by decide +kernel) rfl (fun _ _ _ h=>h) hS (.inl ⟨by rfl,?y47⟩) ?_
          case y47=>(rintro wz ⟨zs0,zs1,zs2,zs3,zs4,zs5,zs6,zs7,zs8,zs9,zs10⟩; go_simp<;>with_reducible rfl)
          simp only [Act.put,z1,z2,z3,z4,z5,z6]
          refine wpAnyZ_one (i:=6) (by decide +kernel) rfl (fun K hK=>?_)
          go_simp
          have nlt:∀ p,p < w7.heap.size→∀ j v,w7.cell? ⟨p,j,none⟩=some v→(w7.alloc (.cells #[.int .i64 q.who.1,.int .i64 q.who.2.1,.int .i64 q.who.2.2,.int .i64 q.at_.1,.int .i64 q.at_.2,.int .i64 q.lo,.int .i64 q.hi,.bool q.write,.bool q.waits,.int .i64 q.came] 108)).drew.cell? ⟨p,j,none⟩=some v:=fun p hp j v h=>by
           rw [World.cell?_drew,World.cell?_alloc_lt _ _ _ hp]; exact h
          refine hK _ _ (fun _=>⟨nlt _ hr7 _ _ a5,nlt _ hb7z _ _ b0,nlt _ hb7z _ _ b1,nlt _ hb7z _ _ b2,nlt _ hb7z _ _ b3,nlt _ hb7z _ _ b4,nlt _ hb7z _ _ b5,nlt _ hb7z _ _ b6,nlt _ hb7z _ _ b7',nlt _ hb7z _ _ b8,nlt _ hb7z _ _ b9⟩) ?_
          clear hK
          obtain ⟨j0,hj0,hzr0,hsr0,hbr0⟩:=info_all info108
          have hrow6:=HM7.out.recs.1
          refine wpAnyZ_one (i:=7) (by decide +kernel) rfl (fun K hK=>?_)
          refine step_append_lies _ (by rfl) _ _ _ (by rfl) 0 108 j0 _ 10 72 Try.underlying103 hj0 hzr0 hsr0 hbr0 rfl (by omega) (.slice ao st.recs.length cap) st.recs.length (st.recs.flatMap recC) (by rfl) ((hrow6.alloc _).drew)
           ⟨w7.heap.size,0,none⟩ 1 1 [.int .i64 q.who.1,.int .i64 q.who.2.1,.int .i64 q.who.2.2,.int .i64 q.at_.1,.int .i64 q.at_.2,.int .i64 q.lo,.int .i64 q.hi,.bool q.write,.bool q.waits,.int .i64 q.came] (by rfl) (by rfl) (World.news_of_block (cs:=#[.int .i64 q.who.1,.int .i64 q.who.2.1,.int .i64 q.who.2.2,.int .i64 q.at_.1,.int .i64 q.at_.2,.int .i64 q.lo,.int .i64 q.hi,.bool q.write,.bool q.waits,.int .i64 q.came]) (t:=108) (fr:=(0,0)) (heap_alloc_new w7 _)) (by simp [Value.oneCell'])
           (by omega) (by unfold maxLen; omega) (by omega) (Nat.zero_le _) (w7.heap.size+1) (by simp) ?_
          intro gg cap' w8 hown8 hgrow hat hlt8
          simp only [Act.put,List.getElem_toArray,List.getElem_cons_zero,List.getElem_cons_succ,List.setIfInBounds_toArray,List.set_cons_zero,List.set_cons_succ]
          have hnb:∀ p,(Value.slice ao st.recs.length cap).ownBlock=some p→own p=some (4,0,0,0):=HM7.out.recs.2
          have nr:(Value.slice ao st.recs.length cap).ownBlock≠some r:=fun e=>by have:=hnb r e; rw [HM7.out.rootTag] at this; cases this
          have nx:(Value.slice ao st.recs.length cap).ownBlock≠some b7:=fun e=>by have:=hnb _ e; rw [hb7n] at this; cases this
          have o5:=hgrow.cell (nlt _ hr7 _ _ a5) (Ne.symm nr)
          have o0:=hgrow.cell (nlt _ hb7z _ _ b0) (Ne.symm nx)
          have o1:=hgrow.cell (nlt _ hb7z _ _ b1) (Ne.symm nx)
          have o2:=hgrow.cell (nlt _ hb7z _ _ b2) (Ne.symm nx)
          have o3:=hgrow.cell (nlt _ hb7z _ _ b3) (Ne.symm nx)
          have o4:=hgrow.cell (nlt _ hb7z _ _ b4) (Ne.symm nx)
          have o6:=hgrow.cell (nlt _ hb7z _ _ b5) (Ne.symm nx)
          have o7:=hgrow.cell (nlt _ hb7z _ _ b6) (Ne.symm nx)
          have o8:=hgrow.cell (nlt _ hb7z _ _ b7') (Ne.symm nx)
          have o9:=hgrow.cell (nlt _ hb7z _ _ b8) (Ne.symm nx)
          have o10:=hgrow.cell (nlt _ hb7z _ _ b9) (Ne.symm nx)
          have fo:w8.frozen? ⟨r,5,none⟩=false:=by
           rw [World.frozen?_of_block (hgrow.block r (by simp; omega) (Ne.symm nr))]
           rw [World.frozen?_drew,World.frozen?_alloc_past _ _ _ (by omega)]; exact frozen_of_row _ r 5 _ _ HM7.out.root
          have hS8:=And.intro o5 <| And.intro o0 <| And.intro o1 <| And.intro o2 <| And.intro o3 <| And.intro o4 <| And.intro o6 <| And.intro o7 <| And.intro o8 <| And.intro o9 o10
          refine hK _ _ (fun _=>hS8) ?_
          clear hK
          refine wpAnyZ_one (i:=8) (by decide +kernel) rfl (fun K hK=>?_)
          go_simp
          refine hK _ _ (fun _=>hS8) ?_
          clear hK
          refine wpAnyZ_one (i:=9) (by decide +kernel) rfl (fun K hK=>?_)
          go_simp
          refine hK _ _ (fun _=>hS8) ?_
          clear hK
          refine wpAnyZ_one (i:=10) (by decide +kernel) rfl (fun K hK=>?_)
          go_simp
          refine hK _ _ (fun h=>absurd rfl h) ?_
          clear hK
          refine wpAnyZ_done (by decide +kernel) ?_ _
          have hfin:=HM7.out.rec_app (W:=(w7.alloc (.cells #[.int .i64 q.who.1,.int .i64 q.who.2.1,.int .i64 q.who.2.2,.int .i64 q.at_.1,.int .i64 q.at_.2,.int .i64 q.lo,.int .i64 q.hi,.bool q.write,.bool q.waits,.int .i64 q.came] 108)).drew) (H:=w7.heap.size+1) (x:=q) (fun k hk=>Below.heap_alloc _ _ _ hk) (by simp) rfl rfl rfl hgrow hown8 hat (by omega) hlt8
          have HFin:Hid (type_of% hfin):=hfin
          clear hfin
          go_wp2_with fail
          go_meet
          case rel=>exact HFin.out
         case rest =>
          obtain ⟨own9,hrep9,hchg9⟩:=hcut.out
          rename World=>w9
          have A:=HA.out
          have HQ9:Hid (w9.rangeAt b7 0 (recC q)):=rangeAt_chg hchg9 hb7n hb7z HQ7.out
          have hn9:own9 w.heap.size=none:=hchg9.none' (Hfr.out _ (Nat.le_refl _)) (by omega)
          have hR9:own9 (w.heap.size+1)=none:=hchg9.none' hfR (by omega)
          have HX9:Hid (w9.heap[w.heap.size]?=some (.cells (stepC x).toArray 30 (0,0))):=by unfold Hid; rw [hchg9.block _ (by omega) (Hfr.out _ (Nat.le_refl _))]; exact HX7.out
          have HR9:Hid (w9.heap[w.heap.size+1]?=some (.cells #[.int .i64 0,.int .i64 0,.slice none 0 0] 66 (0,0))):=by unfold Hid; rw [hchg9.block _ (by omega) hfR]; exact HR7.out
          have HC9:Hid (Chg own w w9 own9):=HC7.out.trans hchg9
          have hz9:=hchg9.size
          obtain ⟨b0,b1,b2,b3,b4,b5,b6,b7',b8,b9⟩:=rec_cells HQ9.out
          simp only [Nat.zero_add] at b0 b1 b2 b3 b4 b5 b6 b7' b8 b9
          have hcl:=cleared_any r (st.addRec q) own9 q w9 hrep9 (by rw [hq.out]; exact A.add (by have:=HCL.out; omega))
          unfold recV at hcl
          clear hrep9 hchg9 hcut
          go_wp2_with fail
          refine hcl.mono ?_
          clear hcl
          rintro e w10 ⟨rfl,own10,hrep10,hchg10⟩
          have hz10:=hchg10.size
          have hn10:own10 w.heap.size=none:=hchg10.none' hn9 (by omega)
          have hR10:own10 (w.heap.size+1)=none:=hchg10.none' hR9 (by omega)
          have hX10:w10.heap[w.heap.size]?=some (.cells (stepC x).toArray 30 (0,0)):=by rw [hchg10.block _ (by omega) hn9]; exact HX9.out
          have HR10:Hid (w10.heap[w.heap.size+1]?=some (.cells #[.int .i64 0,.int .i64 0,.slice none 0 0] 66 (0,0))):=by unfold Hid; rw [hchg10.block _ (by omega) hR9]; exact HR9.out
          have HC10:Hid (Chg own w w10 own10):=HC9.out.trans hchg10
          obtain ⟨sc,hsc⟩:∃ s,Hid (s=(st.addRec q).clearT q):=⟨_,rfl⟩
          have FC:sc.Fit (N+1):=by rw [hsc.out,hq.out]; exact A.cleared (by have:=HCL.out; omega)
          obtain ⟨t,htm,htw⟩:=A.live
          have hLv:∃ u∈sc.txns,u.who=x.who:=⟨t,by rw [hsc.out,hq.out]; exact A.tookL hbr htm htw,htw⟩
          have FD:(sc.does x).1.Fit (N+1):=by rw [hsc.out,hq.out]; exact A.doesTook hbr (by have:=HCL.out; omega)
          obtain ⟨n,u,hun,huw,_⟩:=FC.liveAt hLv
          have hum:=List.mem_of_getElem? hun
          obtain ⟨m0,m1,m2,m3,m4,m5,m6,m7,m8⟩:=step_cells hX10
          have hwk:=works_any r sc own10 x n u w10 (by rw [hsc.out]; exact hrep10) FC.uniq hun huw (by have:=FC.plcL; omega) (by have:=FC.oldsL hum; omega) (by have:=(FC.puts u hum).1; omega) A.good
          rw [← does_at FC.uniq hun huw] at hwk
          unfold stepV at hwk
          have HTk:Hid (st.took x=((sc.does x).1.againT,(sc.does x).2)):=by unfold Hid RS.took; rw [hsc.out,hq.out]
          clear hX10 hrep10 hchg10 A hun huw hum b0 b1 b2 b3 b4 b5 b6 b7' b8 b9
          go_wp2_with fail
          refine hwk.mono ?_
          clear hwk
          rintro e w11 ⟨v,own11,rfl,hrow11,hrep11,hchg11,hv11⟩
          obtain ⟨ao11,cap11,rfl⟩:=ownsRow_slice hrow11
          have hz11:=hchg11.size
          have hR11:own11 (w.heap.size+1)=none:=hchg11.none' hR10 (by omega)
          have HR11:Hid (w11.heap[w.heap.size+1]?=some (.cells #[.int .i64 0,.int .i64 0,.slice none 0 0] 66 (0,0))):=by unfold Hid; rw [hchg11.block _ (by omega) hR10]; exact HR10.out
          have HC11:Hid (Chg own w w11 own11):=HC10.out.trans hchg11
          have HRo:Hid (type_of% hrow11):=hrow11
          have HRp:Hid (type_of% hrep11):=hrep11
          have HVv:Hid (type_of% hv11):=hv11
          have hfr11:=hrep11.fresh
          have hn12:own11 w11.heap.size=none:=hfr11 _ (Nat.le_refl _)
          clear hrow11 hrep11 hchg11 hv11 hfr11 m0 m1 m2 m3 m4 m5 m6 m7 m8
          unfold ansV
          go_wp2_with fail
          have hBA:Below w11.heap.size w11 (w11.alloc (.cells #[.int .i64 (sc.does x).2.code,.int .i64 (sc.does x).2.why,.slice ao11 (sc.does x).2.items.length cap11] 66)):=(Below.refl _ _).alloc (Nat.le_refl _) _
          have hNA:Hid ((w11.alloc (.cells #[.int .i64 (sc.does x).2.code,.int .i64 (sc.does x).2.why,.slice ao11 (sc.does x).2.items.length cap11] 66)).heap[w11.heap.size]?=some (.cells #[.int .i64 (sc.does x).2.code,.int .i64 (sc.does x).2.why,.slice ao11 (sc.does x).2.items.length cap11] 66 (0,0))):=heap_alloc_new w11 _
          have hzA:Hid ((w11.alloc (.cells #[.int .i64 (sc.does x).2.code,.int .i64 (sc.does x).2.why,.slice ao11 (sc.does x).2.items.length cap11] 66)).heap.size=w11.heap.size+1):=by unfold Hid; simp
          generalize w11.alloc (.cells #[.int .i64 (sc.does x).2.code,.int .i64 (sc.does x).2.why,.slice ao11 (sc.does x).2.items.length cap11] 66)=w12 at *
          refine (again_any r _ own11 _ (HRp.out.below hBA) FD hNb).mono ?_
          rintro e w13 ⟨rfl,own13,hrep13,hchg13⟩
          have hA13:w13.heap[w11.heap.size]?=some (.cells #[.int .i64 (sc.does x).2.code,.int .i64 (sc.does x).2.why,.slice ao11 (sc.does x).2.items.length cap11] 66 (0,0)):=by rw [hchg13.block _ (by have:=hzA.out; omega) hn12]; exact hNA.out
          obtain ⟨a0,a1,a2,_,_,_⟩:=ans_cells hA13
          have hR13:w13.heap[w.heap.size+1]?=some (.cells #[.int .i64 0,.int .i64 0,.slice none 0 0] 66 (0,0)):=by rw [hchg13.block _ (by have:=hzA.out; omega) hR11,hBA.block _ (by omega)]; exact HR11.out
          obtain ⟨e0,e1,e2',f0,f1,f2⟩:=ans_cells hR13
          have hfR13:own13 (w.heap.size+1)=none:=hchg13.none' hR11 (by have:=hzA.out; omega)
          have hrow13:=ownsRow_chg (ownsRow_below HRo.out hBA) hchg13 HVv.out
          have hv13:∀ b,(Value.slice ao11 (sc.does x).2.items.length cap11).ownBlock=some b→own13 b=none:=fun b hb=>hchg13.none' (HVv.out b hb) (by have:=(HRo.out.lt b hb).2; have:=hzA.out; omega)
          have hC13:=(HC11.out.trans (Chg.of_below hBA)).trans hchg13
          have HS:Hid (type_of% (ans_stored (.int .i64 (sc.does x).2.code) (.int .i64 (sc.does x).2.why) (.slice ao11 (sc.does x).2.items.length cap11) hR13)):=ans_stored (.int .i64 (sc.does x).2.code) (.int .i64 (sc.does x).2.why) (.slice ao11 (sc.does x).2.items.length cap11) hR13
          have HP:Hid (type_of% (ans_pass (a:=(sc.does x).2) hrow13 (by omega) hrep13 hC13 hv13 hfR13 (show w.heap.size≤w.heap.size+1 by omega))):=ans_pass (a:=(sc.does x).2) hrow13 (by omega) hrep13 hC13 hv13 hfR13 (by omega)
          clear hA13 hR13 hrow13 hv13 hC13 hrep13 hchg13
          go_wp2
          exact ret_ans Try.results93 rfl HS.out rfl (by rw [Hf.out,HTk.out]; exact HP.out)
        ·rw [hh] at hhc
         have Hf:Hid (st.askT x=st.parked x):=by
          unfold Hid RS.askT
          rw [hbr,← hq.out,HNC.out,if_neg (by simp),if_neg (by simp),if_neg (by have:=HCL.out; omega),hh]; rfl
         go_wp2_with fail
         refine hhc.mono ?_
         clear hhc
         rintro e w7 ⟨rfl,hb7y⟩
         have hF7:w7.heap[b7]?=some (.cells (recC q).toArray 108 (0,0)):=by rw [hb7y.block _ (by omega)]; exact HF6.out
         have y8:w7.cell? ⟨b7,8,none⟩=some (.bool q.waits):=by rw [cell_of_row _ _ _ _ _ _ hF7]; rfl
         have zy8:w7.frozen? ⟨b7,8,none⟩=false:=frozen_of_row _ _ _ _ _ hF7
         have HM8:Hid (Mem (w7.setCell ⟨b7,8,none⟩ (.bool true)) r { st with clock:=st.clock+1 } own g vp vt (.slice ao st.recs.length cap) ve):=(HMx.out.below hb7y).free hb7n _
         have HC8:Hid (Chg own w (w7.setCell ⟨b7,8,none⟩ (.bool true)) own):=(HCx.out.trans (Chg.of_below hb7y)).free (by omega) _
         obtain ⟨qo,hqo⟩:∃ c,Hid (c=q.on):=⟨_,rfl⟩
         have HQ8:Hid ((w7.setCell ⟨b7,8,none⟩ (.bool true)).rangeAt b7 0 (recC qo)):=by
          have h8:=heap_setCell_same w7 b7 8 _ _ (.bool true) hF7
          intro j u hj
          rw [cell_of_row _ _ _ _ _ _ h8]
          rw [hqo.out] at hj
          simpa [recC,Rc.on] using hj
         have HX8:Hid ((w7.setCell ⟨b7,8,none⟩ (.bool true)).heap[w.heap.size]?=some (.cells (stepC x).toArray 30 (0,0))):=by unfold Hid; rw [heap_setCell_ne _ _ _ _ _ (by omega),hb7y.block _ (by omega)]; exact HX6.out
         have HR8:Hid ((w7.setCell ⟨b7,8,none⟩ (.bool true)).heap[w.heap.size+1]?=some (.cells #[.int .i64 0,.int .i64 0,.slice none 0 0] 66 (0,0))):=by unfold Hid; rw [heap_setCell_ne _ _ _ _ _ (by omega),hb7y.block _ (by omega)]; exact HR6.out
         have hz8:Hid ((w7.setCell ⟨b7,8,none⟩ (.bool true)).heap.size=w7.heap.size):=by unfold Hid; simp
         have hz7:=hb7y.size
         clear hb7y b0 b1 b2 b3 b4 b5 b6 b7' b8 b9 hF7
         go_upto_region 27 with fail
         generalize w7.setCell ⟨b7,8,none⟩ (.bool true)=w8x at *
         have hr7:r < w8x.heap.size:=by have:=hz8.out; omega
         have hb7z:b7 < w8x.heap.size:=by have:=hz8.out; omega
         have hw8:w.heap.size+2≤w8x.heap.size:=by have:=hz8.out; omega
         clear y8 zy8
         go_cut [] from 12 to 176 (fun wd=>Hid (Goes own w8x wd r (st.addRec qo)))
         case first =>
          refine wp_region_Z (z:=10) (S:=fun W=>W.cell? ⟨r,5,none⟩=some (.slice ao st.recs.length cap)∧W.cell? ⟨b7,0,none⟩=some (.int .i64 qo.who.1)∧W.cell? ⟨b7,1,none⟩=some (.int .i64 qo.who.2.1)∧W.cell? ⟨b7,2,none⟩=some (.int .i64 qo.who.2.2)∧W.cell? ⟨b7,3,none⟩=some (.int .i64 qo.at_.1)∧W.cell? ⟨b7,4,none⟩=some (.int .i64 qo.at_.2)∧W.cell? ⟨b7,5,none⟩=some (.int .i64 qo.lo)∧W.cell? ⟨b7,6,none⟩=some (.int .i64 qo.hi)∧W.cell? ⟨b7,7,none⟩=some (.bool qo.write)∧W.cell? ⟨b7,8,none⟩=some (.bool qo.waits)∧W.cell? ⟨b7,9,none⟩=some (.int .i64 qo.came)) (by kernel_rfl) ?_
          have a5:w8x.cell? ⟨r,5,none⟩=some (.slice ao st.recs.length cap):=by rw [root_cell HM8.out.root]; rfl
          obtain ⟨b0,b1,b2,b3,b4,b5,b6,b7',b8,b9⟩:=rec_cells HQ8.out
          simp only [Nat.zero_add] at b0 b1 b2 b3 b4 b5 b6 b7' b8 b9
          have hS:w8x.drew.cell? ⟨r,5,none⟩=some (.slice ao st.recs.length cap)∧w8x.drew.cell? ⟨b7,0,none⟩=some (.int .i64 qo.who.1)∧w8x.drew.cell? ⟨b7,1,none⟩=some (.int .i64 qo.who.2.1)∧w8x.drew.cell? ⟨b7,2,none⟩=some (.int .i64 qo.who.2.2)∧w8x.drew.cell? ⟨b7,3,none⟩=some (.int .i64 qo.at_.1)∧w8x.drew.cell? ⟨b7,4,none⟩=some (.int .i64 qo.at_.2)∧w8x.drew.cell? ⟨b7,5,none⟩=some (.int .i64 qo.lo)∧w8x.drew.cell? ⟨b7,6,none⟩=some (.int .i64 qo.hi)∧w8x.drew.cell? ⟨b7,7,none⟩=some (.bool qo.write)∧w8x.drew.cell? ⟨b7,8,none⟩=some (.bool qo.waits)∧w8x.drew.cell? ⟨b7,9,none⟩=some (.int .i64 qo.came):=⟨a5,b0,b1,b2,b3,b4,b5,b6,b7',b8,b9⟩
          refine zT (i:=0) (v:=?v48) (by decide +kernel) rfl (fun _ _ _ h=>h) hS (.inl ⟨by rfl,?y48⟩) ?_
          case y48=>(rintro wz ⟨zs0,zs1,zs2,zs3,zs4,zs5,zs6,zs7,zs8,zs9,zs10⟩; go_simp<;>with_reducible rfl)
          simp only [Act.put,z1,z2,z4,z5,z6]
          refine zT (i:=1) (v:=?v49) (by decide +kernel) rfl (fun _ _ _ h=>h) hS (.inl ⟨by rfl,?y49⟩) ?_
          case y49=>(rintro wz ⟨zs0,zs1,zs2,zs3,zs4,zs5,zs6,zs7,zs8,zs9,zs10⟩; go_simp<;>with_reducible rfl)
          simp only [Act.put,z1,z2,z3,z4,z5,z6]
          refine zT (i:=2) (v:=?v50) (by decide +kernel) rfl (fun _ _ _ h=>h) hS (.inl ⟨by rfl,?y50⟩) ?_
          case y50=>(rintro wz ⟨zs0,zs1,zs2,zs3,zs4,zs5,zs6,zs7,zs8,zs9,zs10⟩; go_simp<;>with_reducible rfl)
          simp only [Act.put,z1,z2,z3,z4,z5,z6]
          refine zT (i:=3) (v:=?v51) (by decide +kernel) rfl (fun _ _ _ h=>h) hS (.inl ⟨by rfl,?y51⟩) ?_
          case y51=>(rintro wz ⟨zs0,zs1,zs2,zs3,zs4,zs5,zs6,zs7,zs8,zs9,zs10⟩; go_simp<;>with_reducible rfl)
          simp only [Act.put,z1,z2,z3,z4,z5,z6]
          refine zT (i:=4) (v:=?v52) (by decide +kernel) rfl (fun _ _ _ h=>h) hS (.inl ⟨by rfl,?y52⟩) ?_
          case y52=>(rintro wz ⟨zs0,zs1,zs2,zs3,zs4,zs5,zs6,zs7,zs8,zs9,zs10⟩; go_simp<;>with_reducible rfl)
          simp only [Act.put,z1,z2,z3,z4,z5,z6]
          refine zT (i:=5) (v:=?v53) (by decide +kernel) rfl (fun _ _ _ h=>h) hS (.inl ⟨by rfl,?y53⟩) ?_
          case y53=>(rintro wz ⟨zs0,zs1,zs2,zs3,zs4,zs5,zs6,zs7,zs8,zs9,zs10⟩; go_simp<;>with_reducible rfl)
          simp only [Act.put,z1,z2,z3,z4,z5,z6]
          refine wpAnyZ_one (i:=6) (by decide +kernel) rfl (fun K hK=>?_)
          go_simp
          have nlt:∀ p,p < w8x.heap.size→∀ j v,w8x.cell? ⟨p,j,none⟩=some v→(w8x.alloc (.cells #[.int .i64 qo.who.1,.int .i64 qo.who.2.1,.int .i64 qo.who.2.2,.int .i64 qo.at_.1,.int .i64 qo.at_.2,.int .i64 qo.lo,.int .i64 qo.hi,.bool qo.write,.bool qo.waits,.int .i64 qo.came] 108)).drew.cell? ⟨p,j,none⟩=some v:=fun p hp j v h=>by
           rw [World.cell?_drew,World.cell?_alloc_lt _ _ _ hp]; exact h
          refine hK _ _ (fun _=>⟨nlt _ hr7 _ _ a5,nlt _ hb7z _ _ b0,nlt _ hb7z _ _ b1,nlt _ hb7z _ _ b2,nlt _ hb7z _ _ b3,nlt _ hb7z _ _ b4,nlt _ hb7z _ _ b5,nlt _ hb7z _ _ b6,nlt _ hb7z _ _ b7',nlt _ hb7z _ _ b8,nlt _ hb7z _ _ b9⟩) ?_
          clear hK
          obtain ⟨j0,hj0,hzr0,hsr0,hbr0⟩:=info_all info108
          have hrow6:=HM8.out.recs.1
          refine wpAnyZ_one (i:=7) (by decide +kernel) rfl (fun K hK=>?_)
          refine step_append_lies _ (by rfl) _ _ _ (by rfl) 0 108 j0 _ 10 72 Try.underlying103 hj0 hzr0 hsr0 hbr0 rfl (by omega) (.slice ao st.recs.length cap) st.recs.length (st.recs.flatMap recC) (by rfl) ((hrow6.alloc _).drew)
           ⟨w8x.heap.size,0,none⟩ 1 1 [.int .i64 qo.who.1,.int .i64 qo.who.2.1,.int .i64 qo.who.2.2,.int .i64 qo.at_.1,.int .i64 qo.at_.2,.int .i64 qo.lo,.int .i64 qo.hi,.bool qo.write,.bool qo.waits,.int .i64 qo.came] (by rfl) (by rfl) (World.news_of_block (cs:=#[.int .i64 qo.who.1,.int .i64 qo.who.2.1,.int .i64 qo.who.2.2,.int .i64 qo.at_.1,.int .i64 qo.at_.2,.int .i64 qo.lo,.int .i64 qo.hi,.bool qo.write,.bool qo.waits,.int .i64 qo.came]) (t:=108) (fr:=(0,0)) (heap_alloc_new w8x _)) (by simp [Value.oneCell'])
           (by omega) (by unfold maxLen; omega) (by omega) (Nat.zero_le _) (w8x.heap.size+1) (by simp) ?_
          intro gg cap' w8 hown8 hgrow hat hlt8
          simp only [Act.put,List.getElem_toArray,List.getElem_cons_zero,List.getElem_cons_succ,List.setIfInBounds_toArray,List.set_cons_zero,List.set_cons_succ]
          have hnb:∀ p,(Value.slice ao st.recs.length cap).ownBlock=some p→own p=some (4,0,0,0):=HM8.out.recs.2
          have nr:(Value.slice ao st.recs.length cap).ownBlock≠some r:=fun e=>by have:=hnb r e; rw [HM8.out.rootTag] at this; cases this
          have nx:(Value.slice ao st.recs.length cap).ownBlock≠some b7:=fun e=>by have:=hnb _ e; rw [hb7n] at this; cases this
          have o5:=hgrow.cell (nlt _ hr7 _ _ a5) (Ne.symm nr)
          have o0:=hgrow.cell (nlt _ hb7z _ _ b0) (Ne.symm nx)
          have o1:=hgrow.cell (nlt _ hb7z _ _ b1) (Ne.symm nx)
          have o2:=hgrow.cell (nlt _ hb7z _ _ b2) (Ne.symm nx)
          have o3:=hgrow.cell (nlt _ hb7z _ _ b3) (Ne.symm nx)
          have o4:=hgrow.cell (nlt _ hb7z _ _ b4) (Ne.symm nx)
          have o6:=hgrow.cell (nlt _ hb7z _ _ b5) (Ne.symm nx)
          have o7:=hgrow.cell (nlt _ hb7z _ _ b6) (Ne.symm nx)
          have o8:=hgrow.cell (nlt _ hb7z _ _ b7') (Ne.symm nx)
          have o9:=hgrow.cell (nlt _ hb7z _ _ b8) (Ne.symm nx)
          have o10:=hgrow.cell (nlt _ hb7z _ _ b9) (Ne.symm nx)
          have fo:w8.frozen? ⟨r,5,none⟩=false:=by
           rw [World.frozen?_of_block (hgrow.block r (by simp; omega) (Ne.symm nr))]
           rw [World.frozen?_drew,World.frozen?_alloc_past _ _ _ (by omega)]; exact frozen_of_row _ r 5 _ _ HM8.out.root
          have hS8:=And.intro o5 <| And.intro o0 <| And.intro o1 <| And.intro o2 <| And.intro o3 <| And.intro o4 <| And.intro o6 <| And.intro o7 <| And.intro o8 <| And.intro o9 o10
          refine hK _ _ (fun _=>hS8) ?_
          clear hK
          refine wpAnyZ_one (i:=8) (by decide +kernel) rfl (fun K hK=>?_)
          go_simp
          refine hK _ _ (fun _=>hS8) ?_
          clear hK
          refine wpAnyZ_one (i:=9) (by decide +kernel) rfl (fun K hK=>?_)
          go_simp
          refine hK _ _ (fun _=>hS8) ?_
          clear hK
          refine wpAnyZ_one (i:=10) (by decide +kernel) rfl (fun K hK=>?_)
          go_simp
          refine hK _ _ (fun h=>absurd rfl h) ?_
          clear hK
          refine wpAnyZ_done (by decide +kernel) ?_ _
          have hfin:=HM8.out.rec_app (W:=(w8x.alloc (.cells #[.int .i64 qo.who.1,.int .i64 qo.who.2.1,.int .i64 qo.who.2.2,.int .i64 qo.at_.1,.int .i64 qo.at_.2,.int .i64 qo.lo,.int .i64 qo.hi,.bool qo.write,.bool qo.waits,.int .i64 qo.came] 108)).drew) (H:=w8x.heap.size+1) (x:=qo) (fun k hk=>Below.heap_alloc _ _ _ hk) (by simp) rfl rfl rfl hgrow hown8 hat (by omega) hlt8
          have HFin:Hid (type_of% hfin):=hfin
          clear hfin
          go_wp2_with fail
          go_meet
          case rel=>exact HFin.out
         case rest =>
          obtain ⟨own9,hrep9,hchg9⟩:=hcut.out
          rename World=>w9
          have A:=HA.out
          have hn9:own9 w.heap.size=none:=hchg9.none' (Hfr.out _ (Nat.le_refl _)) (by omega)
          have hR9:own9 (w.heap.size+1)=none:=hchg9.none' hfR (by omega)
          have hX9:w9.heap[w.heap.size]?=some (.cells (stepC x).toArray 30 (0,0)):=by rw [hchg9.block _ (by omega) (Hfr.out _ (Nat.le_refl _))]; exact HX8.out
          have HX9:Hid (type_of% hX9):=hX9
          have HR9:Hid (w9.heap[w.heap.size+1]?=some (.cells #[.int .i64 0,.int .i64 0,.slice none 0 0] 66 (0,0))):=by unfold Hid; rw [hchg9.block _ (by omega) hfR]; exact HR8.out
          have HC9:Hid (Chg own w w9 own9):=HC8.out.trans hchg9
          have hz9:=hchg9.size
          obtain ⟨m0,m1,m2,m3,m4,m5,m6,m7,m8⟩:=step_cells hX9
          obtain ⟨n,t,hnt,htw,hlv⟩:=A.fit.liveAt A.live
          have HRp9:Hid (Rep w9 r (st.addRec qo) own9):=hrep9
          obtain ⟨g9,vp9,vt9,vr9,ve9,m9⟩:=hrep9
          obtain ⟨ao9,cap9,hvt9,hmax9,hel9⟩:=m9.txns.form (len_txnC g9)
          obtain ⟨bt,hao9,hbto,hbt,hrt,hft⟩:=hel9 n t hnt
          subst hao9
          subst hvt9
          have HM9:Hid (Mem w9 r (st.addRec qo) own9 g9 vp9 (.slice (some ⟨bt,0,none⟩) (st.addRec qo).txns.length cap9) vr9 ve9):=m9
          have e4:w9.cell? ⟨r,4,none⟩=some (.slice (some ⟨bt,0,none⟩) st.txns.length cap9):=by rw [root_cell m9.root]; rfl
          have zn:(n:Int) < (st.txns.length:Int):=by have:=(List.getElem?_eq_some_iff.1 hnt).1; omega
          have HS9:Hid (∀ W,Below w9.heap.size w9 W→W.cell? ⟨r,4,none⟩=some (.slice (some ⟨bt,0,none⟩) st.txns.length cap9)∧W.cell? ⟨w.heap.size,0,none⟩=some (.int .i64 x.who.1)∧W.cell? ⟨w.heap.size,1,none⟩=some (.int .i64 x.who.2.1)∧W.cell? ⟨w.heap.size,2,none⟩=some (.int .i64 x.who.2.2)∧W.cell? ⟨w.heap.size,3,none⟩=some (.int .i64 x.op)∧W.cell? ⟨w.heap.size,4,none⟩=some (.int .i64 x.at_.1)∧W.cell? ⟨w.heap.size,5,none⟩=some (.int .i64 x.at_.2)∧W.cell? ⟨w.heap.size,6,none⟩=some (.int .i64 x.key)∧W.cell? ⟨w.heap.size,7,none⟩=some (.int .i64 x.to_)∧W.cell? ⟨w.heap.size,8,none⟩=some (.int .i64 x.value)):=fun W hB=>⟨cell_later hB e4,cell_later hB m0,cell_later hB m1,cell_later hB m2,cell_later hB m3,cell_later hB m4,cell_later hB m5,cell_later hB m6,cell_later hB m7,cell_later hB m8⟩
          have HLV:Hid (∀ W,Below w9.heap.size w9 W→Calls Try.prog 87 #[.pointer (some ⟨r,0,none⟩),.agg #[.int .i64 x.who.1,.int .i64 x.who.2.1,.int .i64 x.who.2.2]] W fun e w'=>e=.returned (.int .i64 (n:Int))∧Below W.heap.size W w'):=fun W hB=>by
           have:=live_any r (st.addRec qo) own9 x.who.1 x.who.2.1 x.who.2.2 W (HRp9.out.below hB)
           rw [show (st.addRec qo).live (x.who.1,x.who.2.1,x.who.2.2)=(n:Int) from hlv] at this
           exact this
          have HCE:Hid (∀ W,Below w9.heap.size w9 W→W.cell? ⟨bt,n*19+6,none⟩=some (.int .i64 t.step.who.1)∧W.cell? ⟨bt,n*19+7,none⟩=some (.int .i64 t.step.who.2.1)∧W.cell? ⟨bt,n*19+8,none⟩=some (.int .i64 t.step.who.2.2)∧W.cell? ⟨bt,n*19+9,none⟩=some (.int .i64 t.step.op)∧W.cell? ⟨bt,n*19+10,none⟩=some (.int .i64 t.step.at_.1)∧W.cell? ⟨bt,n*19+11,none⟩=some (.int .i64 t.step.at_.2)∧W.cell? ⟨bt,n*19+12,none⟩=some (.int .i64 t.step.key)∧W.cell? ⟨bt,n*19+13,none⟩=some (.int .i64 t.step.to_)∧W.cell? ⟨bt,n*19+14,none⟩=some (.int .i64 t.step.value)∧W.frozen? ⟨bt,n*19+6,none⟩=false∧W.frozen? ⟨bt,n*19+7,none⟩=false∧W.frozen? ⟨bt,n*19+8,none⟩=false∧W.frozen? ⟨bt,n*19+9,none⟩=false∧W.frozen? ⟨bt,n*19+10,none⟩=false∧W.frozen? ⟨bt,n*19+11,none⟩=false∧W.frozen? ⟨bt,n*19+12,none⟩=false∧W.frozen? ⟨bt,n*19+13,none⟩=false∧W.frozen? ⟨bt,n*19+14,none⟩=false):=fun W hB =>
           ⟨cell_later hB (hrt 6 _ rfl),cell_later hB (hrt 7 _ rfl),cell_later hB (hrt 8 _ rfl),cell_later hB (hrt 9 _ rfl),cell_later hB (hrt 10 _ rfl),cell_later hB (hrt 11 _ rfl),cell_later hB (hrt 12 _ rfl),cell_later hB (hrt 13 _ rfl),cell_later hB (hrt 14 _ rfl),by rw [World.frozen?_of_block (hB.block bt hbt)]; exact hft _,by rw [World.frozen?_of_block (hB.block bt hbt)]; exact hft _,by rw [World.frozen?_of_block (hB.block bt hbt)]; exact hft _,by rw [World.frozen?_of_block (hB.block bt hbt)]; exact hft _,by rw [World.frozen?_of_block (hB.block bt hbt)]; exact hft _,by rw [World.frozen?_of_block (hB.block bt hbt)]; exact hft _,by rw [World.frozen?_of_block (hB.block bt hbt)]; exact hft _,by rw [World.frozen?_of_block (hB.block bt hbt)]; exact hft _,by rw [World.frozen?_of_block (hB.block bt hbt)]; exact hft _⟩
          have HST:Hid ((st.addRec qo).setStep x={ st.addRec qo with txns:=(st.addRec qo).txns.set n { t with step:=x } }):=setStep_at (st:=st.addRec qo) A.fit.uniq hnt htw
          have Hnt:Hid ((st.addRec qo).txns[n]?=some t):=hnt
          have HFP:Hid (((st.addRec qo).setStep x).Fit (N+1)):=by unfold Hid; rw [hqo.out,hq.out]; exact A.parked hbr (by have:=HCL.out; omega)
          have HPk:Hid (st.parked x=((st.addRec qo).setStep x).ringsT x.who):=by unfold Hid RS.parked; rw [hqo.out,hq.out]
          clear m9 hel9 hrt hft hnt htw hlv A hX9 hchg9 hcut e4 m0 m1 m2 m3 m4 m5 m6 m7 m8
          go_upto_region 28 with fail
          go_cut [] from 12 to 176 (fun wd=>Hid (Goes own9 w9 wd r ((st.addRec qo).setStep x)))
          case first =>
           refine wp_region_Z (z:=11) (S:=fun W=>W.cell? ⟨r,4,none⟩=some (.slice (some ⟨bt,0,none⟩) st.txns.length cap9)∧W.cell? ⟨w.heap.size,0,none⟩=some (.int .i64 x.who.1)∧W.cell? ⟨w.heap.size,1,none⟩=some (.int .i64 x.who.2.1)∧W.cell? ⟨w.heap.size,2,none⟩=some (.int .i64 x.who.2.2)∧W.cell? ⟨w.heap.size,3,none⟩=some (.int .i64 x.op)∧W.cell? ⟨w.heap.size,4,none⟩=some (.int .i64 x.at_.1)∧W.cell? ⟨w.heap.size,5,none⟩=some (.int .i64 x.at_.2)∧W.cell? ⟨w.heap.size,6,none⟩=some (.int .i64 x.key)∧W.cell? ⟨w.heap.size,7,none⟩=some (.int .i64 x.to_)∧W.cell? ⟨w.heap.size,8,none⟩=some (.int .i64 x.value)) (by kernel_rfl) ?_
           have hBd:Below w9.heap.size w9 w9.drew:=(Below.refl _ _).drew
           have hS:=HS9.out _ hBd
           refine zT (i:=0) (v:=?v54) (by decide +kernel) rfl (fun _ _ _ h=>h) hS (.inl ⟨by rfl,?y54⟩) ?_
           case y54=>(rintro wz ⟨zs0,zs1,zs2,zs3,zs4,zs5,zs6,zs7,zs8,zs9⟩; go_simp<;>with_reducible rfl)
           simp only [Act.put,z1,z2,z4,z5,z6]
           refine zT (i:=1) (v:=?v55) (by decide +kernel) rfl (fun _ _ _ h=>h) hS (.inl ⟨by rfl,?y55⟩) ?_
           case y55=>(rintro wz ⟨zs0,zs1,zs2,zs3,zs4,zs5,zs6,zs7,zs8,zs9⟩; go_simp<;>with_reducible rfl)
           simp only [Act.put,z1,z2,z3,z4,z5,z6]
           refine zT (i:=2) (v:=?v56) (by decide +kernel) rfl (fun _ _ _ h=>h) hS (.inl ⟨by rfl,?y56⟩) ?_
           case y56=>(rintro wz ⟨zs0,zs1,zs2,zs3,zs4,zs5,zs6,zs7,zs8,zs9⟩; go_simp<;>with_reducible rfl)
           simp only [Act.put,z1,z2,z3,z4,z5,z6]
           refine zT (i:=3) (v:=?v57) (by decide +kernel) rfl (fun _ _ _ h=>h) hS (.inl ⟨by rfl,?y57⟩) ?_
           case y57=>(rintro wz ⟨zs0,zs1,zs2,zs3,zs4,zs5,zs6,zs7,zs8,zs9⟩; go_simp<;>with_reducible rfl)
           simp only [Act.put,z1,z2,z3,z4,z5,z6]
           refine zT (i:=4) (v:=?v58) (by decide +kernel) rfl (fun _ _ _ h=>h) hS (.inl ⟨by rfl,?y58⟩) ?_
           case y58=>(rintro wz ⟨zs0,zs1,zs2,zs3,zs4,zs5,zs6,zs7,zs8,zs9⟩; go_simp<;>with_reducible rfl)
           simp only [Act.put,z1,z2,z3,z4,z5,z6]
           refine zT (i:=5) (v:=?v59) (by decide +kernel) rfl (fun _ _ _ h=>h) hS (.inl ⟨by rfl,?y59⟩) ?_
           case y59=>(rintro wz ⟨zs0,zs1,zs2,zs3,zs4,zs5,zs6,zs7,zs8,zs9⟩; go_simp<;>with_reducible rfl)
           simp only [Act.put,z1,z2,z3,z4,z5,z6]
           refine zT (i:=6) (v:=?v60) (by decide +kernel) rfl (fun _ _ _ h=>h) hS (.inl ⟨by rfl,?y60⟩) ?_
           case y60=>(rintro wz ⟨zs0,zs1,zs2,zs3,zs4,zs5,zs6,zs7,zs8,zs9⟩; go_simp<;>with_reducible rfl)
           simp only [Act.put,z1,z2,z3,z4,z5,z6]
           refine zT (i:=8) (v:=?v61) (by decide +kernel) rfl (fun _ _ _ h=>h) hS (.inl ⟨by rfl,?y61⟩) ?_
           case y61=>(rintro wz ⟨zs0,zs1,zs2,zs3,zs4,zs5,zs6,zs7,zs8,zs9⟩; go_simp<;>with_reducible rfl)
           simp only [Act.put,z1,z2,z3,z4,z5,z6]
           refine wpAnyZ_one (i:=7) (by decide +kernel) rfl (fun K hK=>?_)
           go_simp
           refine (HLV.out _ hBd).mono ?_
           rintro e w10 ⟨rfl,hb10⟩
           have hB10:Below w9.heap.size w9 w10:=hBd.trans (hb10.mono hBd.size)
           have hS:=HS9.out _ hB10
           obtain ⟨i0,i1,i2,i3,i4,i5,i6,i7,i8,j0,j1,j2,j3,j4,j5,j6,j7,j8⟩:=HCE.out _ hB10
           refine hK _ _ (fun _=>hS) ?_
           clear hK hb10
           refine wpAnyZ_one (i:=9) (by decide +kernel) rfl (fun K hK=>?_)
           go_simp
           refine hK _ _ (fun _=>hS) ?_
           clear hK
           refine wpAnyZ_one (i:=10) (by decide +kernel) rfl (fun K hK=>?_)
           go_simp
           refine hK _ _ (fun _=>hS) ?_
           clear hK
           refine wpAnyZ_one (i:=11) (by decide +kernel) rfl (fun K hK=>?_)
           go_simp
           refine hK _ _ (fun h=>absurd rfl h) ?_
           clear hK
           refine wpAnyZ_done (by decide +kernel) ?_ _
           have HFin:Hid (Goes own9 w9 (stepW w10 bt n x) r ((st.addRec qo).setStep x)):=by
            unfold Hid
            rw [HST.out]
            exact ⟨own9,⟨_,_,_,_,_,(HM9.out.below hB10).step_set Hnt.out⟩,(Chg.of_below hB10).trans (stepW_chg hbto)⟩
           go_wp2_with fail
           go_meet
           case rel=>exact HFin
          case rest =>
           obtain ⟨own10,hrep10,hchg10⟩:=hcut.out
           rename World=>w10
           have hz10:=hchg10.size
           have hX10:w10.heap[w.heap.size]?=some (.cells (stepC x).toArray 30 (0,0)):=by rw [hchg10.block _ (by omega) hn9]; exact HX9.out
           obtain ⟨m0,m1,m2,_,_,_,_,_,_⟩:=step_cells hX10
           have hR10:own10 (w.heap.size+1)=none:=hchg10.none' hR9 (by omega)
           have HR10:Hid (w10.heap[w.heap.size+1]?=some (.cells #[.int .i64 0,.int .i64 0,.slice none 0 0] 66 (0,0))):=by unfold Hid; rw [hchg10.block _ (by omega) hR9]; exact HR9.out
           have HC10:Hid (Chg own w w10 own10):=HC9.out.trans hchg10
           have hrg:=rings_any r _ own10 x.who w10 hrep10 HFP.out hNb
           rw [← HPk.out] at hrg
           clear hX10 hrep10 hchg10 hcut
           go_wp2_with fail
           refine hrg.mono ?_
           clear hrg
           rintro e w11 ⟨v,own11,rfl,hrow11,hrep11,hchg11,hv11⟩
           obtain ⟨ao11,cap11,rfl⟩:=ownsRow_slice hrow11
           have hz11:=hchg11.size
           have hf11:own11 (w.heap.size+1)=none:=hchg11.none' hR10 (by omega)
           have hR11:w11.heap[w.heap.size+1]?=some (.cells #[.int .i64 0,.int .i64 0,.slice none 0 0] 66 (0,0)):=by rw [hchg11.block _ (by omega) hR10]; exact HR10.out
           obtain ⟨e0,e1,e2',f0,f1,f2⟩:=ans_cells hR11
           have HS:Hid (type_of% (ans_stored (.int .i64 (st.parked x).2.code) (.int .i64 (st.parked x).2.why) (.slice ao11 (st.parked x).2.items.length cap11) hR11)):=ans_stored (.int .i64 (st.parked x).2.code) (.int .i64 (st.parked x).2.why) (.slice ao11 (st.parked x).2.items.length cap11) hR11
           have HP:Hid (type_of% (ans_pass (a:=(st.parked x).2) hrow11 (by omega) hrep11 (HC10.out.trans hchg11) hv11 hf11 (show w.heap.size≤w.heap.size+1 by omega))):=ans_pass (a:=(st.parked x).2) hrow11 (by omega) hrep11 (HC10.out.trans hchg11) hv11 hf11 (by omega)
           clear hR11 hrow11 hrep11 hchg11 hv11
           unfold ansV
           go_wp2
           exact ret_ans Try.results93 rfl HS.out rfl (by rw [Hf.out]; exact HP.out)
    ·have Hf:Hid (st.askT x=(st,⟨3,0,[]⟩)):=by unfold Hid RS.askT; rw [hbr]; rfl
     clear hbar
     go_wp2_with fail
     refine (code_any 3 _).mono ?_
     rintro e w6 ⟨rfl,hb5⟩
     have hR5:w6.heap[w.heap.size+1]?=some (.cells #[.int .i64 0,.int .i64 0,.slice none 0 0] 66 (0,0)):=by rw [hb5.block _ (by omega)]; exact HR4.out
     obtain ⟨e0,e1,e2,f0,f1,f2⟩:=ans_cells hR5
     have hfR:own (w.heap.size+1)=none:=Hfr.out _ (by omega)
     have HS:Hid (type_of% (ans_stored (.int .i64 3) (.int .i64 0) (.slice none 0 0) hR5)):=ans_stored (.int .i64 3) (.int .i64 0) (.slice none 0 0) hR5
     have HP:Hid (type_of% (ans_out 3 0 (HRep4.out.below hb5) ((Chg.of_below (own:=own) hB4w).trans (Chg.of_below hb5)) hfR (show w.heap.size≤w.heap.size+1 by omega))):=ans_out 3 0 (HRep4.out.below hb5) ((Chg.of_below (own:=own) hB4w).trans (Chg.of_below hb5)) hfR (by omega)
     clear hR5 hb5
     unfold ansV
     go_wp2
     exact ret_ans Try.results93 rfl HS.out rfl (by rw [Hf.out]; exact HP.out)
end Go.Proofs.Ytpbcplfpjcacfaa
