import Derived.Test.YtpbcplfpjcacfaaF09
import Derived.Test.YtpbcplfpjcacfaaT19
namespace Go.Proofs.Ytpbcplfpjcacfaa
open Go.RowKit
set_option maxRecDepth 100000
set_option maxHeartbeats 8000000
theorem Rep.old {w:World} {r:Nat} {st:RS} {own:Own} (h:Rep w r st own):∀ k,own k≠none→k < w.heap.size:=by
 obtain ⟨g,vp,vt,vr,ve,m⟩:=h
 exact m.old
theorem Rep.frame {w w':World} {r:Nat} {st:RS} {own:Own} (h:Rep w r st own) (hk:∀ k,own k≠none→w'.heap[k]?=w.heap[k]?) (hs:w.heap.size≤w'.heap.size):Rep w' r st own:=by
 obtain ⟨g,vp,vt,vr,ve,m⟩:=h
 have hr:∀ {tag:Tag} b,own b=some tag→w'.heap[b]?=w.heap[b]?:=fun b hb=>hk b (by rw [hb]; simp)
 exact ⟨g,vp,vt,vr,ve,{
  root:=by rw [hr r m.rootTag]; exact m.root
  rootTag:=m.rootTag
  places:=m.places.frame hr (fun _ h=>h)
  txns:=m.txns.frame hr (fun _ h=>h)
  recs:=m.recs.frame hr (fun _ h=>h)
  ended:=m.ended.frame hr (fun _ h=>h)
  olds:=fun t ht=>(m.olds t ht).frame hr (fun _ h=>h)
  puts:=fun t ht=>(m.puts t ht).frame hr (fun _ h=>h)
  told:=fun t ht hq=>(m.told t ht hq).frame hr (fun _ h=>h)
  toldV:=m.toldV
  old:=fun k h=>Nat.lt_of_lt_of_le (m.old k h) hs }⟩
theorem rep0 {w:World} {r:Nat} {k v c:Int} (h:w.heap[r]?=some (.cells #[.int .i64 k,.int .i64 v,.int .i64 c,.slice none 0 0,.slice none 0 0,.slice none 0 0,.slice none 0 0,.int .i64 0,.int .i64 0] 106 (0,0))) :
  Rep w r (st0 k v c) (own0 r):=by
 refine ⟨fun _=>(undef,undef,undef),.slice none 0 0,.slice none 0 0,.slice none 0 0,.slice none 0 0,?_⟩
 have nl:∀ {α:Type} (tag:Tag) (e size:Nat) (f:α→List Value),Row w (own0 r) tag e size (.slice none 0 0) ([]:List α) f:=fun tag e size f =>
  ⟨World.ownsRow_nil w 0 e size,fun b hb=>by cases hb⟩
 exact {
  root:=h
  rootTag:=by simp [own0]
  places:=nl _ _ _ _
  txns:=nl _ _ _ _
  recs:=nl _ _ _ _
  ended:=nl _ _ _ _
  olds:=fun t ht=>by cases ht
  puts:=fun t ht=>by cases ht
  told:=fun t ht=>by cases ht
  toldV:=fun t ht=>by cases ht
  old:=fun b hb=>by
   have:=own0_at hb
   subst this
   exact (Array.getElem?_eq_some_iff.1 h).1 }
def Own.or (a b:Own):Own:=fun k=>match a k with
 | some t=>some t
 | none=>b k
theorem Own.or_none {a b:Own} {k:Nat}:a.or b k=none↔a k=none∧b k=none:=by
 unfold Own.or
 cases h:a k<;>simp
theorem Own.or_left {a b:Own} {k:Nat} (h:a k≠none):a.or b k≠none:=fun e=>h (Own.or_none.1 e).1
theorem Own.or_right {a b:Own} {k:Nat} (h:b k≠none):a.or b k≠none:=fun e=>h (Own.or_none.1 e).2
theorem three_set {w:World} {b ty:Nat} {x0 x1 x2:Value} (a c d:Value) (h:w.heap[b]?=some (.cells #[x0,x1,x2] ty (0,0))) :
  (((w.setCell ⟨b,0,none⟩ a).setCell ⟨b,1,none⟩ c).setCell ⟨b,2,none⟩ d).heap[b]?=some (.cells #[a,c,d] ty (0,0)) ∧
  (∀ k,k≠b→(((w.setCell ⟨b,0,none⟩ a).setCell ⟨b,1,none⟩ c).setCell ⟨b,2,none⟩ d).heap[k]?=w.heap[k]?):=by
 have h1:=heap_setCell_same w b 0 _ _ a h
 have h2:=heap_setCell_same _ b 1 _ _ c h1
 have h3:=heap_setCell_same _ b 2 _ _ d h2
 refine ⟨by simpa using h3,fun k hk=>?_⟩
 rw [heap_setCell_ne _ _ _ _ _ hk,heap_setCell_ne _ _ _ _ _ hk,heap_setCell_ne _ _ _ _ _ hk]
theorem Answered.early {own:Own} {w0 w4 w5:World} {R:World→Own→Prop} {a:Ans} {b:Nat} (h0:Below w0.heap.size w0 w4) (hb:w0.heap.size≤b) (hblk:w4.heap[b]?=some (.cells #[.int .i64 0,.int .i64 0,.slice none 0 0] 66 (0,0))) (hob:own b=none) (hF:Framed R) {v:Value} {own':Own}
  (hrow:w5.ownsRow 0 94 2 v a.items.length (itemsV a.items)) (hR:R w5 own') (hC:ChgD own w4 w5 own') (hv:∀ b,v.ownBlock=some b→own' b=none∧(own b≠none∨w4.heap.size≤b)) :
  Answered own w0 R a b v (((w5.setCell ⟨b,0,none⟩ (.int .i64 a.code)).setCell ⟨b,1,none⟩ (.int .i64 a.why)).setCell ⟨b,2,none⟩ v) own':=by
 have hlt:=(Array.getElem?_eq_some_iff.1 hblk).1
 have h5:w5.heap[b]?=some (.cells #[.int .i64 0,.int .i64 0,.slice none 0 0] 66 (0,0)):=by rw [hC.block b hlt hob]; exact hblk
 obtain ⟨e1,e2⟩:=three_set (.int .i64 a.code) (.int .i64 a.why) v h5
 have hoff:=hC.off hob hlt
 have hvb:∀ k,v.ownBlock=some k→k≠b:=fun k hk e=>by
  subst e
  rcases (hv k hk).2 with h | h
  ·exact h hob
  ·omega
 have hC0:ChgD own w0 w5 own':=(ChgD.of_below h0).trans hC
 refine ⟨e1,hb,hoff,ownsRow_frame hrow (fun k hk=>e2 k (hvb k hk)),hF hR (fun k hk=>e2 k (fun e=>hk (by rw [e]; exact hoff))) (by simp),((hC0.free hb _).free hb _).free hb _,?_⟩
 intro k hk
 obtain ⟨h1,h2⟩:=hv k hk
 refine ⟨h1,?_,hvb k hk⟩
 rcases h2 with h2 | h2
 ·exact .inl h2
 ·exact .inr (Nat.le_trans h0.size h2)
structure BothAt (P:Pgm) (w:World) (bb p r:Nat) (s:P.S) (st:RS) (ownP ownR:Own):Prop where
 blk:w.heap[bb]?=some (.cells #[.pointer (some ⟨p,0,none⟩),.pointer (some ⟨r,0,none⟩)] 43 (0,0))
 rp:P.Rep w p s ownP
 rr:Rep w r st ownR
 apart:∀ k,ownP k≠none→ownR k=none
 np:ownP bb=none
 nr:ownR bb=none
def EntRes (P:Pgm) (own:Own) (w:World) (bb p r:Nat) (s:P.S) (st:RS) (l:List (Int × Int)) (v:Value) (w':World):Prop :=
 ∃ ownP' ownR',w'.ownsRow 0 94 2 v l.length (itemsV l)∧BothAt P w' bb p r s st ownP' ownR'∧ChgD own w w' (ownP'.or ownR')∧∀ b,v.ownBlock=some b→ownP'.or ownR' b=none∧(own b≠none∨w.heap.size≤b)
def EntPost (P:Pgm) (own:Own) (w:World) (bb p r:Nat) (s:P.S) (st:RS) (l:List (Int × Int)) (e:Ending) (w':World):Prop :=
 ∃ v,e=.returned (.tuple #[v,.bool true])∧EntRes P own w bb p r s st l v w'
theorem BothAt.frame {P:Pgm} {w w':World} {bb p r:Nat} {s:P.S} {st:RS} {ownP ownR:Own} (h:BothAt P w bb p r s st ownP ownR) (hk:∀ k,ownP.or ownR k≠none→w'.heap[k]?=w.heap[k]?) (hb:w'.heap[bb]?=w.heap[bb]?) (hs:w.heap.size≤w'.heap.size):BothAt P w' bb p r s st ownP ownR :=
 ⟨by rw [hb]; exact h.blk,P.frame h.rp (fun k q=>hk k (Own.or_left q)) hs,h.rr.frame (fun k q=>hk k (Own.or_right q)) hs,h.apart,h.np,h.nr⟩
theorem BothAt.old {P:Pgm} {w:World} {bb p r:Nat} {s:P.S} {st:RS} {ownP ownR:Own} (h:BothAt P w bb p r s st ownP ownR):∀ k,ownP.or ownR k≠none→k < w.heap.size:=fun k hk=>by
 cases hq:ownP k with
 | some t=>exact P.old h.rp k (by rw [hq]; simp)
 | none=>exact h.rr.old k (fun e=>hk (Own.or_none.2 ⟨hq,e⟩))
theorem BothAt.below {P:Pgm} {w w':World} {bb p r:Nat} {s:P.S} {st:RS} {ownP ownR:Own} (h:BothAt P w bb p r s st ownP ownR) (hb:Below w.heap.size w w'):BothAt P w' bb p r s st ownP ownR :=
 h.frame (fun k hk=>hb.block k (h.old k hk)) (hb.block _ (Array.getElem?_eq_some_iff.1 h.blk).1) hb.size
theorem both_cells {w:World} {bb ty:Nat} {x y:Value} (h:w.heap[bb]?=some (.cells #[x,y] ty (0,0))):w.cell? ⟨bb,0,none⟩=some x∧w.cell? ⟨bb,1,none⟩=some y :=
 ⟨by rw [cell_of_row w bb 0 _ _ _ h]; rfl,by rw [cell_of_row w bb 1 _ _ _ h]; rfl⟩
def DoReads (bb j:Nat) (q:Nat) (g:Nat) (x:Stp) (W:World):Prop :=
 W.cell? ⟨bb,j,none⟩=some (.pointer (some ⟨q,0,none⟩))∧W.cell? ⟨g,0,none⟩=some (.int .i64 x.who.1)∧W.cell? ⟨g,1,none⟩=some (.int .i64 x.who.2.1)∧W.cell? ⟨g,2,none⟩=some (.int .i64 x.who.2.2)∧W.cell? ⟨g,3,none⟩=some (.int .i64 x.op) ∧
 W.cell? ⟨g,4,none⟩=some (.int .i64 x.at_.1)∧W.cell? ⟨g,5,none⟩=some (.int .i64 x.at_.2)∧W.cell? ⟨g,6,none⟩=some (.int .i64 x.key)∧W.cell? ⟨g,7,none⟩=some (.int .i64 x.to_)∧W.cell? ⟨g,8,none⟩=some (.int .i64 x.value)
theorem doReads0 {W:World} {bb p r g:Nat} {x:Stp} (h:W.heap[bb]?=some (.cells #[.pointer (some ⟨p,0,none⟩),.pointer (some ⟨r,0,none⟩)] 43 (0,0))) (hg:W.heap[g]?=some (.cells (stepC x).toArray 30 (0,0))):DoReads bb 0 p g x W:=by
 obtain ⟨k0,k1,k2,k3,k4,k5,k6,k7,k8,_⟩:=step9_cells hg
 exact ⟨(both_cells h).1,k0,k1,k2,k3,k4,k5,k6,k7,k8⟩
theorem doReads1 {W:World} {bb p r g:Nat} {x:Stp} (h:W.heap[bb]?=some (.cells #[.pointer (some ⟨p,0,none⟩),.pointer (some ⟨r,0,none⟩)] 43 (0,0))) (hg:W.heap[g]?=some (.cells (stepC x).toArray 30 (0,0))):DoReads bb 1 r g x W:=by
 obtain ⟨k0,k1,k2,k3,k4,k5,k6,k7,k8,_⟩:=step9_cells hg
 exact ⟨(both_cells h).2,k0,k1,k2,k3,k4,k5,k6,k7,k8⟩
theorem doReads_alloc {W:World} {bb j q g:Nat} {x:Stp} (h:DoReads bb j q g x W) (b:Obj):DoReads bb j q g x (W.alloc b):=by
 have hB:Below W.heap.size W (W.alloc b):=(Below.refl _ _).alloc (Nat.le_refl _) _
 obtain ⟨h0,h1,h2,h3,h4,h5,h6,h7,h8,h9⟩:=h
 exact ⟨cell_later hB h0,cell_later hB h1,cell_later hB h2,cell_later hB h3,cell_later hB h4,cell_later hB h5,cell_later hB h6,cell_later hB h7,cell_later hB h8,cell_later hB h9⟩
theorem sameItems_is {v1 v2:Value} {l:List (Int × Int)} {w:World} (h1:isItems w v1 l) (h2:isItems w v2 l) :
  Calls Try.prog 66 #[v1,v2] w fun e w'=>e=.returned (.bool true)∧Below w.heap.size w w':=by
 have:=sameItems_any v1 v2 l l w h1 h2
 rw [decide_eq_true rfl] at this
 exact this
theorem isItems_below {w w':World} {v:Value} {l:List (Int × Int)} (h:isItems w v l) (hb:Below w.heap.size w w'):isItems w' v l:=by
 rcases h with h | ⟨b,o,cap,e,hr,hl⟩
 ·exact .inl h
 ·refine .inr ⟨b,o,cap,e,fun j u hj=>?_,hl⟩
  exact cell_later hb (hr j u hj)
theorem done_any (P:Pgm) {N:Nat} (bb p r:Nat) (s:P.S) (st:RS) (ownP ownR:Own) (x:Stp) (w:World) (hB:BothAt P w bb p r s st ownP ownR) (hok:P.Ok N s) (F:st.Fit N) (hc:st.c≤32) (hN:N+1 < 4398046511104) (hans:(P.act s x).2=(st.doT x).2) :
  Calls Try.prog 48 #[.pointer (some ⟨bb,0,none⟩),stepV x] w (EntPost P (ownP.or ownR) w bb p r (P.act s x).1 (st.doT x).1 (st.doT x).2.items):=by
 have Hans:Hid ((P.act s x).2=(st.doT x).2):=hans
 have HB:Hid (BothAt P w bb p r s st ownP ownR):=hB
 have hbl:bb < w.heap.size:=(Array.getElem?_eq_some_iff.1 hB.blk).1
 have hdoP:∀ W,P.Rep W p s ownP→Calls Try.prog 28 #[.pointer (some ⟨p,0,none⟩),stepV x] W (APost ownP W (fun w' own'=>P.Rep w' p (P.act s x).1 own') (P.act s x).2):=fun W h=>P.doAny x h hok hN
 have hdoR:∀ W,Rep W r st ownR→Calls Try.prog 67 #[.pointer (some ⟨r,0,none⟩),stepV x] W (APost ownR W (fun w' own'=>Rep w' r (st.doT x).1 own') (st.doT x).2):=fun W h=>do_any r st ownR x W h F hc hN
 unfold stepV at hdoP hdoR ⊢
 have HP:Hid (type_of% hdoP):=hdoP
 have HR:Hid (type_of% hdoR):=hdoR
 clear hdoP hdoR hans hB F hok
 go_enter Try.func48,Try.ntmps48
 go_upto_region 1 with fail
 have hA:Below w.heap.size w (w.alloc (.cells #[.int .i64 x.who.1,.int .i64 x.who.2.1,.int .i64 x.who.2.2,.int .i64 x.op,.int .i64 x.at_.1,.int .i64 x.at_.2,.int .i64 x.key,.int .i64 x.to_,.int .i64 x.value] 30)):=(Below.refl _ _).alloc (Nat.le_refl _) _
 have hX:(w.alloc (.cells #[.int .i64 x.who.1,.int .i64 x.who.2.1,.int .i64 x.who.2.2,.int .i64 x.op,.int .i64 x.at_.1,.int .i64 x.at_.2,.int .i64 x.key,.int .i64 x.to_,.int .i64 x.value] 30)).heap[w.heap.size]?=some (.cells (stepC x).toArray 30 (0,0)):=heap_alloc_new w _
 have hz:(w.alloc (.cells #[.int .i64 x.who.1,.int .i64 x.who.2.1,.int .i64 x.who.2.2,.int .i64 x.op,.int .i64 x.at_.1,.int .i64 x.at_.2,.int .i64 x.key,.int .i64 x.to_,.int .i64 x.value] 30)).heap.size=w.heap.size+1:=by simp
 generalize hg:w.heap.size=g at *
 have hgN:ownP g=none∧ownR g=none:=by
  have:∀ {o:Own},(∀ k,o k≠none→k < w.heap.size)→o g=none:=fun {o} h=>by
   cases hq:o g with
   | none=>rfl
   | some t=>have:=h g (by rw [hq]; simp); omega
  exact ⟨this (P.old HB.out.rp),this HB.out.rr.old⟩
 generalize w.alloc (.cells #[.int .i64 x.who.1,.int .i64 x.who.2.1,.int .i64 x.who.2.2,.int .i64 x.op,.int .i64 x.at_.1,.int .i64 x.at_.2,.int .i64 x.key,.int .i64 x.to_,.int .i64 x.value] 30)=wA at *
 have hE0:wA.heap[bb]?=some (.cells #[.pointer (some ⟨p,0,none⟩),.pointer (some ⟨r,0,none⟩)] 43 (0,0)):=by rw [hA.block bb (by omega)]; exact HB.out.blk
 have HA:Hid (Below w.heap.size w wA):=by unfold Hid; rw [hg]; exact hA
 have HRP:Hid (P.Rep wA p s ownP):=P.below HB.out.rp HA.out
 have HRR:Hid (Rep wA r st ownR):=HB.out.rr.below HA.out
 have HE:Hid (wA.heap[bb]?=some (.cells #[.pointer (some ⟨p,0,none⟩),.pointer (some ⟨r,0,none⟩)] 43 (0,0))):=hE0
 have HX:Hid (wA.heap[g]?=some (.cells (stepC x).toArray 30 (0,0))):=hX
 have Hg:Hid (w.heap.size=g):=hg
 have hgl:g < wA.heap.size:=by omega
 clear hA hX hE0 hg hz
 go_cut [6] from 8 to 40 (fun v wc=>∃ b va own',v=.pointer (some ⟨b,0,none⟩)∧Hid (Answered ownP wA (fun w' own'=>P.Rep w' p (P.act s x).1 own') (P.act s x).2 b va wc own'))
 case first =>
  refine wp_region_Z (z:=7) (S:=fun W=>DoReads bb 0 p g x W) (by kernel_rfl) ?_
  have hBd:Below wA.heap.size wA wA.drew:=(Below.refl _ _).drew
  have hS:=doReads0 (x:=x) (W:=wA.drew) HE.out HX.out
  refine zT (i:=0) (v:=?v1) (by decide +kernel) rfl (fun _ _ _ h=>h) hS (.inl ⟨by rfl,?y1⟩) ?_
  case y1=>(rintro wz ⟨zs0,zs1,zs2,zs3,zs4,zs5,zs6,zs7,zs8,zs9⟩; go_simp<;>with_reducible rfl)
  simp only [Act.put,z1,z2,z4,z5,z6]
  refine zT (i:=1) (v:=?v2) (by decide +kernel) rfl (fun _ _ _ h=>h) hS (.inl ⟨by rfl,?y2⟩) ?_
  case y2=>(rintro wz ⟨zs0,zs1,zs2,zs3,zs4,zs5,zs6,zs7,zs8,zs9⟩; go_simp<;>with_reducible rfl)
  simp only [Act.put,z1,z2,z3,z4,z5,z6]
  refine zT (i:=2) (v:=?v3) (by decide +kernel) rfl (fun _ _ _ h=>h) hS (.inl ⟨by rfl,?y3⟩) ?_
  case y3=>(rintro wz ⟨zs0,zs1,zs2,zs3,zs4,zs5,zs6,zs7,zs8,zs9⟩; go_simp<;>with_reducible rfl)
  simp only [Act.put,z1,z2,z3,z4,z5,z6]
  refine zT (i:=3) (v:=?v4) (by decide +kernel) rfl (fun _ _ _ h=>h) hS (.inl ⟨by rfl,?y4⟩) ?_
  case y4=>(rintro wz ⟨zs0,zs1,zs2,zs3,zs4,zs5,zs6,zs7,zs8,zs9⟩; go_simp<;>with_reducible rfl)
  simp only [Act.put,z1,z2,z3,z4,z5,z6]
  refine zT (i:=4) (v:=?v5) (by decide +kernel) rfl (fun _ _ _ h=>h) hS (.inl ⟨by rfl,?y5⟩) ?_
  case y5=>(rintro wz ⟨zs0,zs1,zs2,zs3,zs4,zs5,zs6,zs7,zs8,zs9⟩; go_simp<;>with_reducible rfl)
  simp only [Act.put,z1,z2,z3,z4,z5,z6]
  refine wpAnyZ_two (i:=5) (j:=6) (by decide +kernel) rfl rfl (fun K hK=>?_) (fun K hK=>?_)
  ·go_simp
   refine (HP.out _ (P.below HRP.out hBd)).mono ?_
   rintro e w4 ⟨v,own',rfl,hrow,hrep,hchg,hv⟩
   obtain ⟨aoq,capq,hvq⟩:=ownsRow_slice hrow
   subst hvq
   have hS:DoReads bb 0 p g x w4:=doReads0 (r:=r) (by rw [hchg.block bb (by simp; omega) HB.out.np]; exact HE.out) (by rw [hchg.block g (by simp; omega) hgN.1]; exact HX.out)
   have HAN:Hid (Answered ownP wA (fun w' own'=>P.Rep w' p (P.act s x).1 own') (P.act s x).2 w4.heap.size (.slice aoq (P.act s x).2.items.length capq) (w4.alloc (.cells #[.int .i64 (P.act s x).2.code,.int .i64 (P.act s x).2.why,(.slice aoq (P.act s x).2.items.length capq)] 66)) own'):=Answered.late hBd P.frame P.old hrow hrep hchg hv
   refine hK _ _ (fun _=>hS) ?_
   clear hK hrow hrep hchg hv
   unfold ansV
   refine wpAnyZ_one (i:=6) (by decide +kernel) rfl (fun K hK=>?_)
   go_simp
   refine hK _ _ (fun _=>doReads_alloc hS _) ?_
   clear hK
   refine wpAnyZ_one (i:=7) (by decide +kernel) rfl (fun K hK=>?_)
   go_simp
   refine hK _ _ (fun h=>absurd rfl h) ?_
   clear hK
   refine wpAnyZ_done (by decide +kernel) ?_ _
   go_wp2_with fail
   go_meet
   case rel=>exact ⟨_,_,_,rfl,HAN⟩
  ·go_simp
   have hB4:Below wA.heap.size wA (wA.alloc (.cells #[.int .i64 0,.int .i64 0,.slice none 0 0] 66)).drew:=((Below.refl _ _).alloc (Nat.le_refl _) _).drew
   have hN4:(wA.alloc (.cells #[.int .i64 0,.int .i64 0,.slice none 0 0] 66)).drew.heap[wA.heap.size]?=some (.cells #[.int .i64 0,.int .i64 0,.slice none 0 0] 66 (0,0)):=heap_alloc_new wA _
   generalize (wA.alloc (.cells #[.int .i64 0,.int .i64 0,.slice none 0 0] 66)).drew=w4 at *
   have hb4:bb < w4.heap.size:=by have:=hB4.size; omega
   have hg4:g < w4.heap.size:=by have:=hB4.size; omega
   have e4:w4.heap[bb]?=some (.cells #[.pointer (some ⟨p,0,none⟩),.pointer (some ⟨r,0,none⟩)] 43 (0,0)):=by rw [hB4.block bb (by omega)]; exact HE.out
   have x4:w4.heap[g]?=some (.cells (stepC x).toArray 30 (0,0)):=by rw [hB4.block g (by omega)]; exact HX.out
   refine hK _ _ (fun _=>doReads0 e4 x4) ?_
   clear hK
   refine wpAnyZ_one (i:=5) (by decide +kernel) rfl (fun K hK=>?_)
   go_simp
   refine (HP.out _ (P.below HRP.out hB4)).mono ?_
   rintro e w5 ⟨v,own',rfl,hrow,hrep,hchg,hv⟩
   obtain ⟨aoq,capq,hvq⟩:=ownsRow_slice hrow
   subst hvq
   have hob:ownP wA.heap.size=none:=by
    cases hq:ownP wA.heap.size with
    | none=>rfl
    | some t=>exact absurd (P.old HRP.out _ (by rw [hq]; simp)) (Nat.lt_irrefl _)
   have hS:DoReads bb 0 p g x w5:=doReads0 (by rw [hchg.block bb hb4 HB.out.np]; exact e4) (by rw [hchg.block g hg4 hgN.1]; exact x4)
   have hN5:w5.heap[wA.heap.size]?=some (.cells #[.int .i64 0,.int .i64 0,.slice none 0 0] 66 (0,0)):=by rw [hchg.block _ (Array.getElem?_eq_some_iff.1 hN4).1 hob]; exact hN4
   have HAN:Hid (Answered ownP wA (fun w' own'=>P.Rep w' p (P.act s x).1 own') (P.act s x).2 wA.heap.size (.slice aoq (P.act s x).2.items.length capq) (((w5.setCell ⟨wA.heap.size,0,none⟩ (.int .i64 (P.act s x).2.code)).setCell ⟨wA.heap.size,1,none⟩ (.int .i64 (P.act s x).2.why)).setCell ⟨wA.heap.size,2,none⟩ (.slice aoq (P.act s x).2.items.length capq)) own'):=Answered.early hB4 (Nat.le_refl _) hN4 hob P.frame hrow hrep hchg hv
   obtain ⟨a0,a1,a2,f0,f1,f2⟩:=ans_cells hN5
   refine hK _ _ (fun _=>hS) ?_
   clear hK hrow hrep hchg hv hN4 hN5
   unfold ansV
   refine wpAnyZ_one (i:=7) (by decide +kernel) rfl (fun K hK=>?_)
   go_simp
   refine hK _ _ (fun h=>absurd rfl h) ?_
   clear hK
   refine wpAnyZ_done (by decide +kernel) ?_ _
   go_wp2_with fail
   go_meet
   case rel=>exact ⟨_,_,_,rfl,HAN⟩
 case rest =>
  obtain ⟨b1,va,ownP',rfl,H1⟩:=hcut
  obtain ⟨w1,hw1⟩:∃ w1,w1=wc:=⟨_,rfl⟩
  subst hw1
  have hsz1:wA.heap.size≤w1.heap.size:=H1.out.chg.size
  have oR:∀ k,ownR k≠none→k < wA.heap.size∧ownP k=none:=fun k hk=>⟨HRR.out.old k hk,by
   cases hq:ownP k with
   | none=>rfl
   | some t=>exact absurd (HB.out.apart k (by rw [hq]; simp)) hk⟩
  have OR:Hid (type_of% oR):=oR
  have HRR1:Hid (Rep w1 r st ownR):=HRR.out.frame (fun k hk=>H1.out.chg.block k (oR k hk).1 (oR k hk).2) hsz1
  have HE1:Hid (w1.heap[bb]?=some (.cells #[.pointer (some ⟨p,0,none⟩),.pointer (some ⟨r,0,none⟩)] 43 (0,0))):=by unfold Hid; rw [H1.out.chg.block bb (by omega) HB.out.np]; exact HE.out
  have HX1:Hid (w1.heap[g]?=some (.cells (stepC x).toArray 30 (0,0))):=by unfold Hid; rw [H1.out.chg.block g (by omega) hgN.1]; exact HX.out
  clear oR
  go_upto_region 2 with fail
  go_cut [7] from 8 to 40 (fun v wd=>∃ b vr ownR',v=.pointer (some ⟨b,0,none⟩)∧Hid (Answered ownR w1 (fun w' own'=>Rep w' r (st.doT x).1 own') (st.doT x).2 b vr wd ownR'))
  case first =>
   refine wp_region_Z (z:=7) (S:=fun W=>DoReads bb 1 r g x W) (by kernel_rfl) ?_
   have hBd:Below w1.heap.size w1 w1.drew:=(Below.refl _ _).drew
   have hS:=doReads1 (x:=x) (W:=w1.drew) HE1.out HX1.out
   refine zT (i:=0) (v:=?v6) (by decide +kernel) rfl (fun _ _ _ h=>h) hS (.inl ⟨by rfl,?y6⟩) ?_
   case y6=>(rintro wz ⟨zs0,zs1,zs2,zs3,zs4,zs5,zs6,zs7,zs8,zs9⟩; go_simp<;>with_reducible rfl)
   simp only [Act.put,z1,z2,z4,z5,z6]
   refine zT (i:=1) (v:=?v7) (by decide +kernel) rfl (fun _ _ _ h=>h) hS (.inl ⟨by rfl,?y7⟩) ?_
   case y7=>(rintro wz ⟨zs0,zs1,zs2,zs3,zs4,zs5,zs6,zs7,zs8,zs9⟩; go_simp<;>with_reducible rfl)
   simp only [Act.put,z1,z2,z3,z4,z5,z6]
   refine zT (i:=2) (v:=?v8) (by decide +kernel) rfl (fun _ _ _ h=>h) hS (.inl ⟨by rfl,?y8⟩) ?_
   case y8=>(rintro wz ⟨zs0,zs1,zs2,zs3,zs4,zs5,zs6,zs7,zs8,zs9⟩; go_simp<;>with_reducible rfl)
   simp only [Act.put,z1,z2,z3,z4,z5,z6]
   refine zT (i:=3) (v:=?v9) (by decide +kernel) rfl (fun _ _ _ h=>h) hS (.inl ⟨by rfl,?y9⟩) ?_
   case y9=>(rintro wz ⟨zs0,zs1,zs2,zs3,zs4,zs5,zs6,zs7,zs8,zs9⟩; go_simp<;>with_reducible rfl)
   simp only [Act.put,z1,z2,z3,z4,z5,z6]
   refine zT (i:=4) (v:=?v10) (by decide +kernel) rfl (fun _ _ _ h=>h) hS (.inl ⟨by rfl,?y10⟩) ?_
   case y10=>(rintro wz ⟨zs0,zs1,zs2,zs3,zs4,zs5,zs6,zs7,zs8,zs9⟩; go_simp<;>with_reducible rfl)
   simp only [Act.put,z1,z2,z3,z4,z5,z6]
   refine wpAnyZ_two (i:=5) (j:=6) (by decide +kernel) rfl rfl (fun K hK=>?_) (fun K hK=>?_)
   ·go_simp
    refine (HR.out _ (HRR1.out.below hBd)).mono ?_
    rintro e w4 ⟨v,own',rfl,hrow,hrep,hchg,hv⟩
    obtain ⟨aoq,capq,hvq⟩:=ownsRow_slice hrow
    subst hvq
    have hS:DoReads bb 1 r g x w4:=doReads1 (p:=p) (by rw [hchg.block bb (by simp; omega) HB.out.nr]; exact HE1.out) (by rw [hchg.block g (by simp; omega) hgN.2]; exact HX1.out)
    have HAN:Hid (Answered ownR w1 (fun w' own'=>Rep w' r (st.doT x).1 own') (st.doT x).2 w4.heap.size (.slice aoq (st.doT x).2.items.length capq) (w4.alloc (.cells #[.int .i64 (st.doT x).2.code,.int .i64 (st.doT x).2.why,(.slice aoq (st.doT x).2.items.length capq)] 66)) own'):=Answered.late hBd Rep.frame Rep.old hrow hrep hchg hv
    refine hK _ _ (fun _=>hS) ?_
    clear hK hrow hrep hchg hv
    unfold ansV
    refine wpAnyZ_one (i:=6) (by decide +kernel) rfl (fun K hK=>?_)
    go_simp
    refine hK _ _ (fun _=>doReads_alloc hS _) ?_
    clear hK
    refine wpAnyZ_one (i:=7) (by decide +kernel) rfl (fun K hK=>?_)
    go_simp
    refine hK _ _ (fun h=>absurd rfl h) ?_
    clear hK
    refine wpAnyZ_done (by decide +kernel) ?_ _
    go_wp2_with fail
    go_meet
    case rel=>exact ⟨_,_,_,rfl,HAN⟩
   ·go_simp
    have hB4:Below w1.heap.size w1 (w1.alloc (.cells #[.int .i64 0,.int .i64 0,.slice none 0 0] 66)).drew:=((Below.refl _ _).alloc (Nat.le_refl _) _).drew
    have hN4:(w1.alloc (.cells #[.int .i64 0,.int .i64 0,.slice none 0 0] 66)).drew.heap[w1.heap.size]?=some (.cells #[.int .i64 0,.int .i64 0,.slice none 0 0] 66 (0,0)):=heap_alloc_new w1 _
    generalize (w1.alloc (.cells #[.int .i64 0,.int .i64 0,.slice none 0 0] 66)).drew=w4 at *
    have hb4:bb < w4.heap.size:=by have:=hB4.size; omega
    have hg4:g < w4.heap.size:=by have:=hB4.size; omega
    have e4:w4.heap[bb]?=some (.cells #[.pointer (some ⟨p,0,none⟩),.pointer (some ⟨r,0,none⟩)] 43 (0,0)):=by rw [hB4.block bb (by omega)]; exact HE1.out
    have x4:w4.heap[g]?=some (.cells (stepC x).toArray 30 (0,0)):=by rw [hB4.block g (by omega)]; exact HX1.out
    refine hK _ _ (fun _=>doReads1 e4 x4) ?_
    clear hK
    refine wpAnyZ_one (i:=5) (by decide +kernel) rfl (fun K hK=>?_)
    go_simp
    refine (HR.out _ (HRR1.out.below hB4)).mono ?_
    rintro e w5 ⟨v,own',rfl,hrow,hrep,hchg,hv⟩
    obtain ⟨aoq,capq,hvq⟩:=ownsRow_slice hrow
    subst hvq
    have hob:ownR w1.heap.size=none:=by
     cases hq:ownR w1.heap.size with
     | none=>rfl
     | some t=>exact absurd (HRR1.out.old _ (by rw [hq]; simp)) (Nat.lt_irrefl _)
    have hS:DoReads bb 1 r g x w5:=doReads1 (by rw [hchg.block bb hb4 HB.out.nr]; exact e4) (by rw [hchg.block g hg4 hgN.2]; exact x4)
    have hN5:w5.heap[w1.heap.size]?=some (.cells #[.int .i64 0,.int .i64 0,.slice none 0 0] 66 (0,0)):=by rw [hchg.block _ (Array.getElem?_eq_some_iff.1 hN4).1 hob]; exact hN4
    have HAN:Hid (Answered ownR w1 (fun w' own'=>Rep w' r (st.doT x).1 own') (st.doT x).2 w1.heap.size (.slice aoq (st.doT x).2.items.length capq) (((w5.setCell ⟨w1.heap.size,0,none⟩ (.int .i64 (st.doT x).2.code)).setCell ⟨w1.heap.size,1,none⟩ (.int .i64 (st.doT x).2.why)).setCell ⟨w1.heap.size,2,none⟩ (.slice aoq (st.doT x).2.items.length capq)) own'):=Answered.early hB4 (Nat.le_refl _) hN4 hob Rep.frame hrow hrep hchg hv
    obtain ⟨a0,a1,a2,f0,f1,f2⟩:=ans_cells hN5
    refine hK _ _ (fun _=>hS) ?_
    clear hK hrow hrep hchg hv hN4 hN5
    unfold ansV
    refine wpAnyZ_one (i:=7) (by decide +kernel) rfl (fun K hK=>?_)
    go_simp
    refine hK _ _ (fun h=>absurd rfl h) ?_
    clear hK
    refine wpAnyZ_done (by decide +kernel) ?_ _
    go_wp2_with fail
    go_meet
    case rel=>exact ⟨_,_,_,rfl,HAN⟩
  case rest =>
   obtain ⟨b2,vr,ownR',rfl,H2⟩:=hcut
   have hsz2:w1.heap.size≤wc.heap.size:=H2.out.chg.size
   have oP':∀ k,ownP' k≠none→ownR k=none:=fun k hk=>by
    cases hq:ownR k with
    | none=>rfl
    | some t =>
     have h1:=OR.out k (by rw [hq]; simp)
     rcases H1.out.chg.fresh k hk with h | h
     ·exact absurd h1.2 h
     ·omega
   have hb1R:ownR b1=none:=by
    cases hq:ownR b1 with
    | none=>rfl
    | some t=>have:=OR.out b1 (by rw [hq]; simp); have:=H1.out.new; omega
   have hvR:∀ k,va.ownBlock=some k→ownR k=none:=fun k hk=>by
    cases hq:ownR k with
    | none=>rfl
    | some t =>
     have h1:=OR.out k (by rw [hq]; simp)
     rcases (H1.out.out k hk).2.1 with h | h
     ·exact absurd h1.2 h
     ·omega
   have hlt1:=ownsRow_lt H1.out.row
   have hbl1:b1 < w1.heap.size:=(Array.getElem?_eq_some_iff.1 H1.out.blk).1
   have hrow2:wc.ownsRow 0 94 2 va (P.act s x).2.items.length (itemsV (P.act s x).2.items):=ownsRow_frame H1.out.row (fun k hk=>H2.out.chg.block k (hlt1 k hk) (hvR k hk))
   have hblk1:wc.heap[b1]?=some (.cells #[.int .i64 (P.act s x).2.code,.int .i64 (P.act s x).2.why,va] 66 (0,0)):=by rw [H2.out.chg.block b1 hbl1 hb1R]; exact H1.out.blk
   have hblk2:=H2.out.blk
   have hrowr:=H2.out.row
   rw [Hans.out] at hrow2 hblk1
   have i1:=ownsRow_items hrow2
   have i2:=ownsRow_items hrowr
   have HROW:Hid (type_of% hrow2):=hrow2
   have hBoth:BothAt P wc bb p r (P.act s x).1 (st.doT x).1 ownP' ownR':=by
    refine ⟨?_,P.frame H1.out.rep (fun k hk=>H2.out.chg.block k (P.old H1.out.rep k hk) (oP' k hk)) hsz2,H2.out.rep,?_,H1.out.chg.off HB.out.np (by omega),H2.out.chg.off HB.out.nr (by omega)⟩
    ·rw [H2.out.chg.block bb (by omega) HB.out.nr]; exact HE1.out
    ·intro k hk
     exact H2.out.chg.off (oP' k hk) (P.old H1.out.rep k hk)
   have hChg:ChgD (ownP.or ownR) wA wc (ownP'.or ownR'):=by
    refine ⟨H2.out.chg.os.trans H1.out.chg.os,H2.out.chg.tape.trans H1.out.chg.tape,H2.out.chg.output.trans H1.out.chg.output,Nat.le_trans hsz1 hsz2,?_,?_⟩
    ·intro k hk hn
     obtain ⟨n1,n2⟩:=Own.or_none.1 hn
     rw [H2.out.chg.block k (by omega) n2,H1.out.chg.block k hk n1]
    ·intro k hk
     cases hq:ownP' k with
     | some t =>
      rcases H1.out.chg.fresh k (by rw [hq]; simp) with h | h
      ·exact .inl (Own.or_left h)
      ·exact .inr h
     | none =>
      rcases H2.out.chg.fresh k (fun e=>hk (Own.or_none.2 ⟨hq,e⟩)) with h | h
      ·exact .inl (Own.or_right h)
      ·exact .inr (by omega)
   have hOut:∀ b,va.ownBlock=some b→ownP'.or ownR' b=none∧(ownP.or ownR b≠none∨w.heap.size≤b):=fun k hk=>by
    obtain ⟨h1,h2,_⟩:=H1.out.out k hk
    refine ⟨Own.or_none.2 ⟨h1,H2.out.chg.off (hvR k hk) (hlt1 k hk)⟩,?_⟩
    rcases h2 with h2 | h2
    ·exact .inl (Own.or_left h2)
    ·exact .inr (by have:=HA.out.size; omega)
   have HBOTH:Hid (type_of% hBoth):=hBoth
   have HCHG:Hid (ChgD (ownP.or ownR) w wc (ownP'.or ownR')):=(ChgD.of_below HA.out).trans hChg
   have HOUT:Hid (type_of% hOut):=hOut
   obtain ⟨y0,y1,y2,_,_,_⟩:=ans_cells hblk1
   obtain ⟨z0,z1,z2,_,_,_⟩:=ans_cells hblk2
   have ky0:=kin_cell y0
   have ky1:=kin_cell y1
   have ky2:=kin_cell y2
   have kz0:=kin_cell z0
   have kz1:=kin_cell z1
   have kz2:=kin_cell z2
   have hki:=kin_some wc
   have hsm:∀ q:Kin wc,Calls Try.prog 66 #[va,vr] q.w fun e w'=>e=.returned (.bool true)∧∃ y:Kin wc,w'=y.w:=fun q =>
    Calls.kin (sameItems_is (isItems_below i1 q.h) (isItems_below i2 q.h))
   have HSM:Hid (type_of% hsm):=hsm
   clear hsm hBoth hChg hOut i1 i2 hrow2 hrowr hblk1 hblk2 H2 H1 hlt1 hbl1 hvR hb1R oP' y0 y1 y2 z0 z1 z2
   go_upto_region 3 with fail
   refine wp_region_kin (by kernel_rfl) (by kernel_rfl) ?_
   repeat (first | go_big_quiet_step ((go_at_call 66; exact HSM.out _)) | quiet_step ((go_at_call 66; exact HSM.out _)))
   refine wpQuiet_nil ?_
   intro _ hw'
   obtain ⟨xq,hw''⟩:=hw'
   subst hw''
   go_wp2
   go_ret2
   refine ⟨va,rfl,ownP',ownR',ownsRow_below HROW.out xq.h,HBOTH.out.below xq.h,HCHG.out.trans (ChgD.of_below xq.h),HOUT.out⟩
end Go.Proofs.Ytpbcplfpjcacfaa
