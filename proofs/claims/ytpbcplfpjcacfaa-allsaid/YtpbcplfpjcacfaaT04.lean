import Derived.Test.YtpbcplfpjcacfaaT03
namespace Go.Proofs.Ytpbcplfpjcacfaa
open Go.RowKit
set_option linter.unusedSimpArgs false
set_option maxRecDepth 100000
set_option maxHeartbeats 8000000
def gSet (g:Gh) (x:Wh) (z:Value × Value × Value):Gh:=fun y=>if y=x then z else g y
theorem gSet_same (g:Gh) (x:Wh) (z:Value × Value × Value):gSet g x z x=z:=by simp [gSet]
theorem gSet_other (g:Gh) {x y:Wh} (z:Value × Value × Value) (h:y≠x):gSet g x z y=g y:=by simp [gSet,h]
theorem txnC_other (g:Gh) {x:Wh} (z:Value × Value × Value) {t:Tx} (h:t.who≠x):txnC (gSet g x z) t=txnC g t:=by simp [txnC,gSet_other g z h]
theorem info162:(Try.prog.info? 171).map (fun i=>(i.zero,i.size,i.bytes))=some (some (.agg #[.int .i64 0,.int .i64 0]),2,16):=by kernel_rfl
theorem Mem.olds_app {wr W w1:World} {r:Nat} {st:RS} {own:Own} {g:Gh} {vp vr ve:Value} {bt cap n gg cap' H:Nat} {t:Tx} {o:Int × Int}
  (P:Mem wr r st own g vp (.slice (some ⟨bt,0,none⟩) st.txns.length cap) vr ve) (hu:st.uniq) (hn:st.txns[n]?=some t)
  (hWb:∀ k,k < wr.heap.size→W.heap[k]?=wr.heap[k]?) (hWs:wr.heap.size≤W.heap.size) (hWo:W.os=wr.os) (hWt:W.tape=wr.tape) (hWp:W.output=wr.output)
  (hgrow:W.grownBy w1 (g t.who).1.ownBlock) (hown1:w1.ownsRow 0 171 2 (.slice (some ⟨gg,0,none⟩) (t.olds.length+1) cap') (t.olds.length+1) (t.olds.flatMap itemV++itemV o))
  (hat:(g t.who).1.ownBlock=some gg∨gg=H) (hH:wr.heap.size≤H) (hlt:gg < w1.heap.size) :
  ∃ own',Rep (w1.setCell ⟨bt,n*19+4,none⟩ (.slice (some ⟨gg,0,none⟩) (t.olds.length+1) cap')) r { st with txns:=st.txns.set n { t with olds:=t.olds++[o] } } own' ∧
   Chg own wr (w1.setCell ⟨bt,n*19+4,none⟩ (.slice (some ⟨gg,0,none⟩) (t.olds.length+1) cap')) own':=by
 have hmem:t∈st.txns:=List.mem_of_getElem? hn
 have hro:=P.olds t hmem
 obtain ⟨hchg,hkeep,hrowL,hrowO,hold'⟩:=grow_txn (t0:=(6,t.who)) (F':=txnC (gSet g t.who (.slice (some ⟨gg,0,none⟩) (t.olds.length+1) cap',(g t.who).2))) (y':={ t with olds:=t.olds++[o] }) (j:=4) (n:=n) (x:=o) (f:=itemV)
  P.txns (len_txnC g) (len_txnC _) hn (by decide) (P.txns.2 bt rfl) (by intro h; cases h)
  (by simp [txnC,gSet_same,stepC]) (fun m y hm hne=>txnC_other g _ (fun e=>hne (hu m n y t hm hn e)))
  P.old hro.2 hWb hWs hWo hWt hWp hgrow hown1 hat hH hlt
 refine ⟨_,⟨gSet g t.who (.slice (some ⟨gg,0,none⟩) (t.olds.length+1) cap',(g t.who).2),vp,.slice (some ⟨bt,0,none⟩) st.txns.length cap,vr,ve,?_⟩,hchg⟩
 have split:∀ u∈st.txns.set n { t with olds:=t.olds++[o] },(u={ t with olds:=t.olds++[o] })∨(u∈st.txns∧u.who≠t.who):=by
  intro u hm
  obtain ⟨m,hm⟩:=List.mem_iff_getElem?.1 hm
  by_cases hmn:m=n
  ·subst hmn
   have hlt':m < st.txns.length:=(List.getElem?_eq_some_iff.1 hn).1
   rw [List.getElem?_set_self hlt'] at hm
   left; exact (Option.some.inj hm).symm
  ·rw [List.getElem?_set_ne (Ne.symm hmn)] at hm
   right; exact ⟨List.mem_of_getElem? hm,fun e=>hmn (hu m n u t hm hn e)⟩
 exact {
  root:=by rw [hkeep r _ P.rootTag (by intro h; cases h) (by decide)]; exact P.root
  rootTag:=hchg.ext _ _ P.rootTag
  places:=P.places.frame (fun b hb=>hkeep b _ hb (by intro h; cases h) (by decide)) (fun b hb=>hchg.ext b _ hb)
  txns:=by
   have e:(st.txns.set n { t with olds:=t.olds++[o] }).length=st.txns.length:=by simp
   exact hrowL
  recs:=P.recs.frame (fun b hb=>hkeep b _ hb (by intro h; cases h) (by decide)) (fun b hb=>hchg.ext b _ hb)
  ended:=P.ended.frame (fun b hb=>hkeep b _ hb (by intro h; cases h) (by decide)) (fun b hb=>hchg.ext b _ hb)
  olds:=fun u hm=>by
   rcases split u hm with rfl | ⟨hm',hw⟩
   ·simp only [gSet_same]; exact hrowO
   ·rw [gSet_other g _ hw]
    exact (P.olds u hm').frame (fun b hb=>hkeep b _ hb (by intro h; exact hw (by injection h)) (by intro h; cases h)) (fun b hb=>hchg.ext b _ hb)
  puts:=fun u hm=>by
   rcases split u hm with rfl | ⟨hm',hw⟩
   ·simp only [gSet_same]; exact (P.puts t hmem).frame (fun b hb=>hkeep b _ hb (by intro h; cases h) (by intro h; cases h)) (fun b hb=>hchg.ext b _ hb)
   ·rw [gSet_other g _ hw]
    exact (P.puts u hm').frame (fun b hb=>hkeep b _ hb (by intro h; cases h) (by intro h; cases h)) (fun b hb=>hchg.ext b _ hb)
  told:=fun u hm hr=>by
   rcases split u hm with rfl | ⟨hm',hw⟩
   ·simp only [gSet_same]; exact (P.told t hmem hr).frame (fun b hb=>hkeep b _ hb (by intro h; cases h) (by intro h; cases h)) (fun b hb=>hchg.ext b _ hb)
   ·rw [gSet_other g _ hw]
    exact (P.told u hm' hr).frame (fun b hb=>hkeep b _ hb (by intro h; cases h) (by intro h; cases h)) (fun b hb=>hchg.ext b _ hb)
  toldV:=fun u hm=>by
   rcases split u hm with rfl | ⟨hm',hw⟩
   ·simp only [gSet_same]; exact P.toldV t hmem
   ·rw [gSet_other g _ hw]; exact P.toldV u hm'
  old:=hold' }
theorem write_any (r:Nat) (st:RS) (own:Own) (n:Nat) (t:Tx) (key v:Int) (w:World) (hm:Rep w r st own) (hu:st.uniq) (hn:st.txns[n]?=some t) (hpl:st.places.length < 4294967296) (hol:t.olds.length < 4294967296) :
  Calls Try.prog 127 #[.pointer (some ⟨r,0,none⟩),.int .i64 n,.int .i64 key,.int .i64 v] w fun e w'=>e=.returned (.tuple #[])∧∃ own',Rep w' r (st.writeT n t key v) own'∧Chg own w w' own':=by
 obtain ⟨i0,hi0,hz0,hs0,hb0⟩:=info_all info162
 obtain ⟨g,vp,vt,vr,ve,m⟩:=hm
 have M:=m
 obtain ⟨ao,cap,rfl,hmax,hel⟩:=m.txns.form (len_txnC g)
 obtain ⟨bt,rfl,hbo,hbt,hrg,hfz⟩:=hel n t hn
 have hlt:n < st.txns.length:=(List.getElem?_eq_some_iff.1 hn).1
 have hmem:t∈st.txns:=List.mem_of_getElem? hn
 obtain ⟨ao2,cap2,hg1,hmax2,hel2⟩:=(m.olds t hmem).form len_itemC
 have hrlt:=m.old r (by rw [m.rootTag]; simp)
 have hr4:w.cell? ⟨r,4,none⟩=some (.slice (some ⟨bt,0,none⟩) st.txns.length cap):=by rw [root_cell m.root]; rfl
 have y0:w.cell? ⟨bt,n*19,none⟩=some (.int .i64 t.who.1):=hrg 0 _ rfl
 have y1:w.cell? ⟨bt,n*19+1,none⟩=some (.int .i64 t.who.2.1):=hrg 1 _ rfl
 have y4:w.cell? ⟨bt,n*19+4,none⟩=some (.slice ao2 t.olds.length cap2):=by rw [← hg1]; exact hrg 4 _ rfl
 have MM:Hid (Mem w r st own g vp (.slice (some ⟨bt,0,none⟩) st.txns.length cap) vr ve):=M
 have Hn:Hid (st.txns[n]?=some t):=hn
 have HE2:Hid (∀ (k:Nat) (x:Int × Int),t.olds[k]?=some x→∃ b,ao2=some ⟨b,0,none⟩∧own b=some (6,t.who)∧b < w.heap.size∧w.rangeAt b (k*2) (itemV x)∧∀ j,w.frozen? ⟨b,j,none⟩=false):=hel2
 have HG1:Hid ((g t.who).1=.slice ao2 t.olds.length cap2):=hg1
 have zn:(n:Int) < (st.txns.length:Int):=by omega
 have hfn:=hfz (n*19+4)
 unfold maxLen at hmax hmax2
 clear m M hel hel2 hrg hg1 hn hfz
 go_enter Try.func127,Try.ntmps127
 go_wp2_with fail
 have hA:Below w.heap.size w (w.alloc (.cells #[.int .i64 t.who.1,.int .i64 t.who.2.1] 25)):=(Below.refl _ _).alloc (Nat.le_refl _) _
 go_loop [9,10] (fun kn i=>∃ k:Nat,k≤t.olds.length∧i=.int .i64 k∧kn=.bool (knownB (t.olds.take k) key)) (fun _ i=>t.olds.length - (intOf i).toNat)
 case atStart=>exact ⟨0,Nat.zero_le _,rfl,rfl⟩
 case round =>
  obtain ⟨k,hk,rfl,rfl⟩:=hrel
  have c4:=World.cell?_alloc_lt w (.cells #[.int .i64 t.who.1,.int .i64 t.who.2.1] 25) ⟨r,4,none⟩ hrlt
  by_cases hlt2:k < t.olds.length
  ·obtain ⟨b2,rfl,_,hb2,hrg2,_⟩:=HE2.out k _ (List.getElem?_eq_getElem hlt2)
   have gj:=List.getElem?_eq_getElem hlt2
   generalize t.olds[k]=o at hrg2 gj
   have z0:(w.alloc (.cells #[.int .i64 t.who.1,.int .i64 t.who.2.1] 25)).cell? ⟨b2,k*2,none⟩=some (.int .i64 o.1):=cell_later hA (hrg2 0 _ rfl)
   have zj:(k:Int) < (t.olds.length:Int):=by omega
   have q:knownB (t.olds.take (k+1)) key=(knownB (t.olds.take k) key || (o.1 == key)):=by
    rw [List.take_add_one,gj]; simp [knownB]
   have Q:Hid (knownB (t.olds.take (k+1)) key=(knownB (t.olds.take k) key || (o.1 == key))):=q
   clear q gj hrg2 HE2
   cases hkn:knownB (t.olds.take k) key
   ·have Q2:Hid (knownB (t.olds.take (k+1)) key=(o.1 == key)):=by have:=Q.out; rw [hkn,Bool.false_or] at this; exact this
    clear Q
    go_wp2
    go_round
    case rel=>exact ⟨k+1,by omega,by go_num,by rw [Q2.out]⟩
    case measure=>simp [intOf]; omega
   ·have Q2:Hid (knownB (t.olds.take (k+1)) key=true):=by have:=Q.out; rw [hkn,Bool.true_or] at this; exact this
    clear Q
    go_wp2
    go_round
    case rel=>exact ⟨k+1,by omega,by go_num,by rw [Q2.out]⟩
    case measure=>simp [intOf]; omega
  ·have e:k=t.olds.length:=by omega
   subst e
   rw [List.take_length]
   have MA:Hid (Mem (w.alloc (.cells #[.int .i64 t.who.1,.int .i64 t.who.2.1] 25)) r st own g vp (.slice (some ⟨bt,0,none⟩) st.txns.length cap) vr ve):=MM.out.below hA
   cases hkn:knownB t.olds key
   ·have hw:st.writeT n t key v=({ st with txns:=st.txns.set n { t with olds:=t.olds++[(key,st.val t.who.lab key)] } }:RS).setP t.who.lab key v:=by simp [RS.writeT,RS.keepOld,hkn]
    have Hw:Hid (st.writeT n t key v=({ st with txns:=st.txns.set n { t with olds:=t.olds++[(key,st.val t.who.lab key)] } }:RS).setP t.who.lab key v):=hw
    clear hw HE2
    go_wp2_with fail
    refine (value_any r st own t.who.1 t.who.2.1 key _ ⟨g,vp,_,vr,ve,MA.out⟩).mono ?_
    rintro e w1 ⟨rfl,hb1⟩
    have hB1:Below w.heap.size w w1:=hA.trans (hb1.mono hA.size)
    have hz1:w.heap.size < w1.heap.size:=by have:=hb1.size; simp at this; omega
    have x0:w1.cell? ⟨w.heap.size,0,none⟩=some (.int .i64 t.who.1):=by rw [hb1.cell (p:=⟨w.heap.size,0,none⟩) (by simp)]; simp
    have x1:w1.cell? ⟨w.heap.size,1,none⟩=some (.int .i64 t.who.2.1):=by rw [hb1.cell (p:=⟨w.heap.size,1,none⟩) (by simp)]; simp
    have s4:w1.cell? ⟨r,4,none⟩=some (.slice (some ⟨bt,0,none⟩) st.txns.length cap):=cell_later hB1 hr4
    have so:w1.cell? ⟨bt,n*19+4,none⟩=some (.slice ao2 t.olds.length cap2):=cell_later hB1 y4
    have M1:Hid (Mem w1 r st own g vp (.slice (some ⟨bt,0,none⟩) st.txns.length cap) vr ve):=MM.out.below hB1
    have hfb:w1.frozen? ⟨bt,n*19+4,none⟩=false:=by rw [hB1.frozen (p:=⟨bt,n*19+4,none⟩) hbt]; exact hfn
    generalize hov:st.val (t.who.1,t.who.2.1) key=ov
    have Hov:Hid (st.val t.who.lab key=ov):=hov
    clear hb1 hov hfn y0 y1 y4 hr4 hA MA c4
    go_wp2_with fail
    have hS:(fun w':World=>w'.cell? ⟨r,4,none⟩=some (.slice (some ⟨bt,0,none⟩) st.txns.length cap)∧w'.cell? ⟨bt,n*19+4,none⟩=some (.slice ao2 t.olds.length cap2)) w1.drew:=⟨s4,so⟩
    refine wp_region_Z (z:=20) (S:=fun w'=>w'.cell? ⟨r,4,none⟩=some (.slice (some ⟨bt,0,none⟩) st.txns.length cap)∧w'.cell? ⟨bt,n*19+4,none⟩=some (.slice ao2 t.olds.length cap2)) (by kernel_rfl) ?_
    refine zT (i:=0) (v:=?v1) (by decide +kernel) rfl (fun _ _ _ h=>h) hS (.inl ⟨by rfl,?y1⟩) ?_
    case y1=>(rintro wz ⟨zs0,zs1⟩; go_simp<;>with_reducible rfl)
    simp only [Act.put,z1,z2,z3,z4,z5,z6]
    refine zT (i:=1) (v:=?v2) (by decide +kernel) rfl (fun _ _ _ h=>h) hS (.inl ⟨by rfl,?y2⟩) ?_
    case y2=>(rintro wz ⟨zs0,zs1⟩; go_simp<;>with_reducible rfl)
    simp only [Act.put,z1,z2,z3,z4,z5,z6]
    refine zT (i:=2) (v:=?v3) (by decide +kernel) rfl (fun _ _ _ h=>h) hS (.inl ⟨by rfl,?y3⟩) ?_
    case y3=>(rintro wz ⟨zs0,zs1⟩; go_simp<;>with_reducible rfl)
    simp only [Act.put,z1,z2,z3,z4,z5,z6]
    refine zT (i:=3) (v:=?v4) (by decide +kernel) rfl (fun _ _ _ h=>h) hS (.inl ⟨by rfl,?y4⟩) ?_
    case y4=>(rintro wz ⟨zs0,zs1⟩; go_simp<;>with_reducible rfl)
    simp only [Act.put,z1,z2,z3,z4,z5,z6]
    refine zT (i:=4) (v:=?v5) (by decide +kernel) rfl (fun _ _ _ h=>h) hS (.inl ⟨by rfl,?y5⟩) ?_
    case y5=>(rintro wz ⟨zs0,zs1⟩; go_simp<;>with_reducible rfl)
    simp only [Act.put,z1,z2,z3,z4,z5,z6]
    refine zT (i:=5) (v:=?v6) (by decide +kernel) rfl (fun _ _ _ h=>h) hS (.inl ⟨by rfl,?y6⟩) ?_
    case y6=>(rintro wz ⟨zs0,zs1⟩; go_simp<;>with_reducible rfl)
    simp only [Act.put,z1,z2,z3,z4,z5,z6]
    refine zT (i:=6) (v:=?v7) (by decide +kernel) rfl (fun _ _ _ h=>h) hS (.inl ⟨by rfl,?y7⟩) ?_
    case y7=>(rintro wz ⟨zs0,zs1⟩; go_simp<;>with_reducible rfl)
    simp only [Act.put,z1,z2,z3,z4,z5,z6]
    refine zT (i:=7) (v:=?v8) (by decide +kernel) rfl (fun _ _ _ h=>h) hS (.inl ⟨by rfl,?y8⟩) ?_
    case y8=>(rintro wz ⟨zs0,zs1⟩; go_simp<;>with_reducible rfl)
    simp only [Act.put,z1,z2,z3,z4,z5,z6]
    refine zT (i:=8) (v:=?v9) (by decide +kernel) rfl (fun _ _ _ h=>h) hS (.inl ⟨by rfl,?y9⟩) ?_
    case y9=>(rintro wz ⟨zs0,zs1⟩; go_simp<;>with_reducible rfl)
    simp only [Act.put,z1,z2,z3,z4,z5,z6]
    refine zT (i:=9) (v:=?v10) (by decide +kernel) rfl (fun _ _ _ h=>h) hS (.inl ⟨by rfl,?y10⟩) ?_
    case y10=>(rintro wz ⟨zs0,zs1⟩; go_simp<;>with_reducible rfl)
    simp only [Act.put,z1,z2,z3,z4,z5,z6]
    refine zT (i:=10) (v:=?v11) (by decide +kernel) rfl (fun _ _ _ h=>h) hS (.inl ⟨by rfl,?y11⟩) ?_
    case y11=>(rintro wz ⟨zs0,zs1⟩; go_simp<;>with_reducible rfl)
    simp only [Act.put,z1,z2,z3,z4,z5,z6]
    refine zT (i:=11) (v:=?v12) (by decide +kernel) rfl (fun _ _ _ h=>h) hS (.inl ⟨by rfl,?y12⟩) ?_
    case y12=>(rintro wz ⟨zs0,zs1⟩; go_simp<;>with_reducible rfl)
    simp only [Act.put,z1,z2,z3,z4,z5,z6]
    refine zT (i:=12) (v:=?v13) (by decide +kernel) rfl (fun _ _ _ h=>h) hS (.inl ⟨by rfl,?y13⟩) ?_
    case y13=>(rintro wz ⟨zs0,zs1⟩; go_simp<;>with_reducible rfl)
    simp only [Act.put,z1,z2,z3,z4,z5,z6]
    refine zT (i:=13) (v:=?v14) (by decide +kernel) rfl (fun _ _ _ h=>h) hS (.inl ⟨by rfl,?y14⟩) ?_
    case y14=>(rintro wz ⟨zs0,zs1⟩; go_simp<;>with_reducible rfl)
    simp only [Act.put,z1,z2,z3,z4,z5,z6]
    refine zT (i:=14) (v:=?v15) (by decide +kernel) rfl (fun _ _ _ h=>h) hS (.inl ⟨by rfl,?y15⟩) ?_
    case y15=>(rintro wz ⟨zs0,zs1⟩; go_simp<;>with_reducible rfl)
    simp only [Act.put,z1,z2,z3,z4,z5,z6]
    refine zT (i:=15) (v:=?v16) (by decide +kernel) rfl (fun _ _ _ h=>h) hS (.inl ⟨by rfl,?y16⟩) ?_
    case y16=>(rintro wz ⟨zs0,zs1⟩; go_simp<;>with_reducible rfl)
    simp only [Act.put,z1,z2,z3,z4,z5,z6]
    have hrow:=(M1.out.olds t (List.mem_of_getElem? Hn.out))
    rw [HG1.out] at hrow
    have hx4:(w1.alloc (.cells #[.int .i64 key,.int .i64 ov] 171)).drew.cell? ⟨r,4,none⟩=some (.slice (some ⟨bt,0,none⟩) st.txns.length cap):=by
     rw [World.cell?_drew,World.cell?_alloc_lt _ _ _ (by show r < w1.heap.size; have:=hB1.size; omega)]; exact s4
    have hxo:(w1.alloc (.cells #[.int .i64 key,.int .i64 ov] 171)).drew.cell? ⟨bt,n*19+4,none⟩=some (.slice ao2 t.olds.length cap2):=by
     rw [World.cell?_drew,World.cell?_alloc_lt _ _ _ (by show bt < w1.heap.size; have:=hB1.size; omega)]; exact so
    refine wpAnyZ_one (i:=16) (by decide +kernel) rfl (fun K hK=>?_)
    go_simp
    refine hK _ _ (fun _=>⟨hx4,hxo⟩) ?_
    clear hK
    refine wpAnyZ_one (i:=17) (by decide +kernel) rfl (fun K hK=>?_)
    refine step_append_lies _ (by rfl) _ _ _ (by rfl) 0 171 i0 _ 2 16 Try.underlying160 hi0 hz0 hs0 hb0 rfl (by omega) (.slice ao2 t.olds.length cap2) t.olds.length (t.olds.flatMap itemV) (by rfl) ((hrow.1.alloc _).drew)
     ⟨w1.heap.size,0,none⟩ 1 1 [.int .i64 key,.int .i64 ov] (by rfl) (by rfl) (World.news_of_block (cs:=#[.int .i64 key,.int .i64 ov]) (t:=171) (fr:=(0,0)) (heap_alloc_new w1 _)) (by simp [Value.oneCell'])
     (by omega) (by unfold maxLen; omega) (by omega) (Nat.zero_le _) (w1.heap.size+1) (by simp) ?_
    intro gg cap' w2 hown1 hgrow hat hlt1
    simp only [Act.put,List.getElem_toArray,List.getElem_cons_zero,List.getElem_cons_succ,List.setIfInBounds_toArray,List.set_cons_zero,List.set_cons_succ]
    have hnb:∀ q,(Value.slice ao2 t.olds.length cap2).ownBlock=some q→own q=some (6,t.who):=hrow.2
    have nr:(Value.slice ao2 t.olds.length cap2).ownBlock≠some r:=fun e=>by have:=hnb r e; rw [MM.out.rootTag] at this; cases this
    have nb:(Value.slice ao2 t.olds.length cap2).ownBlock≠some bt:=fun e=>by have:=hnb bt e; rw [hbo] at this; cases this
    have q4:w2.cell? ⟨r,4,none⟩=some (.slice (some ⟨bt,0,none⟩) st.txns.length cap):=hgrow.cell hx4 (Ne.symm nr)
    have qo:w2.cell? ⟨bt,n*19+4,none⟩=some (.slice ao2 t.olds.length cap2):=hgrow.cell hxo (Ne.symm nb)
    have fo:w2.frozen? ⟨bt,n*19+4,none⟩=false:=by
     rw [World.frozen?_of_block (hgrow.block bt (by have:=hB1.size; simp; omega) (Ne.symm nb))]
     rw [World.frozen?_drew,World.frozen?_alloc_past _ _ _ (by have:=hB1.size; omega)]; exact hfb
    refine hK _ _ (fun _=>⟨q4,qo⟩) ?_
    clear hK
    refine wpAnyZ_one (i:=18) (by decide +kernel) rfl (fun K hK=>?_)
    go_simp
    refine hK _ _ (fun _=>⟨q4,qo⟩) ?_
    clear hK
    refine wpAnyZ_one (i:=19) (by decide +kernel) rfl (fun K hK=>?_)
    go_simp
    refine hK _ _ (fun _=>⟨q4,qo⟩) ?_
    clear hK
    refine wpAnyZ_one (i:=20) (by decide +kernel) rfl (fun K hK=>?_)
    go_simp
    refine hK _ _ (fun h=>absurd rfl h) ?_
    clear hK
    refine wpAnyZ_done (by decide +kernel) ?_ _
    have hgrow':=hgrow
    rw [← HG1.out] at hgrow' hat
    obtain ⟨own2,hrep2,hchg2⟩:=M1.out.olds_app (W:=(w1.alloc (.cells #[.int .i64 key,.int .i64 ov] 171)).drew) (H:=w1.heap.size+1) (o:=(key,ov)) hu Hn.out (fun k hk=>Below.heap_alloc _ _ _ hk) (by simp) rfl rfl rfl hgrow' hown1 hat (by omega) hlt1
    have nx:(Value.slice ao2 t.olds.length cap2).ownBlock≠some w.heap.size:=fun e=>by
     have:=MM.out.old w.heap.size (by rw [hnb _ e]; simp)
     omega
    have u0:w2.cell? ⟨w.heap.size,0,none⟩=some (.int .i64 t.who.1):=hgrow.cell (by rw [World.cell?_drew,World.cell?_alloc_lt _ _ _ (by show w.heap.size < w1.heap.size; omega)]; exact x0) (Ne.symm nx)
    have u1:w2.cell? ⟨w.heap.size,1,none⟩=some (.int .i64 t.who.2.1):=hgrow.cell (by rw [World.cell?_drew,World.cell?_alloc_lt _ _ _ (by show w.heap.size < w1.heap.size; omega)]; exact x1) (Ne.symm nx)
    have nbx:bt≠w.heap.size:=by omega
    have v0:(w2.setCell ⟨bt,n*19+4,none⟩ (.slice (some ⟨gg,0,none⟩) (t.olds.length+1) cap')).cell? ⟨w.heap.size,0,none⟩=some (.int .i64 t.who.1):=by
     rw [World.cell?_setCell_other _ _ _ _ (by intro h; injection h with h; exact nbx h)]; exact u0
    have v1:(w2.setCell ⟨bt,n*19+4,none⟩ (.slice (some ⟨gg,0,none⟩) (t.olds.length+1) cap')).cell? ⟨w.heap.size,1,none⟩=some (.int .i64 t.who.2.1):=by
     rw [World.cell?_setCell_other _ _ _ _ (by intro h; injection h with h; exact nbx h)]; exact u1
    generalize w2.setCell ⟨bt,n*19+4,none⟩ (.slice (some ⟨gg,0,none⟩) (t.olds.length+1) cap')=w3 at *
    clear hown1 hgrow hgrow' hat hlt1 hrow hx4 hxo q4 qo fo u0 u1 s4 so x0 x1
    go_wp2_with fail
    refine (set_any r _ own2 t.who.1 t.who.2.1 key v _ hrep2 hpl).mono ?_
    rintro e w4 ⟨rfl,own',hrep,hchg⟩
    go_wp2
    go_end0
    refine ⟨rfl,own',?_,((Chg.of_below hB1).trans hchg2).trans hchg⟩
    rw [Hw.out,Hov.out]; exact hrep
   ·have hw:st.writeT n t key v=st.setP t.who.lab key v:=by simp [RS.writeT,RS.keepOld,hkn]
    have Hw:Hid (st.writeT n t key v=st.setP t.who.lab key v):=hw
    clear hw
    go_wp2_with fail
    refine (set_any r st own t.who.1 t.who.2.1 key v _ ⟨g,vp,_,vr,ve,MA.out⟩ hpl).mono ?_
    rintro e w1 ⟨rfl,own',hrep,hchg⟩
    go_wp2
    go_end0
    refine ⟨rfl,own',?_,(Chg.of_below hA).trans hchg⟩
    rw [Hw.out]; exact hrep
end Go.Proofs.Ytpbcplfpjcacfaa
namespace Go.Proofs.Ytpbcplfpjcacfaa
open Go.RowKit
set_option maxRecDepth 100000
set_option maxHeartbeats 8000000
theorem dominates_any (a b c d:Int) (w:World) :
  Calls Try.prog 113 #[.agg #[.int .i64 a,.int .i64 b],.agg #[.int .i64 c,.int .i64 d]] w fun e w'=>e=.returned (.bool (domB a b c d))∧Below w.heap.size w w':=by
 go_enter Try.func113,Try.ntmps113
 go_wp2_with fail
 go_loop [5,6] (fun bs i=>∃ k:Nat,k≤3∧i=.int .i64 k∧bs=.bool (okTo b d k)) (fun _ i=>3 - (intOf i).toNat)
 case atStart=>exact ⟨0,by omega,rfl,rfl⟩
 case round =>
  obtain ⟨k,hk,rfl,rfl⟩:=hrel
  have hB:Below w.heap.size w ((w.alloc (.cells #[.int .i64 a,.int .i64 b] 25)).alloc (.cells #[.int .i64 c,.int .i64 d] 25)):=below2r
  have hk4:k=0∨k=1∨k=2∨k=3:=by omega
  rcases hk4 with rfl | rfl | rfl | rfl
  ·have q:okTo b d 1=(okTo b d 0 && !(bitOf d 0 == 1 && bitOf b 0 == 0)):=rfl
   have Q:Hid (okTo b d 1=(okTo b d 0 && !(bits BinOp.and IntKind.i64 d 1 == 1 && bits BinOp.and IntKind.i64 b 1 == 0))):=q
   clear q
   generalize okTo b d 0=z at *
   by_cases h1:bits BinOp.and IntKind.i64 d 1=1
   ·have g1:(bits BinOp.and IntKind.i64 d 1 == 1)=true:=by simpa using h1
    have H1:Hid ((bits BinOp.and IntKind.i64 d 1 == 1)=true):=g1
    clear h1
    by_cases h2:bits BinOp.and IntKind.i64 b 1=0
    ·have g2:(bits BinOp.and IntKind.i64 b 1 == 0)=true:=by simpa using h2
     have H2:Hid ((bits BinOp.and IntKind.i64 b 1 == 0)=true):=g2
     clear h2
     go_wp2
     go_round
     case rel=>exact ⟨1,by omega,rfl,by rw [Q.out,H1.out,H2.out]; simp⟩
     case measure=>simp [intOf]
    ·have g2:(bits BinOp.and IntKind.i64 b 1 == 0)=false:=by simpa using h2
     have H2:Hid ((bits BinOp.and IntKind.i64 b 1 == 0)=false):=g2
     clear h2
     go_wp2
     go_round
     case rel=>exact ⟨1,by omega,rfl,by rw [Q.out,H1.out,H2.out]; simp⟩
     case measure=>simp [intOf]
   ·have g1:(bits BinOp.and IntKind.i64 d 1 == 1)=false:=by simpa using h1
    have H1:Hid ((bits BinOp.and IntKind.i64 d 1 == 1)=false):=g1
    clear h1
    go_wp2
    go_round
    case rel=>exact ⟨1,by omega,rfl,by rw [Q.out,H1.out]; simp⟩
    case measure=>simp [intOf]
  ·have q:okTo b d 2=(okTo b d 1 && !(bitOf d 1 == 1 && bitOf b 1 == 0)):=rfl
   have Q:Hid (okTo b d 2=(okTo b d 1 && !(bits BinOp.and IntKind.i64 (d / 2) 1 == 1 && bits BinOp.and IntKind.i64 (b / 2) 1 == 0))):=q
   clear q
   generalize okTo b d 1=z at *
   by_cases h1:bits BinOp.and IntKind.i64 (d / 2) 1=1
   ·have g1:(bits BinOp.and IntKind.i64 (d / 2) 1 == 1)=true:=by simpa using h1
    have H1:Hid ((bits BinOp.and IntKind.i64 (d / 2) 1 == 1)=true):=g1
    clear h1
    by_cases h2:bits BinOp.and IntKind.i64 (b / 2) 1=0
    ·have g2:(bits BinOp.and IntKind.i64 (b / 2) 1 == 0)=true:=by simpa using h2
     have H2:Hid ((bits BinOp.and IntKind.i64 (b / 2) 1 == 0)=true):=g2
     clear h2
     go_wp2
     go_round
     case rel=>exact ⟨2,by omega,rfl,by rw [Q.out,H1.out,H2.out]; simp⟩
     case measure=>simp [intOf]
    ·have g2:(bits BinOp.and IntKind.i64 (b / 2) 1 == 0)=false:=by simpa using h2
     have H2:Hid ((bits BinOp.and IntKind.i64 (b / 2) 1 == 0)=false):=g2
     clear h2
     go_wp2
     go_round
     case rel=>exact ⟨2,by omega,rfl,by rw [Q.out,H1.out,H2.out]; simp⟩
     case measure=>simp [intOf]
   ·have g1:(bits BinOp.and IntKind.i64 (d / 2) 1 == 1)=false:=by simpa using h1
    have H1:Hid ((bits BinOp.and IntKind.i64 (d / 2) 1 == 1)=false):=g1
    clear h1
    go_wp2
    go_round
    case rel=>exact ⟨2,by omega,rfl,by rw [Q.out,H1.out]; simp⟩
    case measure=>simp [intOf]
  ·have q:okTo b d 3=(okTo b d 2 && !(bitOf d 2 == 1 && bitOf b 2 == 0)):=rfl
   have Q:Hid (okTo b d 3=(okTo b d 2 && !(bits BinOp.and IntKind.i64 (d / 4) 1 == 1 && bits BinOp.and IntKind.i64 (b / 4) 1 == 0))):=q
   clear q
   generalize okTo b d 2=z at *
   by_cases h1:bits BinOp.and IntKind.i64 (d / 4) 1=1
   ·have g1:(bits BinOp.and IntKind.i64 (d / 4) 1 == 1)=true:=by simpa using h1
    have H1:Hid ((bits BinOp.and IntKind.i64 (d / 4) 1 == 1)=true):=g1
    clear h1
    by_cases h2:bits BinOp.and IntKind.i64 (b / 4) 1=0
    ·have g2:(bits BinOp.and IntKind.i64 (b / 4) 1 == 0)=true:=by simpa using h2
     have H2:Hid ((bits BinOp.and IntKind.i64 (b / 4) 1 == 0)=true):=g2
     clear h2
     go_wp2
     go_round
     case rel=>exact ⟨3,by omega,rfl,by rw [Q.out,H1.out,H2.out]; simp⟩
     case measure=>simp [intOf]
    ·have g2:(bits BinOp.and IntKind.i64 (b / 4) 1 == 0)=false:=by simpa using h2
     have H2:Hid ((bits BinOp.and IntKind.i64 (b / 4) 1 == 0)=false):=g2
     clear h2
     go_wp2
     go_round
     case rel=>exact ⟨3,by omega,rfl,by rw [Q.out,H1.out,H2.out]; simp⟩
     case measure=>simp [intOf]
   ·have g1:(bits BinOp.and IntKind.i64 (d / 4) 1 == 1)=false:=by simpa using h1
    have H1:Hid ((bits BinOp.and IntKind.i64 (d / 4) 1 == 1)=false):=g1
    clear h1
    go_wp2
    go_round
    case rel=>exact ⟨3,by omega,rfl,by rw [Q.out,H1.out]; simp⟩
    case measure=>simp [intOf]
  ·by_cases hle:c≤a
   ·have q:domB a b c d=okTo b d 3:=by unfold domB; rw [decide_eq_true hle,Bool.true_and]
    have Q:Hid (domB a b c d=okTo b d 3):=q
    clear q
    generalize okTo b d 3=z at *
    go_wp2
    go_ret
    exact ⟨ret_bool Q.out.symm,hB⟩
   ·have q:domB a b c d=false:=by unfold domB; rw [decide_eq_false hle,Bool.false_and]
    have Q:Hid (domB a b c d=false):=q
    clear q
    generalize okTo b d 3=z at *
    go_wp2
    go_ret
    exact ⟨ret_bool Q.out.symm,hB⟩
theorem isLabel_is {a b:Int} {v:Bool} (h:labB a b=v) (w:World):Calls Try.prog 40 #[.agg #[.int .i64 a,.int .i64 b]] w fun e w'=>e=.returned (.bool v)∧Below w.heap.size w w':=by
 subst h; exact isLabel_any a b w
theorem proper_any (x:Stp) (w:World) :
  Calls Try.prog 16 #[stepV x] w fun e w'=>e=.returned (.bool (properB x))∧Below w.heap.size w w':=by
 unfold stepV
 cases h1:labB x.who.1 x.who.2.1
 ·go_enter Try.func16,Try.ntmps16
  go_wp2_with fail
  refine (isLabel_is h1 _).mono ?_
  rintro e w1 ⟨rfl,hb⟩
  have hB:Below w.heap.size w w1:=((Below.refl _ _).alloc (Nat.le_refl _) _).trans (hb.mono (by simp))
  go_wp2
  go_ret
  exact ⟨ret_bool (by simp [properB,h1]),hB⟩
 ·by_cases h2:0≤x.who.2.2∧x.who.2.2≤3∧1≤x.op∧x.op≤8
  ·cases h3:asksB x.op
   ·have n3:¬ (x.op=2∨x.op=3∨x.op=4∨x.op=5):=of_decide_eq_false h3
    have m2:(x.op != 2)=true:=by simp; omega
    have m3:(x.op != 3)=true:=by simp; omega
    have m4:(x.op != 4)=true:=by simp; omega
    have m5:(x.op != 5)=true:=by simp; omega
    have fin:properB x=true:=by simp [properB,h1,h2,h3]
    have Fin:Hid (properB x=true):=fin
    clear fin n3
    obtain ⟨a1,a2,a3,a4⟩:=h2
    go_enter Try.func16,Try.ntmps16
    go_wp2_with fail
    refine (isLabel_is h1 _).mono ?_
    rintro e w1 ⟨rfl,hb⟩
    have hB:Below w.heap.size w w1:=((Below.refl _ _).alloc (Nat.le_refl _) _).trans (hb.mono (by simp))
    obtain ⟨hc,_⟩:=bcell hb
    go_wp2
    go_ret
    exact ⟨ret_bool Fin.out.symm,hB⟩
   ·have n3:x.op=2∨x.op=3∨x.op=4∨x.op=5:=of_decide_eq_true h3
    obtain ⟨a1,a2,a3,a4⟩:=h2
    have fin:properB x=(labB x.at_.1 x.at_.2 && decide (0≤x.key∧x.key≤15) && (!decide (x.op=3) || decide (x.key≤x.to_∧x.to_≤15)) && (!decide (x.op=4) || decide (0≤x.value∧x.value≤999))):=by
     simp [properB,h1,h3,a1,a2,a3,a4]
    have Fin:Hid (properB x=(labB x.at_.1 x.at_.2 && decide (0≤x.key∧x.key≤15) && (!decide (x.op=3) || decide (x.key≤x.to_∧x.to_≤15)) && (!decide (x.op=4) || decide (0≤x.value∧x.value≤999)))):=fin
    clear fin h3 a3 a4
    cases h4:labB x.at_.1 x.at_.2
    ·rcases n3 with hop | hop | hop | hop
     all_goals
      go_enter Try.func16,Try.ntmps16
      go_wp2_with fail
      refine (isLabel_is h1 _).mono ?_
      rintro e w1 ⟨rfl,hb⟩
      have hB:Below w.heap.size w w1:=((Below.refl _ _).alloc (Nat.le_refl _) _).trans (hb.mono (by simp))
      obtain ⟨hc,_⟩:=bcell hb
      go_wp2_with fail
      refine (isLabel_is h4 _).mono ?_
      rintro e w2 ⟨rfl,hb2⟩
      have hB2:Below w.heap.size w w2:=hB.trans (hb2.mono hB.size)
      go_wp2
      go_ret
      exact ⟨ret_bool (by rw [Fin.out,h4]; simp),hB2⟩
    ·rcases n3 with hop | hop | hop | hop
     all_goals
      go_enter Try.func16,Try.ntmps16
      go_wp2_with fail
      refine (isLabel_is h1 _).mono ?_
      rintro e w1 ⟨rfl,hb⟩
      have hB:Below w.heap.size w w1:=((Below.refl _ _).alloc (Nat.le_refl _) _).trans (hb.mono (by simp))
      obtain ⟨hc,_⟩:=bcell hb
      have z1:w.heap.size < w1.heap.size:=by have:=hb.size; simp at this; omega
      clear hb
      go_wp2_with fail
      refine (isLabel_is h4 _).mono ?_
      rintro e w2 ⟨rfl,hb2⟩
      have hB2:Below w.heap.size w w2:=hB.trans (hb2.mono hB.size)
      obtain ⟨hc2,_⟩:=bcell hb2
      clear hb2
      go_wp2
      all_goals go_ret
      all_goals refine ⟨ret_bool ?_,hB2⟩
      all_goals rw [Fin.out,h4,hop,Bool.eq_iff_iff]
      all_goals simp
      all_goals omega
  ·have h2':x.who.2.2 < 0∨(0≤x.who.2.2∧3 < x.who.2.2)∨(0≤x.who.2.2∧x.who.2.2≤3∧x.op < 1)∨(0≤x.who.2.2∧x.who.2.2≤3∧1≤x.op∧8 < x.op):=by omega
   have fin:properB x=false:=by simp [properB,h1,h2]
   have Fin:Hid (properB x=false):=fin
   clear fin h2
   rcases h2' with a1 | ⟨a1,a2⟩ | ⟨a1,a2,a3⟩ | ⟨a1,a2,a3,a4⟩
   all_goals
    go_enter Try.func16,Try.ntmps16
    go_wp2_with fail
    refine (isLabel_is h1 _).mono ?_
    rintro e w1 ⟨rfl,hb⟩
    have hB:Below w.heap.size w w1:=((Below.refl _ _).alloc (Nat.le_refl _) _).trans (hb.mono (by simp))
    obtain ⟨hc,_⟩:=bcell hb
    go_wp2
    go_ret
    exact ⟨ret_bool Fin.out.symm,hB⟩
end Go.Proofs.Ytpbcplfpjcacfaa
namespace Go.Proofs.Ytpbcplfpjcacfaa
open Go.RowKit
set_option linter.unusedSimpArgs false
set_option maxRecDepth 100000
set_option maxHeartbeats 8000000
theorem Rep.free {w:World} {r:Nat} {st:RS} {own:Own} (h:Rep w r st own) {b j:Nat} (hb:own b=none) (u:Value):Rep (w.setCell ⟨b,j,none⟩ u) r st own:=by
 obtain ⟨g,vp,vt,vr,ve,P⟩:=h
 have k:∀ c t,own c=some t→(w.setCell ⟨b,j,none⟩ u).heap[c]?=w.heap[c]?:=fun c t hc=>heap_setCell_ne _ _ _ _ _ (fun e=>by rw [e,hb] at hc; cases hc)
 refine ⟨g,vp,vt,vr,ve,?_⟩
 exact {
  root:=by rw [k r _ P.rootTag]; exact P.root
  rootTag:=P.rootTag
  places:=P.places.frame (fun c hc=>k c _ hc) (fun _ h=>h)
  txns:=P.txns.frame (fun c hc=>k c _ hc) (fun _ h=>h)
  recs:=P.recs.frame (fun c hc=>k c _ hc) (fun _ h=>h)
  ended:=P.ended.frame (fun c hc=>k c _ hc) (fun _ h=>h)
  olds:=fun t ht=>(P.olds t ht).frame (fun c hc=>k c _ hc) (fun _ h=>h)
  puts:=fun t ht=>(P.puts t ht).frame (fun c hc=>k c _ hc) (fun _ h=>h)
  told:=fun t ht hr=>(P.told t ht hr).frame (fun c hc=>k c _ hc) (fun _ h=>h)
  toldV:=P.toldV
  old:=fun c hc=>by have:=P.old c hc; simpa using this }
theorem Chg.free {own own':Own} {w w':World} (h:Chg own w w' own') {b j:Nat} (hb:w.heap.size≤b) (u:Value):Chg own w (w'.setCell ⟨b,j,none⟩ u) own' :=
 ⟨h.os,h.tape,h.output,by simpa using h.size,fun k hk hn=>by rw [heap_setCell_ne _ _ _ _ _ (by omega)]; exact h.block k hk hn,h.ext,h.fresh⟩
theorem Chg.none' {own own':Own} {w w':World} (h:Chg own w w' own') {b:Nat} (hb:own b=none) (hlt:b < w.heap.size):own' b=none:=by
 cases hq:own' b with
 | none=>rfl
 | some t =>
  rcases h.fresh b (by rw [hq]; simp) with h1 | h1
  ·exact absurd hb h1
  ·omega
theorem step_cells {w:World} {b:Nat} {ty:Nat} {x:Stp} (h:w.heap[b]?=some (.cells #[.int .i64 x.who.1,.int .i64 x.who.2.1,.int .i64 x.who.2.2,.int .i64 x.op,.int .i64 x.at_.1,.int .i64 x.at_.2,.int .i64 x.key,.int .i64 x.to_,.int .i64 x.value] ty (0,0))) :
  w.cell? ⟨b,0,none⟩=some (.int .i64 x.who.1)∧w.cell? ⟨b,1,none⟩=some (.int .i64 x.who.2.1)∧w.cell? ⟨b,2,none⟩=some (.int .i64 x.who.2.2)∧w.cell? ⟨b,3,none⟩=some (.int .i64 x.op)∧w.cell? ⟨b,4,none⟩=some (.int .i64 x.at_.1) ∧
  w.cell? ⟨b,5,none⟩=some (.int .i64 x.at_.2)∧w.cell? ⟨b,6,none⟩=some (.int .i64 x.key)∧w.cell? ⟨b,7,none⟩=some (.int .i64 x.to_)∧w.cell? ⟨b,8,none⟩=some (.int .i64 x.value):=by
 refine ⟨?_,?_,?_,?_,?_,?_,?_,?_,?_⟩<;>(rw [cell_of_row w b _ _ _ _ h]; rfl)
theorem works_del (r:Nat) (st:RS) (own:Own) (x:Stp) (n:Nat) (t:Tx) (w:World) (hm:Rep w r st own) (hu:st.uniq) (hn:st.txns[n]?=some t) (ht:t.who=x.who) (hpl:st.places.length < 4294967296) (hol:t.olds.length < 4294967296) (hop:x.op=5) :
  Calls Try.prog 112 #[.pointer (some ⟨r,0,none⟩),stepV x] w fun e w'=>e=.returned (ansV 0 0 (.slice none 0 0))∧∃ own',Rep w' r (st.writeT n t x.key (-1)) own'∧Chg own w w' own':=by
 obtain ⟨xw,xop,xa,xk,xt,xv⟩:=x
 simp only at hop ht ⊢
 subst hop
 have HL:Hid (st.live (xw.1,xw.2.1,xw.2.2)=(n:Int)):=live_at hn ht hu
 have hol0:∀ k,own k≠none→k < w.heap.size:=by obtain ⟨g,vp,vt,vr,ve,m⟩:=hm; exact m.old
 have hno:∀ k,w.heap.size≤k→own k=none:=fun k hk=>by
  cases hq:own k with
  | none=>rfl
  | some t=>have:=hol0 k (by rw [hq]; simp); omega
 have Hn:Hid (st.txns[n]?=some t):=hn
 have Ht:Hid (t.who=xw):=ht
 have Hno:Hid (∀ k,w.heap.size≤k→own k=none):=hno
 clear hn ht hno hol0
 unfold stepV ansV
 go_enter Try.func112,Try.ntmps112
 go_wp2_with fail
 have hA:Below w.heap.size w ((w.alloc (.cells #[.int .i64 xw.1,.int .i64 xw.2.1,.int .i64 xw.2.2,.int .i64 5,.int .i64 xa.1,.int .i64 xa.2,.int .i64 xk,.int .i64 xt,.int .i64 xv] 30)).alloc (.cells #[.int .i64 0,.int .i64 0,.slice none 0 0] 66)):=below2r
 refine (live_any r st own xw.1 xw.2.1 xw.2.2 _ (hm.below hA)).mono ?_
 rintro e w1 ⟨rfl,hb1⟩
 rw [HL.out]
 have hB1:Below w.heap.size w w1:=hA.trans (hb1.mono hA.size)
 have hz1:w.heap.size+2≤w1.heap.size:=by have:=hb1.size; simp at this; omega
 have hX:w1.heap[w.heap.size]?=some (.cells #[.int .i64 xw.1,.int .i64 xw.2.1,.int .i64 xw.2.2,.int .i64 5,.int .i64 xa.1,.int .i64 xa.2,.int .i64 xk,.int .i64 xt,.int .i64 xv] 30 (0,0)):=by
  rw [hb1.block _ (by simp; omega),Below.heap_alloc _ _ _ (by simp)]; exact heap_alloc_new w _
 have hR:w1.heap[w.heap.size+1]?=some (.cells #[.int .i64 0,.int .i64 0,.slice none 0 0] 66 (0,0)):=by
  rw [hb1.block _ (by simp)]
  have:=heap_alloc_new (w.alloc (.cells #[.int .i64 xw.1,.int .i64 xw.2.1,.int .i64 xw.2.2,.int .i64 5,.int .i64 xa.1,.int .i64 xa.2,.int .i64 xk,.int .i64 xt,.int .i64 xv] 30)) (.cells #[.int .i64 0,.int .i64 0,.slice none 0 0] 66 (0,0))
  simpa using this
 obtain ⟨c0,c1,c2,c3,c4,c5,c6,c7,c8⟩:=step_cells (x:=⟨xw,5,xa,xk,xt,xv⟩) hX
 simp only at c0 c1 c2 c3 c4 c5 c6 c7 c8
 have hm1:=hm.below hB1
 clear hb1 hA
 go_wp2_with fail
 refine (write_any r st own n t xk (-1) _ hm1 hu Hn.out hpl hol).mono ?_
 rintro e w2 ⟨rfl,own',hrep,hchg⟩
 have hfree:own' (w.heap.size+1)=none:=hchg.none' (Hno.out _ (by omega)) (by omega)
 have hR2:w2.heap[w.heap.size+1]?=some (.cells #[.int .i64 0,.int .i64 0,.slice none 0 0] 66 (0,0)):=by rw [hchg.block _ (by omega) (Hno.out _ (by omega))]; exact hR
 obtain ⟨d0,d1,d2,f0,f1,f2⟩:=ans_cells hR2
 have hst:=ans_stored (.int .i64 0) (.int .i64 0) (.slice none 0 0) hR2
 have hrep':=((hrep.free (j:=0) hfree (.int .i64 0)).free (j:=1) hfree (.int .i64 0)).free (j:=2) hfree (.slice none 0 0)
 have hch0:=(Chg.of_below (own:=own) hB1).trans hchg
 have hch':=((hch0.free (b:=w.heap.size+1) (j:=0) (by omega) (.int .i64 0)).free (b:=w.heap.size+1) (j:=1) (by omega) (.int .i64 0)).free (b:=w.heap.size+1) (j:=2) (by omega) (.slice none 0 0)
 have HS:Hid ((((w2.setCell ⟨w.heap.size+1,0,none⟩ (.int .i64 0)).setCell ⟨w.heap.size+1,1,none⟩ (.int .i64 0)).setCell ⟨w.heap.size+1,2,none⟩ (.slice none 0 0)).heap[w.heap.size+1]?=some (.cells #[.int .i64 0,.int .i64 0,.slice none 0 0] 66 (0,0))):=hst
 clear hst hR2 hR hX hrep hchg hch0 c0 c1 c2 c3 c4 c5 c6 c7 c8
 go_wp2
 exact ret_ans Try.results112 rfl HS.out rfl ⟨rfl,own',hrep',hch'⟩
end Go.Proofs.Ytpbcplfpjcacfaa
