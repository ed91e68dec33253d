import Derived.Test.YtpbcplfpjcacfaaF22
namespace Go.Proofs.Ytpbcplfpjcacfaa
open Go.RowKit
set_option maxRecDepth 100000
set_option maxHeartbeats 8000000
def wtgC (w:Wtg):List Value:=(List.range 16).map (fun i=>.bool (w (i / 4) (i % 4)))
def wtg0:Wtg:=fun _ _=>false
theorem len_wtgC (w:Wtg):(wtgC w).length=16:=by simp [wtgC]
theorem wtgC_at (w:Wtg) {a c:Nat} (ha:a < 4) (hc:c < 4):(wtgC w)[a*4+c]?=some (.bool (w a c)):=by
 have h:a*4+c < 16:=by omega
 have h1:(a*4+c) / 4=a:=by omega
 have h2:(a*4+c) % 4=c:=by omega
 simp [wtgC,h,h1,h2]
theorem wtgC_set (w:Wtg) {a c:Nat} (ha:a < 4) (hc:c < 4) (v:Bool):wtgC (w.set a c v)=(wtgC w).set (a*4+c) (.bool v):=by
 apply List.ext_getElem?
 intro i
 rw [List.getElem?_set]
 unfold wtgC
 by_cases hi:i < 16
 ·by_cases e:a*4+c=i
  ·subst e
   have h1:(a*4+c) / 4=a:=by omega
   have h2:(a*4+c) % 4=c:=by omega
   simp [hi,Wtg.set,h1,h2]
  ·have e':¬ (i / 4=a∧i % 4=c):=by omega
   simp [hi,Wtg.set,e,e']
 ·have h16:((List.range 16).map (fun i=>Value.bool (w (i / 4) (i % 4))))[i]?=none:=by simp; omega
  have h17:((List.range 16).map (fun i=>Value.bool (w.set a c v (i / 4) (i % 4))))[i]?=none:=by simp; omega
  rw [h16,h17,if_neg (by omega)]
def WtgAt (w:World) (b:Nat) (f:Wtg):Prop:=(∃ C,w.heap[b]?=some (.cells C 180 (0,0))∧C.size=16)∧w.rangeAt b 0 (wtgC f)
theorem WtgAt.there {w:World} {b:Nat} {f:Wtg} (h:WtgAt w b f) {o n:Nat} (hn:o+n≤16):w.there b o n:=fun j hj=>by
 obtain ⟨C,hC,hz⟩:=h.1
 refine ⟨?_,frozen_of_row w b _ C _ hC⟩
 rw [cell_of_row w b _ C _ _ hC,Array.getElem?_eq_getElem (by omega)]; rfl
theorem WtgAt.froz {w:World} {b:Nat} {f:Wtg} (h:WtgAt w b f) (j:Nat):w.frozen? ⟨b,j,none⟩=false:=by
 obtain ⟨C,hC,hz⟩:=h.1
 exact frozen_of_row w b _ C _ hC
theorem WtgAt.lt {w:World} {b:Nat} {f:Wtg} (h:WtgAt w b f):b < w.heap.size:=by
 obtain ⟨C,hC,hz⟩:=h.1
 exact (Array.getElem?_eq_some_iff.1 hC).1
theorem WtgAt.frame {w w':World} {b:Nat} {f:Wtg} (h:WtgAt w b f) (hk:w'.heap[b]?=w.heap[b]?):WtgAt w' b f :=
 ⟨by rw [hk]; exact h.1,fun j u hj=>(cell_of_same hk _).trans (h.2 j u hj)⟩
theorem WtgAt.cell {w:World} {b:Nat} {f:Wtg} (h:WtgAt w b f) {a c:Nat} (ha:a < 4) (hc:c < 4):w.cell? ⟨b,a*4+c,none⟩=some (.bool (f a c)):=by
 have:=h.2 (a*4+c) _ (wtgC_at f ha hc)
 rw [Nat.zero_add] at this; exact this
theorem WtgAt.set {w:World} {b:Nat} {f:Wtg} (h:WtgAt w b f) {a c:Nat} (ha:a < 4) (hc:c < 4) (v:Bool):WtgAt (w.setCell ⟨b,a*4+c,none⟩ (.bool v)) b (f.set a c v):=by
 obtain ⟨C,hC,hz⟩:=h.1
 refine ⟨⟨_,heap_setCell_same w b (a*4+c) C _ (.bool v) hC,by simp [hz]⟩,?_⟩
 obtain ⟨A,Z,u,e1,e2,e3⟩:=set_split (.bool v) (l:=wtgC f) (i:=a*4+c) (by rw [len_wtgC]; omega)
 have:=rangeAt_splice h.2 e1 ((wtgC_set f ha hc v).trans e2) e3 rfl (h.there (by show 0+(a*4+c)+1≤16; omega))
 rw [Nat.zero_add] at this
 exact this
theorem WtgAt.new {w:World} {f:Wtg}:WtgAt (w.alloc (.cells (wtgC f).toArray 180)) w.heap.size f :=
 ⟨⟨_,heap_alloc_new w _,by rw [List.size_toArray,len_wtgC]⟩,fun j u hj=>by
  rw [cell_of_row _ _ _ _ _ _ (heap_alloc_new w _),Nat.zero_add]; simpa using hj⟩
theorem WtgAt.all {w:World} {b:Nat} {f:Wtg} (h:WtgAt w b f) (g:Wtg):WtgAt (w.setCells b 0 (wtgC g)) b g:=by
 obtain ⟨C,hC,hz⟩:=h.1
 obtain ⟨C',hC',hz'⟩:=setCells_root (wtgC g) 0 w C hC
 exact ⟨⟨C',hC',by omega⟩,World.rangeAt_setCells_same w b 0 _ (h.there (by rw [len_wtgC]; omega))⟩
theorem size_wtg:(Try.prog.info? 180).map (·.size)=some 16:=by kernel_rfl
theorem wtg_one (f:Wtg):(wtgC f).toArray.all (·.oneCell')=true:=all_oneCell_toArray (by
 intro v hv
 unfold wtgC at hv
 obtain ⟨k,_,rfl⟩:=List.mem_map.1 hv
 rfl)
abbrev wtgObj (f:Wtg):Obj:=.cells (wtgC f).toArray 180
theorem zeroWtg:(.cells #[Value.bool false,Value.bool false,Value.bool false,Value.bool false,Value.bool false,Value.bool false,Value.bool false,Value.bool false,Value.bool false,Value.bool false,Value.bool false,Value.bool false,Value.bool false,Value.bool false,Value.bool false,Value.bool false] 180:Obj)=wtgObj wtg0:=rfl
theorem wtg_ret {fn:Func} {pt:Tmp} {R:Ending→World→Prop} {a:Act} {w:World} {b:Nat} {f:Wtg} (hres:fn.results=#[.cell pt 180]) (hp:a.tmps.getD pt undef=.pointer (some ⟨b,0,none⟩)) (hd:a.defers=[])
  (h:w.rangeAt b 0 (wtgC f)) (hR:R (.returned (.agg (wtgC f).toArray)) w):bodyPost Try.prog fn R .ret a w:=by
 have hl:=run_loadVar_mid (P:=Try.prog) w b 0 180 (wtgC f) _ h Try.underlying180 rfl (by rw [len_wtgC]; exact size_wtg)
 refine bodyPost_ret (v:=.agg (wtgC f).toArray) ?_ hd hR
 have hp':a.tmps[pt]?.getD undef=.pointer (some ⟨b,0,none⟩):=by simpa using hp
 simp [results,hres,hp',hl,asAddr]
theorem hands_snoc (t:Tr):∀ (l:List Nat) (w:Wtg) (n:Nat),t.hands w (l++[n])=t.row (t.hands w l) n 4
 | [],_,_=>rfl
 | m :: l,w,n=>hands_snoc t l (t.row w m 4) n
def WtgPost (w:World) (f:Wtg) (e:Ending) (w':World):Prop:=e=.returned (.agg (wtgC f).toArray)∧Below w.heap.size w w'
theorem firstHand_is {w:World} {p q:Nat} {s:PS} {own:Own} {G:PG} (m:PMem w p s own G) (hq:q < 32) (F:s.Fit) :
  Calls Try.prog 124 #[.pointer (some ⟨p,tO q,none⟩)] w (WtgPost w (s.t q).firstHand):=by
 have M:Hid (PMem w p s own G):=m
 have hp:=m.lt
 have HQL:Hid (∀ n∈(s.t q).queue,n < 4):=(F.tr q hq).queL
 have hq4:=(F.short q hq).2
 clear m F
 go_enter Try.func124,Try.ntmps124
 go_upto_region 2 with fail
 rw [zeroWtg]
 have hz1:(w.alloc (wtgObj wtg0)).heap.size=w.heap.size+1:=by simp
 have B1:Hid (Below w.heap.size w ((w.alloc (wtgObj wtg0)).alloc (wtgObj wtg0))):=below2r
 have T1:Hid (WtgAt ((w.alloc (wtgObj wtg0)).alloc (wtgObj wtg0)) w.heap.size wtg0):=WtgAt.new.frame (heap_alloc_old (by simp))
 have T2:Hid (WtgAt ((w.alloc (wtgObj wtg0)).alloc (wtgObj wtg0)) (w.heap.size+1) wtg0):=by
  show WtgAt _ _ _
  rw [← hz1]; exact WtgAt.new
 clear hz1
 generalize (w.alloc (wtgObj wtg0)).alloc (wtgObj wtg0)=W1 at *
 have M1:Hid (PMem W1 p s own G):=M.out.below B1.out
 obtain ⟨ao,cap,hv,hel⟩:=queRow_at M1.out hq
 have hc:=M1.out.queC hq
 rw [hv] at hc
 have HEL:Hid (∀ k (n:Nat),(s.t q).queue[k]?=some n→∃ b,ao=some ⟨b,0,none⟩∧own b=some (queTag q)∧b < W1.heap.size∧W1.cell? ⟨b,k,none⟩=some (.int .i64 (n:Int))):=hel
 clear hv hel
 have I0:Hid (WtgAt W1 (w.heap.size+1) ((s.t q).hands wtg0 ((s.t q).queue.take 0))):=T2
 have hs1:=T2.out.lt
 go_wp2_with fail
 go_loopw [12] (fun i wr=>∃ k:Nat,k≤(s.t q).queue.length∧i=.int .i64 k∧Hid (WtgAt wr (w.heap.size+1) ((s.t q).hands wtg0 ((s.t q).queue.take k)))∧Hid (WtgAt wr w.heap.size wtg0)∧Hid (W1.heap.size≤wr.heap.size∧∀ b,b < W1.heap.size→b≠w.heap.size+1→wr.heap[b]?=W1.heap[b]?)∧Hid (Below w.heap.size w wr)) (fun i _=>(s.t q).queue.length - (intOf i).toNat)
 case atStart=>exact ⟨0,Nat.zero_le _,rfl,I0,T1,⟨Nat.le_refl _,fun _ _ _=>rfl⟩,B1⟩
 case round =>
  obtain ⟨k,hk,rfl,I,IZ,IS,IB⟩:=hrel
  by_cases hlt:k < (s.t q).queue.length
  ·have gk:=List.getElem?_eq_getElem hlt
   generalize (s.t q).queue[k]=n at gk
   have Gk:Hid ((s.t q).queue[k]?=some n):=gk
   have hn:n < 4:=HQL.out n (List.mem_of_getElem? gk)
   have HSn:Hid ((s.t q).hands wtg0 ((s.t q).queue.take (k+1))=(s.t q).row ((s.t q).hands wtg0 ((s.t q).queue.take k)) n 4):=by
    show _=_
    obtain ⟨h1,h2⟩:=List.getElem?_eq_some_iff.1 gk
    rw [List.take_succ_eq_append_getElem h1,h2,hands_snoc]
   clear gk
   have zk:(k:Int) < ((s.t q).queue.length:Int):=by omega
   have zn:(n:Int) < 4:=by omega
   obtain ⟨bt,rfl,hbo,hbt,hcell⟩:=HEL.out k n Gk.out
   have hbne:bt≠w.heap.size+1:=fun e=>by rw [e,M.out.off (by omega)] at hbo; cases hbo
   have y0:wr.cell? ⟨bt,k,none⟩=some (.int .i64 (n:Int)):=by rw [cell_of_same (IS.out.2 bt hbt hbne)]; exact hcell
   have J0:Hid (WtgAt wr (w.heap.size+1) ((s.t q).row ((s.t q).hands wtg0 ((s.t q).queue.take k)) n 0)):=I
   generalize (s.t q).hands wtg0 ((s.t q).queue.take k)=f0 at *
   go_wp2_with fail
   go_loopw [16] (fun i wr=>∃ o:Nat,o≤4∧i=.int .i64 o∧Hid (WtgAt wr (w.heap.size+1) ((s.t q).row f0 n o))∧Hid (WtgAt wr w.heap.size wtg0)∧Hid (W1.heap.size≤wr.heap.size∧∀ b,b < W1.heap.size→b≠w.heap.size+1→wr.heap[b]?=W1.heap[b]?)∧Hid (Below w.heap.size w wr)) (fun i _=>4 - (intOf i).toNat)
   case atStart=>exact ⟨0,Nat.zero_le _,rfl,J0,IZ,IS,IB⟩
   case round =>
    obtain ⟨o,ho,rfl,J,JZ,JS,JB⟩:=hrel
    by_cases hlt2:o < 4
    ·have zo:(o:Int) < 4:=by omega
     go_upto_region 8 with fail
     have hS:(fun _:World=>True) wr.drew:=trivial
     refine wp_region_Z (z:=8) (S:=fun _=>True) (by kernel_rfl) ?_
     refine zC 9 (i:=0) (v:=?v1) (by decide +kernel) rfl (fun _ _ _ h=>h) hS (.inl ⟨by rfl,?y1⟩) ?_
     case y1=>(intro wz zs0; go_simp<;>with_reducible rfl)
     simp only [Act.put,z1,z2,z4]
     refine zC 9 (i:=1) (v:=?v2) (by decide +kernel) rfl (fun _ _ _ h=>h) hS (.inl ⟨by rfl,?y2⟩) ?_
     case y2=>(intro wz zs0; go_simp<;>with_reducible rfl)
     simp only [Act.put,z1,z2,z3,z4,z5,z6]
     refine zC 9 (i:=2) (v:=?v3) (by decide +kernel) rfl (fun _ _ _ h=>h) hS (.inl ⟨by rfl,?y3⟩) ?_
     case y3=>(intro wz zs0; go_simp<;>with_reducible rfl)
     simp only [Act.put,z1,z2,z3,z4,z5,z6]
     refine zC 9 (i:=3) (v:=?v4) (by decide +kernel) rfl (fun _ _ _ h=>h) hS (.inl ⟨by rfl,?y4⟩) ?_
     case y4=>(intro wz zs0; go_simp<;>with_reducible rfl)
     simp only [Act.put,z1,z2,z3,z4,z5,z6]
     refine zC 9 (i:=4) (v:=?v5) (by decide +kernel) rfl (fun _ _ _ h=>h) hS (.inl ⟨by rfl,?y5⟩) ?_
     case y5=>(intro wz zs0; go_simp<;>with_reducible rfl)
     simp only [Act.put,z1,z2,z3,z4,z5,z6]
     refine zC 9 (i:=6) (v:=?v6) (by decide +kernel) rfl (fun _ _ _ h=>h) hS (.inl ⟨by rfl,?y6⟩) ?_
     case y6=>(intro wz zs0; go_simp<;>with_reducible rfl)
     simp only [Act.put,z1,z2,z3,z4,z5,z6]
     refine wpAnyZ_one (i:=5) (by decide +kernel) rfl (fun K hK=>?_)
     go_simp
     refine (trHind_is (M.out.below JB.out.drew) hq hlt2 hn rfl).mono ?_
     rintro e w5 ⟨rfl,hb5⟩
     have hb5':Below wr.heap.size wr w5:=(Below.refl _ _).drew.trans hb5
     have K1:Hid (WtgAt w5 (w.heap.size+1) ((s.t q).row f0 n o)):=J.out.frame (hb5'.block _ J.out.lt)
     have c5:=K1.out.cell hn hlt2
     have f5:=K1.out.froz (n*4+o)
     have K2:Hid (WtgAt (w5.setCell ⟨w.heap.size+1,n*4+o,none⟩ (.bool ((s.t q).hindB o n))) (w.heap.size+1) ((s.t q).row f0 n (o+1))):=K1.out.set hn hlt2 _
     have KZ:Hid (WtgAt (w5.setCell ⟨w.heap.size+1,n*4+o,none⟩ (.bool ((s.t q).hindB o n))) w.heap.size wtg0):=(JZ.out.frame (hb5'.block _ JZ.out.lt)).frame (heap_setCell_ne _ _ _ _ _ (by omega))
     have KS:Hid (W1.heap.size≤(w5.setCell ⟨w.heap.size+1,n*4+o,none⟩ (.bool ((s.t q).hindB o n))).heap.size∧∀ b,b < W1.heap.size→b≠w.heap.size+1→(w5.setCell ⟨w.heap.size+1,n*4+o,none⟩ (.bool ((s.t q).hindB o n))).heap[b]?=W1.heap[b]?):=by
      refine ⟨by rw [World.size_setCell]; exact Nat.le_trans JS.out.1 hb5'.size,fun b hb hne=>?_⟩
      rw [heap_setCell_ne _ _ _ _ _ hne,hb5'.block b (Nat.lt_of_lt_of_le hb JS.out.1)]
      exact JS.out.2 b hb hne
     have KB:Hid (Below w.heap.size w (w5.setCell ⟨w.heap.size+1,n*4+o,none⟩ (.bool ((s.t q).hindB o n)))):=(JB.out.trans (hb5'.mono JB.out.size)).setCell (p:=⟨w.heap.size+1,n*4+o,none⟩) (by simp) _
     refine hK _ _ (fun _=>trivial) ?_
     clear hK
     refine wpAnyZ_one (i:=7) (by decide +kernel) rfl (fun K hK=>?_)
     go_simp
     refine hK _ _ (fun _=>trivial) ?_
     clear hK
     refine wpAnyZ_one (i:=8) (by decide +kernel) rfl (fun K hK=>?_)
     go_simp
     refine hK _ _ (fun h=>absurd rfl h) ?_
     clear hK
     refine wpAnyZ_done (by decide +kernel) ?_ _
     go_wp2
     go_roundw
     case rel=>exact ⟨o+1,by omega,by go_num,K2,KZ,KS,KB⟩
     case measure=>simp [intOf]; omega
    ·have e:o=4:=by omega
     subst e
     have I':Hid (WtgAt wr (w.heap.size+1) ((s.t q).hands wtg0 ((s.t q).queue.take (k+1)))):=by show WtgAt _ _ _; rw [HSn.out]; exact J.out
     go_wp2
     go_roundw
     case rel=>exact ⟨k+1,by omega,by go_num,I',JZ,JS,JB⟩
     case measure=>simp [intOf]; omega
  ·have e:k=(s.t q).queue.length:=by omega
   subst e
   have I':Hid (WtgAt wr (w.heap.size+1) (s.t q).firstHand):=by show WtgAt _ _ _; have:=I.out; rw [List.take_length] at this; exact this
   generalize (s.t q).firstHand=f at *
   have HT:Hid (wr.there w.heap.size 0 (wtgC f).toArray.size):=IZ.out.there (by rw [List.size_toArray,len_wtgC]; omega)
   go_wp2_with (first | (refine wpList_load_mid rfl 180 _ rfl (w.heap.size+1) 0 rfl (wtgC f) _ I'.out.2 Try.underlying180 rfl (by rw [len_wtgC]; exact size_wtg) ?_) | (refine wpList_store_mid rfl 180 _ _ rfl w.heap.size 0 (wtgC f).toArray rfl rfl HT.out (by rw [List.size_toArray,len_wtgC]; exact size_wtg) (wtg_one _) ?_))
   exact wtg_ret Try.results124 rfl rfl (IZ.out.all f).2 ⟨rfl,below_setCells (Nat.le_refl _) _ _ _ IB.out⟩
theorem closed_is (f:Wtg) (w:World):Calls Try.prog 125 #[.agg (wtgC f).toArray] w (WtgPost w f.closed):=by
 go_enter Try.func125,Try.ntmps125
 go_upto_region 1 with fail
 rw [zeroWtg]
 have hz1:(w.alloc (wtgObj f)).heap.size=w.heap.size+1:=by simp
 have B1:Hid (Below w.heap.size w ((w.alloc (wtgObj f)).alloc (wtgObj wtg0))):=below2r
 have T1:Hid (WtgAt ((w.alloc (wtgObj f)).alloc (wtgObj wtg0)) w.heap.size (f.viaTo 0)):=WtgAt.new.frame (heap_alloc_old (by simp))
 have T2:Hid (WtgAt ((w.alloc (wtgObj f)).alloc (wtgObj wtg0)) (w.heap.size+1) wtg0):=by
  show WtgAt _ _ _
  rw [← hz1]; exact WtgAt.new
 clear hz1
 generalize (w.alloc (wtgObj f)).alloc (wtgObj wtg0)=W1 at *
 go_wp2_with fail
 go_loopw [6] (fun i wr=>∃ v:Nat,v≤4∧i=.int .i64 v∧Hid (WtgAt wr w.heap.size (f.viaTo v))∧Hid (WtgAt wr (w.heap.size+1) wtg0)∧Hid (Below w.heap.size w wr)) (fun i _=>4 - (intOf i).toNat)
 case atStart=>exact ⟨0,Nat.zero_le _,rfl,T1,T2,B1⟩
 case round =>
  obtain ⟨v,hv,rfl,I,IZ,IB⟩:=hrel
  by_cases hlt:v < 4
  ·have zv:(v:Int) < 4:=by omega
   have HV:Hid (f.viaTo (v+1)=(f.viaTo v).fromTo v 4):=rfl
   have J0:Hid (WtgAt wr w.heap.size ((f.viaTo v).fromTo v 0)):=I
   generalize f.viaTo v=g at *
   go_wp2_with fail
   go_loopw [9] (fun i wr=>∃ c:Nat,c≤4∧i=.int .i64 c∧Hid (WtgAt wr w.heap.size (g.fromTo v c))∧Hid (WtgAt wr (w.heap.size+1) wtg0)∧Hid (Below w.heap.size w wr)) (fun i _=>4 - (intOf i).toNat)
   case atStart=>exact ⟨0,Nat.zero_le _,rfl,J0,IZ,IB⟩
   case round =>
    obtain ⟨c,hc,rfl,J,JZ,JB⟩:=hrel
    by_cases hlt2:c < 4
    ·have zc:(c:Int) < 4:=by omega
     have HC:Hid (g.fromTo v (c+1)=(g.fromTo v c).toTo v c 4):=rfl
     have K0:Hid (WtgAt wr w.heap.size ((g.fromTo v c).toTo v c 0)):=J
     generalize g.fromTo v c=h at *
     go_wp2_with fail
     go_loopw [12] (fun i wr=>∃ t:Nat,t≤4∧i=.int .i64 t∧Hid (WtgAt wr w.heap.size (h.toTo v c t))∧Hid (WtgAt wr (w.heap.size+1) wtg0)∧Hid (Below w.heap.size w wr)) (fun i _=>4 - (intOf i).toNat)
     case atStart=>exact ⟨0,Nat.zero_le _,rfl,K0,JZ,JB⟩
     case round =>
      obtain ⟨t,ht,rfl,K,KZ,KB⟩:=hrel
      by_cases hlt3:t < 4
      ·have zt:(t:Int) < 4:=by omega
       have c0:=K.out.cell hlt2 hlt
       have c1:=K.out.cell hlt hlt3
       have c2:=K.out.cell hlt2 hlt3
       have f2:=K.out.froz (c*4+t)
       have HT:Hid (h.toTo v c (t+1)=if (h.toTo v c t) c v && (h.toTo v c t) v t then (h.toTo v c t).set c t true else h.toTo v c t):=rfl
       generalize h.toTo v c t=k at *
       have hbl:=K.out.lt
       cases h1:k c v
       ·rw [h1] at c0 HT
        have K':Hid (WtgAt wr w.heap.size (h.toTo v c (t+1))):=by show WtgAt _ _ _; rw [HT.out]; exact K.out
        go_wp2
        go_roundw
        case rel=>exact ⟨t+1,by omega,by go_num,K',KZ,KB⟩
        case measure=>simp [intOf]; omega
       ·rw [h1] at c0 HT
        cases h2:k v t
        ·rw [h2] at c1 HT
         have K':Hid (WtgAt wr w.heap.size (h.toTo v c (t+1))):=by show WtgAt _ _ _; rw [HT.out]; exact K.out
         go_wp2
         go_roundw
         case rel=>exact ⟨t+1,by omega,by go_num,K',KZ,KB⟩
         case measure=>simp [intOf]; omega
        ·rw [h2] at c1 HT
         have K':Hid (WtgAt (wr.setCell ⟨w.heap.size,c*4+t,none⟩ (.bool true)) w.heap.size (h.toTo v c (t+1))):=by show WtgAt _ _ _; rw [HT.out]; exact K.out.set hlt2 hlt3 true
         have KZ':Hid (WtgAt (wr.setCell ⟨w.heap.size,c*4+t,none⟩ (.bool true)) (w.heap.size+1) wtg0):=KZ.out.frame (heap_setCell_ne _ _ _ _ _ (by omega))
         have KB':Hid (Below w.heap.size w (wr.setCell ⟨w.heap.size,c*4+t,none⟩ (.bool true))):=KB.out.setCell (p:=⟨w.heap.size,c*4+t,none⟩) (Nat.le_refl _) _
         go_wp2
         go_roundw
         case rel=>exact ⟨t+1,by omega,by go_num,K',KZ',KB'⟩
         case measure=>simp [intOf]; omega
      ·have e:t=4:=by omega
       subst e
       have J':Hid (WtgAt wr w.heap.size (g.fromTo v (c+1))):=by show WtgAt _ _ _; rw [HC.out]; exact K.out
       go_wp2
       go_roundw
       case rel=>exact ⟨c+1,by omega,by go_num,J',KZ,KB⟩
       case measure=>simp [intOf]; omega
    ·have e:c=4:=by omega
     subst e
     have I':Hid (WtgAt wr w.heap.size (f.viaTo (v+1))):=by show WtgAt _ _ _; rw [HV.out]; exact J.out
     go_wp2
     go_roundw
     case rel=>exact ⟨v+1,by omega,by go_num,I',JZ,JB⟩
     case measure=>simp [intOf]; omega
  ·have e:v=4:=by omega
   subst e
   have I':Hid (WtgAt wr w.heap.size f.closed):=I
   generalize f.closed=g at *
   have HT:Hid (wr.there (w.heap.size+1) 0 (wtgC g).toArray.size):=IZ.out.there (by rw [List.size_toArray,len_wtgC]; omega)
   go_wp2_with (first | (refine wpList_load_mid rfl 180 _ rfl w.heap.size 0 rfl (wtgC g) _ I'.out.2 Try.underlying180 rfl (by rw [len_wtgC]; exact size_wtg) ?_) | (refine wpList_store_mid rfl 180 _ _ rfl (w.heap.size+1) 0 (wtgC g).toArray rfl rfl HT.out (by rw [List.size_toArray,len_wtgC]; exact size_wtg) (wtg_one _) ?_))
   exact wtg_ret Try.results125 rfl rfl (IZ.out.all g).2 ⟨rfl,below_setCells (by omega) _ _ _ IB.out⟩
def YgPost (w:World) (o:Option Nat) (e:Ending) (w':World):Prop:=Below w.heap.size w w'∧match o with
 | none=>e=.returned (.tuple #[.int .i64 0,.bool false])
 | some y=>e=.returned (.tuple #[.int .i64 (y:Int),.bool true])
theorem begRow_at {w:World} {p q:Nat} {s:PS} {own:Own} {G:PG} (m:PMem w p s own G) (hq:q < 32):∃ ao cap,G.b q=.slice ao (s.t q).begun.length cap∧∀ k (n:Nat),(s.t q).begun[k]?=some n→∃ b,ao=some ⟨b,0,none⟩∧own b=some (begTag q)∧b < w.heap.size∧w.cell? ⟨b,k,none⟩=some (.int .i64 (n:Int)):=by
 obtain ⟨ao,cap,h1,_,h3⟩:=(m.begR q hq).form len_natC
 refine ⟨ao,cap,h1,fun k n hk=>?_⟩
 obtain ⟨b,e1,e2,e3,e4,_⟩:=h3 k n hk
 refine ⟨b,e1,e2,e3,?_⟩
 have:=e4 0 _ rfl
 simpa using this
theorem rev_take {l:List Nat} {k n:Nat} (h:l[k]?=some n):(l.take (k+1)).reverse=n :: (l.take k).reverse:=by
 obtain ⟨h1,h2⟩:=List.getElem?_eq_some_iff.1 h
 rw [List.take_succ_eq_append_getElem h1,h2,List.reverse_append]
 rfl
theorem youngest_is {w:World} {p q n:Nat} {s:PS} {own:Own} {G:PG} (m:PMem w p s own G) (hq:q < 32) (hn:n < 4) (F:s.Fit) :
  Calls Try.prog 102 #[.pointer (some ⟨p,tO q,none⟩),.int .i64 n] w (YgPost w ((s.t q).youngest n)):=by
 have M:Hid (PMem w p s own G):=m
 have HF:Hid s.Fit:=F
 have hp:=m.lt
 have HBL:Hid (∀ n∈(s.t q).begun,n < 4):=(F.tr q hq).begL
 have hb4:=(F.short q hq).1
 have zn:(n:Int) < 4:=by omega
 clear m F
 have HY:Hid ((s.t q).youngest n=(s.t q).begun.reverse.find? (fun o=>(s.t q).firstHand.closed n o && (s.t q).firstHand.closed o n)):=rfl
 have hFH:=firstHand_is (q:=q) M.out hq HF.out
 generalize (s.t q).firstHand=f0 at *
 have HFH:Hid (Calls _ _ _ _ _):=hFH
 clear hFH
 go_enter Try.func102,Try.ntmps102
 go_wp2_with fail
 refine HFH.out.mono ?_
 rintro e w1 ⟨rfl,hb1⟩
 have T0:Hid (WtgAt (w1.alloc (wtgObj wtg0)) w1.heap.size wtg0):=WtgAt.new
 have HT1:Hid ((w1.alloc (wtgObj wtg0)).there w1.heap.size 0 (wtgC f0).toArray.size):=T0.out.there (by rw [List.size_toArray,len_wtgC]; omega)
 have T1:Hid (WtgAt ((w1.alloc (wtgObj wtg0)).setCells w1.heap.size 0 (wtgC f0)) w1.heap.size f0):=T0.out.all f0
 have B1:Hid (Below w.heap.size w ((w1.alloc (wtgObj wtg0)).setCells w1.heap.size 0 (wtgC f0))):=below_setCells hb1.size _ _ _ (hb1.alloc hb1.size _)
 go_upto_region 2 with (first | (refine wpList_store_mid rfl 180 _ _ rfl w1.heap.size 0 (wtgC f0).toArray rfl rfl HT1.out (by rw [List.size_toArray,len_wtgC]; exact size_wtg) (wtg_one _) ?_))
 rw [zeroWtg]
 simp only [Act.put]
 generalize (w1.alloc (wtgObj wtg0)).setCells w1.heap.size 0 (wtgC f0)=W2 at *
 clear T0 HT1 hb1
 go_wp2_with (first | (refine wpList_load_mid rfl 180 _ rfl w1.heap.size 0 rfl (wtgC f0) _ T1.out.2 Try.underlying180 rfl (by rw [len_wtgC]; exact size_wtg) ?_))
 refine (closed_is f0 W2).mono ?_
 generalize f0.closed=f at *
 rintro e w3 ⟨rfl,hb3⟩
 have B3:Hid (Below w.heap.size w w3):=B1.out.trans (hb3.mono B1.out.size)
 have T0:Hid (WtgAt (w3.alloc (wtgObj wtg0)) w3.heap.size wtg0):=WtgAt.new
 have HT3:Hid ((w3.alloc (wtgObj wtg0)).there w3.heap.size 0 (wtgC f).toArray.size):=T0.out.there (by rw [List.size_toArray,len_wtgC]; omega)
 have T3:Hid (WtgAt ((w3.alloc (wtgObj wtg0)).setCells w3.heap.size 0 (wtgC f)) w3.heap.size f):=T0.out.all f
 have B4:Hid (Below w.heap.size w ((w3.alloc (wtgObj wtg0)).setCells w3.heap.size 0 (wtgC f))):=below_setCells B3.out.size _ _ _ (B3.out.alloc B3.out.size _)
 go_upto_region 3 with (first | (refine wpList_store_mid rfl 180 _ _ rfl w3.heap.size 0 (wtgC f).toArray rfl rfl HT3.out (by rw [List.size_toArray,len_wtgC]; exact size_wtg) (wtg_one _) ?_))
 rw [zeroWtg]
 simp only [Act.put]
 generalize (w3.alloc (wtgObj wtg0)).setCells w3.heap.size 0 (wtgC f)=W4 at *
 clear T0 HT3 hb3
 have M4:Hid (PMem W4 p s own G):=M.out.below B4.out
 obtain ⟨ao,cap,hv,hel⟩:=begRow_at M4.out hq
 have hc:=M4.out.begC hq
 rw [hv] at hc
 have HEL:Hid (∀ k (n:Nat),(s.t q).begun[k]?=some n→∃ b,ao=some ⟨b,0,none⟩∧own b=some (begTag q)∧b < W4.heap.size∧W4.cell? ⟨b,k,none⟩=some (.int .i64 (n:Int))):=hel
 have hp4:=M4.out.lt
 have hz4:=T3.out.lt
 clear hv hel
 have I0:Hid (((s.t q).begun.take (s.t q).begun.length).reverse.find? (fun o=>f n o && f o n)=(s.t q).youngest n):=by show _=_; rw [List.take_length,HY.out]
 generalize (s.t q).youngest n=Y at *
 generalize (s.t q).begun=l at *
 go_wp2_with fail
 go_loop [8] (fun i=>∃ k:Nat,k≤l.length∧i=.int .i64 ((k:Int) - 1)∧Hid ((l.take k).reverse.find? (fun o=>f n o && f o n)=Y)) (fun i=>(intOf i+1).toNat)
 case atStart=>exact ⟨l.length,Nat.le_refl _,rfl,I0⟩
 case round =>
  obtain ⟨k,hk,rfl,I⟩:=hrel
  cases k with
  | zero =>
   have HN:Hid (Y=none):=I.out.symm
   go_wp2
   refine bodyPost_ret (v:=.tuple #[.int .i64 0,.bool false]) (by simp [results,Try.results102,go_sem]) rfl ?_
   rw [HN.out]; exact ⟨B4.out,rfl⟩
  | succ k =>
   have e:((k+1:Nat):Int) - 1=(k:Int):=by omega
   rw [e]
   have gk:=List.getElem?_eq_getElem (show k < l.length by omega)
   generalize l[k]=y at gk
   have Gk:Hid (l[k]?=some y):=gk
   have hy:y < 4:=HBL.out y (List.mem_of_getElem? gk)
   have zy:(y:Int) < 4:=by omega
   have zk:(k:Int) < (l.length:Int):=by omega
   obtain ⟨bt,rfl,_,hbt,hcell⟩:=HEL.out k y gk
   have c0:=T3.out.cell hn hy
   have c1:=T3.out.cell hy hn
   have HI:Hid ((if (f n y && f y n)=true then some y else (l.take k).reverse.find? (fun o=>f n o && f o n))=Y):=by
    show _=_
    have:=I.out
    rw [rev_take gk,List.find?_cons] at this
    rw [← this]
    cases f n y && f y n<;>rfl
   clear gk e
   cases h1:f n y
   ·rw [h1] at c0 HI
    have I':Hid ((l.take k).reverse.find? (fun o=>f n o && f o n)=Y):=by show _=_; have:=HI.out; rw [if_neg (by simp)] at this; exact this
    go_wp2
    go_round
    case rel=>exact ⟨k,by omega,rfl,I'⟩
    case measure=>simp [intOf]
   ·rw [h1] at c0 HI
    cases h2:f y n
    ·rw [h2] at c1 HI
     have I':Hid ((l.take k).reverse.find? (fun o=>f n o && f o n)=Y):=by show _=_; have:=HI.out; rw [if_neg (by simp)] at this; exact this
     go_wp2
     go_round
     case rel=>exact ⟨k,by omega,rfl,I'⟩
     case measure=>simp [intOf]
    ·rw [h2] at c1 HI
     have HN:Hid (Y=some y):=by show _=_; have:=HI.out; rw [if_pos (by rfl)] at this; exact this.symm
     go_wp2
     refine bodyPost_ret (v:=.tuple #[.int .i64 (y:Int),.bool true]) (by simp [results,Try.results102,go_sem]) rfl ?_
     rw [HN.out]; exact ⟨B4.out,rfl⟩
end Go.Proofs.Ytpbcplfpjcacfaa
