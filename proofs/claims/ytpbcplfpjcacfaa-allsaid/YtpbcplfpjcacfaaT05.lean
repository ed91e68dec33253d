import Derived.Test.YtpbcplfpjcacfaaT04
namespace Go.Proofs.Ytpbcplfpjcacfaa
open Go.RowKit
set_option maxRecDepth 100000
set_option maxHeartbeats 8000000
theorem waitsFor_is {r:Nat} {st:RS} {own:Own} {x y:Wh} {v:Bool} {w:World} (h:st.waitsFor x y=v) (hm:Rep w r st own) :
  Calls Try.prog 133 #[.pointer (some ⟨r,0,none⟩),.agg #[.int .i64 x.1,.int .i64 x.2.1,.int .i64 x.2.2],.agg #[.int .i64 y.1,.int .i64 y.2.1,.int .i64 y.2.2]] w fun e w'=>e=.returned (.bool v)∧Below w.heap.size w w':=by
 subst h; exact waitsFor_any r st own x y w hm
theorem leads_any (r:Nat) (st:RS) (own:Own):∀ (n:Nat) (s:Int) (x y:Wh) (w:World),s=(n:Int)→n≤4→Rep w r st own →
  Calls Try.prog 129 #[.pointer (some ⟨r,0,none⟩),.agg #[.int .i64 x.1,.int .i64 x.2.1,.int .i64 x.2.2],.agg #[.int .i64 y.1,.int .i64 y.2.1,.int .i64 y.2.2],.int .i64 s] w fun e w'=>e=.returned (.bool (st.leads n x y))∧Below w.heap.size w w':=by
 intro n
 induction n with
 | zero =>
  intro s x y w hs _ hm
  subst hs
  go_enter Try.func129,Try.ntmps129
  go_wp2
  go_ret
  exact ⟨ret_bool rfl,below2r⟩
 | succ n ih =>
  intro s x y w hs hn hrep
  have s0:(s == 0)=false:=by simp; omega
  have s1:0≤s:=by omega
  have s2:s≤4:=by omega
  have HS:Hid (s=(n:Int)+1):=by unfold Hid; omega
  have Hih:Hid (type_of% ih):=ih
  have hn':n≤4:=by omega
  clear hs ih hn
  go_enter Try.func129,Try.ntmps129
  go_wp2_with fail
  have hA:Below w.heap.size w ((w.alloc (.cells #[.int .i64 x.1,.int .i64 x.2.1,.int .i64 x.2.2] 28)).alloc (.cells #[.int .i64 y.1,.int .i64 y.2.1,.int .i64 y.2.2] 28)):=below2r
  have hbx:=box2 w #[.int .i64 x.1,.int .i64 x.2.1,.int .i64 x.2.2] #[.int .i64 y.1,.int .i64 y.2.1,.int .i64 y.2.2] 28 28
  have hzA:Hid (((w.alloc (.cells #[.int .i64 x.1,.int .i64 x.2.1,.int .i64 x.2.2] 28)).alloc (.cells #[.int .i64 y.1,.int .i64 y.2.1,.int .i64 y.2.2] 28)).heap.size=w.heap.size+2):=by unfold Hid; simp
  generalize (w.alloc (.cells #[.int .i64 x.1,.int .i64 x.2.1,.int .i64 x.2.2] 28)).alloc (.cells #[.int .i64 y.1,.int .i64 y.2.1,.int .i64 y.2.2] 28)=wA at *
  cases hwf:st.waitsFor x y
  ·refine (waitsFor_is hwf (hrep.below hA)).mono ?_
   rintro e w1 ⟨rfl,hb1⟩
   have hB1:Below w.heap.size w w1:=hA.trans (hb1.mono hA.size)
   have hz1:w.heap.size+2≤w1.heap.size:=by have:=hb1.size; have:=hzA.out; omega
   have hxb:∀ j,w1.cell? ⟨w.heap.size,j,none⟩=#[Value.int .i64 x.1,.int .i64 x.2.1,.int .i64 x.2.2][j]?:=fun j=>by rw [hb1.cell (p:=⟨w.heap.size,j,none⟩) (by have:=hzA.out; simp; omega)]; exact (hbx j).1
   have hyb:∀ j,w1.cell? ⟨w.heap.size+1,j,none⟩=#[Value.int .i64 y.1,.int .i64 y.2.1,.int .i64 y.2.2][j]?:=fun j=>by rw [hb1.cell (p:=⟨w.heap.size+1,j,none⟩) (by have:=hzA.out; simp; omega)]; exact (hbx j).2
   have x0:w1.cell? ⟨w.heap.size,0,none⟩=some (.int .i64 x.1):=hxb 0
   have x1:w1.cell? ⟨w.heap.size,1,none⟩=some (.int .i64 x.2.1):=hxb 1
   have x2:w1.cell? ⟨w.heap.size,2,none⟩=some (.int .i64 x.2.2):=hxb 2
   have z0:w1.cell? ⟨w.heap.size+1,0,none⟩=some (.int .i64 y.1):=hyb 0
   have z1:w1.cell? ⟨w.heap.size+1,1,none⟩=some (.int .i64 y.2.1):=hyb 1
   have z2:w1.cell? ⟨w.heap.size+1,2,none⟩=some (.int .i64 y.2.2):=hyb 2
   clear hb1 hxb hyb hbx hA hzA
   go_wp2_with fail
   go_loopw [10] (fun i wr=>∃ k:Nat,k≤4∧i=.int .i64 k∧Hid (∀ j,j < k→ledP st n x y j=false)∧Below w1.heap.size w1 wr) (fun i _=>4 - (intOf i).toNat)
   case atStart=>exact ⟨0,Nat.zero_le _,rfl,fun j hj=>by omega,Below.refl _ _⟩
   case round =>
    obtain ⟨k,hk,rfl,Hl,hnx⟩:=hrel
    have hz2:=hnx.size
    have p0:=cell_later hnx x0
    have p1:=cell_later hnx x1
    have p2:=cell_later hnx x2
    have q0:=cell_later hnx z0
    have q1:=cell_later hnx z1
    have q2:=cell_later hnx z2
    by_cases hlt:k < 4
    ·have zk:(k:Int)≤3:=by omega
     have l0:w.heap.size < wr.heap.size:=by omega
     have l1:w.heap.size+1 < wr.heap.size:=by omega
     go_wp2_with fail
     have hA2:Below wr.heap.size wr (wr.alloc (.cells #[.int .i64 x.1,.int .i64 x.2.1,.int .i64 (k:Int)] 28)):=(Below.refl _ _).alloc (Nat.le_refl _) _
     have hB2:Below w.heap.size w (wr.alloc (.cells #[.int .i64 x.1,.int .i64 x.2.1,.int .i64 (k:Int)] 28)):=hB1.trans ((hnx.trans (hA2.mono hz2)).mono hB1.size)
     have hN:(wr.alloc (.cells #[.int .i64 x.1,.int .i64 x.2.1,.int .i64 (k:Int)] 28)).heap[wr.heap.size]?=some (.cells #[.int .i64 x.1,.int .i64 x.2.1,.int .i64 (k:Int)] 28 (0,0)):=heap_alloc_new wr _
     have hz3:Hid ((wr.alloc (.cells #[.int .i64 x.1,.int .i64 x.2.1,.int .i64 (k:Int)] 28)).heap.size=wr.heap.size+1):=by unfold Hid; simp
     generalize wr.alloc (.cells #[.int .i64 x.1,.int .i64 x.2.1,.int .i64 (k:Int)] 28)=wM at *
     cases hwk:st.waitsFor x (x.1,x.2.1,(k:Int))
     ·refine (waitsFor_is (y:=(x.1,x.2.1,(k:Int))) hwk (hrep.below hB2)).mono ?_
      rintro e w3 ⟨rfl,hb3⟩
      have hB3:Below w1.heap.size w1 w3:=hnx.trans ((hA2.trans (hb3.mono hA2.size)).mono hz2)
      go_wp2
      go_roundw
      case rel =>
       refine ⟨k+1,by omega,by go_num,fun j hj=>?_,hB3⟩
       rcases Nat.lt_or_ge j k with h | h
       ·exact Hl.out j h
       ·have:j=k:=by omega
        subst this
        unfold ledP; rw [hwk,Bool.false_and]
      case measure=>simp [intOf]; omega
     ·refine (waitsFor_is (y:=(x.1,x.2.1,(k:Int))) hwk (hrep.below hB2)).mono ?_
      rintro e w3 ⟨rfl,hb3⟩
      have hB3:Below w1.heap.size w1 w3:=hnx.trans ((hA2.trans (hb3.mono hA2.size)).mono hz2)
      have hB3w:Below w.heap.size w w3:=hB1.trans (hB3.mono hB1.size)
      have hN3:w3.heap[wr.heap.size]?=some (.cells #[.int .i64 x.1,.int .i64 x.2.1,.int .i64 (k:Int)] 28 (0,0)):=by rw [hb3.block _ (by have:=hz3.out; omega)]; exact hN
      obtain ⟨m0,m1,m2,_,_,_⟩:=ans_cells hN3
      have t0:=cell_later hB3 z0
      have t1:=cell_later hB3 z1
      have t2:=cell_later hB3 z2
      clear hb3 hN hN3
      go_wp2_with fail
      cases hld:st.leads n (x.1,x.2.1,(k:Int)) y
      ·have hcall:=Hih.out (s - 1) (x.1,x.2.1,(k:Int)) y w3 (by rw [HS.out]; omega) hn' (hrep.below hB3w)
       rw [hld] at hcall
       refine hcall.mono ?_
       clear hcall
       rintro e w4 ⟨rfl,hb4⟩
       have hB4:Below w1.heap.size w1 w4:=hB3.trans (hb4.mono hB3.size)
       go_wp2
       go_roundw
       case rel =>
        refine ⟨k+1,by omega,by go_num,fun j hj=>?_,hB4⟩
        rcases Nat.lt_or_ge j k with h | h
        ·exact Hl.out j h
        ·have:j=k:=by omega
         subst this
         unfold ledP; rw [hld,Bool.and_false]
       case measure=>simp [intOf]; omega
      ·have hcall:=Hih.out (s - 1) (x.1,x.2.1,(k:Int)) y w3 (by rw [HS.out]; omega) hn' (hrep.below hB3w)
       rw [hld] at hcall
       refine hcall.mono ?_
       clear hcall
       rintro e w4 ⟨rfl,hb4⟩
       have hB4:Below w.heap.size w w4:=hB3w.trans (hb4.mono hB3w.size)
       go_wp2
       go_ret
       refine ⟨ret_bool ?_,hB4⟩
       rw [leads_succ,hwf,Bool.false_or]
       symm
       rw [List.any_eq_true]
       exact ⟨k,by simpa using hlt,by unfold ledP; rw [hwk,hld]; rfl⟩
    ·have e:k=4:=by omega
     subst e
     go_wp2
     go_ret
     refine ⟨ret_bool ?_,hB1.trans (hnx.mono hB1.size)⟩
     rw [leads_succ,hwf,Bool.false_or]
     symm
     rw [List.any_eq_false]
     intro j hj
     rw [Hl.out j (by simpa using hj)]; simp
  ·refine (waitsFor_is hwf (hrep.below hA)).mono ?_
   rintro e w1 ⟨rfl,hb1⟩
   have hB1:Below w.heap.size w w1:=hA.trans (hb1.mono hA.size)
   go_wp2
   go_ret
   exact ⟨ret_bool (by rw [leads_succ,hwf,Bool.true_or]),hB1⟩
end Go.Proofs.Ytpbcplfpjcacfaa
