import Derived.Test.YtpbcplfpjcacfaaS21
namespace Go.Proofs.Ytpbcplfpjcacfaa
open Go.RowKit
attribute [local go_sem ↓] Go.wp_at_zero Go.wp_at_succ
set_option maxRecDepth 100000
set_option maxHeartbeats 8000000
theorem PlayInv.below {P : Pgm} {D : P.Doc} {B bb p r n : Nat} {w w' : World} (h : PlayInv P D B bb p r n w) (hb : Below w.heap.size w w') : PlayInv P D B bb p r n w' := by
 obtain ⟨s, st, ownP, ownR, G, ho⟩ := h
 exact ⟨s, st, ownP, ownR, { G with both := G.both.below hb }, ho⟩
end Go.Proofs.Ytpbcplfpjcacfaa
namespace Go.Proofs.Ytpbcplfpjcacfaa
open Go.RowKit
set_option maxRecDepth 100000
set_option maxHeartbeats 8000000
def calmR (x : Stp) : Rc := ⟨x.who, x.at_, x.key, x.hi, x.wr, false, 0⟩
def stirP (x : Stp) (c : Rc) : Bool := meetB c (calmR x) && !sameW c.who.1 c.who.2.1 c.who.2.2 x.who.1 x.who.2.1 x.who.2.2
def RS.calm (st : RS) (x : Stp) : Bool :=
 if st.recs.any (·.waits) then false
 else if properB x = false ∨ x.op < 2 ∨ 5 < x.op then true
 else !(st.recs.any (stirP x))
theorem calm_any (r : Nat) (st : RS) (own : Own) (x : Stp) (w : World) (hm : Rep w r st own) :
  Calls Try.prog 18 #[.pointer (some ⟨r, 0, none⟩), stepV x] w fun e w' => e = .returned (.bool (st.calm x)) ∧ Below w.heap.size w w' := by
 have hpr := proper_any x
 obtain ⟨g, vp, vt, vr, ve, m⟩ := hm
 obtain ⟨ao, cap, rfl, hmax, hel⟩ := m.recs.form len_recC
 have hrlt := m.old r (by rw [m.rootTag]; simp)
 have s5 : w.cell? ⟨r, 5, none⟩ = some (.slice ao st.recs.length cap) := by rw [root_cell m.root]; rfl
 unfold maxLen at hmax
 unfold stepV at hpr ⊢
 clear m
 go_enter Try.func18, Try.ntmps18
 go_wp2_with fail
 have hA : Below w.heap.size w (w.alloc (.cells #[.int .i64 x.who.1, .int .i64 x.who.2.1, .int .i64 x.who.2.2, .int .i64 x.op, .int .i64 x.at_.1, .int .i64 x.at_.2, .int .i64 x.key, .int .i64 x.to_, .int .i64 x.value] 30)) := (Below.refl _ _).alloc (Nat.le_refl _) _
 have hX : Hid ((w.alloc (.cells #[.int .i64 x.who.1, .int .i64 x.who.2.1, .int .i64 x.who.2.2, .int .i64 x.op, .int .i64 x.at_.1, .int .i64 x.at_.2, .int .i64 x.key, .int .i64 x.to_, .int .i64 x.value] 30)).heap[w.heap.size]? = some (.cells (stepC x).toArray 30 (0, 0))) := heap_alloc_new w _
 have hzA : Hid ((w.alloc (.cells #[.int .i64 x.who.1, .int .i64 x.who.2.1, .int .i64 x.who.2.2, .int .i64 x.op, .int .i64 x.at_.1, .int .i64 x.at_.2, .int .i64 x.key, .int .i64 x.to_, .int .i64 x.value] 30)).heap.size = w.heap.size + 1) := by unfold Hid; simp
 generalize w.alloc (.cells #[.int .i64 x.who.1, .int .i64 x.who.2.1, .int .i64 x.who.2.2, .int .i64 x.op, .int .i64 x.at_.1, .int .i64 x.at_.2, .int .i64 x.key, .int .i64 x.to_, .int .i64 x.value] 30) = wA at *
 have a5 := cell_later hA s5
 have Hel : Hid (∀ (k : Nat) (c : Rc), st.recs[k]? = some c → ∃ b, ao = some ⟨b, 0, none⟩ ∧ b < w.heap.size ∧ w.rangeAt b (k * 10) (recC c)) := fun k c hc => by
  obtain ⟨b, h1, _, h3, h4, _⟩ := hel k c hc
  exact ⟨b, h1, h3, h4⟩
 clear hel
 go_loopw [5] (fun i wr => ∃ k : Nat, k ≤ st.recs.length ∧ i = .int .i64 k ∧ Hid (∀ c ∈ st.recs.take k, c.waits = false) ∧ wr = wA) (fun i _ => st.recs.length - (intOf i).toNat)
 case atStart => exact ⟨0, Nat.zero_le _, rfl, fun c hc => by simp at hc, rfl⟩
 case round =>
  obtain ⟨k, hk, rfl, Hl, rfl⟩ := hrel
  by_cases hlt : k < st.recs.length
  ·obtain ⟨bt, hao, hbt, hrg⟩ := Hel.out k _ (List.getElem?_eq_getElem hlt)
   have gk := List.getElem?_eq_getElem hlt
   generalize st.recs[k] = y at hrg gk
   have Gk : Hid (st.recs[k]? = some y) := gk
   subst hao
   have y8 := cell_later hA (rec_cells hrg).2.2.2.2.2.2.2.2.1
   have zk : (k : Int) < (st.recs.length : Int) := by omega
   clear hrg gk
   cases hwt : y.waits
   ·rw [hwt] at y8
    go_wp2
    go_roundw
    case rel =>
     refine ⟨k + 1, by omega, by go_num, fun c hc => ?_, trivial⟩
     rw [List.take_add_one, Gk.out] at hc
     rcases List.mem_append.1 hc with h | h
     ·exact Hl.out c h
     ·simp at h; subst h; exact hwt
    case measure => simp [intOf]; omega
   ·rw [hwt] at y8
    go_wp2
    go_ret
    refine ⟨ret_bool ?_, hA⟩
    unfold RS.calm
    rw [if_pos (List.any_eq_true.2 ⟨y, List.mem_of_getElem? Gk.out, hwt⟩)]
  ·have ek : k = st.recs.length := by omega
   subst ek
   have HNW : Hid (st.recs.any (·.waits) = false) := by
    unfold Hid
    rw [List.any_eq_false]
    intro c hc
    rw [Hl.out c (by rw [List.take_length]; exact hc)]; simp
   clear Hl
   rename World => wB
   obtain ⟨c0, c1, c2, c3, c4, c5, c6, c7, c8⟩ := step_cells hX.out
   have hpc := hpr wB
   clear hpr
   go_wp2_with fail
   cases hp : properB x
   ·rw [hp] at hpc
    refine hpc.mono ?_
    clear hpc
    rintro e w1 ⟨rfl, hb1⟩
    have hB1 : Below w.heap.size w w1 := hA.trans (hb1.mono hA.size)
    go_wp2
    go_ret
    refine ⟨ret_bool ?_, hB1⟩
    unfold RS.calm
    rw [HNW.out, if_neg (by simp), if_pos (.inl hp)]
   ·rw [hp] at hpc
    refine hpc.mono ?_
    clear hpc
    rintro e w1 ⟨rfl, hb1⟩
    have hB1 : Below w.heap.size w w1 := hA.trans (hb1.mono hA.size)
    have hX1 : w1.heap[w.heap.size]? = some (.cells (stepC x).toArray 30 (0, 0)) := by rw [hb1.block _ (by have := hzA.out; omega)]; exact hX.out
    have HX1 : Hid (w1.heap[w.heap.size]? = some (.cells (stepC x).toArray 30 (0, 0))) := hX1
    have hz1 : w.heap.size + 1 ≤ w1.heap.size := by have := hb1.size; have := hzA.out; omega
    obtain ⟨d0, d1, d2, d3, d4, d5, d6, d7, d8⟩ := step_cells hX1
    have b5 := cell_later hB1 s5
    clear hb1 hX1 c0 c1 c2 c3 c4 c5 c6 c7 c8
    by_cases ho2 : x.op < 2
    ·have g2 : decide (x.op < 2) = true := by simpa using ho2
     go_wp2
     go_ret
     refine ⟨ret_bool ?_, hB1⟩
     unfold RS.calm
     rw [HNW.out, if_neg (by simp), if_pos (.inr (.inl ho2))]
    ·have g2 : decide (x.op < 2) = false := by simpa using ho2
     by_cases ho5 : 5 < x.op
     ·have g5 : decide (x.op > 5) = true := by simpa using ho5
      go_wp2
      go_ret
      refine ⟨ret_bool ?_, hB1⟩
      unfold RS.calm
      rw [HNW.out, if_neg (by simp), if_pos (.inr (.inr ho5))]
     ·have g5 : decide (x.op > 5) = false := by simpa using ho5
      have HCB : Hid (st.calm x = !(st.recs.any (stirP x))) := by
       unfold Hid RS.calm
       rw [HNW.out, if_neg (by simp), if_neg (by rw [hp]; intro h; rcases h with h | h | h; cases h; exact ho2 h; exact ho5 h)]
      have Ho2 : Hid (¬ x.op < 2) := ho2
      have Ho5 : Hid (¬ 5 < x.op) := ho5
      clear ho2 ho5
      have l0 : w.heap.size < w1.heap.size := by omega
      have hr1 : r < w1.heap.size := by omega
      go_upto_region 9 with fail
      go_cut [7] from 11 to 64 (fun v wd => ∃ b, v = .pointer (some ⟨b, 0, none⟩) ∧ Below w1.heap.size w1 wd ∧ w1.heap.size ≤ b ∧ Hid (wd.heap[b]? = some (.cells (recC { calmR x with hi := x.key }).toArray 108 (0, 0))))
      case first =>
       cases h4 : (x.op == 4)
       ·go_wp2_with fail
        go_meet
        case rel =>
         refine ⟨w1.heap.size, rfl, (Below.refl _ _).alloc (Nat.le_refl _) _, Nat.le_refl _, ?_⟩
         have ewr : (x.op == 5) = x.wr := by
          have h5 : ¬ x.op = 4 := by simpa using h4
          simp only [Stp.wr, h5, false_or]; rfl
         unfold Hid
         rw [ewr]
         exact heap_alloc_new w1 _
       ·go_wp2_with fail
        go_meet
        case rel =>
         refine ⟨w1.heap.size, rfl, (Below.refl _ _).alloc (Nat.le_refl _) _, Nat.le_refl _, ?_⟩
         have ewr : true = x.wr := by
          have h5 : x.op = 4 := by simpa using h4
          simp [Stp.wr, h5]
         unfold Hid
         rw [ewr]
         exact heap_alloc_new w1 _
      case rest =>
       obtain ⟨b7, rfl, hB3, hb7, H7⟩ := hcut
       have f3 := cell_later hB3 d3
       have f7 := cell_later hB3 d7
       have g6 : wc.cell? ⟨b7, 6, none⟩ = some (.int .i64 x.key) := by rw [cell_of_row _ _ _ _ _ _ H7.out]; rfl
       have z6 : wc.frozen? ⟨b7, 6, none⟩ = false := frozen_of_row _ _ _ _ _ H7.out
       go_upto_if 61 with fail
       go_cut [] from 11 to 64 (fun wd => Below w1.heap.size w1 wd ∧ Hid (wd.heap[b7]? = some (.cells (recC (calmR x)).toArray 108 (0, 0))))
       case first =>
        cases h3' : (x.op == 3)
        case true =>
         go_wp2_with fail
         go_meet
         case rel =>
          refine ⟨hB3.setCell hb7 _, ?_⟩
          have h3 : x.op = 3 := by simpa using h3'
          have := heap_setCell_same wc b7 6 _ _ (.int .i64 x.to_) H7.out
          unfold Hid
          rw [this]
          simp [recC, calmR, Stp.hi, h3]
        case false =>
         go_wp2_with fail
         go_meet
         case rel =>
          refine ⟨hB3, ?_⟩
          have h3 : ¬ x.op = 3 := by simpa using h3'
          have := H7.out
          unfold Hid
          rw [this]
          simp [recC, calmR, Stp.hi, h3]
       case rest =>
        obtain ⟨hB4, H8⟩ := hcut
        rename World => w5
        have hB5w : Below w.heap.size w w5 := hB1.trans (hB4.mono hB1.size)
        have hz5 := hB4.size
        obtain ⟨q, hq⟩ : ∃ q, Hid (q = calmR x) := ⟨_, rfl⟩
        have HQ : Hid (w5.rangeAt b7 0 (recC q)) := by
         intro j u hj
         rw [cell_of_row _ _ _ _ _ _ H8.out, ← hq.out]; simpa using hj
        have hb7l : b7 < w5.heap.size := (Array.getElem?_eq_some_iff.1 H8.out).1
        have v5 := cell_later hB4 b5
        have HX5 : Hid (w5.heap[w.heap.size]? = some (.cells (stepC x).toArray 30 (0, 0))) := by unfold Hid; rw [hB4.block _ (by omega)]; exact HX1.out
        clear d0 d1 d2 d3 d4 d5 d6 d7 d8 b5 f3 f7 g6 z6 H7 hB3 H8 a5
        go_wp2_with fail
        go_loopw [8] (fun i wr => ∃ k : Nat, k ≤ st.recs.length ∧ i = .int .i64 k ∧ Hid (∀ c ∈ st.recs.take k, stirP x c = false) ∧ Below w5.heap.size w5 wr) (fun i _ => st.recs.length - (intOf i).toNat)
        case atStart => exact ⟨0, Nat.zero_le _, rfl, fun c hc => by simp at hc, Below.refl _ _⟩
        case round =>
         obtain ⟨k, hk, rfl, Hl, hnx⟩ := hrel
         have hzx := hnx.size
         have hBx : Below w.heap.size w wr := hB5w.trans (hnx.mono hB5w.size)
         have e5 := cell_later hnx v5
         by_cases hlt : k < st.recs.length
         ·obtain ⟨bt, hao, hbt, hrg0⟩ := Hel.out k _ (List.getElem?_eq_getElem hlt)
          have gk := List.getElem?_eq_getElem hlt
          generalize st.recs[k] = y at hrg0 gk
          have Gk : Hid (st.recs[k]? = some y) := gk
          subst hao
          have zk : (k : Int) < (st.recs.length : Int) := by omega
          have hsr := fun (c c' : Array Value) (ty : Nat) => World.setRow_alloc_new wr c c' ty
          obtain ⟨yc, hyc⟩ : ∃ l, l = recC y := ⟨_, rfl⟩
          have HL10 : Hid (yc.length = 10) := by rw [hyc]; rfl
          have HO1 : Hid (yc.toArray.all (·.oneCell') = true) := by rw [hyc]; exact recC_one y
          have Hyc : Hid (yc = recC y) := hyc
          have Hrg : Hid (wr.rangeAt bt (k * 10) yc) := by rw [hyc]; exact rangeAt_below hrg0 hBx hbt
          have hAY : Below wr.heap.size wr (wr.alloc (.cells yc.toArray 108)) := (Below.refl _ _).alloc (Nat.le_refl _) _
          have HNx : Hid (∀ w', Below wr.heap.size wr w' → stirP x y = false → (∀ c ∈ st.recs.take (k + 1), stirP x c = false) ∧ Below w5.heap.size w5 w') := fun w' hb hc => ⟨fun c hcm => by
           rw [List.take_add_one, Gk.out] at hcm
           rcases List.mem_append.1 hcm with h | h
           ·exact Hl.out c h
           ·simp at h; subst h; exact hc, hnx.trans (hb.mono hzx)⟩
          have q0 : yc.toArray[0]? = some (.int .i64 y.who.1) := by rw [Hyc.out]; rfl
          have q1 : yc.toArray[1]? = some (.int .i64 y.who.2.1) := by rw [Hyc.out]; rfl
          have q2 : yc.toArray[2]? = some (.int .i64 y.who.2.2) := by rw [Hyc.out]; rfl
          have q3 : yc.toArray[3]? = some (.int .i64 y.at_.1) := by rw [Hyc.out]; rfl
          have q4 : yc.toArray[4]? = some (.int .i64 y.at_.2) := by rw [Hyc.out]; rfl
          have q5 : yc.toArray[5]? = some (.int .i64 y.lo) := by rw [Hyc.out]; rfl
          have q6 : yc.toArray[6]? = some (.int .i64 y.hi) := by rw [Hyc.out]; rfl
          have q7 : yc.toArray[7]? = some (.bool y.write) := by rw [Hyc.out]; rfl
          have q8 : yc.toArray[8]? = some (.bool y.waits) := by rw [Hyc.out]; rfl
          have q9 : yc.toArray[9]? = some (.int .i64 y.came) := by rw [Hyc.out]; rfl
          obtain ⟨u0, u1, u2, u3, u4, u5, u6, u7, u8, u9⟩ := rec_cells (rangeAt_below HQ.out hnx hb7l)
          simp only [Nat.zero_add] at u0 u1 u2 u3 u4 u5 u6 u7 u8 u9
          have l7 : b7 < wr.heap.size := by omega
          have lw : w.heap.size < wr.heap.size := by omega
          have HX6 : Hid (wr.heap[w.heap.size]? = some (.cells (stepC x).toArray 30 (0, 0))) := by unfold Hid; rw [hnx.block _ (by omega)]; exact HX5.out
          clear hyc gk hrg0
          cases hmt : meetB y q
          ·skip
           have hcall := meet_is (a := y) (b := q) hmt
           unfold recV at hcall
           go_wp2_with (first | (refine wpList_load_mid rfl 108 _ rfl bt (k * 10) rfl yc _ Hrg.out Try.underlying108 rfl ?sz ?_) | (refine wpList_store_row rfl 108 _ _ rfl wr.heap.size yc.toArray rfl rfl 108 _ (heap_alloc_new wr _) ?hsz ?hold ?hone ?_))
           case sz => rw [HL10.out]; exact size108
           case hsz => rw [show yc.toArray.size = 10 from by simpa using HL10.out]; exact size108
           case hold => rw [show yc.toArray.size = 10 from by simpa using HL10.out]; rfl
           case hone => exact HO1.out
           refine (hcall _).mono ?_
           clear hcall
           rintro e w7 ⟨rfl, hb7⟩
           have hB7 : Below wr.heap.size wr w7 := hAY.trans (hb7.mono hAY.size)
           clear hb7
           go_wp2
           go_roundw
           case rel =>
            obtain ⟨h1, h2⟩ := HNx.out _ hB7 (by unfold stirP; rw [← hq.out, hmt]; rfl)
            exact ⟨k + 1, by omega, by go_num, h1, h2⟩
           case measure => simp [intOf]; omega
          ·skip
           have hcall := meet_is (a := y) (b := q) hmt
           unfold recV at hcall
           go_wp2_with (first | (refine wpList_load_mid rfl 108 _ rfl bt (k * 10) rfl yc _ Hrg.out Try.underlying108 rfl ?sz ?_) | (refine wpList_store_row rfl 108 _ _ rfl wr.heap.size yc.toArray rfl rfl 108 _ (heap_alloc_new wr _) ?hsz ?hold ?hone ?_))
           case sz => rw [HL10.out]; exact size108
           case hsz => rw [show yc.toArray.size = 10 from by simpa using HL10.out]; exact size108
           case hold => rw [show yc.toArray.size = 10 from by simpa using HL10.out]; rfl
           case hone => exact HO1.out
           refine (hcall _).mono ?_
           clear hcall
           rintro e w7 ⟨rfl, hb7⟩
           have hB7 : Below wr.heap.size wr w7 := hAY.trans (hb7.mono hAY.size)
           have hN7 : w7.heap[wr.heap.size]? = some (.cells yc.toArray 108 (0, 0)) := by rw [hb7.block _ (by simp)]; exact heap_alloc_new wr _
           have p0 : w7.cell? ⟨wr.heap.size, 0, none⟩ = some (.int .i64 y.who.1) := by rw [cell_of_row _ _ _ _ _ _ hN7]; exact q0
           have p1 : w7.cell? ⟨wr.heap.size, 1, none⟩ = some (.int .i64 y.who.2.1) := by rw [cell_of_row _ _ _ _ _ _ hN7]; exact q1
           have p2 : w7.cell? ⟨wr.heap.size, 2, none⟩ = some (.int .i64 y.who.2.2) := by rw [cell_of_row _ _ _ _ _ _ hN7]; exact q2
           have hX7 : w7.heap[w.heap.size]? = some (.cells (stepC x).toArray 30 (0, 0)) := by rw [hB7.block _ (by omega)]; exact HX6.out
           obtain ⟨m0, m1, m2, _, _, _, _, _, _⟩ := step_cells hX7
           clear hN7 hX7 hb7 hsr q0 q1 q2 q3 q4 q5 q6 q7 q8 q9 u0 u1 u2 u3 u4 u5 u6 u7 u8 u9
           cases hsw : sameW y.who.1 y.who.2.1 y.who.2.2 x.who.1 x.who.2.1 x.who.2.2
           ·go_wp2_with fail
            refine (sameWho_is hsw _).mono ?_
            rintro e w8 ⟨rfl, hb8⟩
            have hB8 : Below w.heap.size w w8 := hBx.trans ((hB7.trans (hb8.mono hB7.size)).mono hBx.size)
            go_wp2
            go_ret
            refine ⟨ret_bool ?_, hB8⟩
            rw [HCB.out]
            have : st.recs.any (stirP x) = true := by
             rw [List.any_eq_true]
             exact ⟨y, List.mem_of_getElem? Gk.out, by unfold stirP; rw [← hq.out, hmt, hsw]; rfl⟩
            rw [this]; rfl
           ·go_wp2_with fail
            refine (sameWho_is hsw _).mono ?_
            rintro e w8 ⟨rfl, hb8⟩
            have hB8 : Below wr.heap.size wr w8 := hB7.trans (hb8.mono hB7.size)
            clear hb8
            go_wp2
            go_roundw
            case rel =>
             obtain ⟨h1, h2⟩ := HNx.out _ hB8 (by unfold stirP; rw [hsw]; simp)
             exact ⟨k + 1, by omega, by go_num, h1, h2⟩
            case measure => simp [intOf]; omega
         ·have ek : k = st.recs.length := by omega
          subst ek
          go_wp2
          go_ret
          refine ⟨ret_bool ?_, hBx⟩
          rw [HCB.out]
          have : st.recs.any (stirP x) = false := by
           rw [List.any_eq_false]
           intro c hc
           rw [Hl.out c (by rw [List.take_length]; exact hc)]; simp
          rw [this]; rfl
end Go.Proofs.Ytpbcplfpjcacfaa
namespace Go.Proofs.Ytpbcplfpjcacfaa
open Go.RowKit
attribute [local go_sem ↓] Go.wp_at_zero Go.wp_at_succ
set_option maxRecDepth 100000
set_option maxHeartbeats 8000000
theorem op_cells {w : World} {g ty : Nat} {x0 x1 x2 x3 x4 x5 x6 x7 x8 x9 : Value} (h : w.heap[g]? = some (.cells #[x0, x1, x2, x3, x4, x5, x6, x7, x8, x9] ty (0, 0))) :
  w.cell? ⟨g, 0, none⟩ = some x0 ∧ w.cell? ⟨g, 1, none⟩ = some x1 ∧ w.cell? ⟨g, 2, none⟩ = some x2 ∧ w.cell? ⟨g, 3, none⟩ = some x3 ∧ w.cell? ⟨g, 4, none⟩ = some x4 ∧ w.cell? ⟨g, 5, none⟩ = some x5 ∧ w.cell? ⟨g, 6, none⟩ = some x6 ∧ w.cell? ⟨g, 7, none⟩ = some x7 ∧ w.cell? ⟨g, 8, none⟩ = some x8 ∧ w.cell? ⟨g, 9, none⟩ = some x9 ∧ w.frozen? ⟨g, 1, none⟩ = false ∧ w.frozen? ⟨g, 2, none⟩ = false ∧ w.frozen? ⟨g, 3, none⟩ = false := by
 refine ⟨?_, ?_, ?_, ?_, ?_, ?_, ?_, ?_, ?_, ?_, frozen_of_row w g 1 _ _ h, frozen_of_row w g 2 _ _ h, frozen_of_row w g 3 _ _ h⟩
 all_goals (rw [cell_of_row w g _ _ _ (0, 0) h]; rfl)
theorem apart_no (P : Pgm) (k v c : Int) (sv : Value) (w : World) (h : mayB k v c = false) :
  Calls Try.prog 5 #[.agg #[.int .i64 k, .int .i64 v, .int .i64 c], sv] w fun e w' => e = .returned (.bool true) ∧ Below w.heap.size w w' := by
 go_enter Try.func5, Try.ntmps5
 go_wp2_with fail
 refine (bothBegun_no P k v c _ h).mono ?_
 rintro e w1 ⟨rfl, hb1⟩
 have hB1 : Below w.heap.size w w1 := ((Below.refl _ _).alloc (Nat.le_refl _) _).trans (hb1.mono (by simp))
 go_wp2
 go_ret
 exact ⟨rfl, hB1⟩
theorem PlayInv.calm {P : Pgm} {D : P.Doc} {B bb p r n : Nat} {w : World} (h : PlayInv P D B bb p r n w) : bb < w.heap.size ∧ w.cell? ⟨bb, 1, none⟩ = some (.pointer (some ⟨r, 0, none⟩)) ∧ ∀ x, ∃ q : Bool, ∀ W, Below w.heap.size w W → Calls Try.prog 18 #[.pointer (some ⟨r, 0, none⟩), stepV x] W fun e w' => e = .returned (.bool q) ∧ Below W.heap.size W w' := by
 obtain ⟨s, st, ownP, ownR, G, ho⟩ := h
 exact ⟨(Array.getElem?_eq_some_iff.1 G.both.blk).1, (both_cells G.both.blk).2, fun x => ⟨st.calm x, fun W hW => calm_any r st ownR x W (G.both.rr.below hW)⟩⟩
theorem apart_yes (P : Pgm) (D : P.Doc) (k v c : Int) (sv : Value) (script : List Ent) (w : World) (h : mayB k v c = true) (hsc : isScript w sv script) (hlen : script.length < 4398046511104) :
  Calls Try.prog 5 #[.agg #[.int .i64 k, .int .i64 v, .int .i64 c], sv] w fun e w' => e = .returned (.bool true) ∧ Below w.heap.size w w' := by
 obtain ⟨ao, cap, rfl, hmax, hel⟩ := hsc
 unfold maxLen at hmax
 go_enter Try.func5, Try.ntmps5
 go_wp2_with fail
 refine (bothBegun_yes P k v c _ h).mono ?_
 rintro e w1 ⟨bb, p, r, ownP, ownR, rfl, hb1, f1, f2, f3⟩
 have hB1 : Below w.heap.size w w1 := ((Below.refl _ _).alloc (Nat.le_refl _) _).trans (hb1.mono (by simp))
 have II : Hid (PlayInv P D w.heap.size bb p r 0 w1) := ⟨_, _, ownP, ownR, ⟨f2, P.okStart h, D.start h, Fit0 k v c, (mayB_t h).2.2.2.2.2⟩, fun q hq => by have := f3 q hq; simp at this; omega⟩
 have HE : Hid (∀ i o, script[i]? = some o → ∃ b off, ao = some ⟨b, off, none⟩ ∧ b < w.heap.size ∧ w.rangeAt b (off + i * 10) (entC o)) := hel
 clear hb1 f1 f2 f3 hel
 go_wp2_with fail
 go_loopw [6, 7] (fun ok i wr => ∃ n : Nat, n ≤ script.length ∧ i = .int .i64 n ∧ ok = .bool true ∧ Hid (PlayInv P D w.heap.size bb p r n wr) ∧ Hid (Below w.heap.size w wr)) (fun _ i _ => script.length - (intOf i).toNat)
 case atStart => exact ⟨0, Nat.zero_le _, rfl, rfl, II, hB1⟩
 case round =>
  obtain ⟨n, hn, rfl, rfl, In, hB⟩ := hrel
  have hz := hB.out.size
  by_cases hlt : n < script.length
  ·have hg := List.getElem?_eq_getElem hlt
   generalize script[n] = o at hg
   obtain ⟨b, off, rfl, hbl, hrg⟩ := HE.out n o hg
   have hrg' : wr.rangeAt b (off + n * 10) (entC o) := rangeAt_below hrg hB.out hbl
   have zn : (n : Int) < (script.length : Int) := by omega
   obtain ⟨hbb, c1, hcalm⟩ := In.out.calm
   obtain ⟨q, hq⟩ := hcalm o.step
   have HCM : Hid (type_of% hq) := hq
   clear hrg hg hcalm hq
   obtain ⟨lk, x⟩ := o
   unfold entC stepC at hrg'
   have hBA : Below wr.heap.size wr (wr.alloc (.cells #[.bool lk, .int .i64 x.who.1, .int .i64 x.who.2.1, .int .i64 x.who.2.2, .int .i64 x.op, .int .i64 x.at_.1, .int .i64 x.at_.2, .int .i64 x.key, .int .i64 x.to_, .int .i64 x.value] 32)) := (Below.refl _ _).alloc (Nat.le_refl _) _
   have hNA : (wr.alloc (.cells #[.bool lk, .int .i64 x.who.1, .int .i64 x.who.2.1, .int .i64 x.who.2.2, .int .i64 x.op, .int .i64 x.at_.1, .int .i64 x.at_.2, .int .i64 x.key, .int .i64 x.to_, .int .i64 x.value] 32)).heap[wr.heap.size]? = some (.cells #[.bool lk, .int .i64 x.who.1, .int .i64 x.who.2.1, .int .i64 x.who.2.2, .int .i64 x.op, .int .i64 x.at_.1, .int .i64 x.at_.2, .int .i64 x.key, .int .i64 x.to_, .int .i64 x.value] 32 (0, 0)) := heap_alloc_new wr _
   cases lk with
   | true =>
    go_wp2_with (first | (refine wpList_load_mid rfl 32 _ rfl b (off + n * 10) rfl _ _ hrg' Try.underlying32 rfl size32 ?_))
    have hst := (In.out.below hBA).step (Nat.le_trans hz hBA.size) (by omega) ⟨true, x⟩
    simp only [entA, entC, stepC] at hst
    refine hst.mono ?_
    clear hst
    rintro e w2 ⟨y, rfl, i1, hb2⟩
    have I1 : Hid (PlayInv P D w.heap.size bb p r (n + 1) w2) := i1
    have HB2 : Hid (Below w.heap.size w w2) := hB.out.trans ((hBA.mono hz).trans hb2)
    clear i1 hNA hBA hb2
    go_wp2
    go_roundw
    case rel => exact ⟨n + 1, by omega, by go_num, rfl, I1, HB2⟩
    case measure => simp [intOf]; omega
   | false =>
    go_upto_region 9 with (first | (refine wpList_load_mid rfl 32 _ rfl b (off + n * 10) rfl _ _ hrg' Try.underlying32 rfl size32 ?_))
    have c1' := cell_later hBA c1
    obtain ⟨x0, x1, x2, x3, x4, x5, x6, x7, x8, x9, _, _, _⟩ := op_cells hNA
    have hcm : ∀ y : Kin (wr.alloc (.cells #[.bool false, .int .i64 x.who.1, .int .i64 x.who.2.1, .int .i64 x.who.2.2, .int .i64 x.op, .int .i64 x.at_.1, .int .i64 x.at_.2, .int .i64 x.key, .int .i64 x.to_, .int .i64 x.value] 32)), Calls Try.prog 18 #[.pointer (some ⟨r, 0, none⟩), stepV x] y.w fun e w' => e = .returned (.bool q) ∧ Below y.w.heap.size y.w w' := fun y => HCM.out _ (hBA.trans (y.h.mono hBA.size))
    unfold stepV at hcm
    have HCM' : Hid (type_of% hcm) := hcm
    clear hcm
    generalize wr.alloc (.cells #[.bool false, .int .i64 x.who.1, .int .i64 x.who.2.1, .int .i64 x.who.2.2, .int .i64 x.op, .int .i64 x.at_.1, .int .i64 x.at_.2, .int .i64 x.key, .int .i64 x.to_, .int .i64 x.value] 32 (0, 0)) = wA at *
    have kc := kin_cell c1'
    have k1 := kin_cell x1
    have k2 := kin_cell x2
    have k3 := kin_cell x3
    have k4 := kin_cell x4
    have k5 := kin_cell x5
    have k6 := kin_cell x6
    have k7 := kin_cell x7
    have k8 := kin_cell x8
    have k9 := kin_cell x9
    have hki := kin_some wA
    refine wp_region_kin (by kernel_rfl) (by kernel_rfl) ?_
    repeat (first | go_big_quiet_step ((go_at_call 18; exact Calls.kin (HCM'.out _))) | quiet_step ((go_at_call 18; exact Calls.kin (HCM'.out _))))
    refine wpQuiet_nil ?_
    intro _ hw'
    obtain ⟨xq, hw''⟩ := hw'
    subst hw''
    have hBq : Below wr.heap.size wr xq.w := hBA.trans (xq.h.mono hBA.size)
    cases q with
    | false =>
     go_wp2
     go_ret
     exact ⟨rfl, hB.out.trans (hBq.mono hz)⟩
    | true =>
     have q0 := cell_later xq.h x0
     have q1 := cell_later xq.h x1
     have q2 := cell_later xq.h x2
     have q3 := cell_later xq.h x3
     have q4 := cell_later xq.h x4
     have q5 := cell_later xq.h x5
     have q6 := cell_later xq.h x6
     have q7 := cell_later xq.h x7
     have q8 := cell_later xq.h x8
     have q9 := cell_later xq.h x9
     have Iq : Hid (PlayInv P D w.heap.size bb p r n xq.w) := In.out.below hBq
     have HBq : Hid (Below w.heap.size w xq.w) := hB.out.trans (hBq.mono hz)
     clear kc k1 k2 k3 k4 k5 k6 k7 k8 k9 x0 x1 x2 x3 x4 x5 x6 x7 x8 x9 c1' hNA hBA hki hBq
     generalize xq.w = wq at *
     go_wp2_with fail
     have hst := Iq.out.step (HBq.out.size) (by omega) ⟨false, x⟩
     simp only [entA, entC, stepC] at hst
     refine hst.mono ?_
     clear hst
     rintro e w2 ⟨y, rfl, i1, hb2⟩
     have I1 : Hid (PlayInv P D w.heap.size bb p r (n + 1) w2) := i1
     have HB2 : Hid (Below w.heap.size w w2) := HBq.out.trans hb2
     clear i1 hb2
     go_wp2
     go_roundw
     case rel => exact ⟨n + 1, by omega, by go_num, rfl, I1, HB2⟩
     case measure => simp [intOf]; omega
  ·go_wp2
   go_ret
   exact ⟨rfl, hB.out⟩
theorem apart_walk (P : Pgm) (D : P.Doc) (k v c : Int) (sv : Value) (script : List Ent) (w : World) (hsc : isScript w sv script) (hlen : script.length < 4398046511104) :
  Calls Try.prog 5 #[.agg #[.int .i64 k, .int .i64 v, .int .i64 c], sv] w fun e w' => e = .returned (.bool true) ∧ Below w.heap.size w w' := by
 cases h : mayB k v c with
 | true => exact apart_yes P D k v c sv script w h hsc hlen
 | false => exact apart_no P k v c sv w h
end Go.Proofs.Ytpbcplfpjcacfaa
namespace Go.Proofs.Ytpbcplfpjcacfaa
open Go.ChangeShapes Go.WideShapes Go.ChangeAt Go.RowKit Go.Joins Go.Deep
set_option linter.unusedVariables false
set_option maxRecDepth 100000
set_option maxHeartbeats 8000000
theorem apart_lifted (P : Pgm) (D : P.Doc) (os : Os) (started : os.Started) (H : Type) (enc : TypeId × Value → H) :
  ReturnsInHanded {} Try.checked os 5 .any (Rows.apartSpec.pre6 enc Try.prog Try.f5 Rows.apartRow.domain false) (Rows.apartSpec.post enc Try.prog Try.f5 false true false false) := by
 refine returnsInHanded_of_change_sized (C := Try.checked) tryOwn started (by kernel_rfl) Try.func5
  (ChangeSpec.witness6 (enc := enc) (C := Try.checked) false ⟨#[], #[.agg #[.int .i64 0, .int .i64 0, .int .i64 0], .slice none 0 0], []⟩ 8 (by kernel_rfl) (by kernel_rfl) (by kernel_rfl) (by kernel_rfl)) ?_
 intro W base args ds gs before hval0 hW hcnd hsz0 _
 have hsz : (DataW.weightsEach Try.prog (Try.f5.params.toList ++ Rows.apartSpec.plain.varTypes Try.prog) (ds ++ gs)).all (· ≤ reachBytes) = true := hsz0
 have hval : ∀ (j : Nat) t v, Try.f5.params[j]? = some t → args[j]? = some v → Value.okWide Try.prog W .any base t v := hval0
 have hW' := hW
 obtain ⟨p, q, hA0, hV, rfl, hfz, hnd⟩ := hW
 have hA : DataW.TrodAll enc Try.prog W 0 (fun _ => true) true Try.f5.params.toList args.toList ds p := hA0
 rw [Try.params5] at hA hval hsz
 obtain ⟨v0, vs0, d0, ds0, p0, q0, hargs, rfl, rfl, h0, r0⟩ := trodAll_cons hA
 obtain ⟨v1, vs1, d1, ds1, p1, q1, rfl, rfl, rfl, h1, r1⟩ := trodAll_cons r0
 obtain ⟨rfl, rfl, rfl⟩ := trodAll_nil r1
 obtain rfl : args = #[v0, v1] := by cases args; simp_all
 obtain ⟨rfl, rfl⟩ := trodVars_none hV
 have lt0 : ∀ x ∈ p0, x.block < W.heap.size := by obtain ⟨m, hm⟩ := h0; exact DataW.trod_lt m _ _ _ hm
 have lt1 : ∀ x ∈ p1, x.block < W.heap.size := by obtain ⟨m, hm⟩ := h1; exact DataW.trod_lt m _ _ _ hm
 obtain ⟨a, b, c, rfl⟩ := open_config (hval 0 23 v0 rfl rfl) h0
 obtain ⟨script, hsc, hd1⟩ := open_ops (hval 1 33 v1 rfl rfl) h1
 have hlen : script.length * 80 ≤ 140737488351232 := by
  rcases hd1 with ⟨rfl, rfl⟩ | ⟨es, s, rfl, e⟩
  ·simp
  ·have := sized_slice hsz (j := 1) (t := 33) (e := 32) rfl rfl Try.underlying33
   rw [bytesOp, e] at this
   simp only [reachBytes] at this
   have h2 : script.length * 80 ≤ (script.length + s.length) * 80 := Nat.mul_le_mul_right _ (Nat.le_add_right _ _)
   omega
 clear hA0 hval0
 refine (apart_walk P D a b c v1 script W hsc (by omega)).mono fun e W' ⟨he, bel⟩ => ?_
 subst he
 exact ⟨_, rfl, _, _, _, [], _, [], hW', trodAll_mk1 (shut_bool Try.underlying4 _), (trodAll_cons_mk (Below.trod tryLaid (by kernel_rfl) (of_decide_eq_true (by kernel_rfl)) h0 bel lt0) (trodAll_cons_mk (Below.trod tryLaid (by kernel_rfl) (of_decide_eq_true (by kernel_rfl)) h1 bel lt1) trodAll_mk0)), rfl, bel.frame _, fun h => by cases h⟩
theorem apart_over (P : Pgm) (D : P.Doc) : Rows.apartRow.holds Try.pinned (OpenSpec.ofChange Rows.apartSpec) :=
 OpenClaim.holds_of_wide 5 Try.f5 rfl rfl rfl rfl rfl rfl rfl ⟨rfl, rfl, rfl, rfl, rfl⟩ rfl rfl rfl rfl rfl (by kernel_rfl) Try.func5 (by kernel_rfl)
  (of_decide_eq_true (by kernel_rfl)) (by unfold Func.isWrapper; first | (rw [if_pos (by decide +kernel)]; kernel_rfl) | (rw [if_neg (by decide +kernel)]; exact ⟨rfl, rfl⟩))
  (fun os started H enc _ => apart_lifted P D os started H enc)
theorem apart_said (P : Pgm) (D : P.Doc) : Rows.ApartSaid := apart_over P D
theorem apart_holds : Rows.ApartSaid := apart_said thePgm theDoc
#print axioms apart_holds
end Go.Proofs.Ytpbcplfpjcacfaa
