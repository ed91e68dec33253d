import Derived.Test.YtpbcplfpjcacfaaItems
namespace Go.Proofs.Ytpbcplfpjcacfaa
open Go.RowKit

/-- The value is a slice that reads as these items. -/
def isItems (w : World) (v : Value) (l : List (Int × Int)) : Prop :=
  (v = .slice none 0 0 ∧ l = []) ∨ ∃ b o cap, v = .slice (some ⟨b, o, none⟩) l.length cap ∧ w.rangeAt b o (itemsV l) ∧ l.length ≤ maxLen

theorem itemsV_get : ∀ (l : List (Int × Int)) (k : Nat) (x : Int × Int), l[k]? = some x → (itemsV l)[2 * k]? = some (.int .i64 x.1) ∧ (itemsV l)[2 * k + 1]? = some (.int .i64 x.2)
  | [], k, x, h => by simp at h
  | y :: l, 0, x, h => by
    simp at h; subst h
    simp [itemsV, itemV]
  | y :: l, k + 1, x, h => by
    have h' : l[k]? = some x := by simpa using h
    obtain ⟨a, b⟩ := itemsV_get l k x h'
    have e : itemsV (y :: l) = itemV y ++ itemsV l := by simp [itemsV]
    rw [e, List.getElem?_append_right (by simp [itemV]; omega), List.getElem?_append_right (by simp [itemV]; omega)]
    simp only [itemV, List.length_cons, List.length_nil]
    rw [show 2 * (k + 1) - (0 + 1 + 1) = 2 * k by omega, show 2 * (k + 1) + 1 - (0 + 1 + 1) = 2 * k + 1 by omega]
    exact ⟨a, b⟩

theorem ownsRow_items {w : World} {base e : Nat} {v : Value} {l : List (Int × Int)} (h : w.ownsRow base e 2 v l.length (itemsV l)) : isItems w v l := by
  rcases h.2 with ⟨rfl, hn⟩ | ⟨g, cap, cur, rfl, _, hg, hnc, hm, _, ht⟩
  · left; exact ⟨rfl, List.eq_nil_of_length_eq_zero hn⟩
  · right
    refine ⟨g, 0, cap, rfl, ?_, by omega⟩
    intro j u hj
    have hj' : j < l.length * 2 := by
      have := (List.getElem?_eq_some_iff.1 hj).1
      rw [len_itemsV] at this; omega
    rw [cell_of_row w g (0 + j) cur e (0, 0) hg]
    rw [← ht, List.getElem?_take_of_lt hj'] at hj
    simpa using hj

theorem range_item {w : World} {b o : Nat} {l : List (Int × Int)} (h : w.rangeAt b o (itemsV l)) (k : Nat) (x : Int × Int) (hx : l[k]? = some x) :
    w.cell? ⟨b, o + k * 2, none⟩ = some (.int .i64 x.1) ∧ w.cell? ⟨b, o + k * 2 + 1, none⟩ = some (.int .i64 x.2) := by
  obtain ⟨p, q⟩ := itemsV_get l k x hx
  have a := h _ _ p
  have c := h _ _ q
  rw [show o + 2 * k = o + k * 2 by omega] at a
  rw [show o + (2 * k + 1) = o + k * 2 + 1 by omega] at c
  exact ⟨a, c⟩
theorem take_same {l1 l2 : List (Int × Int)} {k : Nat} {x : Int × Int} (h1 : l1[k]? = some x) (h2 : l2[k]? = some x) (ht : l1.take k = l2.take k) : l1.take (k + 1) = l2.take (k + 1) := by
  rw [List.take_add_one, List.take_add_one, ht, h1, h2]
theorem at_differs {l1 l2 : List (Int × Int)} {k : Nat} {x y : Int × Int} (h1 : l1[k]? = some x) (h2 : l2[k]? = some y) (h : x ≠ y) : decide (l1 = l2) = false := by
  apply decide_eq_false
  intro e
  rw [e, h2] at h1
  exact h (Option.some.inj h1).symm
theorem below_drewN2 {w : World} (m n : Nat) : Below w.heap.size w ((w.drewN m).drewN n) := ⟨rfl, rfl, rfl, Nat.le_refl _, fun _ _ => rfl⟩
theorem below_drewN {w : World} (n : Nat) : Below w.heap.size w (w.drewN n) := ⟨rfl, rfl, rfl, Nat.le_refl _, fun _ _ => rfl⟩

set_option maxHeartbeats 1000000 in
set_option maxRecDepth 100000 in
theorem same_go (b1 o1 cap1 b2 o2 cap2 : Nat) (l1 l2 : List (Int × Int)) (w : World) (hlen : l1.length = l2.length) (hm : l1.length ≤ maxLen)
    (h1 : w.rangeAt b1 o1 (itemsV l1)) (h2 : w.rangeAt b2 o2 (itemsV l2)) :
    Calls Try.prog 66 #[.slice (some ⟨b1, o1, none⟩) l1.length cap1, .slice (some ⟨b2, o2, none⟩) l2.length cap2] w fun e w' =>
      e = .returned (.bool (decide (l1 = l2))) ∧ Below w.heap.size w w' := by
  unfold maxLen at hm
  have Hl : Hid (l1.length = l2.length) := hlen
  have hq : ((l1.length : Int) != (l2.length : Int)) = false := by simp [hlen]
  clear hlen
  go_enter Try.func66, Try.ntmps66
  go_wp2_with fail
  go_loopw [5] (fun i wr => ∃ k : Nat, k ≤ l1.length ∧ i = .int .i64 k ∧ l1.take k = l2.take k ∧ ∃ nq, w.drewN nq = wr) (fun i _ => l1.length - (intOf i).toNat)
  case atStart => exact ⟨0, Nat.zero_le _, rfl, rfl, 0, rfl⟩
  case round =>
    obtain ⟨k, hk, rfl, ht, nq, rfl⟩ := hrel
    have Ht : Hid (l1.take k = l2.take k) := ht
    clear ht
    by_cases hlt : k < l1.length
    · have hlt2 : k < l2.length := by rw [← Hl.out]; exact hlt
      have g1 := List.getElem?_eq_getElem hlt
      have g2 := List.getElem?_eq_getElem hlt2
      generalize l1[k] = x1 at g1
      generalize l2[k] = x2 at g2
      obtain ⟨p1, q1⟩ := range_item h1 k x1 g1
      obtain ⟨p2, q2⟩ := range_item h2 k x2 g2
      have G1 : Hid (l1[k]? = some x1) := g1
      have G2 : Hid (l2[k]? = some x2) := g2
      clear g1 g2 h1 h2
      have z1 : (k : Int) < (l1.length : Int) := by omega
      have z2 : (k : Int) < (l2.length : Int) := by omega
      by_cases e1 : x1.1 = x2.1
      · have d1 : (x1.1 != x2.1) = false := by simp [e1]
        have E1 : Hid (x1.1 = x2.1) := e1
        clear e1
        by_cases e2 : x1.2 = x2.2
        · have d2 : (x1.2 != x2.2) = false := by simp [e2]
          have E2 : Hid (x1.2 = x2.2) := e2
          clear e2
          go_wp2_with fail
          go_quiet (fail)
          go_wp2
          go_roundw
          case rel => exact ⟨k + 1, by omega, by go_num, take_same G1.out (by rw [G2.out, Prod.ext E1.out E2.out]) Ht.out, _, rfl⟩
          case measure => simp [intOf]; omega
        · have d2 : (x1.2 != x2.2) = true := by simp [e2]
          go_wp2_with fail
          go_quiet (fail)
          go_wp2
          go_ret
          exact ⟨ret_bool (at_differs G1.out G2.out (fun e => e2 (by rw [e]))).symm, below_drewN2 _ _⟩
      · have d1 : (x1.1 != x2.1) = true := by simp [e1]
        go_wp2_with fail
        go_quiet (fail)
        go_wp2
        go_ret
        exact ⟨ret_bool (at_differs G1.out G2.out (fun e => e1 (by rw [e]))).symm, below_drewN2 _ _⟩
    · have e : k = l1.length := by omega
      subst e
      go_wp2
      go_ret
      refine ⟨ret_bool ?_, below_drewN _⟩
      have t := Ht.out
      rw [List.take_length, Hl.out, List.take_length] at t
      simp [t]
set_option maxHeartbeats 1000000 in
theorem same_len (a1 a2 : Option Addr) (n1 n2 cap1 cap2 : Nat) (w : World) (hlen : n1 ≠ n2) :
    Calls Try.prog 66 #[.slice a1 n1 cap1, .slice a2 n2 cap2] w fun e w' => e = .returned (.bool false) ∧ w = w' := by
  have hq : ((n1 : Int) != (n2 : Int)) = true := by simp; omega
  go_enter Try.func66, Try.ntmps66
  go_wp2
  go_ret
  exact ⟨rfl, rfl⟩
set_option maxHeartbeats 1000000 in
theorem same_nil (a1 a2 : Option Addr) (cap1 cap2 : Nat) (w : World) :
    Calls Try.prog 66 #[.slice a1 0 cap1, .slice a2 0 cap2] w fun e w' => e = .returned (.bool true) ∧ w = w' := by
  go_enter Try.func66, Try.ntmps66
  go_wp2
  go_loop [5] (fun i => i = .int .i64 0) (fun _ => 0)
  case atStart => rfl
  case round =>
    subst hrel
    go_wp2
    go_ret
    exact ⟨rfl, rfl⟩
theorem sameItems_any (v1 v2 : Value) (l1 l2 : List (Int × Int)) (w : World) (h1 : isItems w v1 l1) (h2 : isItems w v2 l2) :
    Calls Try.prog 66 #[v1, v2] w fun e w' => e = .returned (.bool (decide (l1 = l2))) ∧ Below w.heap.size w w' := by
  by_cases hl : l1.length = l2.length
  · by_cases hz : l1.length = 0
    · have e1 : l1 = [] := List.eq_nil_of_length_eq_zero hz
      have e2 : l2 = [] := List.eq_nil_of_length_eq_zero (by omega)
      subst e1 e2
      have f : ∀ v, isItems w v [] → ∃ a c, v = .slice a 0 c := by
        intro v hv
        rcases hv with ⟨rfl, _⟩ | ⟨b, o, cap, rfl, _⟩
        · exact ⟨_, _, rfl⟩
        · exact ⟨_, _, rfl⟩
      obtain ⟨a1, c1, rfl⟩ := f v1 h1
      obtain ⟨a2, c2, rfl⟩ := f v2 h2
      refine (same_nil a1 a2 c1 c2 w).mono ?_
      rintro e w' ⟨rfl, rfl⟩
      exact ⟨by simp, Below.refl _ _⟩
    · rcases h1 with ⟨_, rfl⟩ | ⟨b1, o1, cap1, rfl, r1, m1⟩
      · exact absurd rfl hz
      rcases h2 with ⟨_, rfl⟩ | ⟨b2, o2, cap2, rfl, r2, m2⟩
      · exact absurd hl hz
      exact same_go b1 o1 cap1 b2 o2 cap2 l1 l2 w hl m1 r1 r2
  · have f : ∀ v l, isItems w v l → ∃ a c, v = .slice a l.length c := by
      intro v l hv
      rcases hv with ⟨rfl, rfl⟩ | ⟨b, o, cap, rfl, _⟩
      · exact ⟨_, _, rfl⟩
      · exact ⟨_, _, rfl⟩
    obtain ⟨a1, c1, rfl⟩ := f v1 l1 h1
    obtain ⟨a2, c2, rfl⟩ := f v2 l2 h2
    refine (same_len a1 a2 _ _ c1 c2 w hl).mono ?_
    rintro e w' ⟨rfl, rfl⟩
    refine ⟨ret_bool ?_, Below.refl _ _⟩
    symm; apply decide_eq_false
    intro e; rw [e] at hl; exact hl rfl
end Go.Proofs.Ytpbcplfpjcacfaa
