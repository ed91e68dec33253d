import Derived.Test.YtpbcplfpjcacfaaLooked
namespace Go.Proofs.Ytpbcplfpjcacfaa
open Go.RowKit
attribute [local go_sem ↓] Go.wp_at_zero Go.wp_at_succ

def st0 (k v c : Int) : RS := ⟨k, v, c, [], [], [], [], 0, 0⟩
def own0 (r : Nat) : Own := fun b => if b = r then some (1, 0, 0, 0) else none
theorem rep0 {w : World} {r : Nat} {k v c : Int} (h : w.heap[r]? = some (.cells #[.int .i64 k, .int .i64 v, .int .i64 c, .slice none 0 0, .slice none 0 0, .slice none 0 0, .slice none 0 0, .int .i64 0, .int .i64 0] 106 (0, 0))) :
    Rep w r (st0 k v c) (own0 r) := by
  refine ⟨fun _ => (undef, undef, undef), .slice none 0 0, .slice none 0 0, .slice none 0 0, .slice none 0 0, ?_⟩
  have nl : ∀ {α : Type} (tag : Tag) (e size : Nat) (f : α → List Value), Row w (own0 r) tag e size (.slice none 0 0) ([] : List α) f := fun tag e size f =>
    ⟨World.ownsRow_nil w 0 e size, fun b hb => by cases hb⟩
  exact {
    root := h
    rootTag := by simp [own0]
    places := nl _ _ _ _
    txns := nl _ _ _ _
    recs := nl _ _ _ _
    ended := nl _ _ _ _
    olds := fun t ht => by cases ht
    puts := fun t ht => by cases ht
    told := fun t ht => by cases ht
    toldV := fun t ht => by cases ht
    old := fun b hb => by
      unfold own0 at hb
      split at hb
      · subst_vars; exact (Array.getElem?_eq_some_iff.1 h).1
      · exact absurd rfl hb }

set_option maxHeartbeats 1000000 in
set_option maxRecDepth 100000 in
theorem begun_yes (k v c : Int) (w : World) (h : mayB k v c = true) :
    Calls Try.prog 17 #[.agg #[.int .i64 k, .int .i64 v, .int .i64 c]] w fun e w' =>
      ∃ bb p r, e = .returned (.tuple #[.pointer (some ⟨bb, 0, none⟩), .bool true]) ∧ Below w.heap.size w w' ∧ w.heap.size ≤ p ∧ p < r ∧ r < bb ∧
        w'.heap[p]? = some (.cells ⟨storeZ k v c⟩ 138 (0, 0)) ∧ w'.heap[bb]? = some (.cells #[.pointer (some ⟨p, 0, none⟩), .pointer (some ⟨r, 0, none⟩)] 43 (0, 0)) ∧
        w'.heap[r]? = some (.cells #[.int .i64 k, .int .i64 v, .int .i64 c, .slice none 0 0, .slice none 0 0, .slice none 0 0, .slice none 0 0, .int .i64 0, .int .i64 0] 106 (0, 0)) := by
  go_enter Try.func17, Try.ntmps17
  go_wp2_with fail
  refine (new_yes k v c _ h).mono ?_
  rintro e w1 ⟨rfl, rfl⟩
  go_wp2_with fail
  refine (may_any k v c _).mono ?_
  rintro e w2 ⟨rfl, hb2⟩
  rw [h]
  have hB2 : Below w.heap.size w w2 := ((((Below.refl _ _).alloc (Nat.le_refl _) _).alloc (by simp) _).alloc (by simp; omega) _).trans (hb2.mono (by simp; omega))
  have z2 : w.heap.size + 3 ≤ w2.heap.size := by have := hb2.size; simp at this; omega
  have hP : w2.heap[w.heap.size + 1 + 1]? = some (.cells ⟨storeZ k v c⟩ 138 (0, 0)) := by
    rw [hb2.block _ (by simp)]
    have := heap_alloc_new ((w.alloc (.cells #[.int .i64 k, .int .i64 v, .int .i64 c] 23)).alloc (.cells #[.int .i64 k, .int .i64 v, .int .i64 c] 23)) (.cells ⟨storeZ k v c⟩ 138 (0, 0))
    simpa using this
  have q0 : w2.cell? ⟨w.heap.size, 0, none⟩ = some (.int .i64 k) := by
    rw [hb2.cell (p := ⟨w.heap.size, 0, none⟩) (by simp; omega), World.cell?_alloc_lt _ _ _ (by simp; omega), World.cell?_alloc_lt _ _ _ (by simp)]; simp
  have q1 : w2.cell? ⟨w.heap.size, 1, none⟩ = some (.int .i64 v) := by
    rw [hb2.cell (p := ⟨w.heap.size, 1, none⟩) (by simp; omega), World.cell?_alloc_lt _ _ _ (by simp; omega), World.cell?_alloc_lt _ _ _ (by simp)]; simp
  have q2 : w2.cell? ⟨w.heap.size, 2, none⟩ = some (.int .i64 c) := by
    rw [hb2.cell (p := ⟨w.heap.size, 2, none⟩) (by simp; omega), World.cell?_alloc_lt _ _ _ (by simp; omega), World.cell?_alloc_lt _ _ _ (by simp)]; simp
  clear hb2
  go_wp2_with fail
  refine (num_any 0 _).mono ?_
  rintro e w5 ⟨rfl, rfl⟩
  go_wp2_with fail
  refine (refnew_any k v c _).mono ?_
  rintro e w5 ⟨rfl, rfl⟩
  go_wp2
  go_ret2
  refine ⟨w2.heap.size + 1 + 1, w.heap.size + 1 + 1, w2.heap.size + 1, rfl, ?_, by omega, by omega, by omega, ?_, ?_, ?_⟩
  · exact (((hB2.alloc (by omega) _).alloc (by simp; omega) _).alloc (by simp; omega) _)
  · rw [Below.heap_alloc _ _ _ (by simp; omega), Below.heap_alloc _ _ _ (by simp; omega), Below.heap_alloc _ _ _ (by omega)]; exact hP
  · have := heap_alloc_new ((w2.alloc (.cells #[.int .i64 k, .int .i64 v, .int .i64 c] 23)).alloc (.cells #[.int .i64 k, .int .i64 v, .int .i64 c, .slice none 0 0, .slice none 0 0, .slice none 0 0, .slice none 0 0, .int .i64 0, .int .i64 0] 106)) (.cells #[.pointer (some ⟨w.heap.size + 1 + 1, 0, none⟩), .pointer (some ⟨w2.heap.size + 1, 0, none⟩)] 43 (0, 0))
    simpa using this
  · rw [Below.heap_alloc _ _ _ (by simp)]
    have := heap_alloc_new (w2.alloc (.cells #[.int .i64 k, .int .i64 v, .int .i64 c] 23)) (.cells #[.int .i64 k, .int .i64 v, .int .i64 c, .slice none 0 0, .slice none 0 0, .slice none 0 0, .slice none 0 0, .int .i64 0, .int .i64 0] 106 (0, 0))
    simpa using this
set_option maxHeartbeats 1000000 in
theorem begun_no (k v c : Int) (w : World) (h : mayB k v c = false) :
    Calls Try.prog 17 #[.agg #[.int .i64 k, .int .i64 v, .int .i64 c]] w fun e w' =>
      e = .returned (.tuple #[.pointer none, .bool true]) ∧ Below w.heap.size w w' := by
  go_enter Try.func17, Try.ntmps17
  go_wp2_with fail
  refine (new_no k v c _ h).mono ?_
  rintro e w1 ⟨rfl, hb1⟩
  have hB1 : Below w.heap.size w w1 := ((Below.refl _ _).alloc (Nat.le_refl _) _).trans (hb1.mono (by simp))
  obtain ⟨hc, _⟩ := bcell hb1
  have z1 : w.heap.size < w1.heap.size := by have := hb1.size; simp at this; omega
  go_wp2_with fail
  refine (may_any k v c _).mono ?_
  rintro e w2 ⟨rfl, hb2⟩
  rw [h]
  have hB2 : Below w.heap.size w w2 := hB1.trans (hb2.mono (by omega))
  clear hc hb2 hb1
  go_wp2_with fail
  refine (num_any 1 _).mono ?_
  rintro e w5 ⟨rfl, rfl⟩
  go_wp2
  go_ret2
  exact ⟨rfl, hB2⟩
end Go.Proofs.Ytpbcplfpjcacfaa
