import Derived.Test.YtpbcplfpjcacfaaRows
import Derived.Test.YtpbcplfpjcacfaaZero
import Derived.WalkKit
import Derived.WalkSpells
import Derived.WalkLawsBesides
import Derived.BigQuiet
import Derived.Deep.QuietTactic
namespace Go.Proofs.Ytpbcplfpjcacfaa
open Go.RowKit

theorem bcell {W w1 : World} (hb : Below W.heap.size W w1) : (∀ b o, b < W.heap.size → w1.cell? ⟨b, o, none⟩ = W.cell? ⟨b, o, none⟩) ∧ (∀ b o, b < W.heap.size → w1.frozen? ⟨b, o, none⟩ = W.frozen? ⟨b, o, none⟩) :=
  ⟨fun b o h => hb.cell (p := ⟨b, o, none⟩) h, fun b o h => hb.frozen (p := ⟨b, o, none⟩) h⟩
theorem wpList_build_to {P : Program} {ops : Array Oper} {rest : List Oper} {o : Oper} {a : Act} {w : World} {Q : Exit → Act → World → Prop} (hg : o.guard = none) (t : TypeId) (parts : Array (Nat × Operand)) (ho : o.op = .build t parts)
    (l : List (Nat × Value)) (hl : (parts.map fun (i, x) => (i, a.eval x)).toList = l) (cells : Array Value) (hc : P.built t l = some cells)
    (h : wpList P ops Q rest (a.put o.dst (.agg cells)) w) : wpList P ops Q (o :: rest) a w :=
  wpList_build hg t parts ho (by rw [hl, hc]; rfl) (by rw [hl, hc]; exact h)
theorem ret_bool {a b : Bool} (h : a = b) : Ending.returned (.bool a) = .returned (.bool b) := by rw [h]

def labB (l c : Int) : Bool := decide (0 ≤ l ∧ l ≤ 3 ∧ 0 ≤ c ∧ c ≤ 7)
theorem labB_t {l c : Int} (h : labB l c = true) : 0 ≤ l ∧ l ≤ 3 ∧ 0 ≤ c ∧ c ≤ 7 := of_decide_eq_true h
theorem labB_f {l c : Int} (h : labB l c = false) : ¬ (0 ≤ l ∧ l ≤ 3 ∧ 0 ≤ c ∧ c ≤ 7) := of_decide_eq_false h
theorem labB_mk {l c : Int} (h : 0 ≤ l ∧ l ≤ 3 ∧ 0 ≤ c ∧ c ≤ 7) : labB l c = true := decide_eq_true h
theorem labB_not {l c : Int} (h : ¬ (0 ≤ l ∧ l ≤ 3 ∧ 0 ≤ c ∧ c ≤ 7)) : labB l c = false := decide_eq_false h
theorem labB_last {l c : Int} (a : 0 ≤ l) (b : l ≤ 3) (d : 0 ≤ c) : decide (c ≤ 7) = labB l c := by
  unfold labB; simp [a, b, d]

set_option maxHeartbeats 400000 in
theorem isLabel_any (l c : Int) (w : World) :
    Calls Try.prog 40 #[.agg #[.int .i64 l, .int .i64 c]] w fun e w' => e = .returned (.bool (labB l c)) ∧ Below w.heap.size w w' := by
  go_enter Try.func40, Try.ntmps40
  go_wp2
  all_goals go_ret
  all_goals refine ⟨ret_bool ?_, (Below.refl _ _).alloc (Nat.le_refl _) _⟩
  all_goals first | exact labB_last ‹_› ‹_› ‹_› | (symm; apply labB_not; omega)

def mayB (k v c : Int) : Bool := decide (1 ≤ k ∧ k ≤ 16 ∧ 1 ≤ v ∧ v ≤ 4 ∧ 1 ≤ c ∧ c ≤ 32)
theorem mayB_t {k v c : Int} (h : mayB k v c = true) : 1 ≤ k ∧ k ≤ 16 ∧ 1 ≤ v ∧ v ≤ 4 ∧ 1 ≤ c ∧ c ≤ 32 := of_decide_eq_true h
theorem mayB_f {k v c : Int} (h : mayB k v c = false) : ¬ (1 ≤ k ∧ k ≤ 16 ∧ 1 ≤ v ∧ v ≤ 4 ∧ 1 ≤ c ∧ c ≤ 32) := of_decide_eq_false h
theorem mayB_not {k v c : Int} (h : ¬ (1 ≤ k ∧ k ≤ 16 ∧ 1 ≤ v ∧ v ≤ 4 ∧ 1 ≤ c ∧ c ≤ 32)) : mayB k v c = false := decide_eq_false h
theorem mayB_last {k v c : Int} (h1 : 1 ≤ k) (h2 : k ≤ 16) (h3 : 1 ≤ v) (h4 : v ≤ 4) (h5 : 1 ≤ c) : decide (c ≤ 32) = mayB k v c := by
  unfold mayB; simp [h1, h2, h3, h4, h5]

set_option maxHeartbeats 400000 in
theorem may_any (k v c : Int) (w : World) :
    Calls Try.prog 42 #[.agg #[.int .i64 k, .int .i64 v, .int .i64 c]] w fun e w' => e = .returned (.bool (mayB k v c)) ∧ Below w.heap.size w w' := by
  go_enter Try.func42, Try.ntmps42
  go_wp2
  all_goals go_ret
  all_goals refine ⟨ret_bool ?_, (Below.refl _ _).alloc (Nat.le_refl _) _⟩
  all_goals first | exact mayB_last ‹_› ‹_› ‹_› ‹_› ‹_› | (symm; apply mayB_not; omega)

set_option maxHeartbeats 400000 in
theorem num_any (n : Int) (w : World) :
    Calls Try.prog 43 #[.int .i64 n] w fun e w' => e = .returned (.int .i64 n) ∧ w = w' := by
  go_enter Try.func43, Try.ntmps43
  go_wp2
  go_ret
  exact ⟨rfl, rfl⟩

set_option maxHeartbeats 400000 in
theorem valid_any (l c : Int) (w : World) :
    Calls Try.prog 68 #[.agg #[.int .i64 l, .int .i64 c]] w fun e w' => e = .returned (.bool (labB l c)) ∧ Below w.heap.size w w' := by
  go_enter Try.func68, Try.ntmps68
  go_wp2
  all_goals go_ret
  all_goals refine ⟨ret_bool ?_, (Below.refl _ _).alloc (Nat.le_refl _) _⟩
  all_goals first | exact labB_last (by omega) (by omega) (by omega) | (symm; apply labB_not; omega)

def sameL (a b c d : Int) : Bool := decide (a = c ∧ b = d)
theorem sameL_last {a b c d : Int} (h : a = c) : (b == d) = sameL a b c d := by unfold sameL; simp [h, Bool.beq_eq_decide_eq]
theorem sameL_not {a b c d : Int} (h : ¬ a = c) : sameL a b c d = false := by unfold sameL; simp [h]
set_option maxHeartbeats 400000 in
theorem sameLabel_any (a b c d : Int) (w : World) :
    Calls Try.prog 64 #[.agg #[.int .i64 a, .int .i64 b], .agg #[.int .i64 c, .int .i64 d]] w fun e w' => e = .returned (.bool (sameL a b c d)) ∧ Below w.heap.size w w' := by
  by_cases hac : a = c
  · subst hac
    go_enter Try.func64, Try.ntmps64
    go_wp2
    go_ret
    exact ⟨ret_bool (sameL_last rfl), ((Below.refl _ _).alloc (Nat.le_refl _) _).alloc (by simp) _⟩
  · have hb : (a == c) = false := by simp [hac]
    go_enter Try.func64, Try.ntmps64
    go_wp2
    go_ret
    exact ⟨ret_bool (sameL_not hac).symm, ((Below.refl _ _).alloc (Nat.le_refl _) _).alloc (by simp) _⟩

set_option maxHeartbeats 400000 in
theorem place_yes (l c : Int) (w : World) (h : labB l c = true) :
    Calls Try.prog 60 #[.agg #[.int .i64 l, .int .i64 c]] w fun e w' => e = .returned (.tuple #[.int .i64 (l * 8 + c), .bool true]) ∧ Below w.heap.size w w' := by
  obtain ⟨h1, h2, h3, h4⟩ := labB_t h
  go_enter Try.func60, Try.ntmps60
  go_wp2_with fail
  refine (valid_any _ _ _).mono ?_
  rintro e w1 ⟨rfl, hb⟩
  rw [h]
  obtain ⟨hc, hf⟩ := bcell hb
  have hz : w.heap.size < w1.heap.size := by have := hb.size; simp at this; omega
  go_wp2
  go_ret2
  refine ⟨rfl, ?_⟩
  exact ((Below.refl _ _).alloc (Nat.le_refl _) _).trans (hb.mono (by simp))
set_option maxHeartbeats 400000 in
theorem place_no (l c : Int) (w : World) (h : labB l c = false) :
    Calls Try.prog 60 #[.agg #[.int .i64 l, .int .i64 c]] w fun e w' => e = .returned (.tuple #[.int .i64 0, .bool false]) ∧ Below w.heap.size w w' := by
  go_enter Try.func60, Try.ntmps60
  go_wp2_with fail
  refine (valid_any _ _ _).mono ?_
  rintro e w1 ⟨rfl, hb⟩
  rw [h]
  go_wp2
  go_ret2
  refine ⟨rfl, ?_⟩
  exact ((Below.refl _ _).alloc (Nat.le_refl _) _).trans (hb.mono (by simp))

set_option maxHeartbeats 400000 in
theorem new_yes (k v c : Int) (w : World) (h : mayB k v c = true) :
    Calls Try.prog 41 #[.agg #[.int .i64 k, .int .i64 v, .int .i64 c]] w fun e w' => e = .returned (.tuple #[.pointer (some ⟨w.heap.size + 1, 0, none⟩), .int .i64 0]) ∧ (w.alloc (.cells #[.int .i64 k, .int .i64 v, .int .i64 c] 23)).alloc (.cells ⟨storeZ k v c⟩ 138) = w' := by
  obtain ⟨h1, h2, h3, h4, h5, h6⟩ := mayB_t h
  go_enter Try.func41, Try.ntmps41
  go_wp2_with (refine wpList_build_to rfl 138 _ rfl [(0, .agg #[.int .i64 k, .int .i64 v, .int .i64 c])] ?hl _ (built136 k v c) ?_)
  go_ret2
  exact ⟨rfl, rfl⟩
set_option maxHeartbeats 400000 in
theorem new_no (k v c : Int) (w : World) (h : mayB k v c = false) :
    Calls Try.prog 41 #[.agg #[.int .i64 k, .int .i64 v, .int .i64 c]] w fun e w' => e = .returned (.tuple #[.pointer none, .int .i64 1]) ∧ Below w.heap.size w w' := by
  have hn := mayB_f h
  by_cases h1 : 1 ≤ k ∧ k ≤ 16
  · by_cases h2 : 1 ≤ v ∧ v ≤ 4
    · have h3 : c < 1 ∨ 32 < c := by omega
      obtain ⟨h1, h1'⟩ := h1
      obtain ⟨h2, h2'⟩ := h2
      rcases h3 with h3 | h3 <;>
      · go_enter Try.func41, Try.ntmps41
        go_wp2
        go_ret2
        exact ⟨rfl, (Below.refl _ _).alloc (Nat.le_refl _) _⟩
    · have h3 : v < 1 ∨ 4 < v := by omega
      obtain ⟨h1, h1'⟩ := h1
      rcases h3 with h3 | h3 <;>
      · go_enter Try.func41, Try.ntmps41
        go_wp2
        go_ret2
        exact ⟨rfl, (Below.refl _ _).alloc (Nat.le_refl _) _⟩
  · have h3 : k < 1 ∨ 16 < k := by omega
    rcases h3 with h3 | h3 <;>
    · go_enter Try.func41, Try.ntmps41
      go_wp2
      go_ret2
      exact ⟨rfl, (Below.refl _ _).alloc (Nat.le_refl _) _⟩
set_option maxHeartbeats 400000 in
theorem refnew_any (k v c : Int) (w : World) :
    Calls Try.prog 44 #[.agg #[.int .i64 k, .int .i64 v, .int .i64 c]] w fun e w' => e = .returned (.pointer (some ⟨w.heap.size + 1, 0, none⟩)) ∧ (w.alloc (.cells #[.int .i64 k, .int .i64 v, .int .i64 c] 23)).alloc (.cells #[.int .i64 k, .int .i64 v, .int .i64 c, .slice none 0 0, .slice none 0 0, .slice none 0 0, .slice none 0 0, .int .i64 0, .int .i64 0] 106) = w' := by
  go_enter Try.func44, Try.ntmps44
  go_wp2
  go_ret
  exact ⟨rfl, rfl⟩
end Go.Proofs.Ytpbcplfpjcacfaa
