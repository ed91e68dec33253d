import Derived.Test.YtpbcplfpjcacfaaBegun
namespace Go.Proofs.Ytpbcplfpjcacfaa
open Go.RowKit
attribute [local go_sem ↓] Go.wp_at_zero Go.wp_at_succ

structure Ent where
  look : Bool
  step : Stp
def entC (o : Ent) : List Value := .bool o.look :: stepC o.step
def entA (o : Ent) : Array Value := (entC o).toArray
theorem len_entC (o : Ent) : (entC o).length = 10 := by simp [entC, stepC]

set_option maxHeartbeats 1000000 in
set_option maxRecDepth 100000 in
theorem entry_look (bb : Nat) (s : Stp) (R : Value → World → Prop) (w : World)
    (h : Calls Try.prog 47 #[.pointer (some ⟨bb, 0, none⟩), .agg #[.int .i64 s.at_.1, .int .i64 s.at_.2]] (w.alloc (.cells (entA ⟨true, s⟩) 32)) fun e w' => ∃ v, e = .returned (.tuple #[v, .bool true]) ∧ R v w') :
    Calls Try.prog 19 #[.pointer (some ⟨bb, 0, none⟩), .agg (entA ⟨true, s⟩)] w fun e w' => ∃ v, e = .returned (.tuple #[v, .bool true]) ∧ R v w' := by
  simp only [entA, entC, stepC] at *
  go_enter Try.func19, Try.ntmps19
  go_wp2_with fail
  refine h.mono ?_
  rintro e w1 ⟨v, rfl, hv⟩
  go_wp2
  go_ret2
  exact ⟨v, rfl, hv⟩
set_option maxHeartbeats 1000000 in
set_option maxRecDepth 100000 in
theorem entry_step (bb : Nat) (s : Stp) (R : Value → World → Prop) (w : World)
    (h : Calls Try.prog 48 #[.pointer (some ⟨bb, 0, none⟩), .agg (stepC s).toArray] (w.alloc (.cells (entA ⟨false, s⟩) 32)) fun e w' => ∃ v, e = .returned (.tuple #[v, .bool true]) ∧ R v w') :
    Calls Try.prog 19 #[.pointer (some ⟨bb, 0, none⟩), .agg (entA ⟨false, s⟩)] w fun e w' => ∃ v, e = .returned (.tuple #[v, .bool true]) ∧ R v w' := by
  simp only [entA, entC, stepC] at *
  go_enter Try.func19, Try.ntmps19
  go_wp2_with fail
  refine h.mono ?_
  rintro e w1 ⟨v, rfl, hv⟩
  go_wp2
  go_ret2
  exact ⟨v, rfl, hv⟩
/-- A slice of entries, in memory. -/
def isScript (w : World) (v : Value) (l : List Ent) : Prop :=
  ∃ ao cap, v = .slice ao l.length cap ∧ l.length ≤ maxLen ∧ ∀ i o, l[i]? = some o → ∃ b off, ao = some ⟨b, off, none⟩ ∧ b < w.heap.size ∧ w.rangeAt b (off + i * 10) (entC o)
/-- What 'begun' leaves. -/
structure Fresh (w' : World) (k v c : Int) (B bb p r : Nat) : Prop where
  bp : B ≤ p
  pr : p < r
  rb : r < bb
  hp : w'.heap[p]? = some (.cells ⟨storeZ k v c⟩ 138 (0, 0))
  hbb : w'.heap[bb]? = some (.cells #[.pointer (some ⟨p, 0, none⟩), .pointer (some ⟨r, 0, none⟩)] 43 (0, 0))
  hr : w'.heap[r]? = some (.cells #[.int .i64 k, .int .i64 v, .int .i64 c, .slice none 0 0, .slice none 0 0, .slice none 0 0, .slice none 0 0, .int .i64 0, .int .i64 0] 106 (0, 0))
theorem size32 : (Try.prog.info? 32).map (·.size) = some 10 := by kernel_rfl

set_option maxHeartbeats 1000000 in
set_option maxRecDepth 100000 in
theorem play_no (k v c : Int) (sv : Value) (w : World) (h : mayB k v c = false) :
    Calls Try.prog 15 #[.agg #[.int .i64 k, .int .i64 v, .int .i64 c], sv] w fun e w' => e = .returned (.bool true) ∧ Below w.heap.size w w' := by
  go_enter Try.func15, Try.ntmps15
  go_wp2_with fail
  refine (begun_no k v c _ h).mono ?_
  rintro e w1 ⟨rfl, hb1⟩
  have hB1 : Below w.heap.size w w1 := ((Below.refl _ _).alloc (Nat.le_refl _) _).trans (hb1.mono (by simp))
  go_wp2
  go_ret
  exact ⟨rfl, hB1⟩

set_option maxHeartbeats 1000000 in
set_option maxRecDepth 100000 in
theorem play_yes (k v c : Int) (sv : Value) (script : List Ent) (w : World) (h : mayB k v c = true) (hsc : isScript w sv script)
    (hI : ∀ bb p r w1, Fresh w1 k v c w.heap.size bb p r → ∃ I : Nat → World → Prop, I 0 w1 ∧
      ∀ i o w2, script[i]? = some o → I i w2 → w.heap.size ≤ w2.heap.size → Calls Try.prog 19 #[.pointer (some ⟨bb, 0, none⟩), .agg (entA o)] w2 fun e w' => ∃ x, e = .returned (.tuple #[x, .bool true]) ∧ I (i + 1) w' ∧ Below w.heap.size w2 w') :
    Calls Try.prog 15 #[.agg #[.int .i64 k, .int .i64 v, .int .i64 c], sv] w fun e w' => e = .returned (.bool true) ∧ Below w.heap.size w w' := by
  obtain ⟨ao, cap, rfl, hmax, hel⟩ := hsc
  unfold maxLen at hmax
  go_enter Try.func15, Try.ntmps15
  go_wp2_with fail
  refine (begun_yes k v c _ h).mono ?_
  rintro e w1 ⟨bb, p, r, rfl, hb1, f1, f2, f3, f4, f5, f6⟩
  have hB1 : Below w.heap.size w w1 := ((Below.refl _ _).alloc (Nat.le_refl _) _).trans (hb1.mono (by simp))
  obtain ⟨I, i0, istep⟩ := hI bb p r w1 ⟨by simp at f1; omega, f2, f3, f4, f5, f6⟩
  have II : Hid (I 0 w1) := i0
  have IS : Hid (∀ i o w2, script[i]? = some o → I i w2 → w.heap.size ≤ w2.heap.size → Calls Try.prog 19 #[.pointer (some ⟨bb, 0, none⟩), .agg (entA o)] w2 fun e w' => ∃ x, e = .returned (.tuple #[x, .bool true]) ∧ I (i + 1) w' ∧ Below w.heap.size w2 w') := istep
  have HE : Hid (∀ i o, script[i]? = some o → ∃ b off, ao = some ⟨b, off, none⟩ ∧ b < w.heap.size ∧ w.rangeAt b (off + i * 10) (entC o)) := hel
  clear hI i0 istep hb1 f1 f2 f3 f4 f5 f6 hel
  go_wp2_with fail
  go_loopw [6, 7] (fun ok i wr => ∃ n : Nat, n ≤ script.length ∧ i = .int .i64 n ∧ ok = .bool true ∧ Hid (I n wr) ∧ Below w.heap.size w wr) (fun _ i _ => script.length - (intOf i).toNat)
  case atStart => exact ⟨0, Nat.zero_le _, rfl, rfl, II, hB1⟩
  case round =>
    obtain ⟨n, hn, rfl, rfl, In, hB⟩ := hrel
    have hz := hB.size
    by_cases hlt : n < script.length
    · have hg := List.getElem?_eq_getElem hlt
      generalize script[n] = o at hg
      obtain ⟨b, off, rfl, hbl, hrg⟩ := HE.out n o hg
      have G : Hid (script[n]? = some o) := hg
      clear hg
      have hrg' : wr.rangeAt b (off + n * 10) (entC o) := rangeAt_below hrg hB hbl
      have zn : (n : Int) < (script.length : Int) := by omega
      clear hrg
      go_wp2_with (first | (refine wpList_load_mid rfl 32 _ rfl b (off + n * 10) rfl (entC o) _ hrg' Try.underlying32 rfl ?hsz ?_))
      case hsz => rw [len_entC]; exact size32
      refine (IS.out n o _ G.out In.out hz).mono ?_
      rintro e w2 ⟨x, rfl, i1, hb2⟩
      have I1 : Hid (I (n + 1) w2) := i1
      clear i1
      go_wp2
      go_roundw
      case rel => exact ⟨n + 1, by omega, by go_num, rfl, I1, hB.trans hb2⟩
      case measure => simp [intOf]; omega
    · go_wp2
      go_ret
      exact ⟨rfl, hB⟩
end Go.Proofs.Ytpbcplfpjcacfaa
