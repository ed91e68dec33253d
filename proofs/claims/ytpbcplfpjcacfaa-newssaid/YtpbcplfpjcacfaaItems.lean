import Derived.Test.YtpbcplfpjcacfaaBase
import Derived.Deep.MidRow
namespace Go.Proofs.Ytpbcplfpjcacfaa
open Go.RowKit

/-- A table's cells. -/
def slotV (T : Nat → Option Int) (k : Nat) : List Value := [.bool (T k).isSome, .int .i64 ((T k).getD 0)]
def tabV (T : Nat → Option Int) : List Value := (List.range 16).flatMap (slotV T)
def pickV (T : Nat → Option Int) (lo hi : Int) (k : Nat) : Option (Int × Int) :=
  if (T k).isSome = true ∧ lo ≤ k ∧ (k : Int) ≤ hi then some ((k : Int), (T k).getD 0) else none
def listTo (T : Nat → Option Int) (lo hi : Int) (n : Nat) : List (Int × Int) := (List.range n).filterMap (pickV T lo hi)
def itemV (x : Int × Int) : List Value := [.int .i64 x.1, .int .i64 x.2]
def itemsV (l : List (Int × Int)) : List Value := l.flatMap itemV

theorem len_itemsV (l : List (Int × Int)) : (itemsV l).length = l.length * 2 := by
  induction l with
  | nil => rfl
  | cons a l ih => simp [itemsV, itemV] at *; omega
theorem itemsV_snoc (l : List (Int × Int)) (x : Int × Int) : itemsV (l ++ [x]) = itemsV l ++ itemV x := by simp [itemsV]
theorem listTo_len (T : Nat → Option Int) (lo hi : Int) (n : Nat) : (listTo T lo hi n).length ≤ n := by
  have := List.length_filterMap_le (pickV T lo hi) (List.range n)
  simpa [listTo] using this
theorem listTo_hit (T : Nat → Option Int) (lo hi : Int) (n : Nat) (h : (T n).isSome = true) (h1 : lo ≤ n) (h2 : (n : Int) ≤ hi) :
    listTo T lo hi (n + 1) = listTo T lo hi n ++ [((n : Int), (T n).getD 0)] := by
  simp [listTo, List.range_succ, List.filterMap_append, pickV, h, h1, h2]
theorem listTo_miss (T : Nat → Option Int) (lo hi : Int) (n : Nat) (h : ¬ ((T n).isSome = true ∧ lo ≤ n ∧ (n : Int) ≤ hi)) :
    listTo T lo hi (n + 1) = listTo T lo hi n := by
  simp only [listTo, List.range_succ, List.filterMap_append, List.filterMap_cons, pickV, if_neg h, List.filterMap_nil, List.append_nil]
theorem len_flat2 (T : Nat → Option Int) (n : Nat) : ((List.range n).flatMap (slotV T)).length = 2 * n := by
  induction n with
  | zero => rfl
  | succ n ih => rw [List.range_succ, List.flatMap_append, List.length_append, ih]; simp [slotV]; omega
theorem len_tabV (T : Nat → Option Int) : (tabV T).length = 32 := len_flat2 T 16
theorem flat2_get (T : Nat → Option Int) : ∀ (n k : Nat), k < n → ((List.range n).flatMap (slotV T))[2 * k]? = some (.bool (T k).isSome) ∧ ((List.range n).flatMap (slotV T))[2 * k + 1]? = some (.int .i64 ((T k).getD 0))
  | 0, _, h => absurd h (Nat.not_lt_zero _)
  | n + 1, k, h => by
    rw [List.range_succ, List.flatMap_append]
    have hl := len_flat2 T n
    by_cases hk : k < n
    · obtain ⟨a, b⟩ := flat2_get T n k hk
      rw [List.getElem?_append_left (by omega), List.getElem?_append_left (by omega)]
      exact ⟨a, b⟩
    · have e : k = n := by omega
      subst e
      rw [List.getElem?_append_right (by omega), List.getElem?_append_right (by omega), hl]
      simp [slotV]
theorem tabV_get (T : Nat → Option Int) (k : Nat) (h : k < 16) : (tabV T)[2 * k]? = some (.bool (T k).isSome) ∧ (tabV T)[2 * k + 1]? = some (.int .i64 ((T k).getD 0)) := flat2_get T 16 k h
theorem tabV_two (T : Nat → Option Int) (k : Nat) (h : k < 16) : List.take 2 (List.drop (k * 2) (tabV T)) = [.bool (T k).isSome, .int .i64 ((T k).getD 0)] := by
  obtain ⟨a, b⟩ := tabV_get T k h
  apply List.ext_getElem?
  intro i
  rw [List.getElem?_take]
  match i with
  | 0 => rw [List.getElem?_drop, show k * 2 + 0 = 2 * k by omega, a]; rfl
  | 1 => rw [List.getElem?_drop, show k * 2 + 1 = 2 * k + 1 by omega, b]; rfl
  | i + 2 => simp; omega
theorem size119 : (Try.prog.info? 119).map (·.size) = some 2 := by kernel_rfl
theorem size120 : (Try.prog.info? 120).map (·.size) = some 32 := by kernel_rfl
theorem index_tab (T : Nat → Option Int) (k : Nat) (h : k < 16) (w : World) :
    (Instr.index 120 (.agg (tabV T).toArray) (.int .i64 k)).run Try.prog w = .ok (.agg #[.bool (T k).isSome, .int .i64 ((T k).getD 0)]) w := by
  obtain ⟨i, hi, hs⟩ := info_of size119
  have ha : (isAgg 119).run Try.prog w = .ok true w := by
    unfold isAgg; rw [Sem.run_bind, run_underlying Try.underlying119 w]; simp
  simp [Instr.index, asIntOf, run_underlying Try.underlying120, sizeOf, typeInfo, hi, hs, part]
  rw [if_pos h, tabV_two T k h]

theorem info_all {t : TypeId} {z : Value} {n b : Nat} (h : (Try.prog.info? t).map (fun i => (i.zero, i.size, i.bytes)) = some (some z, n, b)) : ∃ i, Try.prog.info? t = some i ∧ i.zero = some z ∧ i.size = n ∧ i.bytes = b := by
  cases hi : Try.prog.info? t with
  | none => rw [hi] at h; cases h
  | some i => rw [hi] at h; simp at h; exact ⟨i, rfl, h.1, h.2.1, h.2.2⟩
theorem info94 : (Try.prog.info? 94).map (fun i => (i.zero, i.size, i.bytes)) = some (some (.agg #[.int .i64 0, .int .i64 0]), 2, 16) := by kernel_rfl

theorem two_new (w : World) (x y : Value) (c n : Nat) (hn : n = w.heap.size) : ∀ j u, [x, y][j]? = some u → (w.alloc (.cells #[x, y] c)).cell? ((⟨n, 0, none⟩ : Addr).add j) = some u := by
  subst hn
  intro j u hj
  match j, hj with
  | 0, hj => simp at hj; subst hj; simp [Addr.add]
  | 1, hj => simp at hj; subst hj; simp [Addr.add]
  | j + 2, hj => simp at hj

set_option maxHeartbeats 1000000 in
set_option maxRecDepth 100000 in
theorem list_any (b off : Nat) (T : Nat → Option Int) (lo hi : Int) (w : World) (hr : w.rangeAt b off (tabV T)) :
    Calls Try.prog 61 #[.pointer (some ⟨b, off, none⟩), .int .i64 lo, .int .i64 hi] w fun e w' =>
      ∃ v, e = .returned v ∧ w'.ownsRow w.heap.size 94 2 v (listTo T lo hi 16).length (itemsV (listTo T lo hi 16)) ∧ Below w.heap.size w w' := by
  obtain ⟨i0, hi0, hz0, hs0, hb0⟩ := info_all info94
  go_enter Try.func61, Try.ntmps61
  go_wp2_with (refine wpList_load_mid rfl 120 _ rfl b off rfl (tabV T) _ hr Try.underlying120 rfl ?hi ?_)
  case hi => rw [len_tabV]; exact size120
  go_loopw [7, 14] (fun v i wr => ∃ k : Nat, k ≤ 16 ∧ i = .int .i64 k ∧ wr.ownsRow w.heap.size 94 2 v (listTo T lo hi k).length (itemsV (listTo T lo hi k)) ∧ Below w.heap.size w wr) (fun _ i _ => 16 - (intOf i).toNat)
  case atStart => exact ⟨0, Nat.zero_le _, rfl, World.ownsRow_nil _ _ _ _, Below.refl _ _⟩
  case round =>
    obtain ⟨k, hk, rfl, hown, hnx⟩ := hrel
    have hnz := hnx.size
    by_cases hlt : k < 16
    · have hix := index_tab T k hlt
      by_cases hit : (T k).isSome = true ∧ lo ≤ k ∧ (k : Int) ≤ hi
      · have hstep := listTo_hit T lo hi k hit.1 hit.2.1 hit.2.2
        have Hs : Hid (listTo T lo hi (k + 1) = listTo T lo hi k ++ [((k : Int), (T k).getD 0)]) := hstep
        clear hstep
        obtain ⟨h1, h2, h3⟩ := hit
        go_wp2_with (at_builtin; refine wpList_append_own _ rfl _ _ 44 rfl w.heap.size 94 i0 (.agg #[.int .i64 0, .int .i64 0]) 2 16 Try.underlying44 hi0 hz0 hs0 hb0 rfl (by decide) _ _ _ rfl ((hown.alloc _).alloc _) ⟨wr.heap.size + 1, 0, none⟩ 1 1 [.int .i64 k, .int .i64 ((T k).getD 0)] rfl rfl ?c1 ?c2 ?c3 ?c4 ?c5 ?_)
        case c1 => exact two_new (wr.alloc _) _ _ 94 _ (by simp)
        case c2 => intro u hu; simp at hu; rcases hu with rfl | rfl <;> rfl
        case c3 => have := listTo_len T lo hi k; unfold maxLen; omega
        case c4 => have := listTo_len T lo hi k; omega
        case c5 => simp; omega
        intro v' w1 hown' hgrow _
        have hb1 : Below w.heap.size w w1 := ((hnx.alloc hnz _).alloc (by simp; omega) _).grown hgrow (by simp; omega) (fun k hk => (hown.lt k hk).1)
        rw [show (listTo T lo hi k).length + 1 = (listTo T lo hi (k + 1)).length by rw [Hs.out]; simp,
          show itemsV (listTo T lo hi k) ++ [.int .i64 k, .int .i64 ((T k).getD 0)] = itemsV (listTo T lo hi (k + 1)) by rw [Hs.out, itemsV_snoc]; rfl] at hown'
        clear hgrow hown hix
        go_wp2
        go_roundw
        case rel => exact ⟨k + 1, by omega, by go_num, hown', hb1⟩
        case measure => simp [intOf]; omega
      · have Hs : Hid (listTo T lo hi (k + 1) = listTo T lo hi k) := listTo_miss T lo hi k hit
        by_cases h1 : (T k).isSome = true
        · by_cases h2 : lo ≤ k
          · have h3 : ¬ (k : Int) ≤ hi := fun h => hit ⟨h1, h2, h⟩
            clear hit
            go_wp2
            go_roundw
            case rel => exact ⟨k + 1, by omega, by go_num, by rw [Hs.out]; exact hown.alloc _, hnx.alloc hnz _⟩
            case measure => simp [intOf]; omega
          · clear hit
            go_wp2
            go_roundw
            case rel => exact ⟨k + 1, by omega, by go_num, by rw [Hs.out]; exact hown.alloc _, hnx.alloc hnz _⟩
            case measure => simp [intOf]; omega
        · have h1' : (T k).isSome = false := by simpa using h1
          clear hit h1
          go_wp2
          go_roundw
          case rel => exact ⟨k + 1, by omega, by go_num, by rw [Hs.out]; exact hown.alloc _, hnx.alloc hnz _⟩
          case measure => simp [intOf]; omega
    · have e : k = 16 := by omega
      subst e
      go_wp2
      go_ret
      exact ⟨_, rfl, hown, hnx⟩
end Go.Proofs.Ytpbcplfpjcacfaa
