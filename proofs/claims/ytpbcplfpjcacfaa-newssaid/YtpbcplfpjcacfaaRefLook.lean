import Derived.Test.YtpbcplfpjcacfaaRefRead2
namespace Go.Proofs.Ytpbcplfpjcacfaa
open Go.RowKit

def lookPick (st : RS) (a : Lab) (k : Nat) : Option (Int × Int) := if 0 ≤ st.comm a k then some ((k : Int), st.comm a k) else none
def RS.lookTo (st : RS) (a : Lab) (n : Nat) : List (Int × Int) := (List.range n).filterMap (lookPick st a)
theorem lookTo_len (st : RS) (a : Lab) (n : Nat) : (st.lookTo a n).length ≤ n := by
  have := List.length_filterMap_le (lookPick st a) (List.range n)
  simpa [RS.lookTo] using this
theorem lookTo_hit (st : RS) (a : Lab) (n : Nat) (h : 0 ≤ st.comm a n) : st.lookTo a (n + 1) = st.lookTo a n ++ [((n : Int), st.comm a n)] := by
  simp [RS.lookTo, List.range_succ, List.filterMap_append, lookPick, h]
theorem lookTo_miss (st : RS) (a : Lab) (n : Nat) (h : ¬ 0 ≤ st.comm a n) : st.lookTo a (n + 1) = st.lookTo a n := by
  simp only [RS.lookTo, List.range_succ, List.filterMap_append, List.filterMap_cons, lookPick, if_neg h, List.filterMap_nil, List.append_nil]

set_option maxHeartbeats 1000000 in
set_option maxRecDepth 100000 in
theorem refLook_any (r : Nat) (st : RS) (own : Own) (a b : Int) (w : World) (hm : Rep w r st own) :
    Calls Try.prog 65 #[.pointer (some ⟨r, 0, none⟩), .agg #[.int .i64 a, .int .i64 b]] w fun e w' =>
      ∃ v, e = .returned v ∧ w'.ownsRow w.heap.size 94 2 v (st.lookTo (a, b) 16).length (itemsV (st.lookTo (a, b) 16)) ∧ Below w.heap.size w w' := by
  obtain ⟨i0, hi0, hz0, hs0, hb0⟩ := info_all info94
  go_enter Try.func65, Try.ntmps65
  go_wp2_with fail
  go_loopw [5, 6] (fun v i wr => ∃ k : Nat, k ≤ 16 ∧ i = .int .i64 k ∧ wr.ownsRow (w.heap.size + 1) 94 2 v (st.lookTo (a, b) k).length (itemsV (st.lookTo (a, b) k)) ∧ Below (w.heap.size + 1) (w.alloc (.cells #[.int .i64 a, .int .i64 b] 25)) wr) (fun _ i _ => 16 - (intOf i).toNat)
  case atStart => exact ⟨0, Nat.zero_le _, rfl, World.ownsRow_nil _ _ _ _, Below.refl _ _⟩
  case round =>
    obtain ⟨k, hk, rfl, hown, hnx⟩ := hrel
    have hnz := hnx.size
    simp only [World.size_alloc] at hnz
    have hend : Below w.heap.size w wr := ((Below.refl _ _).alloc (Nat.le_refl _) _).trans (hnx.mono (by omega))
    have hrep' := hm.below hend
    have x0 : wr.cell? ⟨w.heap.size, 0, none⟩ = some (.int .i64 a) := by rw [hnx.cell (p := ⟨w.heap.size, 0, none⟩) (by simp)]; simp
    have x1 : wr.cell? ⟨w.heap.size, 1, none⟩ = some (.int .i64 b) := by rw [hnx.cell (p := ⟨w.heap.size, 1, none⟩) (by simp)]; simp
    by_cases hlt : k < 16
    · go_wp2_with fail
      refine (committed_any r st own a b k _ hrep').mono ?_
      rintro e w1 ⟨rfl, hb1⟩
      have hown1 : w1.ownsRow (w.heap.size + 1) 94 2 u5 (st.lookTo (a, b) k).length (itemsV (st.lookTo (a, b) k)) :=
        hown.kept (row := none) ⟨hb1.os, hb1.tape, hb1.output, hb1.size, fun k hk _ => hb1.block k hk⟩ (by cases hv : u5.ownBlock <;> simp)
      have hn1 : Below (w.heap.size + 1) (w.alloc (.cells #[.int .i64 a, .int .i64 b] 25)) w1 := hnx.trans (hb1.mono hnz)
      have hz1 : w.heap.size + 1 ≤ w1.heap.size := by have := hb1.size; omega
      by_cases hit : 0 ≤ st.comm (a, b) k
      · have Hs : Hid (st.lookTo (a, b) (k + 1) = st.lookTo (a, b) k ++ [((k : Int), st.comm (a, b) k)]) := lookTo_hit st (a, b) k hit
        go_wp2_with (at_builtin; refine wpList_append_own _ rfl _ _ 44 rfl (w.heap.size + 1) 94 i0 (.agg #[.int .i64 0, .int .i64 0]) 2 16 Try.underlying44 hi0 hz0 hs0 hb0 rfl (by decide) _ _ _ rfl (hown1.alloc _) ⟨w1.heap.size, 0, none⟩ 1 1 [.int .i64 k, .int .i64 (st.comm (a, b) k)] rfl rfl ?c1 ?c2 ?c3 ?c4 ?c5 ?_)
        case c1 => exact two_new w1 _ _ 94 _ rfl
        case c2 => intro u hu; simp at hu; rcases hu with rfl | rfl <;> rfl
        case c3 => have := lookTo_len st (a, b) k; unfold maxLen; omega
        case c4 => have := lookTo_len st (a, b) k; omega
        case c5 => simp; omega
        intro v' w2 hown' hgrow _
        have hb2 : Below (w.heap.size + 1) (w.alloc (.cells #[.int .i64 a, .int .i64 b] 25)) w2 := (hn1.alloc (by omega) _).grown hgrow (by simp; omega) (fun k hk => (hown1.lt k hk).1)
        rw [show (st.lookTo (a, b) k).length + 1 = (st.lookTo (a, b) (k + 1)).length by rw [Hs.out]; simp,
          show itemsV (st.lookTo (a, b) k) ++ [.int .i64 k, .int .i64 (st.comm (a, b) k)] = itemsV (st.lookTo (a, b) (k + 1)) by rw [Hs.out, itemsV_snoc]; rfl] at hown'
        clear hgrow hown hown1
        go_wp2
        go_roundw
        case rel => exact ⟨k + 1, by omega, by go_num, hown', hb2⟩
        case measure => simp [intOf]; omega
      · have Hs : Hid (st.lookTo (a, b) (k + 1) = st.lookTo (a, b) k) := lookTo_miss st (a, b) k hit
        go_wp2
        go_roundw
        case rel => exact ⟨k + 1, by omega, by go_num, by rw [Hs.out]; exact hown1, hn1⟩
        case measure => simp [intOf]; omega
    · have e : k = 16 := by omega
      subst e
      go_wp2
      go_ret
      refine ⟨_, rfl, ?_, hend⟩
      obtain ⟨hl, ho⟩ := hown
      refine ⟨hl, ?_⟩
      rcases ho with h | ⟨b, c, d, e1, e2, e3⟩
      · exact .inl h
      · exact .inr ⟨b, c, d, e1, by omega, e3⟩
end Go.Proofs.Ytpbcplfpjcacfaa
