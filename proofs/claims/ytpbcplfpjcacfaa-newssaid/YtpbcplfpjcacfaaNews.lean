import Derived.Test.YtpbcplfpjcacfaaPlay
import Derived.ProofKit
import Derived.OpenShut
import Derived.Lib.SmallJoins
namespace Go.Proofs.Ytpbcplfpjcacfaa
open Go.RowKit

theorem zero_table (k v c : Int) (q : Nat) (hq : q < 32) {w : World} {p t : Nat} (hp : w.heap[p]? = some (.cells ⟨storeZ k v c⟩ t (0, 0))) : w.rangeAt p (3 + q * 350) (tabV fun _ => none) := by
  intro j u hj
  have hj' : j < 32 := by have := (List.getElem?_eq_some_iff.1 hj).1; rwa [len_tabV] at this
  rw [cell_of_row w p _ _ _ _ hp]
  obtain ⟨a, b⟩ := storeZ_slot k v c q (j / 2) hq (by omega)
  obtain ⟨a', b'⟩ := tabV_get (fun _ => none) (j / 2) (by omega)
  rcases Nat.mod_two_eq_zero_or_one j with h | h
  · have e : j = 2 * (j / 2) := by omega
    rw [e] at hj
    rw [a'] at hj
    rw [e]
    simp only [List.getElem?_toArray]
    rw [a]
    simpa using hj
  · have e : j = 2 * (j / 2) + 1 := by omega
    rw [e] at hj
    rw [b'] at hj
    rw [e, ← Nat.add_assoc]
    simp only [List.getElem?_toArray]
    rw [b]
    simpa using hj
theorem listTo_none (lo hi : Int) (n : Nat) : listTo (fun _ => none) lo hi n = [] := by
  simp [listTo, pickV]
theorem lookTo_st0 (k v c : Int) (a : Lab) (n : Nat) : (st0 k v c).lookTo a n = [] := by
  simp [RS.lookTo, lookPick, RS.comm, RS.val, st0, commIx, valIx]

set_option maxHeartbeats 1000000 in
set_option maxRecDepth 100000 in
theorem news_walk (k v c l d : Int) (w : World) :
    Calls Try.prog 3 #[.agg #[.int .i64 k, .int .i64 v, .int .i64 c], .agg #[.int .i64 l, .int .i64 d]] w fun e w' => e = .returned (.bool true) ∧ Below w.heap.size w w' := by
  go_enter Try.func3, Try.ntmps3
  go_wp2_with fail
  have hA : Below w.heap.size w (((w.alloc (.cells #[.int .i64 k, .int .i64 v, .int .i64 c] 23)).alloc (.cells #[.int .i64 l, .int .i64 d] 25)).alloc (.cells #[.bool true, .int .i64 0, .int .i64 0, .int .i64 0, .int .i64 0, .int .i64 l, .int .i64 d, .int .i64 0, .int .i64 0, .int .i64 0] 32)) :=
    (((Below.refl _ _).alloc (Nat.le_refl _) _).alloc (by simp) _).alloc (by simp; omega) _
  have fin : Calls Try.prog 15 #[.agg #[.int .i64 k, .int .i64 v, .int .i64 c], .slice (some ⟨w.heap.size + 1 + 1, 0, none⟩) 1 1] (((w.alloc (.cells #[.int .i64 k, .int .i64 v, .int .i64 c] 23)).alloc (.cells #[.int .i64 l, .int .i64 d] 25)).alloc (.cells #[.bool true, .int .i64 0, .int .i64 0, .int .i64 0, .int .i64 0, .int .i64 l, .int .i64 d, .int .i64 0, .int .i64 0, .int .i64 0] 32)) fun e w' => e = .returned (.bool true) ∧ Below w.heap.size w w' := by
    generalize hW : ((w.alloc (.cells #[.int .i64 k, .int .i64 v, .int .i64 c] 23)).alloc (.cells #[.int .i64 l, .int .i64 d] 25)).alloc (.cells #[.bool true, .int .i64 0, .int .i64 0, .int .i64 0, .int .i64 0, .int .i64 l, .int .i64 d, .int .i64 0, .int .i64 0, .int .i64 0] 32) = W at hA
    have hblk : W.heap[w.heap.size + 1 + 1]? = some (.cells (entA ⟨true, ⟨(0, 0, 0), 0, (l, d), 0, 0, 0⟩⟩) 32 (0, 0)) := by
      subst hW
      have := heap_alloc_new ((w.alloc (.cells #[.int .i64 k, .int .i64 v, .int .i64 c] 23)).alloc (.cells #[.int .i64 l, .int .i64 d] 25)) (.cells #[.bool true, .int .i64 0, .int .i64 0, .int .i64 0, .int .i64 0, .int .i64 l, .int .i64 d, .int .i64 0, .int .i64 0, .int .i64 0] 32 (0, 0))
      simpa [entA, entC, stepC] using this
    cases hmay : mayB k v c with
    | false =>
      refine (play_no k v c _ W hmay).mono ?_
      rintro e w' ⟨rfl, hb⟩
      exact ⟨rfl, hA.trans (hb.mono hA.size)⟩
    | true =>
      refine (play_yes k v c _ [⟨true, ⟨(0, 0, 0), 0, (l, d), 0, 0, 0⟩⟩] W hmay ⟨_, _, rfl, by simp [maxLen], ?_⟩ ?_).mono ?_
      · intro i o hi
        match i, hi with
        | 0, hi =>
          simp at hi; subst hi
          refine ⟨w.heap.size + 1 + 1, 0, rfl, (Array.getElem?_eq_some_iff.1 hblk).1, ?_⟩
          intro j u hj
          rw [cell_of_row W _ _ _ _ _ hblk]
          simpa [entA] using hj
      · intro bb p r w1 f
        refine ⟨fun _ w' => Fresh w' k v c W.heap.size bb p r, f, ?_⟩
        intro i o w2 hi f2 hsz
        match i, hi with
        | 0, hi =>
          simp at hi; subst hi
          refine entry_look bb _ (fun _ w' => Fresh w' k v c W.heap.size bb p r ∧ Below W.heap.size w2 w') w2 ?_ |>.mono ?_
          · have hA2 : Below w2.heap.size w2 (w2.alloc (.cells (entA ⟨true, ⟨(0, 0, 0), 0, (l, d), 0, 0, 0⟩⟩) 32)) := (Below.refl _ _).alloc (Nat.le_refl _) _
            generalize w2.alloc (.cells (entA ⟨true, ⟨(0, 0, 0), 0, (l, d), 0, 0, 0⟩⟩) 32) = W2 at hA2
            have lp := (Array.getElem?_eq_some_iff.1 f2.hp).1
            have lr := (Array.getElem?_eq_some_iff.1 f2.hr).1
            have lb := (Array.getElem?_eq_some_iff.1 f2.hbb).1
            have keep : ∀ w', Below w2.heap.size w2 w' → Fresh w' k v c W.heap.size bb p r := fun w' hb =>
              ⟨f2.bp, f2.pr, f2.rb, by rw [hb.block p lp]; exact f2.hp, by rw [hb.block bb lb]; exact f2.hbb, by rw [hb.block r lr]; exact f2.hr⟩
            have g2 := keep W2 hA2
            have c0 : W2.cell? ⟨bb, 0, none⟩ = some (.pointer (some ⟨p, 0, none⟩)) := by rw [cell_of_row W2 bb 0 _ _ _ g2.hbb]; rfl
            have c1 : W2.cell? ⟨bb, 1, none⟩ = some (.pointer (some ⟨r, 0, none⟩)) := by rw [cell_of_row W2 bb 1 _ _ _ g2.hbb]; rfl
            cases hl : labB l d with
            | false =>
              refine (looked_no bb p l d W2 hl c0).mono ?_
              rintro e w' ⟨rfl, hb⟩
              have hb' := hA2.trans (hb.mono hA2.size)
              exact ⟨_, rfl, keep w' hb', hb'.mono hsz⟩
            | true =>
              refine (looked_yes bb p r (st0 k v c) (own0 r) l d (fun _ => none) W2 hl c0 c1 (zero_table k v c _ (placeOf_eq hl).2 g2.hp) (by have := hA2.size; omega) (rep0 g2.hr) ?_).mono ?_
              · rw [listTo_none, lookTo_st0]
              · rintro e w' ⟨x, rfl, _, hb⟩
                have hb' := hA2.trans (hb.mono hA2.size)
                exact ⟨_, rfl, keep w' hb', hb'.mono hsz⟩
          · rintro e w' ⟨x, rfl, h1, h2⟩
            exact ⟨x, rfl, h1, h2⟩
      · rintro e w' ⟨rfl, hb⟩
        exact ⟨rfl, hA.trans (hb.mono hA.size)⟩
  refine fin.mono ?_
  rintro e w' ⟨rfl, hb⟩
  go_wp2
  go_ret
  exact ⟨rfl, hb⟩
end Go.Proofs.Ytpbcplfpjcacfaa
