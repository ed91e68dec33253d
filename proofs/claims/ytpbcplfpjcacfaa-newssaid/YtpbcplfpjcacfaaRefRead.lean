import Derived.Test.YtpbcplfpjcacfaaRef
namespace Go.Proofs.Ytpbcplfpjcacfaa
open Go.RowKit
attribute [local go_sem ↓] Go.wp_at_zero Go.wp_at_succ

theorem ret_i {k : IntKind} {a b : Int} (h : a = b) : Ending.returned (.int k a) = .returned (.int k b) := by rw [h]
def sameW (a b c d e f : Int) : Bool := decide (a = d ∧ b = e ∧ c = f)
set_option maxHeartbeats 400000 in
theorem sameWho_any (a b c d e f : Int) (w : World) :
    Calls Try.prog 46 #[.agg #[.int .i64 a, .int .i64 b, .int .i64 c], .agg #[.int .i64 d, .int .i64 e, .int .i64 f]] w fun e' w' => e' = .returned (.bool (sameW a b c d e f)) ∧ Below w.heap.size w w' := by
  cases hs : sameL a b d e
  · go_enter Try.func46, Try.ntmps46
    go_wp2_with fail
    refine (sameLabel_any _ _ _ _ _).mono ?_
    rintro e' w1 ⟨rfl, hb⟩
    rw [hs]
    go_wp2
    go_ret
    refine ⟨ret_bool ?_, (((Below.refl _ _).alloc (Nat.le_refl _) _).alloc (by simp) _).trans (hb.mono (by simp; omega))⟩
    simp [sameL, sameW] at *
    intro h1 h2; exact absurd h2 (hs h1)
  · go_enter Try.func46, Try.ntmps46
    go_wp2_with fail
    refine (sameLabel_any _ _ _ _ _).mono ?_
    rintro e' w1 ⟨rfl, hb⟩
    rw [hs]
    obtain ⟨hc, hf⟩ := bcell hb
    go_wp2
    go_ret
    refine ⟨ret_bool ?_, (((Below.refl _ _).alloc (Nat.le_refl _) _).alloc (by simp) _).trans (hb.mono (by simp; omega))⟩
    simp [sameL, sameW] at *
    simp [hs, Bool.beq_eq_decide_eq]

theorem sameWho_is {a b c d e f : Int} {v : Bool} (hs : sameW a b c d e f = v) (w : World) :
    Calls Try.prog 46 #[.agg #[.int .i64 a, .int .i64 b, .int .i64 c], .agg #[.int .i64 d, .int .i64 e, .int .i64 f]] w fun e' w' => e' = .returned (.bool v) ∧ Below w.heap.size w w' := by
  subst hs; exact sameWho_any a b c d e f w
/-- The place of a session's live transaction. -/
def liveIx (x : Wh) : List Tx → Nat → Int
  | [], _ => -1
  | t :: l, k => if t.who = x then (k : Int) else liveIx x l (k + 1)
def RS.live (st : RS) (x : Wh) : Int := liveIx x st.txns 0

theorem drop_at {α : Type} {l : List α} {k : Nat} {x : α} (h : l[k]? = some x) : l.drop k = x :: l.drop (k + 1) := by
  obtain ⟨hk, rfl⟩ := List.getElem?_eq_some_iff.1 h
  exact List.drop_eq_getElem_cons hk
theorem sameW_t {a b c d e f : Int} (h : (a, b, c) = ((d, e, f) : Wh)) : sameW a b c d e f = true := by simp at h; simp [sameW, h]
theorem sameW_f {a b c d e f : Int} (h : ¬ (a, b, c) = ((d, e, f) : Wh)) : sameW a b c d e f = false := by simp at h; simpa [sameW] using h

set_option maxHeartbeats 1000000 in
set_option maxRecDepth 100000 in
theorem live_any (r : Nat) (st : RS) (own : Own) (a b c : Int) (w : World) (hm : Rep w r st own) :
    Calls Try.prog 87 #[.pointer (some ⟨r, 0, none⟩), .agg #[.int .i64 a, .int .i64 b, .int .i64 c]] w fun e w' => e = .returned (.int .i64 (st.live (a, b, c))) ∧ Below w.heap.size w w' := by
  obtain ⟨g, vp, vt, vr, ve, m⟩ := hm
  obtain ⟨ao, cap, rfl, hmax, hel⟩ := m.txns.form (len_txnC g)
  have hrlt := m.old r (by rw [m.rootTag]; simp)
  have hr4 : w.cell? ⟨r, 4, none⟩ = some (.slice ao st.txns.length cap) := by rw [root_cell m.root]; rfl
  unfold maxLen at hmax
  clear m
  go_enter Try.func87, Try.ntmps87
  go_wp2_with fail
  go_loopw [5] (fun i wr => ∃ k : Nat, k ≤ st.txns.length ∧ i = .int .i64 k ∧ Hid (liveIx (a, b, c) (st.txns.drop k) k = st.live (a, b, c)) ∧ Below (w.heap.size + 1) (w.alloc (.cells #[.int .i64 a, .int .i64 b, .int .i64 c] 28)) wr) (fun i _ => st.txns.length - (intOf i).toNat)
  case atStart => exact ⟨0, Nat.zero_le _, rfl, rfl, Below.refl _ _⟩
  case round =>
    obtain ⟨k, hk, rfl, Hl, hnx⟩ := hrel
    have hnz := hnx.size
    simp only [World.size_alloc] at hnz
    have c4 : wr.cell? ⟨r, 4, none⟩ = some (.slice ao st.txns.length cap) := by rw [hnx.cell (p := ⟨r, 4, none⟩) (by simp; omega), World.cell?_alloc_lt _ _ _ (by exact hrlt)]; exact hr4
    have x0 : wr.cell? ⟨w.heap.size, 0, none⟩ = some (.int .i64 a) := by rw [hnx.cell (p := ⟨w.heap.size, 0, none⟩) (by simp)]; simp
    have x1 : wr.cell? ⟨w.heap.size, 1, none⟩ = some (.int .i64 b) := by rw [hnx.cell (p := ⟨w.heap.size, 1, none⟩) (by simp)]; simp
    have x2 : wr.cell? ⟨w.heap.size, 2, none⟩ = some (.int .i64 c) := by rw [hnx.cell (p := ⟨w.heap.size, 2, none⟩) (by simp)]; simp
    by_cases hlt : k < st.txns.length
    · obtain ⟨bt, rfl, _, hbt, hrg, _⟩ := hel k _ (List.getElem?_eq_getElem hlt)
      have gk := List.getElem?_eq_getElem hlt
      generalize st.txns[k] = t at hrg gk
      have Gk : Hid (st.txns[k]? = some t) := gk
      clear gk
      have hrg' : wr.rangeAt bt (k * 19) (txnC g t) := rangeAt_below (World.rangeAt_alloc hrg _) hnx (by omega)
      have y0 : wr.cell? ⟨bt, k * 19, none⟩ = some (.int .i64 t.who.1) := hrg' 0 _ rfl
      have y1 : wr.cell? ⟨bt, k * 19 + 1, none⟩ = some (.int .i64 t.who.2.1) := hrg' 1 _ rfl
      have y2 : wr.cell? ⟨bt, k * 19 + 2, none⟩ = some (.int .i64 t.who.2.2) := hrg' 2 _ rfl
      have zk : (k : Int) < (st.txns.length : Int) := by omega
      clear hrg hrg' hel
      by_cases he : t.who = (a, b, c)
      · have hs : sameW t.who.1 t.who.2.1 t.who.2.2 a b c = true := sameW_t he
        have He : Hid (t.who = (a, b, c)) := he
        clear he
        go_wp2_with fail
        go_region_held3 (fun w' => w'.cell? ⟨r, 4, none⟩ = some (.slice (some ⟨bt, 0, none⟩) st.txns.length cap) ∧ w'.cell? ⟨w.heap.size, 0, none⟩ = some (.int .i64 a) ∧ w'.cell? ⟨w.heap.size, 1, none⟩ = some (.int .i64 b) ∧ w'.cell? ⟨w.heap.size, 2, none⟩ = some (.int .i64 c) ∧
          w'.cell? ⟨bt, k * 19, none⟩ = some (.int .i64 t.who.1) ∧ w'.cell? ⟨bt, k * 19 + 1, none⟩ = some (.int .i64 t.who.2.1) ∧ w'.cell? ⟨bt, k * 19 + 2, none⟩ = some (.int .i64 t.who.2.2)) (first | go_keep | (go_split_ands; (repeat' constructor) <;> exact cell_later hb1 (by assumption)))
          (first | (go_at_call 46; refine (sameWho_is hs _).mono ?_; rintro e w1 ⟨rfl, hb1⟩))
        go_wp2
        go_ret
        refine ⟨?_, ?_⟩
        · have q := Hl.out
          rw [drop_at Gk.out, liveIx, if_pos He.out] at q
          exact ret_i q
        · exact ((Below.refl _ _).alloc (Nat.le_refl _) _).trans ((hnx.mono (by omega)).drew.trans (hb1.mono (by simp; omega)))
      · have hs : sameW t.who.1 t.who.2.1 t.who.2.2 a b c = false := sameW_f he
        have He : Hid (¬ t.who = (a, b, c)) := he
        clear he
        go_wp2_with fail
        go_region_held3 (fun w' => w'.cell? ⟨r, 4, none⟩ = some (.slice (some ⟨bt, 0, none⟩) st.txns.length cap) ∧ w'.cell? ⟨w.heap.size, 0, none⟩ = some (.int .i64 a) ∧ w'.cell? ⟨w.heap.size, 1, none⟩ = some (.int .i64 b) ∧ w'.cell? ⟨w.heap.size, 2, none⟩ = some (.int .i64 c) ∧
          w'.cell? ⟨bt, k * 19, none⟩ = some (.int .i64 t.who.1) ∧ w'.cell? ⟨bt, k * 19 + 1, none⟩ = some (.int .i64 t.who.2.1) ∧ w'.cell? ⟨bt, k * 19 + 2, none⟩ = some (.int .i64 t.who.2.2)) (first | go_keep | (go_split_ands; (repeat' constructor) <;> exact cell_later hb1 (by assumption)))
          (first | (go_at_call 46; refine (sameWho_is hs _).mono ?_; rintro e w1 ⟨rfl, hb1⟩))
        go_wp2
        go_roundw
        case rel =>
          refine ⟨k + 1, by omega, by go_num, ?_, ?_⟩
          · have q := Hl.out
            rw [drop_at Gk.out, liveIx, if_neg He.out] at q
            exact q
          · exact hnx.drew.trans (hb1.mono (by simp; omega))
        case measure => simp [intOf]; omega
    · have e : k = st.txns.length := by omega
      subst e
      go_wp2
      go_ret
      refine ⟨?_, ?_⟩
      · have q := Hl.out
        rw [List.drop_length, liveIx] at q
        exact ret_i q
      · exact ((Below.refl _ _).alloc (Nat.le_refl _) _).trans (hnx.mono (by omega))
end Go.Proofs.Ytpbcplfpjcacfaa
