import Derived.Test.YtpbcplfpjcacfaaRefRead
namespace Go.Proofs.Ytpbcplfpjcacfaa
open Go.RowKit
attribute [local go_sem ↓] Go.wp_at_zero Go.wp_at_succ

/-- What stands at a key of a partition. -/
def valIx (a : Lab) (key : Int) : List Plc → Int
  | [] => -1
  | p :: l => if p.at_ = a ∧ p.key = key then p.value else valIx a key l
def RS.val (st : RS) (a : Lab) (key : Int) : Int := valIx a key st.places
theorem sameL_t {a b c d : Int} (h : (a, b) = ((c, d) : Lab)) : sameL a b c d = true := by simp at h; simp [sameL, h]
theorem sameL_f {a b c d : Int} (h : ¬ (a, b) = ((c, d) : Lab)) : sameL a b c d = false := by simp at h; simpa [sameL] using h
theorem sameLabel_is {a b c d : Int} {v : Bool} (hs : sameL a b c d = v) (w : World) :
    Calls Try.prog 64 #[.agg #[.int .i64 a, .int .i64 b], .agg #[.int .i64 c, .int .i64 d]] w fun e w' => e = .returned (.bool v) ∧ Below w.heap.size w w' := by
  subst hs; exact sameLabel_any a b c d w

set_option maxHeartbeats 1000000 in
set_option maxRecDepth 100000 in
theorem value_any (r : Nat) (st : RS) (own : Own) (a b key : Int) (w : World) (hm : Rep w r st own) :
    Calls Try.prog 107 #[.pointer (some ⟨r, 0, none⟩), .agg #[.int .i64 a, .int .i64 b], .int .i64 key] w fun e w' => e = .returned (.int .i64 (st.val (a, b) key)) ∧ Below w.heap.size w w' := by
  obtain ⟨g, vp, vt, vr, ve, m⟩ := hm
  obtain ⟨ao, cap, rfl, hmax, hel⟩ := m.places.form len_placeC
  have hrlt := m.old r (by rw [m.rootTag]; simp)
  have hr4 : w.cell? ⟨r, 3, none⟩ = some (.slice ao st.places.length cap) := by rw [root_cell m.root]; rfl
  unfold maxLen at hmax
  clear m
  go_enter Try.func107, Try.ntmps107
  go_wp2_with fail
  go_loopw [7] (fun i wr => ∃ k : Nat, k ≤ st.places.length ∧ i = .int .i64 k ∧ Hid (valIx (a, b) key (st.places.drop k) = st.val (a, b) key) ∧ Below (w.heap.size + 1) (w.alloc (.cells #[.int .i64 a, .int .i64 b] 25)) wr) (fun i _ => st.places.length - (intOf i).toNat)
  case atStart => exact ⟨0, Nat.zero_le _, rfl, rfl, Below.refl _ _⟩
  case round =>
    obtain ⟨k, hk, rfl, Hl, hnx⟩ := hrel
    have hnz := hnx.size
    simp only [World.size_alloc] at hnz
    have c4 : wr.cell? ⟨r, 3, none⟩ = some (.slice ao st.places.length cap) := by rw [hnx.cell (p := ⟨r, 3, none⟩) (by simp; omega), World.cell?_alloc_lt _ _ _ (by exact hrlt)]; exact hr4
    have x0 : wr.cell? ⟨w.heap.size, 0, none⟩ = some (.int .i64 a) := by rw [hnx.cell (p := ⟨w.heap.size, 0, none⟩) (by simp)]; simp
    have x1 : wr.cell? ⟨w.heap.size, 1, none⟩ = some (.int .i64 b) := by rw [hnx.cell (p := ⟨w.heap.size, 1, none⟩) (by simp)]; simp
    by_cases hlt : k < st.places.length
    · obtain ⟨bt, rfl, _, hbt, hrg, _⟩ := hel k _ (List.getElem?_eq_getElem hlt)
      have gk := List.getElem?_eq_getElem hlt
      generalize st.places[k] = t at hrg gk
      have Gk : Hid (st.places[k]? = some t) := gk
      clear gk
      have hrg' : wr.rangeAt bt (k * 4) (placeC t) := rangeAt_below (World.rangeAt_alloc hrg _) hnx (by omega)
      have y0 : wr.cell? ⟨bt, k * 4, none⟩ = some (.int .i64 t.at_.1) := hrg' 0 _ rfl
      have y1 : wr.cell? ⟨bt, k * 4 + 1, none⟩ = some (.int .i64 t.at_.2) := hrg' 1 _ rfl
      have y2 : wr.cell? ⟨bt, k * 4 + 2, none⟩ = some (.int .i64 t.key) := hrg' 2 _ rfl
      have y3 : wr.cell? ⟨bt, k * 4 + 3, none⟩ = some (.int .i64 t.value) := hrg' 3 _ rfl
      have zk : (k : Int) < (st.places.length : Int) := by omega
      clear hrg hrg' hel
      have kne := kin_some wr
      have k4 := kin_cell c4
      have kx0 := kin_cell x0
      have kx1 := kin_cell x1
      have ky0 := kin_cell y0
      have ky1 := kin_cell y1
      have ky2 := kin_cell y2
      have ky3 := kin_cell y3
      by_cases he : t.at_ = (a, b)
      · have hs : sameL t.at_.1 t.at_.2 a b = true := sameL_t he
        have He : Hid (t.at_ = (a, b)) := he
        clear he
        go_wp2_with fail
        refine wp_region_kin (by kernel_rfl) (by kernel_rfl) ?_
        repeat (first | go_big_quiet_step ((go_at_call 64; exact Calls.kin (sameLabel_is hs _))) | quiet_step ((go_at_call 64; exact Calls.kin (sameLabel_is hs _))))
        refine wpQuiet_nil ?_
        intro _ hw'
        obtain ⟨xq, hw''⟩ := hw'
        subst hw''
        have hon : Below (w.heap.size + 1) (w.alloc (.cells #[.int .i64 a, .int .i64 b] 25)) xq.w := hnx.trans (xq.h.mono hnz)
        have hend : Below w.heap.size w xq.w := ((Below.refl _ _).alloc (Nat.le_refl _) _).trans (hon.mono (by omega))
        go_wp2
        · have hkey : t.key = key := by simpa using ‹(t.key == key) = true›
          go_ret
          refine ⟨?_, hend⟩
          have q := Hl.out
          rw [drop_at Gk.out, valIx, if_pos ⟨He.out, hkey⟩] at q
          exact ret_i q
        · have hkey : ¬ t.key = key := by simpa using ‹(t.key == key) = false›
          go_roundw
          case rel =>
            refine ⟨k + 1, by omega, by go_num, ?_, hon⟩
            have q := Hl.out
            rw [drop_at Gk.out, valIx, if_neg (fun h => hkey h.2)] at q
            exact q
          case measure => simp [intOf]; omega
      · have hs : sameL t.at_.1 t.at_.2 a b = false := sameL_f he
        have He : Hid (¬ t.at_ = (a, b)) := he
        clear he
        go_wp2_with fail
        refine wp_region_kin (by kernel_rfl) (by kernel_rfl) ?_
        repeat (first | go_big_quiet_step ((go_at_call 64; exact Calls.kin (sameLabel_is hs _))) | quiet_step ((go_at_call 64; exact Calls.kin (sameLabel_is hs _))))
        refine wpQuiet_nil ?_
        intro _ hw'
        obtain ⟨xq, hw''⟩ := hw'
        subst hw''
        have hon : Below (w.heap.size + 1) (w.alloc (.cells #[.int .i64 a, .int .i64 b] 25)) xq.w := hnx.trans (xq.h.mono hnz)
        go_wp2
        go_roundw
        case rel =>
          refine ⟨k + 1, by omega, by go_num, ?_, hon⟩
          have q := Hl.out
          rw [drop_at Gk.out, valIx, if_neg (fun h => He.out h.1)] at q
          exact q
        case measure => simp [intOf]; omega
    · have e : k = st.places.length := by omega
      subst e
      go_wp2
      go_ret
      refine ⟨?_, ((Below.refl _ _).alloc (Nat.le_refl _) _).trans (hnx.mono (by omega))⟩
      have q := Hl.out
      rw [List.drop_length, valIx] at q
      exact ret_i q
/-- What stands at a key, all live transactions' writes taken back. -/
def oldIx (key : Int) : List (Int × Int) → Option Int
  | [] => none
  | o :: l => if o.1 = key then some o.2 else oldIx key l
def commIx (a : Lab) (key : Int) : List Tx → Option Int
  | [] => none
  | t :: l => if t.who.lab = a then (match oldIx key t.olds with | some v => some v | none => commIx a key l) else commIx a key l
def RS.comm (st : RS) (a : Lab) (key : Int) : Int := (commIx a key st.txns).getD (st.val a key)

theorem commIx_other {a : Lab} {key : Int} {t : Tx} {l : List Tx} (h : ¬ t.who.lab = a) : commIx a key (t :: l) = commIx a key l := by rw [commIx, if_neg h]
theorem commIx_none {a : Lab} {key : Int} {t : Tx} {l : List Tx} (h : oldIx key t.olds = none) : commIx a key (t :: l) = commIx a key l := by
  rw [commIx]; split
  · rw [h]
  · rfl
theorem commIx_some {a : Lab} {key v : Int} {t : Tx} {l : List Tx} (h : t.who.lab = a) (h2 : oldIx key t.olds = some v) : commIx a key (t :: l) = some v := by
  rw [commIx, if_pos h, h2]

set_option maxHeartbeats 1000000 in
set_option maxRecDepth 100000 in
theorem committed_any (r : Nat) (st : RS) (own : Own) (a b key : Int) (w : World) (hm : Rep w r st own) :
    Calls Try.prog 84 #[.pointer (some ⟨r, 0, none⟩), .agg #[.int .i64 a, .int .i64 b], .int .i64 key] w fun e w' => e = .returned (.int .i64 (st.comm (a, b) key)) ∧ Below w.heap.size w w' := by
  have hrep := hm
  obtain ⟨g, vp, vt, vr, ve, m⟩ := hm
  obtain ⟨ao, cap, rfl, hmax, hel⟩ := m.txns.form (len_txnC g)
  have hold := m.olds
  have hrlt := m.old r (by rw [m.rootTag]; simp)
  have hr4 : w.cell? ⟨r, 4, none⟩ = some (.slice ao st.txns.length cap) := by rw [root_cell m.root]; rfl
  unfold maxLen at hmax
  clear m
  go_enter Try.func84, Try.ntmps84
  go_wp2_with fail
  go_loopw [7] (fun i wr => ∃ k : Nat, k ≤ st.txns.length ∧ i = .int .i64 k ∧ Hid (commIx (a, b) key (st.txns.drop k) = commIx (a, b) key st.txns) ∧ Below (w.heap.size + 1) (w.alloc (.cells #[.int .i64 a, .int .i64 b] 25)) wr) (fun i _ => st.txns.length - (intOf i).toNat)
  case atStart => exact ⟨0, Nat.zero_le _, rfl, rfl, Below.refl _ _⟩
  case round =>
    obtain ⟨k, hk, rfl, Hl, hnx⟩ := hrel
    have hnz := hnx.size
    simp only [World.size_alloc] at hnz
    have c4 : wr.cell? ⟨r, 4, none⟩ = some (.slice ao st.txns.length cap) := by rw [hnx.cell (p := ⟨r, 4, none⟩) (by simp; omega), World.cell?_alloc_lt _ _ _ (by exact hrlt)]; exact hr4
    have x0 : wr.cell? ⟨w.heap.size, 0, none⟩ = some (.int .i64 a) := by rw [hnx.cell (p := ⟨w.heap.size, 0, none⟩) (by simp)]; simp
    have x1 : wr.cell? ⟨w.heap.size, 1, none⟩ = some (.int .i64 b) := by rw [hnx.cell (p := ⟨w.heap.size, 1, none⟩) (by simp)]; simp
    by_cases hlt : k < st.txns.length
    · obtain ⟨bt, rfl, _, hbt, hrg, _⟩ := hel k _ (List.getElem?_eq_getElem hlt)
      have gk := List.getElem?_eq_getElem hlt
      have hro := hold _ (List.getElem_mem hlt)
      generalize st.txns[k] = t at hrg gk hro
      have Gk : Hid (st.txns[k]? = some t) := gk
      clear gk
      have hrg' : wr.rangeAt bt (k * 19) (txnC g t) := rangeAt_below (World.rangeAt_alloc hrg _) hnx (by omega)
      obtain ⟨ao2, cap2, hg1, hmax2, hel2⟩ := hro.form len_itemC
      have y0 : wr.cell? ⟨bt, k * 19, none⟩ = some (.int .i64 t.who.1) := hrg' 0 _ rfl
      have y1 : wr.cell? ⟨bt, k * 19 + 1, none⟩ = some (.int .i64 t.who.2.1) := hrg' 1 _ rfl
      have y4 : wr.cell? ⟨bt, k * 19 + 4, none⟩ = some (.slice ao2 t.olds.length cap2) := by rw [← hg1]; exact hrg' 4 _ rfl
      have zk : (k : Int) < (st.txns.length : Int) := by omega
      unfold maxLen at hmax2
      clear hrg hrg' hel hg1 hold hro
      have kne := kin_some wr
      have k4 := kin_cell c4
      have kx0 := kin_cell x0
      have kx1 := kin_cell x1
      have ky0 := kin_cell y0
      have ky1 := kin_cell y1
      have ky4 := kin_cell y4
      by_cases he : t.who.lab = (a, b)
      · have hs : sameL t.who.1 t.who.2.1 a b = true := sameL_t he
        have He : Hid (t.who.lab = (a, b)) := he
        clear he
        go_wp2_with fail
        refine wp_region_kin (by kernel_rfl) (by kernel_rfl) ?_
        repeat (first | go_big_quiet_step ((go_at_call 64; exact Calls.kin (sameLabel_is hs _))) | quiet_step ((go_at_call 64; exact Calls.kin (sameLabel_is hs _))))
        refine wpQuiet_nil ?_
        intro _ hw'
        obtain ⟨xq, hw''⟩ := hw'
        subst hw''
        have hon : Below (w.heap.size + 1) (w.alloc (.cells #[.int .i64 a, .int .i64 b] 25)) xq.w := hnx.trans (xq.h.mono hnz)
        have hend : Below w.heap.size w xq.w := ((Below.refl _ _).alloc (Nat.le_refl _) _).trans (hon.mono (by omega))
        go_wp2
        go_loop [8] (fun i => ∃ j : Nat, j ≤ t.olds.length ∧ i = .int .i64 j ∧ Hid (oldIx key (t.olds.drop j) = oldIx key t.olds)) (fun i => t.olds.length - (intOf i).toNat)
        case atStart => exact ⟨0, Nat.zero_le _, rfl, rfl⟩
        case round =>
          obtain ⟨j, hj, rfl, Hj⟩ := hrel
          by_cases hlt2 : j < t.olds.length
          · obtain ⟨b2, rfl, _, hb2, hrg2, _⟩ := hel2 j _ (List.getElem?_eq_getElem hlt2)
            have gj := List.getElem?_eq_getElem hlt2
            generalize t.olds[j] = o at hrg2 gj
            have Gj : Hid (t.olds[j]? = some o) := gj
            clear gj hel2
            have hrg3 : xq.w.rangeAt b2 (j * 2) (itemV o) := rangeAt_below hrg2 hend (by omega)
            have z0 : xq.w.cell? ⟨b2, j * 2, none⟩ = some (.int .i64 o.1) := hrg3 0 _ rfl
            have z1 : xq.w.cell? ⟨b2, j * 2 + 1, none⟩ = some (.int .i64 o.2) := hrg3 1 _ rfl
            have zj : (j : Int) < (t.olds.length : Int) := by omega
            clear hrg2 hrg3
            go_wp2
            · have hkey : o.1 = key := by simpa using ‹(o.1 == key) = true›
              go_ret
              refine ⟨?_, hend⟩
              have q := Hj.out
              rw [drop_at Gj.out, oldIx, if_pos hkey] at q
              have q2 := Hl.out
              rw [drop_at Gk.out, commIx_some He.out q.symm] at q2
              refine ret_i ?_
              unfold RS.comm
              rw [← q2]; rfl
            · have hkey : ¬ o.1 = key := by simpa using ‹(o.1 == key) = false›
              go_round
              case rel =>
                refine ⟨j + 1, by omega, by go_num, ?_⟩
                have q := Hj.out
                rw [drop_at Gj.out, oldIx, if_neg hkey] at q
                exact q
              case measure => simp [intOf]; omega
          · have e : j = t.olds.length := by omega
            subst e
            go_wp2
            go_roundw
            case rel =>
              refine ⟨k + 1, by omega, by go_num, ?_, hon⟩
              have q := Hj.out
              rw [List.drop_length, oldIx] at q
              have q2 := Hl.out
              rw [drop_at Gk.out, commIx_none q.symm] at q2
              exact q2
            case measure => simp [intOf]; omega
      · have hs : sameL t.who.1 t.who.2.1 a b = false := sameL_f he
        have He : Hid (¬ t.who.lab = (a, b)) := he
        clear he
        go_wp2_with fail
        refine wp_region_kin (by kernel_rfl) (by kernel_rfl) ?_
        repeat (first | go_big_quiet_step ((go_at_call 64; exact Calls.kin (sameLabel_is hs _))) | quiet_step ((go_at_call 64; exact Calls.kin (sameLabel_is hs _))))
        refine wpQuiet_nil ?_
        intro _ hw'
        obtain ⟨xq, hw''⟩ := hw'
        subst hw''
        have hon : Below (w.heap.size + 1) (w.alloc (.cells #[.int .i64 a, .int .i64 b] 25)) xq.w := hnx.trans (xq.h.mono hnz)
        go_wp2
        go_roundw
        case rel =>
          refine ⟨k + 1, by omega, by go_num, ?_, hon⟩
          have q := Hl.out
          rw [drop_at Gk.out, commIx_other He.out] at q
          exact q
        case measure => simp [intOf]; omega
    · have e : k = st.txns.length := by omega
      subst e
      have hend : Below w.heap.size w wr := ((Below.refl _ _).alloc (Nat.le_refl _) _).trans (hnx.mono (by omega))
      have hrep' := hrep.below hend
      go_wp2_with fail
      refine (value_any r st own a b key _ hrep').mono ?_
      rintro e w1 ⟨rfl, hb1⟩
      go_wp2
      go_ret
      refine ⟨?_, hend.trans (hb1.mono hend.size)⟩
      have q := Hl.out
      rw [List.drop_length, commIx] at q
      refine ret_i ?_
      unfold RS.comm
      rw [← q]; rfl
end Go.Proofs.Ytpbcplfpjcacfaa
