import Derived.Test.YtpbcplfpjcacfaaLook
namespace Go.Proofs.Ytpbcplfpjcacfaa
open Go.RowKit
attribute [local go_sem ↓] Go.wp_at_zero Go.wp_at_succ

set_option maxHeartbeats 1000000 in
set_option maxRecDepth 100000 in
theorem looked_yes (bb p r : Nat) (st : RS) (own : Own) (l c : Int) (T : Nat → Option Int) (w : World) (h : labB l c = true)
    (hb0 : w.cell? ⟨bb, 0, none⟩ = some (.pointer (some ⟨p, 0, none⟩))) (hb1 : w.cell? ⟨bb, 1, none⟩ = some (.pointer (some ⟨r, 0, none⟩)))
    (hr : w.rangeAt p (3 + placeOf l c * 350) (tabV T)) (hp : p < w.heap.size) (hm : Rep w r st own) (hsame : listTo T 0 15 16 = st.lookTo (l, c) 16) :
    Calls Try.prog 47 #[.pointer (some ⟨bb, 0, none⟩), .agg #[.int .i64 l, .int .i64 c]] w fun e w' =>
      ∃ v, e = .returned (.tuple #[v, .bool true]) ∧ w'.ownsRow w.heap.size 94 2 v (listTo T 0 15 16).length (itemsV (listTo T 0 15 16)) ∧ Below w.heap.size w w' := by
  have Hs : Hid (listTo T 0 15 16 = st.lookTo (l, c) 16) := hsame
  clear hsame
  have n0 := World.new_ne w _ hb0
  have n1 := World.new_ne w _ hb1
  go_enter Try.func47, Try.ntmps47
  go_wp2_with fail
  have hA : Below w.heap.size w (w.alloc (.cells #[.int .i64 l, .int .i64 c] 25)) := (Below.refl _ _).alloc (Nat.le_refl _) _
  go_region_held3 (fun w' => w'.cell? ⟨bb, 0, none⟩ = some (.pointer (some ⟨p, 0, none⟩)) ∧ w'.cell? ⟨w.heap.size, 0, none⟩ = some (.int .i64 l) ∧ w'.cell? ⟨w.heap.size, 1, none⟩ = some (.int .i64 c)) (first | go_keep | (go_split_ands; (repeat' constructor) <;> exact cell_later hb2 (by assumption)))
    (first | (go_at_call 31; refine (look_yes p l c T _ h ?_ ?_).mono ?_; (first | exact World.rangeAt_alloc hr _ | exact hr); (simp; omega); rintro e w2 ⟨v, rfl, hown, hb2⟩))
  have hB2 : Below w.heap.size w w2 := hA.drew.trans (hb2.mono (by simp))
  have c0 : w2.cell? ⟨w.heap.size, 0, none⟩ = some (.int .i64 l) := by rw [hb2.cell (p := ⟨w.heap.size, 0, none⟩) (by simp)]; simp
  have c1 : w2.cell? ⟨w.heap.size, 1, none⟩ = some (.int .i64 c) := by rw [hb2.cell (p := ⟨w.heap.size, 1, none⟩) (by simp)]; simp
  have hown2 := ownsRow_lower hown (B' := w.heap.size) (by simp)
  have s1 : w2.cell? ⟨bb, 1, none⟩ = some (.pointer (some ⟨r, 0, none⟩)) := cell_later hB2 hb1
  have z2 : w.heap.size < w2.heap.size := by have := hb2.size; simp at this; omega
  clear hown hb2 hb0 n0 n1
  go_wp2_with fail
  refine (isLabel_any l c _).mono ?_
  rintro e w3 ⟨rfl, hb3⟩
  rw [h]
  have hB3 : Below w.heap.size w w3 := hB2.trans (hb3.mono (by omega))
  have d0 := cell_later hb3 c0
  have d1 := cell_later hb3 c1
  have t1 := cell_later hb3 s1
  have hown3 := ownsRow_below hown2 hb3
  have z3 : w.heap.size < w3.heap.size := by have := hb3.size; omega
  have hm3 := hm.below hB3
  clear c0 c1 s1 hown2 hb3 hb1
  go_wp2_with fail
  go_region_held3 (fun w' => w'.cell? ⟨bb, 1, none⟩ = some (.pointer (some ⟨r, 0, none⟩)) ∧ w'.cell? ⟨w.heap.size, 0, none⟩ = some (.int .i64 l) ∧ w'.cell? ⟨w.heap.size, 1, none⟩ = some (.int .i64 c)) (first | go_keep | (go_split_ands; (repeat' constructor) <;> exact cell_later hb4 (by assumption)))
    (first | (go_at_call 65; refine (refLook_any r st own l c _ (hm3.below ((Below.refl _ _).drew))).mono ?_; rintro e w4 ⟨v2, rfl, hownr, hb4⟩))
  have hb4' : Below w3.heap.size w3 w4 := ((Below.refl _ _).drew).trans hb4
  have hB4 : Below w.heap.size w w4 := hB3.trans (hb4'.mono (by omega))
  have hown4 := ownsRow_below hown3 hb4'
  have i1 := ownsRow_items hown4
  have i2 := ownsRow_items hownr
  rw [← Hs.out] at i2
  clear hown3 hownr hb4
  go_wp2_with fail
  refine (num_any 0 _).mono ?_
  rintro e w5 ⟨rfl, rfl⟩
  go_wp2_with fail
  refine (sameItems_any v v2 _ _ _ i1 i2).mono ?_
  rintro e w6 ⟨rfl, hb6⟩
  rw [decide_eq_true (rfl : listTo T 0 15 16 = listTo T 0 15 16)]
  go_wp2
  go_ret2
  exact ⟨v, rfl, ownsRow_below hown4 hb6, hB4.trans (hb6.mono hB4.size)⟩
set_option maxHeartbeats 1000000 in
set_option maxRecDepth 100000 in
theorem looked_no (bb p : Nat) (l c : Int) (w : World) (h : labB l c = false)
    (hb0 : w.cell? ⟨bb, 0, none⟩ = some (.pointer (some ⟨p, 0, none⟩))) :
    Calls Try.prog 47 #[.pointer (some ⟨bb, 0, none⟩), .agg #[.int .i64 l, .int .i64 c]] w fun e w' =>
      e = .returned (.tuple #[.slice none 0 0, .bool true]) ∧ Below w.heap.size w w' := by
  have n0 := World.new_ne w _ hb0
  go_enter Try.func47, Try.ntmps47
  go_wp2_with fail
  have hA : Below w.heap.size w (w.alloc (.cells #[.int .i64 l, .int .i64 c] 25)) := (Below.refl _ _).alloc (Nat.le_refl _) _
  go_region_held3 (fun w' => w'.cell? ⟨bb, 0, none⟩ = some (.pointer (some ⟨p, 0, none⟩)) ∧ w'.cell? ⟨w.heap.size, 0, none⟩ = some (.int .i64 l) ∧ w'.cell? ⟨w.heap.size, 1, none⟩ = some (.int .i64 c)) (first | go_keep | (go_split_ands; (repeat' constructor) <;> exact cell_later hb2 (by assumption)))
    (first | (go_at_call 31; refine (look_no p l c _ h).mono ?_; rintro e w2 ⟨rfl, hb2⟩))
  have hB2 : Below w.heap.size w w2 := hA.drew.trans (hb2.mono (by simp))
  have c0 : w2.cell? ⟨w.heap.size, 0, none⟩ = some (.int .i64 l) := by rw [hb2.cell (p := ⟨w.heap.size, 0, none⟩) (by simp)]; simp
  have c1 : w2.cell? ⟨w.heap.size, 1, none⟩ = some (.int .i64 c) := by rw [hb2.cell (p := ⟨w.heap.size, 1, none⟩) (by simp)]; simp
  clear hb2 hb0 n0
  go_wp2_with fail
  refine (isLabel_any l c _).mono ?_
  rintro e w3 ⟨rfl, hb3⟩
  rw [h]
  have hB3 : Below w.heap.size w w3 := hB2.trans (hb3.mono hB2.size)
  clear hb3
  go_wp2_with fail
  refine (num_any 2 _).mono ?_
  rintro e w5 ⟨rfl, rfl⟩
  go_wp2
  go_ret2
  exact ⟨rfl, hB3⟩
end Go.Proofs.Ytpbcplfpjcacfaa
