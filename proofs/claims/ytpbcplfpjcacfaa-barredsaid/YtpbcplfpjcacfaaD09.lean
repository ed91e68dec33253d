import Derived.Test.YtpbcplfpjcacfaaD05
import Derived.Test.YtpbcplfpjcacfaaD08
namespace Go.Proofs.Ytpbcplfpjcacfaa
open Go.RowKit
set_option maxRecDepth 100000
set_option maxHeartbeats 8000000
theorem size_step : (Try.prog.info? 30).map (·.size) = some 9 := by kernel_rfl
theorem tier_is {w : World} {p q : Nat} {a : Lab} (h : labB a.1 a.2 = true) (hq : plOf a = q) :
  Calls Try.prog 51 #[.pointer (some ⟨p, 0, none⟩), .agg #[.int .i64 a.1, .int .i64 a.2]] w fun e w' => e = .returned (.pointer (some ⟨p, tO q, none⟩)) ∧ Below w.heap.size w w' := by
 have hlt : q < 32 := by rw [← hq]; exact plOf_lt h
 have hpl := place_nat a.1 a.2 (w.alloc (.cells #[.int .i64 a.1, .int .i64 a.2] 25)) h
 rw [show placeOf a.1 a.2 = q from hq] at hpl
 have zi : (q : Int) < 32 := by omega
 go_enter Try.func51, Try.ntmps51
 go_wp2_with fail
 refine hpl.mono ?_
 rintro e w1 ⟨rfl, hb⟩
 have hb0 : Below w.heap.size w w1 := ((Below.refl _ _).alloc (Nat.le_refl _) _).trans (hb.mono (by simp))
 clear hpl
 go_wp2
 go_ret
 exact ⟨rfl, hb0⟩
theorem trHind_is {w : World} {p q o n : Nat} {s : PS} {own : Own} {G : PG} (m : PMem w p s own G) (hq : q < 32) (ho : o < 4) (hn : n < 4) {b : Bool} (hb : (s.t q).hindB o n = b) :
  Calls Try.prog 101 #[.pointer (some ⟨p, tO q, none⟩), .int .i64 o, .int .i64 n] w fun e w' => e = .returned (.bool b) ∧ Below w.heap.size w w' := by
 have M : Hid (PMem w p s own G) := m
 have hp := m.lt
 have hreq := ses_req (m.sesAt hq hn)
 have zn : (n : Int) < 4 := by omega
 have zo : (o : Int) < 4 := by omega
 clear m
 unfold Tr.hindB at hb
 by_cases hon : o = n
 ·subst hon
  simp only [beq_self_eq_true, Bool.not_true, Bool.false_and] at hb
  subst hb
  clear hreq
  go_enter Try.func101, Try.ntmps101
  go_wp2
  go_ret
  exact ⟨rfl, Below.refl _ _⟩
 ·have e1 : (o == n) = false := by simpa using hon
  simp only [e1, Bool.not_false, Bool.true_and] at hb
  have z1 : (o : Int) ≠ (n : Int) := by omega
  clear hon e1
  generalize hx : ((s.t q).ses n).req = x at *
  clear hx
  go_enter Try.func101, Try.ntmps101
  go_wp2_with (first | (refine wpList_load_mid rfl 30 _ rfl p (tO q + 32 + n * 79 + 65) rfl (stepC x) _ hreq Try.underlying30 rfl size_step ?_))
  refine (asked_any x _).mono ?_
  rintro e w1 ⟨rfl, hb1⟩
  clear hreq
  have M1 : Hid (PMem w1 p s own G) := M.out.below hb1
  generalize lkOf x = r at *
  unfold lkV
  have hB2 : Below w.heap.size w (w1.alloc (lkObj r)) := hb1.alloc hb1.size _
  have M2 : Hid (PMem (w1.alloc (lkObj r)) p s own G) := M.out.below hB2
  go_wp2_with fail
  obtain ⟨W, hW, HW⟩ : ∃ W, W = w1.alloc (lkObj r) ∧ Hid (W = w1.alloc (lkObj r)) := ⟨_, rfl, rfl⟩
  rw [← hW] at hB2 M2 ⊢
  have hz1 : w1.heap.size < W.heap.size := by rw [hW]; simp
  have x0 : W.cell? ⟨w1.heap.size, 0, none⟩ = some (.int .i64 r.at_.1) := by rw [hW]; simp
  have x1 : W.cell? ⟨w1.heap.size, 1, none⟩ = some (.int .i64 r.at_.2) := by rw [hW]; simp
  have x2 : W.cell? ⟨w1.heap.size, 2, none⟩ = some (.int .i64 r.lo) := by rw [hW]; simp
  have x3 : W.cell? ⟨w1.heap.size, 3, none⟩ = some (.int .i64 r.hi) := by rw [hW]; simp
  have x4 : W.cell? ⟨w1.heap.size, 4, none⟩ = some (.bool r.wr) := by rw [hW]; simp
  clear hW
  have kne := kin_some W
  have kx0 := kin_cell x0
  have kx1 := kin_cell x1
  have kx2 := kin_cell x2
  have kx3 := kin_cell x3
  have kx4 := kin_cell x4
  clear x0 x1 x2 x3 x4
  cases hs : ((s.t q).ses o).metB r
  ·rw [hs, Bool.false_or] at hb
   refine wp_region_kin (by kernel_rfl) (by kernel_rfl) ?_
   repeat (first | go_big_quiet_step ((go_at_call 121; exact Calls.kin (sesMet_at (M2.out.below (Kin.h _)) hq ho hs))) | quiet_step ((go_at_call 121; exact Calls.kin (sesMet_at (M2.out.below (Kin.h _)) hq ho hs))))
   refine wpQuiet_nil ?_
   intro _ hw'
   obtain ⟨xq, hw''⟩ := hw'
   subst hw''
   have hB3 : Below w.heap.size w xq.w := hB2.trans (xq.h.mono hB2.size)
   have hz3 : w1.heap.size < xq.w.heap.size := Nat.lt_of_lt_of_le hz1 xq.h.size
   have M3 : Hid (PMem xq.w p s own G) := M.out.below hB3
   have y0 := kx0 xq
   have y1 := kx1 xq
   have y2 := kx2 xq
   have y3 := kx3 xq
   have y4 := kx4 xq
   have hreq := ses_req (M3.out.sesAt hq ho)
   clear kx0 kx1 kx2 kx3 kx4 kne
   generalize xq.w = W3 at *
   cases ha : aheadIn (s.t q).queue o n
   ·rw [ha, Bool.false_and] at hb
    subst hb
    clear hreq
    go_wp2_with fail
    refine (isAhead_is M3.out hq ha).mono ?_
    rintro e w4 ⟨rfl, rfl⟩
    go_wp2
    go_ret
    exact ⟨rfl, hB3⟩
   ·rw [ha, Bool.true_and] at hb
    generalize ((s.t q).ses o).req = y at *
    go_wp2_with fail
    refine (isAhead_is M3.out hq ha).mono ?_
    rintro e w4 ⟨rfl, rfl⟩
    go_wp2_with (first | (refine wpList_load_mid rfl 30 _ rfl p (tO q + 32 + o * 79 + 65) rfl (stepC y) _ hreq Try.underlying30 rfl size_step ?_))
    refine (asked_any y _).mono ?_
    rintro e w5 ⟨rfl, hb5⟩
    clear hreq
    obtain ⟨c5, f5⟩ := bcell hb5
    have hz5 : w1.heap.size < w5.heap.size := Nat.lt_of_lt_of_le hz3 hb5.size
    have hB5 : Below w.heap.size w w5 := hB3.trans (hb5.mono hB3.size)
    generalize lkOf y = r2 at *
    unfold lkV
    go_wp2_with fail
    refine (meets_is hb _).mono ?_
    rintro e w6 ⟨rfl, hb6⟩
    have hB6 : Below w.heap.size w w6 := (hB5.alloc hB5.size (lkObj r2)).trans (hb6.mono (by simp; have := hB5.size; omega))
    go_wp2
    go_ret
    exact ⟨rfl, hB6⟩
  ·rw [hs, Bool.true_or] at hb
   subst hb
   refine wp_region_kin (by kernel_rfl) (by kernel_rfl) ?_
   repeat (first | go_big_quiet_step ((go_at_call 121; exact Calls.kin (sesMet_at (M2.out.below (Kin.h _)) hq ho hs))) | quiet_step ((go_at_call 121; exact Calls.kin (sesMet_at (M2.out.below (Kin.h _)) hq ho hs))))
   refine wpQuiet_nil ?_
   intro _ hw'
   obtain ⟨xq, hw''⟩ := hw'
   subst hw''
   have hB3 : Below w.heap.size w xq.w := hB2.trans (xq.h.mono hB2.size)
   go_wp2
   go_ret
   exact ⟨rfl, hB3⟩
theorem stp_cells {w : World} {p o : Nat} {x : Stp} (h : w.rangeAt p o (stepC x)) :
  w.cell? ⟨p, o, none⟩ = some (.int .i64 x.who.1) ∧ w.cell? ⟨p, o + 1, none⟩ = some (.int .i64 x.who.2.1) ∧ w.cell? ⟨p, o + 2, none⟩ = some (.int .i64 x.who.2.2) ∧ w.cell? ⟨p, o + 3, none⟩ = some (.int .i64 x.op) ∧ w.cell? ⟨p, o + 4, none⟩ = some (.int .i64 x.at_.1) ∧ w.cell? ⟨p, o + 5, none⟩ = some (.int .i64 x.at_.2) ∧ w.cell? ⟨p, o + 6, none⟩ = some (.int .i64 x.key) ∧ w.cell? ⟨p, o + 7, none⟩ = some (.int .i64 x.to_) ∧ w.cell? ⟨p, o + 8, none⟩ = some (.int .i64 x.value) :=
 ⟨h 0 _ rfl, h 1 _ rfl, h 2 _ rfl, h 3 _ rfl, h 4 _ rfl, h 5 _ rfl, h 6 _ rfl, h 7 _ rfl, h 8 _ rfl⟩
abbrev stpObj (x : Stp) : Obj := .cells #[.int .i64 x.who.1, .int .i64 x.who.2.1, .int .i64 x.who.2.2, .int .i64 x.op, .int .i64 x.at_.1, .int .i64 x.at_.2, .int .i64 x.key, .int .i64 x.to_, .int .i64 x.value] 30
abbrev whoObj (x : Wh) : Obj := .cells #[.int .i64 x.1, .int .i64 x.2.1, .int .i64 x.2.2] 28
theorem isHind_is {w : World} {p q n : Nat} {s : PS} {own : Own} {G : PG} (m : PMem w p s own G) (hq : q < 32) (hn : n < 4) {a : Wh} (hw : a = whoOf q n) (hx : labB ((s.t q).ses n).req.at_.1 ((s.t q).ses n).req.at_.2 = true) {b : Bool} (hb : s.hindB q n = b) :
  Calls Try.prog 80 #[.pointer (some ⟨p, 0, none⟩), .agg #[.int .i64 a.1, .int .i64 a.2.1, .int .i64 a.2.2]] w fun e w' => e = .returned (.bool b) ∧ Below w.heap.size w w' := by
 have M : Hid (PMem w p s own G) := m
 have hp := m.lt
 have zn : (n : Int) < 4 := by omega
 clear m
 have Hl : Hid (labB (labOf q).1 (labOf q).2 = true) := labOf_ok hq
 obtain ⟨a0, a1, a2⟩ := a
 obtain ⟨h0, h1, h2⟩ : a0 = (labOf q).1 ∧ a1 = (labOf q).2 ∧ a2 = (n : Int) := by simpa [whoOf] using hw
 subst h2
 have Ha : Hid ((a0, a1) = labOf q) := by show _ = _; rw [h0, h1]
 have hlab : labB a0 a1 = true := by rw [h0, h1]; exact Hl.out
 have hpl : plOf (a0, a1) = q := by rw [Ha.out]; exact plOf_labOf hq
 clear h0 h1 hw Hl
 unfold PS.hindB at hb
 rw [← Ha.out] at hb
 go_enter Try.func80, Try.ntmps80
 go_wp2_with fail
 refine (tier_is (a := (a0, a1)) hlab hpl).mono ?_
 rintro e w1 ⟨rfl, hb1⟩
 have hB1 : Below w.heap.size w w1 := ((Below.refl _ _).alloc (Nat.le_refl _) _).trans (hb1.mono (by simp))
 have M1 : Hid (PMem w1 p s own G) := M.out.below hB1
 have hz1 : w.heap.size < w1.heap.size := by have := hb1.size; simp at this; omega
 obtain ⟨cc, cf⟩ := bcell hb1
 have d0 : w1.cell? ⟨w.heap.size, 0, none⟩ = some (.int .i64 a0) := by rw [cc _ _ (by simp)]; simp
 have d1 : w1.cell? ⟨w.heap.size, 1, none⟩ = some (.int .i64 a1) := by rw [cc _ _ (by simp)]; simp
 have d2 : w1.cell? ⟨w.heap.size, 2, none⟩ = some (.int .i64 (n : Int)) := by rw [cc _ _ (by simp)]; simp
 clear cc cf hb1
 generalize hxx : ((s.t q).ses n).req = x at *
 have hreq := ses_req (M1.out.sesAt hq hn)
 rw [hxx] at hreq
 obtain ⟨r0, r1, r2, r3, r4, r5, r6, r7, r8⟩ := stp_cells hreq
 clear hreq
 go_wp2_with fail
 have HS2 : Hid (∀ W, Below w1.heap.size w1 W → W.cell? ⟨w.heap.size, 2, none⟩ = some (.int .i64 (n : Int)) ∧ W.cell? ⟨p, tO q + 32 + n * 79 + 65, none⟩ = some (.int .i64 x.who.1) ∧ W.cell? ⟨p, tO q + 32 + n * 79 + 66, none⟩ = some (.int .i64 x.who.2.1) ∧ W.cell? ⟨p, tO q + 32 + n * 79 + 67, none⟩ = some (.int .i64 x.who.2.2) ∧ W.cell? ⟨p, tO q + 32 + n * 79 + 68, none⟩ = some (.int .i64 x.op) ∧ W.cell? ⟨p, tO q + 32 + n * 79 + 69, none⟩ = some (.int .i64 x.at_.1) ∧ W.cell? ⟨p, tO q + 32 + n * 79 + 70, none⟩ = some (.int .i64 x.at_.2) ∧ W.cell? ⟨p, tO q + 32 + n * 79 + 71, none⟩ = some (.int .i64 x.key) ∧ W.cell? ⟨p, tO q + 32 + n * 79 + 72, none⟩ = some (.int .i64 x.to_) ∧ W.cell? ⟨p, tO q + 32 + n * 79 + 73, none⟩ = some (.int .i64 x.value)) := fun W hB => ⟨cell_later hB d2, cell_later hB r0, cell_later hB r1, cell_later hB r2, cell_later hB r3, cell_later hB r4, cell_later hB r5, cell_later hB r6, cell_later hB r7, cell_later hB r8⟩
 have hS := HS2.out w1.drew (Below.refl _ _).drew
 refine wp_region_Z (z := 9) (S := fun W => W.cell? ⟨w.heap.size, 2, none⟩ = some (.int .i64 (n : Int)) ∧ W.cell? ⟨p, tO q + 32 + n * 79 + 65, none⟩ = some (.int .i64 x.who.1) ∧ W.cell? ⟨p, tO q + 32 + n * 79 + 66, none⟩ = some (.int .i64 x.who.2.1) ∧ W.cell? ⟨p, tO q + 32 + n * 79 + 67, none⟩ = some (.int .i64 x.who.2.2) ∧ W.cell? ⟨p, tO q + 32 + n * 79 + 68, none⟩ = some (.int .i64 x.op) ∧ W.cell? ⟨p, tO q + 32 + n * 79 + 69, none⟩ = some (.int .i64 x.at_.1) ∧ W.cell? ⟨p, tO q + 32 + n * 79 + 70, none⟩ = some (.int .i64 x.at_.2) ∧ W.cell? ⟨p, tO q + 32 + n * 79 + 71, none⟩ = some (.int .i64 x.key) ∧ W.cell? ⟨p, tO q + 32 + n * 79 + 72, none⟩ = some (.int .i64 x.to_) ∧ W.cell? ⟨p, tO q + 32 + n * 79 + 73, none⟩ = some (.int .i64 x.value)) (by kernel_rfl) ?_
 refine zT (i := 0) (v := ?v1) (by decide +kernel) rfl (fun _ _ _ h => h) hS (.inl ⟨by rfl, ?y1⟩) ?_
 case y1 => (rintro wz ⟨zs0, zs1, zs2, zs3, zs4, zs5, zs6, zs7, zs8, zs9⟩; go_simp <;> with_reducible rfl)
 simp only [Act.put, z1, z2, z4, z5, z6]
 refine zT (i := 1) (v := ?v2) (by decide +kernel) rfl (fun _ _ _ h => h) hS (.inl ⟨by rfl, ?y2⟩) ?_
 case y2 => (rintro wz ⟨zs0, zs1, zs2, zs3, zs4, zs5, zs6, zs7, zs8, zs9⟩; go_simp <;> with_reducible rfl)
 simp only [Act.put, z1, z2, z3, z4, z5, z6]
 refine zT (i := 2) (v := ?v3) (by decide +kernel) rfl (fun _ _ _ h => h) hS (.inl ⟨by rfl, ?y3⟩) ?_
 case y3 => (rintro wz ⟨zs0, zs1, zs2, zs3, zs4, zs5, zs6, zs7, zs8, zs9⟩; go_simp <;> with_reducible rfl)
 simp only [Act.put, z1, z2, z3, z4, z5, z6]
 refine zT (i := 3) (v := ?v4) (by decide +kernel) rfl (fun _ _ _ h => h) hS (.inl ⟨by rfl, ?y4⟩) ?_
 case y4 => (rintro wz ⟨zs0, zs1, zs2, zs3, zs4, zs5, zs6, zs7, zs8, zs9⟩; go_simp <;> with_reducible rfl)
 simp only [Act.put, z1, z2, z3, z4, z5, z6]
 refine zT (i := 4) (v := ?v5) (by decide +kernel) rfl (fun _ _ _ h => h) hS (.inl ⟨by rfl, ?y5⟩) ?_
 case y5 => (rintro wz ⟨zs0, zs1, zs2, zs3, zs4, zs5, zs6, zs7, zs8, zs9⟩; go_simp <;> with_reducible rfl)
 simp only [Act.put, z1, z2, z3, z4, z5, z6]
 refine zT (i := 5) (v := ?v6) (by decide +kernel) rfl (fun _ _ _ h => h) hS (.inl ⟨by rfl, ?y6⟩) ?_
 case y6 => (rintro wz ⟨zs0, zs1, zs2, zs3, zs4, zs5, zs6, zs7, zs8, zs9⟩; go_simp <;> with_reducible rfl)
 simp only [Act.put, z1, z2, z3, z4, z5, z6]
 refine zT (i := 6) (v := ?v7) (by decide +kernel) rfl (fun _ _ _ h => h) hS (.inl ⟨by rfl, ?y7⟩) ?_
 case y7 => (rintro wz ⟨zs0, zs1, zs2, zs3, zs4, zs5, zs6, zs7, zs8, zs9⟩; go_simp <;> with_reducible rfl)
 simp only [Act.put, z1, z2, z3, z4, z5, z6]
 refine zT (i := 7) (v := ?v8) (by decide +kernel) rfl (fun _ _ _ h => h) hS (.inl ⟨by rfl, ?y8⟩) ?_
 case y8 => (rintro wz ⟨zs0, zs1, zs2, zs3, zs4, zs5, zs6, zs7, zs8, zs9⟩; go_simp <;> with_reducible rfl)
 simp only [Act.put, z1, z2, z3, z4, z5, z6]
 refine wpAnyZ_one (i := 8) (by decide +kernel) rfl (fun K hK => ?_)
 go_simp
 refine hK _ _ (fun _ => HS2.out _ (((Below.refl _ _).alloc (Nat.le_refl _) _).drew)) ?_
 clear hK
 refine wpAnyZ_one (i := 9) (by decide +kernel) rfl (fun K hK => ?_)
 go_simp
 refine hK _ _ (fun h => absurd rfl h) ?_
 clear hK
 refine wpAnyZ_done (by decide +kernel) ?_ _
 clear r0 r1 r2 r3 r4 r5 r6 r7 r8 hS HS2
 obtain ⟨⟨y0, y1, y2⟩, op, ⟨t0, t1⟩, k, t, v⟩ := x
 simp only at *
 have hB3 : Below w.heap.size w (w1.alloc (stpObj ⟨(y0, y1, y2), op, (t0, t1), k, t, v⟩)).drew := (hB1.alloc hB1.size _).drew
 have hz3 : w1.heap.size < (w1.alloc (stpObj ⟨(y0, y1, y2), op, (t0, t1), k, t, v⟩)).drew.heap.size := by simp
 have e0 : (w1.alloc (stpObj ⟨(y0, y1, y2), op, (t0, t1), k, t, v⟩)).drew.cell? ⟨w.heap.size, 0, none⟩ = some (.int .i64 a0) := cell_later ((Below.refl _ _).alloc (Nat.le_refl _) _).drew d0
 have e1 : (w1.alloc (stpObj ⟨(y0, y1, y2), op, (t0, t1), k, t, v⟩)).drew.cell? ⟨w.heap.size, 1, none⟩ = some (.int .i64 a1) := cell_later ((Below.refl _ _).alloc (Nat.le_refl _) _).drew d1
 have e2 : (w1.alloc (stpObj ⟨(y0, y1, y2), op, (t0, t1), k, t, v⟩)).drew.cell? ⟨w.heap.size, 2, none⟩ = some (.int .i64 (n : Int)) := cell_later ((Below.refl _ _).alloc (Nat.le_refl _) _).drew d2
 have g0 : (w1.alloc (stpObj ⟨(y0, y1, y2), op, (t0, t1), k, t, v⟩)).drew.cell? ⟨w1.heap.size, 0, none⟩ = some (.int .i64 y0) := by simp
 have g1 : (w1.alloc (stpObj ⟨(y0, y1, y2), op, (t0, t1), k, t, v⟩)).drew.cell? ⟨w1.heap.size, 1, none⟩ = some (.int .i64 y1) := by simp
 have g2 : (w1.alloc (stpObj ⟨(y0, y1, y2), op, (t0, t1), k, t, v⟩)).drew.cell? ⟨w1.heap.size, 2, none⟩ = some (.int .i64 y2) := by simp
 have g3 : (w1.alloc (stpObj ⟨(y0, y1, y2), op, (t0, t1), k, t, v⟩)).drew.cell? ⟨w1.heap.size, 3, none⟩ = some (.int .i64 op) := by simp
 have g4 : (w1.alloc (stpObj ⟨(y0, y1, y2), op, (t0, t1), k, t, v⟩)).drew.cell? ⟨w1.heap.size, 4, none⟩ = some (.int .i64 t0) := by simp
 have g5 : (w1.alloc (stpObj ⟨(y0, y1, y2), op, (t0, t1), k, t, v⟩)).drew.cell? ⟨w1.heap.size, 5, none⟩ = some (.int .i64 t1) := by simp
 have g6 : (w1.alloc (stpObj ⟨(y0, y1, y2), op, (t0, t1), k, t, v⟩)).drew.cell? ⟨w1.heap.size, 6, none⟩ = some (.int .i64 k) := by simp
 have g7 : (w1.alloc (stpObj ⟨(y0, y1, y2), op, (t0, t1), k, t, v⟩)).drew.cell? ⟨w1.heap.size, 7, none⟩ = some (.int .i64 t) := by simp
 have g8 : (w1.alloc (stpObj ⟨(y0, y1, y2), op, (t0, t1), k, t, v⟩)).drew.cell? ⟨w1.heap.size, 8, none⟩ = some (.int .i64 v) := by simp
 have hzw : w.heap.size < (w1.alloc (stpObj ⟨(y0, y1, y2), op, (t0, t1), k, t, v⟩)).drew.heap.size := by simp; omega
 clear hxx d0 d1 d2
 unfold stpObj at *
 simp only at *
 generalize (w1.alloc (.cells #[.int .i64 y0, .int .i64 y1, .int .i64 y2, .int .i64 op, .int .i64 t0, .int .i64 t1, .int .i64 k, .int .i64 t, .int .i64 v] 30)).drew = W at *
 have M3 : Hid (PMem W p s own G) := M.out.below hB3
 by_cases h0 : t0 = a0
 ·subst h0
  by_cases h1 : t1 = a1
  ·subst h1
   rw [if_pos rfl] at hb
   have HB : Hid ((List.range 4).any (fun o => (s.t q).hindB o n) = b) := hb
   clear hb g0 g1 g2 g3 g6 g7 g8
   go_wp2_with fail
   go_loopw [34] (fun i wr => ∃ k : Nat, k ≤ 4 ∧ i = .int .i64 k ∧ Hid (∀ i, i < k → (s.t q).hindB i n = false) ∧ Below W.heap.size W wr) (fun i _ => 4 - (intOf i).toNat)
   case atStart => exact ⟨0, Nat.zero_le _, rfl, fun i hi => absurd hi (Nat.not_lt_zero i), Below.refl _ _⟩
   case round =>
    obtain ⟨c, hc, rfl, Hl, hnx⟩ := hrel
    have hBr : Below w.heap.size w wr := hB3.trans (hnx.mono hB3.size)
    have q2 := cell_later hnx e2
    have Mr : Hid (PMem wr p s own G) := M.out.below hBr
    by_cases hlt : c < 4
    ·have zk : (c : Int) < 4 := by omega
     cases hs : (s.t q).hindB c n
     ·go_wp2_with fail
      refine (trHind_is Mr.out hq hlt hn hs).mono ?_
      rintro e w4 ⟨rfl, hb4⟩
      have hon : Below W.heap.size W w4 := hnx.trans (hb4.mono hnx.size)
      go_wp2
      go_roundw
      case rel =>
       refine ⟨c + 1, by omega, by go_num, ?_, hon⟩
       intro i hi
       by_cases he : i = c
       ·subst he; exact hs
       ·exact Hl.out i (by omega)
      case measure => simp [intOf]; omega
     ·go_wp2_with fail
      refine (trHind_is Mr.out hq hlt hn hs).mono ?_
      rintro e w4 ⟨rfl, hb4⟩
      have hend : Below w.heap.size w w4 := hBr.trans (hb4.mono hBr.size)
      go_wp2
      go_ret
      exact ⟨ret_bool (any_to (f := fun o => (s.t q).hindB o n) HB.out hlt hs).symm, hend⟩
    ·have e : c = 4 := by omega
     subst e
     go_wp2
     go_ret
     exact ⟨ret_bool (any_none HB.out Hl.out).symm, hBr⟩
  ·rw [if_neg (fun e => h1 (Prod.mk.inj e).2)] at hb
   have g : (t1 == a1) = false := by simpa using h1
   clear h1
   go_wp2_with fail
   refine (tier_is (a := (t0, t1)) hx rfl).mono ?_
   rintro e w4 ⟨rfl, hb4⟩
   obtain ⟨c4, f4⟩ := bcell hb4
   have hB4 : Below w.heap.size w w4 := hB3.trans (hb4.mono hB3.size)
   have M4 : Hid (PMem w4 p s own G) := M.out.below hB4
   have hz4 : w1.heap.size < w4.heap.size := Nat.lt_of_lt_of_le hz3 hb4.size
   go_wp2_with fail
   refine (asked_any ⟨(y0, y1, y2), op, (t0, t1), k, t, v⟩ _).mono ?_
   rintro e w5 ⟨rfl, hb5⟩
   have hB5 : Below w.heap.size w w5 := hB4.trans (hb5.mono hB4.size)
   go_wp2_with fail
   refine (trMet_is (M.out.below hB5) (plOf_lt hx) hb).mono ?_
   rintro e w6 ⟨rfl, hb6⟩
   have hB6 : Below w.heap.size w w6 := hB5.trans (hb6.mono hB5.size)
   go_wp2
   go_ret
   exact ⟨rfl, hB6⟩
 ·rw [if_neg (fun e => h0 (Prod.mk.inj e).1)] at hb
  have g : (t0 == a0) = false := by simpa using h0
  clear h0
  go_wp2_with fail
  refine (tier_is (a := (t0, t1)) hx rfl).mono ?_
  rintro e w4 ⟨rfl, hb4⟩
  obtain ⟨c4, f4⟩ := bcell hb4
  have hB4 : Below w.heap.size w w4 := hB3.trans (hb4.mono hB3.size)
  have M4 : Hid (PMem w4 p s own G) := M.out.below hB4
  have hz4 : w1.heap.size < w4.heap.size := Nat.lt_of_lt_of_le hz3 hb4.size
  go_wp2_with fail
  refine (asked_any ⟨(y0, y1, y2), op, (t0, t1), k, t, v⟩ _).mono ?_
  rintro e w5 ⟨rfl, hb5⟩
  have hB5 : Below w.heap.size w w5 := hB4.trans (hb5.mono hB4.size)
  go_wp2_with fail
  refine (trMet_is (M.out.below hB5) (plOf_lt hx) hb).mono ?_
  rintro e w6 ⟨rfl, hb6⟩
  have hB6 : Below w.heap.size w w6 := hB5.trans (hb6.mono hB5.size)
  go_wp2
  go_ret
  exact ⟨rfl, hB6⟩
def st0 (k v c : Int) : RS := ⟨k, v, c, [], [], [], [], 0, 0⟩
def own0 (r : Nat) : Own := fun b => if b = r then some (1, 0, 0, 0) else none
theorem own0_at {r k : Nat} (h : own0 r k ≠ none) : k = r := by
 unfold own0 at h
 split at h
 ·assumption
 ·exact absurd rfl h
def APost (own : Own) (w : World) (R : World → Own → Prop) (a : Ans) (e : Ending) (w' : World) : Prop :=
 ∃ v own', e = .returned (ansV a.code a.why v) ∧ w'.ownsRow 0 94 2 v a.items.length (itemsV a.items) ∧ R w' own' ∧ ChgD own w w' own' ∧ ∀ b, v.ownBlock = some b → own' b = none ∧ (own b ≠ none ∨ w.heap.size ≤ b)
structure Pgm where
 S : Type
 Rep : World → Nat → S → Own → Prop
 act : S → Stp → S × Ans
 look : S → Lab → List (Int × Int)
 start : Int → Int → Int → S
 Ok : Nat → S → Prop
 old : ∀ {w p s own}, Rep w p s own → ∀ k, own k ≠ none → k < w.heap.size
 frame : ∀ {w w' p s own}, Rep w p s own → (∀ k, own k ≠ none → w'.heap[k]? = w.heap[k]?) → w.heap.size ≤ w'.heap.size → Rep w' p s own
 okStart : ∀ {k v c}, mayB k v c = true → Ok 0 (start k v c)
 okAct : ∀ {N s} x, Ok N s → Ok (N + 1) (act s x).1
 okMono : ∀ {N s}, Ok N s → Ok (N + 1) s
 newYes : ∀ k v c w, mayB k v c = true → Calls Try.prog 41 #[.agg #[.int .i64 k, .int .i64 v, .int .i64 c]] w fun e w' =>
  ∃ p own, e = .returned (.tuple #[.pointer (some ⟨p, 0, none⟩), .int .i64 0]) ∧ Below w.heap.size w w' ∧ (∀ k, own k ≠ none → w.heap.size ≤ k) ∧ Rep w' p (start k v c) own
 newNo : ∀ k v c w, mayB k v c = false → Calls Try.prog 41 #[.agg #[.int .i64 k, .int .i64 v, .int .i64 c]] w fun e w' =>
  e = .returned (.tuple #[.pointer none, .int .i64 1]) ∧ Below w.heap.size w w'
 lookYes : ∀ {w p s own N} l c, Rep w p s own → Ok N s → labB l c = true → Calls Try.prog 31 #[.pointer (some ⟨p, 0, none⟩), .agg #[.int .i64 l, .int .i64 c]] w fun e w' =>
  ∃ v, e = .returned (.tuple #[v, .int .i64 0]) ∧ w'.ownsRow w.heap.size 94 2 v (look s (l, c)).length (itemsV (look s (l, c))) ∧ Below w.heap.size w w'
 lookNo : ∀ {w p s own N} l c, Rep w p s own → Ok N s → labB l c = false → Calls Try.prog 31 #[.pointer (some ⟨p, 0, none⟩), .agg #[.int .i64 l, .int .i64 c]] w fun e w' =>
  e = .returned (.tuple #[.slice none 0 0, .int .i64 2]) ∧ Below w.heap.size w w'
 doAny : ∀ {w p s own N} x, Rep w p s own → Ok N s → N + 1 < 4398046511104 → Calls Try.prog 28 #[.pointer (some ⟨p, 0, none⟩), stepV x] w
  (APost own w (fun w' own' => Rep w' p (act s x).1 own') (act s x).2)
structure Pgm.Doc (P : Pgm) where
 Sim : Nat → P.S → RS → Prop
 start : ∀ {k v c}, mayB k v c = true → Sim 0 (P.start k v c) (st0 k v c)
 ans : ∀ {N s st} x, Sim N s st → P.Ok N s → (P.act s x).2 = (st.doT x).2
 step : ∀ {N s st} x, Sim N s st → P.Ok N s → Sim (N + 1) (P.act s x).1 (st.doT x).1
 mono : ∀ {N s st}, Sim N s st → Sim (N + 1) s st
 look : ∀ {N s st l c}, Sim N s st → P.Ok N s → labB l c = true → P.look s (l, c) = st.lookTo (l, c) 16
theorem Pgm.below (P : Pgm) {w w' : World} {p : Nat} {s : P.S} {own : Own} (h : P.Rep w p s own) (hb : Below w.heap.size w w') : P.Rep w' p s own :=
 P.frame h (fun k hk => hb.block k (P.old h k hk)) hb.size
structure Answered (own : Own) (w : World) (R : World → Own → Prop) (a : Ans) (b : Nat) (v : Value) (wc : World) (own' : Own) : Prop where
 blk : wc.heap[b]? = some (.cells #[.int .i64 a.code, .int .i64 a.why, v] 66 (0, 0))
 new : w.heap.size ≤ b
 off : own' b = none
 row : wc.ownsRow 0 94 2 v a.items.length (itemsV a.items)
 rep : R wc own'
 chg : ChgD own w wc own'
 out : ∀ k, v.ownBlock = some k → own' k = none ∧ (own k ≠ none ∨ w.heap.size ≤ k) ∧ k ≠ b
def Framed (R : World → Own → Prop) : Prop := ∀ {w w' own}, R w own → (∀ k, own k ≠ none → w'.heap[k]? = w.heap[k]?) → w.heap.size ≤ w'.heap.size → R w' own
def Olden (R : World → Own → Prop) : Prop := ∀ {w own}, R w own → ∀ k, own k ≠ none → k < w.heap.size
theorem ownsRow_frame {w w' : World} {B e size : Nat} {v : Value} {n : Nat} {xs : List Value} (h : w.ownsRow B e size v n xs) (hk : ∀ k, v.ownBlock = some k → w'.heap[k]? = w.heap[k]?) : w'.ownsRow B e size v n xs := by
 obtain ⟨hl, ho⟩ := h
 refine ⟨hl, ?_⟩
 rcases ho with h | ⟨b, c, d, e1, e2, e3, e4⟩
 ·exact .inl h
 ·refine .inr ⟨b, c, d, e1, e2, ?_, e4⟩
  rw [hk b (by rw [e1]; rfl)]; exact e3
theorem ownsRow_lt {w : World} {B e size : Nat} {v : Value} {n : Nat} {xs : List Value} (h : w.ownsRow B e size v n xs) : ∀ k, v.ownBlock = some k → k < w.heap.size := fun k hk => (h.lt k hk).2
theorem ChgD.of_below {own : Own} {w w' : World} (h : Below w.heap.size w w') : ChgD own w w' own := (Chg.of_below h).toD
theorem Answered.late {own : Own} {w0 w w4 : World} {R : World → Own → Prop} {a : Ans} (h0 : Below w0.heap.size w0 w) (hF : Framed R) (hO : Olden R) {v : Value} {own' : Own}
  (hrow : w4.ownsRow 0 94 2 v a.items.length (itemsV a.items)) (hR : R w4 own') (hC : ChgD own w w4 own') (hv : ∀ b, v.ownBlock = some b → own' b = none ∧ (own b ≠ none ∨ w.heap.size ≤ b)) :
  Answered own w0 R a w4.heap.size v (w4.alloc (.cells #[.int .i64 a.code, .int .i64 a.why, v] 66)) own' := by
 have hlt := ownsRow_lt hrow
 have hB : Below w4.heap.size w4 (w4.alloc (.cells #[.int .i64 a.code, .int .i64 a.why, v] 66)) := (Below.refl _ _).alloc (Nat.le_refl _) _
 have hC0 : ChgD own w0 w4 own' := (ChgD.of_below h0).trans hC
 refine ⟨heap_alloc_new w4 _, hC0.size, ?_, ?_, ?_, hC0.trans (ChgD.of_below hB), ?_⟩
 ·cases hq : own' w4.heap.size with
  | none => rfl
  | some t => exact absurd (hO hR _ (by rw [hq]; simp)) (Nat.lt_irrefl _)
 ·exact ownsRow_frame hrow (fun k hk => hB.block k (hlt k hk))
 ·exact hF hR (fun k hk => hB.block k (hO hR k hk)) hB.size
 ·intro k hk
  obtain ⟨h1, h2⟩ := hv k hk
  have := hlt k hk
  refine ⟨h1, ?_, by omega⟩
  rcases h2 with h2 | h2
  ·exact .inl h2
  ·exact .inr (Nat.le_trans h0.size h2)
end Go.Proofs.Ytpbcplfpjcacfaa
