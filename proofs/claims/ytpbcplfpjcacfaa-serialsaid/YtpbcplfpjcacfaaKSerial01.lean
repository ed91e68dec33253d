import Derived.Test.YtpbcplfpjcacfaaD31
namespace Go.Proofs.Ytpbcplfpjcacfaa
open Go.RowKit
set_option maxRecDepth 100000
set_option maxHeartbeats 8000000
theorem labB_f {l c : Int} (h : labB l c = false) : ¬ (0 ≤ l ∧ l ≤ 3 ∧ 0 ≤ c ∧ c ≤ 7) := of_decide_eq_false h
def ownNew (own : Own) (v : Value) (t : Tag) : Own := fun b => if v.ownBlock = some b then some t else own b
theorem step9_cells {w : World} {g ty : Nat} {x0 x1 x2 x3 x4 x5 x6 x7 x8 : Value} (h : w.heap[g]? = some (.cells #[x0, x1, x2, x3, x4, x5, x6, x7, x8] ty (0, 0))) :
  w.cell? ⟨g, 0, none⟩ = some x0 ∧ w.cell? ⟨g, 1, none⟩ = some x1 ∧ w.cell? ⟨g, 2, none⟩ = some x2 ∧ w.cell? ⟨g, 3, none⟩ = some x3 ∧ w.cell? ⟨g, 4, none⟩ = some x4 ∧ w.cell? ⟨g, 5, none⟩ = some x5 ∧ w.cell? ⟨g, 6, none⟩ = some x6 ∧ w.cell? ⟨g, 7, none⟩ = some x7 ∧ w.cell? ⟨g, 8, none⟩ = some x8 ∧ w.frozen? ⟨g, 0, none⟩ = false ∧ w.frozen? ⟨g, 1, none⟩ = false ∧ w.frozen? ⟨g, 2, none⟩ = false ∧ w.frozen? ⟨g, 3, none⟩ = false ∧ w.frozen? ⟨g, 4, none⟩ = false ∧ w.frozen? ⟨g, 5, none⟩ = false ∧ w.frozen? ⟨g, 6, none⟩ = false ∧ w.frozen? ⟨g, 7, none⟩ = false ∧ w.frozen? ⟨g, 8, none⟩ = false := by
 refine ⟨?_, ?_, ?_, ?_, ?_, ?_, ?_, ?_, ?_, frozen_of_row w g 0 _ _ h, frozen_of_row w g 1 _ _ h, frozen_of_row w g 2 _ _ h, frozen_of_row w g 3 _ _ h, frozen_of_row w g 4 _ _ h, frozen_of_row w g 5 _ _ h, frozen_of_row w g 6 _ _ h, frozen_of_row w g 7 _ _ h, frozen_of_row w g 8 _ _ h⟩
 all_goals (rw [cell_of_row w g _ _ _ (0, 0) h]; rfl)
theorem sameL_iff {a b c d : Int} : sameL a b c d = true ↔ a = c ∧ b = d := by unfold sameL; simp
theorem ChgD.refl {own : Own} {w : World} : ChgD own w w own := ⟨rfl, rfl, rfl, Nat.le_refl _, fun _ _ _ => rfl, fun _ h => .inl h⟩
def pickZ (c n : Int) : Int := (if c < 0 then -(c + 1) else c) % n
theorem pickZ_neg {c n : Int} (h : c < 0) : -((c + 1).tmod n) = pickZ c n := by
 unfold pickZ
 rw [if_pos h, ← Int.tmod_eq_emod_of_nonneg (by omega), Int.neg_tmod]
theorem pickZ_pos {c n : Int} (h : 0 ≤ c) : c % n = pickZ c n := by
 unfold pickZ
 rw [if_neg (by omega)]
theorem pickZ_range {c n : Int} (h : 0 < n) : 0 ≤ pickZ c n ∧ pickZ c n < n := by
 unfold pickZ
 exact ⟨Int.emod_nonneg _ (by omega), Int.emod_lt_of_pos _ h⟩
def i64B (c : Int) : Prop := -9223372036854775808 ≤ c ∧ c ≤ 9223372036854775807
theorem pick_any (c n : Int) (w : World) (h : i64B c) (hn : 0 < n) (hn' : n ≤ 1000) :
  Calls Try.prog 23 #[.int .i64 c, .int .i64 n] w fun e w' => e = .returned (.int .i64 (pickZ c n)) ∧ w = w' := by
 obtain ⟨h1, h2⟩ := h
 by_cases hc : c < 0
 ·go_enter Try.func23, Try.ntmps23
  go_wp2
  go_ret
  exact ⟨congrArg (fun z => Ending.returned (.int .i64 z)) (pickZ_neg hc), rfl⟩
 ·have hc' : 0 ≤ c := by omega
  clear hc
  go_enter Try.func23, Try.ntmps23
  go_wp2
  go_ret
  exact ⟨congrArg (fun z => Ending.returned (.int .i64 z)) (pickZ_pos hc'), rfl⟩
theorem label_any (k : Int) (w : World) (h1 : 0 ≤ k) (h2 : k < 1000) :
  Calls Try.prog 24 #[.int .i64 k] w fun e w' => e = .returned (.agg #[.int .i64 (k / 8), .int .i64 (k % 8)]) ∧ Below w.heap.size w w' := by
 go_enter Try.func24, Try.ntmps24
 go_wp2
 exact bodyPost_ret (v := .agg #[.int .i64 (k / 8), .int .i64 (k % 8)]) (by simp [results, Try.results24, go_sem]) rfl ⟨rfl, (Below.refl _ _).alloc (Nat.le_refl _) _⟩
def numZ (l c : Int) : Int := if labB l c then l * 8 + c else -1
theorem number_any (l c : Int) (w : World) :
  Calls Try.prog 27 #[.agg #[.int .i64 l, .int .i64 c]] w fun e w' => e = .returned (.int .i64 (numZ l c)) ∧ Below w.heap.size w w' := by
 cases h : labB l c with
 | true =>
  obtain ⟨a1, a2, a3, a4⟩ := labB_t h
  unfold numZ
  rw [h]
  go_enter Try.func27, Try.ntmps27
  go_wp2
  go_ret
  exact ⟨rfl, (Below.refl _ _).alloc (Nat.le_refl _) _⟩
 | false =>
  have hn := labB_f h
  unfold numZ
  rw [h]
  go_enter Try.func27, Try.ntmps27
  go_wp2
  all_goals go_ret
  all_goals first | exact ⟨rfl, (Below.refl _ _).alloc (Nat.le_refl _) _⟩ | (exfalso; omega)
def sessZ' (x : Wh) : Int := if labB x.1 x.2.1 ∧ 0 ≤ x.2.2 ∧ x.2.2 < 4 then (x.1 * 8 + x.2.1) * 4 + x.2.2 else -1
theorem session_any (x : Wh) (w : World) :
  Calls Try.prog 37 #[.agg #[.int .i64 x.1, .int .i64 x.2.1, .int .i64 x.2.2]] w fun e w' => e = .returned (.int .i64 (sessZ' x)) ∧ Below w.heap.size w w' := by
 have hnum := number_any x.1 x.2.1
 unfold numZ at hnum
 cases h : labB x.1 x.2.1 with
 | true =>
  obtain ⟨a1, a2, a3, a4⟩ := labB_t h
  rw [h] at hnum
  simp only [if_true] at hnum
  by_cases hq : 0 ≤ x.2.2 ∧ x.2.2 < 4
  ·have Hv : Hid (sessZ' x = (x.1 * 8 + x.2.1) * 4 + x.2.2) := by unfold Hid sessZ'; rw [if_pos ⟨h, hq⟩]
   obtain ⟨q1, q2⟩ := hq
   go_enter Try.func37, Try.ntmps37
   go_wp2_with fail
   refine (hnum _).mono ?_
   rintro e w1 ⟨rfl, hb⟩
   obtain ⟨hc, _⟩ := bcell hb
   have z1 : w.heap.size < w1.heap.size := by have := hb.size; simp at this; omega
   go_wp2
   go_ret
   rw [Hv.out]
   exact ⟨rfl, ((Below.refl _ _).alloc (Nat.le_refl _) _).trans (hb.mono (by simp))⟩
  ·have Hv : Hid (sessZ' x = -1) := by unfold Hid sessZ'; rw [if_neg (fun e => hq e.2)]
   go_enter Try.func37, Try.ntmps37
   go_wp2_with fail
   refine (hnum _).mono ?_
   rintro e w1 ⟨rfl, hb⟩
   obtain ⟨hc, _⟩ := bcell hb
   have z1 : w.heap.size < w1.heap.size := by have := hb.size; simp at this; omega
   go_wp2
   all_goals go_ret
   all_goals first | (rw [Hv.out]; exact ⟨rfl, ((Below.refl _ _).alloc (Nat.le_refl _) _).trans (hb.mono (by simp))⟩) | (exfalso; omega)
 | false =>
  rw [h] at hnum
  simp only [Bool.false_eq_true, if_false] at hnum
  have Hv : Hid (sessZ' x = -1) := by unfold Hid sessZ'; rw [if_neg (fun e => by rw [h] at e; cases e.1)]
  go_enter Try.func37, Try.ntmps37
  go_wp2_with fail
  refine (hnum _).mono ?_
  rintro e w1 ⟨rfl, hb⟩
  go_wp2
  go_ret
  rw [Hv.out]
  exact ⟨rfl, ((Below.refl _ _).alloc (Nat.le_refl _) _).trans (hb.mono (by simp))⟩
end Go.Proofs.Ytpbcplfpjcacfaa
namespace Go.Proofs.Ytpbcplfpjcacfaa
open Go.RowKit
attribute [local go_sem ↓] Go.wp_at_zero Go.wp_at_succ
set_option maxRecDepth 100000
set_option maxHeartbeats 8000000
theorem fits_any (k v c : Int) (w : World) (h1 : i64B k) (h2 : i64B v) (h3 : i64B c) :
  Calls Try.prog 25 #[.agg #[.int .i64 k, .int .i64 v, .int .i64 c]] w fun e w' => e = .returned (.agg #[.int .i64 (1 + pickZ k 16), .int .i64 (1 + pickZ v 4), .int .i64 (1 + pickZ c 32)]) ∧ Below w.heap.size w w' := by
 obtain ⟨k1, k2⟩ := pickZ_range (c := k) (n := 16) (by decide)
 obtain ⟨v1, v2⟩ := pickZ_range (c := v) (n := 4) (by decide)
 obtain ⟨c1, c2⟩ := pickZ_range (c := c) (n := 32) (by decide)
 go_enter Try.func25, Try.ntmps25
 go_wp2_with fail
 go_region_held3 (fun w' => w'.cell? ⟨w.heap.size, 0, none⟩ = some (.int .i64 k) ∧ w'.cell? ⟨w.heap.size, 1, none⟩ = some (.int .i64 v) ∧ w'.cell? ⟨w.heap.size, 2, none⟩ = some (.int .i64 c)) (first | go_keep)
  (first | (go_at_call 23; refine (pick_any _ _ _ (by assumption) (by decide) (by decide)).mono ?_; rintro e w2 ⟨rfl, rfl⟩))
 have wk : IntKind.i64.wrap (1 + pickZ k 16) = 1 + pickZ k 16 := IntWalk.i64_in _ (by omega)
 have wv : IntKind.i64.wrap (1 + pickZ v 4) = 1 + pickZ v 4 := IntWalk.i64_in _ (by omega)
 have wc : IntKind.i64.wrap (1 + pickZ c 32) = 1 + pickZ c 32 := IntWalk.i64_in _ (by omega)
 all_goals (go_wp2; exact bodyPost_ret (v := .agg #[.int .i64 (1 + pickZ k 16), .int .i64 (1 + pickZ v 4), .int .i64 (1 + pickZ c 32)]) (by simp [results, Try.results25, go_sem, wk, wv, wc]) rfl ⟨rfl, by simp only [wk, wv, wc]; exact below2r.drew⟩)
def op1 (y : Wh) : Stp := ⟨y, 1, (0, 0), 0, 0, 0⟩
def op2 (y : Wh) : Stp := ⟨y, 4, y.lab, 7, 0, 77⟩
def op3 (y : Wh) : Stp := ⟨y, 6, (0, 0), 0, 0, 0⟩
def Pgm.open3 (P : Pgm) (s : P.S) (y : Wh) : P.S := (P.act (P.act (P.act s (op1 y)).1 (op2 y)).1 (op3 y)).1
structure Pgm.Opens (P : Pgm) (s : P.S) (y : Wh) : Prop where
 a : (P.act s (op1 y)).2.code = 0
 b : (P.act (P.act s (op1 y)).1 (op2 y)).2.code = 0
 c : (P.act (P.act (P.act s (op1 y)).1 (op2 y)).1 (op3 y)).2.code = 0
 l : P.look (P.open3 s y) y.lab = [(7, 77)]
theorem APost.mk' {own : Own} {w : World} {R : World → Own → Prop} {a : Ans} {e : Ending} {w' : World} (h : APost own w R a e w') :
  ∃ ao cap own', e = .returned (ansV a.code a.why (.slice ao a.items.length cap)) ∧ w'.ownsRow 0 94 2 (.slice ao a.items.length cap) a.items.length (itemsV a.items) ∧ R w' own' ∧ ChgD own w w' own' ∧ ∀ b, (Value.slice ao a.items.length cap).ownBlock = some b → own' b = none ∧ (own b ≠ none ∨ w.heap.size ≤ b) := by
 obtain ⟨v, own', h1, h2, h3⟩ := h
 obtain ⟨ao, cap, rfl⟩ := ownsRow_slice h2
 exact ⟨ao, cap, own', h1, h2, h3⟩
theorem chgD_below' {own own' : Own} {w w' : World} {B : Nat} (h : ChgD own w w' own') (hB : ∀ k, own k ≠ none → B ≤ k) (hs : B ≤ w.heap.size) : Below B w w' :=
 ⟨h.os, h.tape, h.output, h.size, fun k hk => h.block k (by omega) (by
  cases hq : own k with
  | none => rfl
  | some t => have := hB k (by rw [hq]; simp); omega)⟩
def OpenPost (P : Pgm) (w : World) (s : P.S) (e : Ending) (w' : World) : Prop :=
 ∃ p own, e = .returned (.tuple #[.pointer (some ⟨p, 0, none⟩), .bool true]) ∧ Below w.heap.size w w' ∧ (∀ k, own k ≠ none → w.heap.size ≤ k) ∧ P.Rep w' p s own
theorem opened_any (P : Pgm) (k v c : Int) (y : Wh) (w : World) (hm : mayB k v c = true) (hy : labB y.1 y.2.1 = true) (ho : P.Opens (P.start k v c) y) :
  Calls Try.prog 26 #[.agg #[.int .i64 k, .int .i64 v, .int .i64 c], .agg #[.int .i64 y.1, .int .i64 y.2.1, .int .i64 y.2.2]] w (OpenPost P w (P.open3 (P.start k v c) y)) := by
 have HN : Hid (type_of% (P.newYes k v c)) := P.newYes k v c
 obtain ⟨r1, e1⟩ : ∃ r, r = P.act (P.start k v c) (op1 y) := ⟨_, rfl⟩
 obtain ⟨r2, e2⟩ : ∃ r, r = P.act r1.1 (op2 y) := ⟨_, rfl⟩
 obtain ⟨r3, e3⟩ : ∃ r, r = P.act r2.1 (op3 y) := ⟨_, rfl⟩
 have o1 := P.okAct (op1 y) (P.okStart hm)
 rw [← e1] at o1
 have o2 := P.okAct (op2 y) o1
 rw [← e2] at o2
 have o3 := P.okAct (op3 y) o2
 rw [← e3] at o3
 have K1 : Hid (r1.2.code = 0) := by unfold Hid; rw [e1]; exact ho.a
 have K2 : Hid (r2.2.code = 0) := by unfold Hid; rw [e2, e1]; exact ho.b
 have K3 : Hid (r3.2.code = 0) := by unfold Hid; rw [e3, e2, e1]; exact ho.c
 have K4 : Hid (P.look r3.1 (y.1, y.2.1) = [(7, 77)]) := by unfold Hid; rw [e3, e2, e1]; exact ho.l
 have K5 : Hid (P.open3 (P.start k v c) y = r3.1) := by unfold Hid; rw [e3, e2, e1]; rfl
 have HD1 : Hid (∀ W p own, P.Rep W p (P.start k v c) own → Calls Try.prog 28 #[.pointer (some ⟨p, 0, none⟩), .agg #[.int .i64 y.1, .int .i64 y.2.1, .int .i64 y.2.2, .int .i64 1, .int .i64 0, .int .i64 0, .int .i64 0, .int .i64 0, .int .i64 0]] W (APost own W (fun w' own' => P.Rep w' p r1.1 own') r1.2)) := by
  intro W p own h; have := P.doAny (op1 y) h (P.okStart hm) (by decide); rw [← e1] at this; exact this
 have HD2 : Hid (∀ W p own, P.Rep W p r1.1 own → Calls Try.prog 28 #[.pointer (some ⟨p, 0, none⟩), .agg #[.int .i64 y.1, .int .i64 y.2.1, .int .i64 y.2.2, .int .i64 4, .int .i64 y.1, .int .i64 y.2.1, .int .i64 7, .int .i64 0, .int .i64 77]] W (APost own W (fun w' own' => P.Rep w' p r2.1 own') r2.2)) := by
  intro W p own h; have := P.doAny (op2 y) h o1 (by decide); rw [← e2] at this; exact this
 have HD3 : Hid (∀ W p own, P.Rep W p r2.1 own → Calls Try.prog 28 #[.pointer (some ⟨p, 0, none⟩), .agg #[.int .i64 y.1, .int .i64 y.2.1, .int .i64 y.2.2, .int .i64 6, .int .i64 0, .int .i64 0, .int .i64 0, .int .i64 0, .int .i64 0]] W (APost own W (fun w' own' => P.Rep w' p r3.1 own') r3.2)) := by
  intro W p own h; have := P.doAny (op3 y) h o2 (by decide); rw [← e3] at this; exact this
 have HL : Hid (∀ W p own, P.Rep W p r3.1 own → Calls Try.prog 31 #[.pointer (some ⟨p, 0, none⟩), .agg #[.int .i64 y.1, .int .i64 y.2.1]] W fun e w' => ∃ v, e = .returned (.tuple #[v, .int .i64 0]) ∧ w'.ownsRow W.heap.size 94 2 v 1 [.int .i64 7, .int .i64 77] ∧ Below W.heap.size W w') := by
  intro W p own h; have := P.lookYes y.1 y.2.1 h o3 hy; rw [K4.out] at this; exact this
 clear e1 e2 e3 o1 o2 o3 ho
 rw [K5.out]
 go_enter Try.func26, Try.ntmps26
 go_wp2_with fail
 refine (HN.out _ hm).mono ?_
 rintro e w1 ⟨p, own, rfl, hb1, hfr, hrep⟩
 have HB1 : Hid (Below w.heap.size w w1) := below2r.trans (hb1.mono (by simp; omega))
 have hY : w1.heap[w.heap.size + 1]? = some (.cells #[.int .i64 y.1, .int .i64 y.2.1, .int .i64 y.2.2] 28 (0, 0)) := by
  rw [hb1.block _ (by simp)]
  have := heap_alloc_new (w.alloc (.cells #[.int .i64 k, .int .i64 v, .int .i64 c] 23)) (.cells #[.int .i64 y.1, .int .i64 y.2.1, .int .i64 y.2.2] 28 (0, 0))
  simpa using this
 have HFR : Hid (∀ k, own k ≠ none → w.heap.size + 2 ≤ k) := fun k hk => by have := hfr k hk; simp at this; omega
 have z1 : w.heap.size + 1 < w1.heap.size := by have := hb1.size; simp at this; omega
 have hno : Hid (own (w.heap.size + 1) = none) := by
  unfold Hid
  cases hq : own (w.heap.size + 1) with
  | none => rfl
  | some t => have := HFR.out _ (by rw [hq]; simp : own (w.heap.size + 1) ≠ none); omega
 obtain ⟨c0, c1, c2, _, _, _⟩ := ans_cells hY
 have HY : Hid (type_of% hY) := hY
 have HR1 : Hid (P.Rep w1 p (P.start k v c) own) := hrep
 clear hb1 hfr hrep hY
 go_wp2_with fail
 refine (HD1.out _ _ _ HR1.out).mono ?_
 rintro e q1 h1
 obtain ⟨ao1, cap1, own1, rfl, hrow1, hrep1, hchg1, hv1⟩ := h1.mk'
 have A1 := Answered.late (Below.refl w1.heap.size w1) P.frame P.old hrow1 hrep1 hchg1 hv1
 rw [K1.out] at A1 ⊢
 clear hrow1 hrep1 hchg1 hv1 h1 c0 c1 c2
 unfold ansV
 go_upto_region 5 with fail
 generalize hb1 : q1.heap.size = b1 at *
 generalize hW1 : q1.alloc (.cells #[.int .i64 0, .int .i64 r1.2.why, .slice ao1 r1.2.items.length cap1] 66) = W1 at *
 have HY1 : Hid (W1.heap[w.heap.size + 1]? = some (.cells #[.int .i64 y.1, .int .i64 y.2.1, .int .i64 y.2.2] 28 (0, 0))) := by unfold Hid; rw [A1.chg.block _ z1 hno.out]; exact HY.out
 have hno1 : Hid (own1 (w.heap.size + 1) = none) := A1.chg.off hno.out z1
 have z2 : w.heap.size + 1 < W1.heap.size := (Array.getElem?_eq_some_iff.1 HY1.out).1
 obtain ⟨c0, c1, c2, _, _, _⟩ := ans_cells HY1.out
 have HA1 : Hid (type_of% A1) := A1
 have HRR1 : Hid (P.Rep W1 p r1.1 own1) := A1.rep
 clear A1 hb1 hW1
 go_wp2_with fail
 refine (HD2.out _ _ _ HRR1.out).mono ?_
 rintro e q2 h2
 obtain ⟨ao2, cap2, own2, rfl, hrow2, hrep2, hchg2, hv2⟩ := h2.mk'
 have A2 := Answered.late (Below.refl W1.heap.size W1) P.frame P.old hrow2 hrep2 hchg2 hv2
 rw [K2.out] at A2 ⊢
 clear hrow2 hrep2 hchg2 hv2 h2 c0 c1 c2
 unfold ansV
 go_upto_region 6 with fail
 generalize hb2 : q2.heap.size = b2 at *
 generalize hW2 : q2.alloc (.cells #[.int .i64 0, .int .i64 r2.2.why, .slice ao2 r2.2.items.length cap2] 66) = W2 at *
 have HY2 : Hid (W2.heap[w.heap.size + 1]? = some (.cells #[.int .i64 y.1, .int .i64 y.2.1, .int .i64 y.2.2] 28 (0, 0))) := by unfold Hid; rw [A2.chg.block _ z2 hno1.out]; exact HY1.out
 have hno2 : Hid (own2 (w.heap.size + 1) = none) := A2.chg.off hno1.out z2
 have z3 : w.heap.size + 1 < W2.heap.size := (Array.getElem?_eq_some_iff.1 HY2.out).1
 obtain ⟨c0, c1, c2, _, _, _⟩ := ans_cells HY2.out
 have HA2 : Hid (type_of% A2) := A2
 have HRR2 : Hid (P.Rep W2 p r2.1 own2) := A2.rep
 clear A2 hb2 hW2
 go_wp2_with fail
 refine (HD3.out _ _ _ HRR2.out).mono ?_
 rintro e q3 h3
 obtain ⟨ao3, cap3, own3, rfl, hrow3, hrep3, hchg3, hv3⟩ := h3.mk'
 have A3 := Answered.late (Below.refl W2.heap.size W2) P.frame P.old hrow3 hrep3 hchg3 hv3
 rw [K3.out] at A3 ⊢
 clear hrow3 hrep3 hchg3 hv3 h3 c0 c1 c2
 unfold ansV
 go_upto_region 7 with fail
 generalize hb3 : q3.heap.size = b3 at *
 generalize hW3 : q3.alloc (.cells #[.int .i64 0, .int .i64 r3.2.why, .slice ao3 r3.2.items.length cap3] 66) = W3 at *
 have HY3 : Hid (W3.heap[w.heap.size + 1]? = some (.cells #[.int .i64 y.1, .int .i64 y.2.1, .int .i64 y.2.2] 28 (0, 0))) := by unfold Hid; rw [A3.chg.block _ z3 hno2.out]; exact HY2.out
 have hno3 : Hid (own3 (w.heap.size + 1) = none) := A3.chg.off hno2.out z3
 have z4 : w.heap.size + 1 < W3.heap.size := (Array.getElem?_eq_some_iff.1 HY3.out).1
 obtain ⟨c0, c1, c2, _, _, _⟩ := ans_cells HY3.out
 have HA3 : Hid (type_of% A3) := A3
 have HRR3 : Hid (P.Rep W3 p r3.1 own3) := A3.rep
 clear A3 hb3 hW3
 go_wp2_with fail
 refine (HL.out _ _ _ HRR3.out).mono ?_
 rintro e w9 ⟨vl, rfl, hl, hb9⟩
 have HB9 : Hid (Below W3.heap.size W3 w9) := hb9
 -- the answers' blocks
 have l1 : b1 < W1.heap.size := (Array.getElem?_eq_some_iff.1 HA1.out.blk).1
 have l2 : b2 < W2.heap.size := (Array.getElem?_eq_some_iff.1 HA2.out.blk).1
 have l3 : b3 < W3.heap.size := (Array.getElem?_eq_some_iff.1 HA3.out.blk).1
 have off12 := HA2.out.chg.off HA1.out.off l1
 have y1 : w9.heap[b1]? = _ := (hb9.block b1 (by have := HA2.out.chg.size; have := HA3.out.chg.size; omega)).trans ((HA3.out.chg.block b1 (by have := HA2.out.chg.size; omega) off12).trans ((HA2.out.chg.block b1 l1 HA1.out.off).trans HA1.out.blk))
 have y2 : w9.heap[b2]? = _ := (hb9.block b2 (by have := HA3.out.chg.size; omega)).trans ((HA3.out.chg.block b2 l2 HA2.out.off).trans HA2.out.blk)
 have y3 : w9.heap[b3]? = _ := (hb9.block b3 l3).trans HA3.out.blk
 rw [K1.out] at y1
 rw [K2.out] at y2
 rw [K3.out] at y3
 obtain ⟨d1, _, _, _, _, _⟩ := ans_cells y1
 obtain ⟨d2, _, _, _, _, _⟩ := ans_cells y2
 obtain ⟨d3, _, _, _, _, _⟩ := ans_cells y3
 have HREP : Hid (P.Rep w9 p r3.1 own3) := P.below HRR3.out hb9
 have HBL : Hid (Below w.heap.size w w9) := by
  have g1 : ∀ k, own k ≠ none → w.heap.size ≤ k := fun k hk => by have := HFR.out k hk; omega
  have g2 : ∀ k, own1 k ≠ none → w.heap.size ≤ k := fun k hk => by rcases HA1.out.chg.fresh k hk with h | h; exact g1 k h; omega
  have g3 : ∀ k, own2 k ≠ none → w.heap.size ≤ k := fun k hk => by rcases HA2.out.chg.fresh k hk with h | h; exact g2 k h; omega
  exact (((HB1.out.trans (chgD_below' HA1.out.chg g1 (by omega))).trans (chgD_below' HA2.out.chg g2 (by omega))).trans (chgD_below' HA3.out.chg g3 (by omega))).trans (hb9.mono (by omega))
 have HOW : Hid (∀ k, own3 k ≠ none → w.heap.size ≤ k) := fun k hk => by
  rcases HA3.out.chg.fresh k hk with h | h
  ·rcases HA2.out.chg.fresh k h with h | h
   ·rcases HA1.out.chg.fresh k h with h | h
    ·have := HFR.out k h; omega
    ·omega
   ·omega
  ·omega
 rcases hl.2 with ⟨_, hn0⟩ | ⟨g, cap, cur, rfl, _, hg, _, _, hcs, htk⟩
 ·cases hn0
 ·have i0 : w9.cell? ⟨g, 0, none⟩ = some (.int .i64 7) := by
   rw [cell_of_row w9 g 0 cur _ (0, 0) hg]
   have : (cur.toList.take (1 * 2))[0]? = some (.int .i64 7) := by rw [htk]; rfl
   rw [List.getElem?_take_of_lt (by decide)] at this
   simpa using this
  have i1 : w9.cell? ⟨g, 1, none⟩ = some (.int .i64 77) := by
   rw [cell_of_row w9 g 1 cur _ (0, 0) hg]
   have : (cur.toList.take (1 * 2))[1]? = some (.int .i64 77) := by rw [htk]; rfl
   rw [List.getElem?_take_of_lt (by decide)] at this
   simpa using this
  clear hl hb9 y1 y2 y3 hg htk hcs HA1 HA2 HA3 off12 l1 l2 l3
  go_upto_region 10 with fail
  go_quiet (fail)
  go_wp2
  go_ret2
  exact ⟨p, own3, rfl, HBL.out.trans ((below_drewN _).mono HBL.out.size), HOW.out, P.below HREP.out (below_drewN _)⟩
def isSteps (w : World) (v : Value) (l : List Stp) : Prop :=
 ∃ ao cap, v = .slice ao l.length cap ∧ l.length ≤ maxLen ∧ ∀ i o, l[i]? = some o → ∃ b off, ao = some ⟨b, off, none⟩ ∧ b < w.heap.size ∧ w.rangeAt b (off + i * 9) (stepC o)
theorem sizeStep : (Try.prog.info? 30).map (·.size) = some 9 := by kernel_rfl
theorem may_fits (k v c : Int) : mayB (1 + pickZ k 16) (1 + pickZ v 4) (1 + pickZ c 32) = true := by
 obtain ⟨k1, k2⟩ := pickZ_range (c := k) (n := 16) (by decide)
 obtain ⟨v1, v2⟩ := pickZ_range (c := v) (n := 4) (by decide)
 obtain ⟨c1, c2⟩ := pickZ_range (c := c) (n := 32) (by decide)
 unfold mayB
 exact decide_eq_true (by omega)
theorem Pgm.open3_ok (P : Pgm) {s : P.S} {N : Nat} (y : Wh) (h : P.Ok N s) : P.Ok (N + 3) (P.open3 s y) := P.okAct _ (P.okAct _ (P.okAct _ h))
end Go.Proofs.Ytpbcplfpjcacfaa
namespace Go.Proofs.Ytpbcplfpjcacfaa
open Go.RowKit
set_option maxRecDepth 100000
set_option maxHeartbeats 8000000
theorem labB_of {a : Lab} (h : a.ok) : labB a.1 a.2 = true := labB_mk h
theorem properB_ask {x : Stp} (hw : x.who.ok) (ho : 1 ≤ x.op ∧ x.op ≤ 8) (ha : asksB x.op = true → x.at_.ok ∧ 0 ≤ x.key ∧ x.key ≤ 15) (h3 : x.op = 3 → x.key ≤ x.to_ ∧ x.to_ ≤ 15) (h4 : x.op = 4 → 0 ≤ x.value ∧ x.value ≤ 999) : properB x = true := by
 unfold properB
 rw [show labB x.who.1 x.who.2.1 = true from labB_of (a := x.who.lab) hw.1, decide_eq_true (show 0 ≤ x.who.2.2 ∧ x.who.2.2 ≤ 3 ∧ 1 ≤ x.op ∧ x.op ≤ 8 from ⟨hw.2.1, hw.2.2, ho⟩)]
 cases hq : asksB x.op with
 | false => rfl
 | true =>
  obtain ⟨a1, a2⟩ := ha hq
  rw [labB_of a1, decide_eq_true a2]
  by_cases e3 : x.op = 3
  ·rw [decide_eq_true e3, decide_eq_true (h3 e3), decide_eq_false (show ¬ x.op = 4 by omega)]; rfl
  ·rw [decide_eq_false e3]
   by_cases e4 : x.op = 4
   ·rw [decide_eq_true e4, decide_eq_true (h4 e4)]; rfl
   ·rw [decide_eq_false e4]; rfl
theorem doT_live {st : RS} {x : Stp} (hp : properB x = true) (he : st.ended.find? (isW x.who) = none) : st.doT x = st.actT x := by
 have h1 : st.toldW x.who = 0 := by unfold RS.toldW; rw [he]
 have h2 : st.toldT x.who = st := by
  unfold RS.toldT
  rw [List.eraseP_of_forall_not (fun a ha => by have := List.find?_eq_none.1 he a ha; exact this)]
 unfold RS.doT
 rw [hp, h1, h2]
 rfl
def stA (k v c : Int) (y : Wh) : RS := ⟨k, v, c, [], [newTx y 1], [], [], 1, 0⟩
def recA (y : Wh) : Rc := ⟨y, y.lab, 7, 7, true, false, 1⟩
def stB (k v c : Int) (y : Wh) : RS := ⟨k, v, c, [⟨y.lab, 7, 77⟩], [⟨y, 1, [(7, -1)], [7], zeroStp, false, ⟨0, 0, []⟩⟩], [recA y], [], 1, 1⟩
def stC (k v c : Int) (y : Wh) : RS := ⟨k, v, c, [⟨y.lab, 7, 77⟩], [], [], [], 1, 1⟩
theorem open_a {k v c : Int} {y : Wh} (hm : mayB k v c = true) (hy : y.ok) : (st0 k v c).doT (op1 y) = (stA k v c y, ⟨0, 0, []⟩) := by
 have hp : properB (op1 y) = true := properB_ask hy (by simp [op1]) (by simp [op1, asksB]) (by simp [op1]) (by simp [op1])
 have hv := (mayB_t hm).2.2.1
 rw [doT_live hp rfl]
 have h0 : ¬ v ≤ 0 := by omega
 simp [RS.actT, RS.startT, RS.txOf, RS.waitRec, RS.isReady, st0, op1, cntIx, stA, RS.beginT, h0]
theorem sameL_self (a b : Int) : sameL a b a b = true := sameL_iff.2 ⟨rfl, rfl⟩
theorem open_b {k v c : Int} {y : Wh} (hm : mayB k v c = true) (hy : y.ok) : (stA k v c y).doT (op2 y) = (stB k v c y, ⟨0, 0, []⟩) := by
 have hp : properB (op2 y) = true := properB_ask hy (by simp [op2]) (fun _ => ⟨hy.1, by simp [op2]⟩) (by simp [op2]) (by simp [op2])
 obtain ⟨hk, _, _, _, hc, _⟩ := mayB_t hm
 have hc0 : ¬ c ≤ 0 := by omega
 have hk0 : ¬ k ≤ 0 := by omega
 rw [doT_live hp rfl]
 have hb : (op2 y).barred = false := by
  unfold Stp.barred
  simp [op2, Wh.lab, domB_self, sameL_self]
 have h1 : (stA k v c y).actT (op2 y) = (stA k v c y).askT (op2 y) := by
  simp [RS.actT, RS.txOf, RS.waitRec, RS.isReady, stA, op2, newTx]
 have h2 : (stA k v c y).askT (op2 y) = (stA k v c y).took (op2 y) := by
  unfold RS.askT
  rw [hb]
  simp [stA, labN, hc0, RS.hindered]
 have h3 : (stA k v c y).addRec ((stA k v c y).askR (op2 y)) = ⟨k, v, c, [], [newTx y 1], [recA y], [], 1, 1⟩ := by
  simp [RS.addRec, RS.askR, stA, recA, op2, Stp.hi, Stp.wr]
 have h4 : (⟨k, v, c, [], [newTx y 1], [recA y], [], 1, 1⟩ : RS).clearT ((stA k v c y).askR (op2 y)) = ⟨k, v, c, [], [newTx y 1], [recA y], [], 1, 1⟩ := by
  have hcl : clrP ((stA k v c y).askR (op2 y)) (recA y) = false := by
   unfold clrP
   rw [show sameL (recA y).who.1 (recA y).who.2.1 ((stA k v c y).askR (op2 y)).at_.1 ((stA k v c y).askR (op2 y)).at_.2 = true from sameL_self y.1 y.2.1]
   simp
  unfold RS.clearT
  split
  ·simp only [List.length_cons, List.length_nil]
   rw [RS.clearN]
   simp [hcl]
  ·rfl
 have h5 : (⟨k, v, c, [], [newTx y 1], [recA y], [], 1, 1⟩ : RS).does (op2 y) = (stB k v c y, ⟨0, 0, []⟩) := by
  have hl : (⟨k, v, c, [], [newTx y 1], [recA y], [], 1, 1⟩ : RS).live y = 0 := by simp [RS.live, liveIx, newTx]
  have ht : ∀ q : Int, (⟨k, v, c, [], [newTx y 1], [recA y], [], 1, 1⟩ : RS).taken y.lab q = false := fun q => by
   simp [RS.taken, RS.comm, RS.val, valIx, commIx, oldIx, newTx, takIx, inB]
  have hf : (⟨k, v, c, [], [newTx y 1], [recA y], [], 1, 1⟩ : RS).full (op2 y) = false := by
   unfold RS.full RS.takenTo
   simp only [op2, ht]
   rw [show ((List.range 16).filter (fun _ => false)).length = 0 from rfl]
   simpa using hk0
  unfold RS.does RS.job
  simp only [op2, newTx] at hf hl ⊢
  simp [RS.txOf, hf, hl, RS.putT, RS.writeT, RS.keepOld, knownB, RS.setP, setIx, stB, Tx.wrote, RS.val, valIx]
 have h6 : (stB k v c y).againT = stB k v c y := by
  unfold RS.againT RS.waitN
  simp [stB, recA, RS.againN]
 rw [h1, h2]
 unfold RS.took
 rw [h3, h4, h5, h6]
theorem open_c {k v c : Int} {y : Wh} (hy : y.ok) : (stB k v c y).doT (op3 y) = (stC k v c y, ⟨0, 0, []⟩) := by
 have hp : properB (op3 y) = true := properB_ask hy (by simp [op3]) (by simp [op3, asksB]) (by simp [op3]) (by simp [op3])
 rw [doT_live hp rfl]
 simp [RS.actT, RS.txOf, RS.waitRec, RS.isReady, stB, op3, RS.ends, isWt, recA, RS.againT, RS.waitN, RS.againN, stC]
theorem open_l (k v c : Int) (y : Wh) : (stC k v c y).lookTo y.lab 16 = [(7, 77)] := by
 have h : ∀ q : Nat, lookPick (stC k v c y) y.lab q = if q = 7 then some (7, 77) else none := fun q => by
  unfold lookPick RS.comm RS.val
  by_cases e : q = 7
  ·subst e; simp [stC, commIx, valIx]
  ·have e' : ¬ (7 : Int) = (q : Int) := by omega
   simp [stC, commIx, valIx, e, e']
 unfold RS.lookTo
 rw [show (lookPick (stC k v c y) y.lab) = fun q => if q = 7 then some ((7 : Int), (77 : Int)) else none from funext h]
 decide
theorem ksame_go (b1 o1 cap1 b2 o2 cap2 : Nat) (l1 l2 : List (Int × Int)) (w : World) (hlen : l1.length = l2.length) (hm : l1.length ≤ maxLen)
  (h1 : w.rangeAt b1 o1 (itemsV l1)) (h2 : w.rangeAt b2 o2 (itemsV l2)) :
  Calls Try.prog 32 #[.slice (some ⟨b1, o1, none⟩) l1.length cap1, .slice (some ⟨b2, o2, none⟩) l2.length cap2] w fun e w' =>
   e = .returned (.bool (decide (l1 = l2))) ∧ Below w.heap.size w w' := by
 unfold maxLen at hm
 have Hl : Hid (l1.length = l2.length) := hlen
 have hq : ((l1.length : Int) != (l2.length : Int)) = false := by simp [hlen]
 clear hlen
 go_enter Try.func32, Try.ntmps32
 go_wp2_with fail
 go_loopw [5] (fun i wr => ∃ k : Nat, k ≤ l1.length ∧ i = .int .i64 k ∧ l1.take k = l2.take k ∧ ∃ nq, w.drewN nq = wr) (fun i _ => l1.length - (intOf i).toNat)
 case atStart => exact ⟨0, Nat.zero_le _, rfl, rfl, 0, rfl⟩
 case round =>
  obtain ⟨k, hk, rfl, ht, nq, rfl⟩ := hrel
  have Ht : Hid (l1.take k = l2.take k) := ht
  clear ht
  by_cases hlt : k < l1.length
  ·have hlt2 : k < l2.length := by rw [← Hl.out]; exact hlt
   have g1 := List.getElem?_eq_getElem hlt
   have g2 := List.getElem?_eq_getElem hlt2
   generalize l1[k] = x1 at g1
   generalize l2[k] = x2 at g2
   obtain ⟨p1, q1⟩ := range_item h1 k x1 g1
   obtain ⟨p2, q2⟩ := range_item h2 k x2 g2
   have G1 : Hid (l1[k]? = some x1) := g1
   have G2 : Hid (l2[k]? = some x2) := g2
   clear g1 g2 h1 h2
   have z1 : (k : Int) < (l1.length : Int) := by omega
   have z2 : (k : Int) < (l2.length : Int) := by omega
   by_cases e1 : x1.1 = x2.1
   ·have d1 : (x1.1 != x2.1) = false := by simp [e1]
    have E1 : Hid (x1.1 = x2.1) := e1
    clear e1
    by_cases e2 : x1.2 = x2.2
    ·have d2 : (x1.2 != x2.2) = false := by simp [e2]
     have E2 : Hid (x1.2 = x2.2) := e2
     clear e2
     go_wp2_with fail
     go_quiet (fail)
     go_wp2
     go_roundw
     case rel => exact ⟨k + 1, by omega, by go_num, take_same G1.out (by rw [G2.out, Prod.ext E1.out E2.out]) Ht.out, _, rfl⟩
     case measure => simp [intOf]; omega
    ·have d2 : (x1.2 != x2.2) = true := by simp [e2]
     go_wp2_with fail
     go_quiet (fail)
     go_wp2
     go_ret
     exact ⟨ret_bool (at_differs G1.out G2.out (fun e => e2 (by rw [e]))).symm, below_drewN2 _ _⟩
   ·have d1 : (x1.1 != x2.1) = true := by simp [e1]
    go_wp2_with fail
    go_quiet (fail)
    go_wp2
    go_ret
    exact ⟨ret_bool (at_differs G1.out G2.out (fun e => e1 (by rw [e]))).symm, below_drewN2 _ _⟩
  ·have e : k = l1.length := by omega
   subst e
   go_wp2
   go_ret
   refine ⟨ret_bool ?_, below_drewN _⟩
   have t := Ht.out
   rw [List.take_length, Hl.out, List.take_length] at t
   simp [t]
theorem ksame_len (a1 a2 : Option Addr) (n1 n2 cap1 cap2 : Nat) (w : World) (hlen : n1 ≠ n2) :
  Calls Try.prog 32 #[.slice a1 n1 cap1, .slice a2 n2 cap2] w fun e w' => e = .returned (.bool false) ∧ w = w' := by
 have hq : ((n1 : Int) != (n2 : Int)) = true := by simp; omega
 go_enter Try.func32, Try.ntmps32
 go_wp2
 go_ret
 exact ⟨rfl, rfl⟩
theorem ksame_nil (a1 a2 : Option Addr) (cap1 cap2 : Nat) (w : World) :
  Calls Try.prog 32 #[.slice a1 0 cap1, .slice a2 0 cap2] w fun e w' => e = .returned (.bool true) ∧ w = w' := by
 go_enter Try.func32, Try.ntmps32
 go_wp2
 go_loop [5] (fun i => i = .int .i64 0) (fun _ => 0)
 case atStart => rfl
 case round =>
  subst hrel
  go_wp2
  go_ret
  exact ⟨rfl, rfl⟩
theorem ksameItems_any (v1 v2 : Value) (l1 l2 : List (Int × Int)) (w : World) (h1 : isItems w v1 l1) (h2 : isItems w v2 l2) :
  Calls Try.prog 32 #[v1, v2] w fun e w' => e = .returned (.bool (decide (l1 = l2))) ∧ Below w.heap.size w w' := by
 by_cases hl : l1.length = l2.length
 ·by_cases hz : l1.length = 0
  ·have e1 : l1 = [] := List.eq_nil_of_length_eq_zero hz
   have e2 : l2 = [] := List.eq_nil_of_length_eq_zero (by omega)
   subst e1 e2
   have f : ∀ v, isItems w v [] → ∃ a c, v = .slice a 0 c := by
    intro v hv
    rcases hv with ⟨rfl, _⟩ | ⟨b, o, cap, rfl, _⟩
    ·exact ⟨_, _, rfl⟩
    ·exact ⟨_, _, rfl⟩
   obtain ⟨a1, c1, rfl⟩ := f v1 h1
   obtain ⟨a2, c2, rfl⟩ := f v2 h2
   refine (ksame_nil a1 a2 c1 c2 w).mono ?_
   rintro e w' ⟨rfl, rfl⟩
   exact ⟨by simp, Below.refl _ _⟩
  ·rcases h1 with ⟨_, rfl⟩ | ⟨b1, o1, cap1, rfl, r1, m1⟩
   ·exact absurd rfl hz
   rcases h2 with ⟨_, rfl⟩ | ⟨b2, o2, cap2, rfl, r2, m2⟩
   ·exact absurd hl hz
   exact ksame_go b1 o1 cap1 b2 o2 cap2 l1 l2 w hl m1 r1 r2
 ·have f : ∀ v l, isItems w v l → ∃ a c, v = .slice a l.length c := by
   intro v l hv
   rcases hv with ⟨rfl, rfl⟩ | ⟨b, o, cap, rfl, _⟩
   ·exact ⟨_, _, rfl⟩
   ·exact ⟨_, _, rfl⟩
  obtain ⟨a1, c1, rfl⟩ := f v1 l1 h1
  obtain ⟨a2, c2, rfl⟩ := f v2 l2 h2
  refine (ksame_len a1 a2 _ _ c1 c2 w hl).mono ?_
  rintro e w' ⟨rfl, rfl⟩
  refine ⟨ret_bool ?_, Below.refl _ _⟩
  symm; apply decide_eq_false
  intro e; rw [e] at hl; exact hl rfl
theorem isItems_kept {w w' : World} {v : Value} {l : List (Int × Int)} (h : isItems w v l) (hb : Below w.heap.size w w') : isItems w' v l := by
 rcases h with h | ⟨b, o, cap, e, hr, hl⟩
 ·exact .inl h
 ·exact .inr ⟨b, o, cap, e, fun j u hj => cell_later hb (hr j u hj), hl⟩
end Go.Proofs.Ytpbcplfpjcacfaa
namespace Go.Proofs.Ytpbcplfpjcacfaa
open Go.RowKit
attribute [local go_sem ↓] Go.wp_at_zero Go.wp_at_succ
set_option maxRecDepth 100000
set_option maxHeartbeats 8000000
theorem chgD_below {own own' : Own} {w w' : World} {B : Nat} (h : ChgD own w w' own') (hB : ∀ k, own k ≠ none → B ≤ k) (hs : B ≤ w.heap.size) : Below B w w' :=
 ⟨h.os, h.tape, h.output, h.size, fun k hk => h.block k (by omega) (by
  cases hq : own k with
  | none => rfl
  | some t => have := hB k (by rw [hq]; simp); omega)⟩
end Go.Proofs.Ytpbcplfpjcacfaa
namespace Go.Proofs.Ytpbcplfpjcacfaa
open Go.ChangeShapes Go.WideShapes Go.ChangeAt Go.RowKit Go.Joins Go.Deep
set_option maxRecDepth 100000
set_option maxHeartbeats 8000000
theorem bytesStep : Try.prog.bytesOf 30 = 72 := by kernel_rfl
end Go.Proofs.Ytpbcplfpjcacfaa
namespace Go.Proofs.Ytpbcplfpjcacfaa
open Go.RowKit
set_option maxRecDepth 100000
set_option maxHeartbeats 8000000
def Pgm.pair (P : Pgm) (D : P.Doc) : Pgm where
 S := P.S × RS
 Rep := fun w p s own => P.Rep w p s.1 own
 act := fun s x => (((P.act s.1 x).1, (s.2.doT x).1), (s.2.doT x).2)
 look := fun s l => s.2.lookTo l 16
 start := fun k v c => (P.start k v c, st0 k v c)
 Ok := fun N s => P.Ok N s.1 ∧ D.Sim N s.1 s.2 ∧ s.2.Fit N ∧ s.2.c ≤ 32
 old := fun h => P.old h
 frame := fun h => P.frame h
 okStart := fun {k v c} h => ⟨P.okStart h, D.start h, Fit0 k v c, (mayB_t h).2.2.2.2.2⟩
 okAct := fun {N s} x h => ⟨P.okAct x h.1, D.step x h.2.1 h.1, h.2.2.1.doT x h.2.2.2, by rw [(doT_cfg s.2 x).2.2]; exact h.2.2.2⟩
 okMono := fun {N s} h => ⟨P.okMono h.1, D.mono h.2.1, h.2.2.1.mono (Nat.le_succ N), h.2.2.2⟩
 newYes := P.newYes
 newNo := P.newNo
 lookYes := fun {w p s own N} l c hr ho hl => by
  have := P.lookYes l c hr ho.1 hl
  rw [D.look ho.2.1 ho.1 hl] at this
  exact this
 lookNo := fun l c hr ho hl => P.lookNo l c hr ho.1 hl
 doAny := fun {w p s own N} x hr ho hN => by
  have := P.doAny x hr ho.1 hN
  rw [D.ans x ho.2.1 ho.1] at this
  exact this
theorem pair_opens (P : Pgm) (D : P.Doc) {k v c : Int} {y : Wh} (hm : mayB k v c = true) (hy : y.ok) : (P.pair D).Opens ((P.pair D).start k v c) y ∧ ((P.pair D).open3 ((P.pair D).start k v c) y).2 = stC k v c y := by
 have ha : (st0 k v c).doT (op1 y) = _ := open_a hm hy
 have hb : (stA k v c y).doT (op2 y) = _ := open_b hm hy
 have hc : (stB k v c y).doT (op3 y) = _ := open_c hy
 have e1 : ((st0 k v c).doT (op1 y)).1 = stA k v c y := by rw [ha]
 have e2 : ((stA k v c y).doT (op2 y)).1 = stB k v c y := by rw [hb]
 have e3 : ((P.pair D).open3 ((P.pair D).start k v c) y).2 = stC k v c y := by
  show (((((st0 k v c).doT (op1 y)).1).doT (op2 y)).1.doT (op3 y)).1 = _
  rw [e1, e2, hc]
 refine ⟨⟨?_, ?_, ?_, ?_⟩, e3⟩
 ·show ((st0 k v c).doT (op1 y)).2.code = 0
  rw [ha]
 ·show ((((st0 k v c).doT (op1 y)).1).doT (op2 y)).2.code = 0
  rw [e1, hb]
 ·show (((((st0 k v c).doT (op1 y)).1).doT (op2 y)).1.doT (op3 y)).2.code = 0
  rw [e1, e2, hc]
 ·show ((P.pair D).open3 ((P.pair D).start k v c) y).2.lookTo y.lab 16 = [(7, 77)]
  rw [e3]; exact open_l k v c y
end Go.Proofs.Ytpbcplfpjcacfaa
namespace Go.Proofs.Ytpbcplfpjcacfaa
open Go.ChangeShapes Go.WideShapes Go.ChangeAt Go.RowKit Go.Joins Go.Deep
set_option maxRecDepth 100000
set_option maxHeartbeats 8000000
theorem i64B_of {n : Int} (h : (Lit.int .i64 n).wf = true) : i64B n := by
 unfold Lit.wf at h
 simp only [Bool.and_eq_true, decide_eq_true_eq] at h
 exact h
section
variable {H : Type} {enc : TypeId × Value → H} {w : World} {base b0 : Nat} {spare : Nat → Bool} {held : Bool} {r : Reach} {v : Value} {d : DataW H} {p : List MemPlace}
theorem open_configB (hv : Value.okWide Try.prog w r b0 23 v) (h : DataW.Trod enc Try.prog w base spare held 23 v d p) :
  ∃ a b c : Int, v = .agg #[.int .i64 a, .int .i64 b, .int .i64 c] ∧ i64B a ∧ i64B b ∧ i64B c := by
 obtain ⟨c0, c1, c2, y0, y1, y2, m, rfl, rfl, rfl, hy0, hy1, hy2⟩ := open_agg3 Try.underlying23 (by kernel_rfl) cellsConfig hv h
 obtain ⟨a, e0, rfl, wa⟩ := DataW.trod_int Try.underlying3 hy0
 obtain ⟨b, e1, rfl, wb⟩ := DataW.trod_int Try.underlying3 hy1
 obtain ⟨c, e2, rfl, wc⟩ := DataW.trod_int Try.underlying3 hy2
 simp at e0 e1 e2
 exact ⟨a, b, c, by rw [e0, e1, e2], i64B_of wa, i64B_of wb, i64B_of wc⟩
theorem open_steps (hv : Value.okWide Try.prog w r b0 59 v) (h : DataW.Trod enc Try.prog w base spare held 59 v d p) :
  ∃ l : List Stp, isSteps w v l ∧ (d = .nil ∧ l = [] ∨ ∃ es s, d = .slice es s ∧ es.length = l.length) := by
 obtain ⟨a0, len, cap, rfl⟩ := okWide_slice Try.underlying59 hv
 obtain ⟨fuel, hf⟩ := h
 have : Inhabited Stp := ⟨zeroStp⟩
 obtain ⟨ao, cp, l, h1, h2, h3, h4⟩ := open_rows stepC Try.underlying59 cellsStep (by decide) (fun _ _ _ h => trod_step h) hf
 exact ⟨l, ⟨ao, cp, h1, h2, h3⟩, h4⟩
end
end Go.Proofs.Ytpbcplfpjcacfaa
namespace Go.Proofs.Ytpbcplfpjcacfaa
open Go.RowKit
attribute [local go_sem ↓] Go.wp_at_zero Go.wp_at_succ
set_option maxRecDepth 100000
set_option maxHeartbeats 8000000
def labK (n : Nat) : Lab := (((n / 8 : Nat) : Int), ((n % 8 : Nat) : Int))
theorem sessZ_neg {x : Wh} (h : ¬ (labB x.1 x.2.1 = true ∧ 0 ≤ x.2.2 ∧ x.2.2 < 4)) : sessZ' x = -1 := by unfold sessZ'; rw [if_neg h]
theorem sessZ_pos {x : Wh} (h : labB x.1 x.2.1 = true ∧ 0 ≤ x.2.2 ∧ x.2.2 < 4) : 0 ≤ sessZ' x ∧ sessZ' x < 128 := by
 unfold sessZ'
 rw [if_pos h]
 have := labB_t h.1
 omega
theorem numZ_neg {l c : Int} (h : labB l c = false) : numZ l c = -1 := by unfold numZ; rw [h]; rfl
theorem numZ_pos {l c : Int} (h : labB l c = true) : 0 ≤ numZ l c ∧ numZ l c < 32 := by
 unfold numZ
 rw [h, if_pos rfl]
 have := labB_t h
 omega
theorem properB_no {x : Stp} (h : ¬ ((labB x.who.1 x.who.2.1 = true ∧ 0 ≤ x.who.2.2 ∧ x.who.2.2 < 4) ∧ 1 ≤ x.op ∧ x.op ≤ 8)) : properB x = false := by
 unfold properB
 cases hl : labB x.who.1 x.who.2.1 with
 | false => rfl
 | true =>
  rw [decide_eq_false (show ¬ (0 ≤ x.who.2.2 ∧ x.who.2.2 ≤ 3 ∧ 1 ≤ x.op ∧ x.op ≤ 8) from fun e => h ⟨⟨hl, e.1, by omega⟩, e.2.2⟩)]; rfl
theorem properB_plain {x : Stp} (h : (labB x.who.1 x.who.2.1 = true ∧ 0 ≤ x.who.2.2 ∧ x.who.2.2 < 4) ∧ 1 ≤ x.op ∧ x.op ≤ 8) (ha : asksB x.op = false) : properB x = true := by
 unfold properB
 rw [h.1.1, ha, decide_eq_true (show 0 ≤ x.who.2.2 ∧ x.who.2.2 ≤ 3 ∧ 1 ≤ x.op ∧ x.op ≤ 8 from ⟨h.1.2.1, by omega, h.2⟩)]; rfl
theorem properB_asks {x : Stp} (h : (labB x.who.1 x.who.2.1 = true ∧ 0 ≤ x.who.2.2 ∧ x.who.2.2 < 4) ∧ 1 ≤ x.op ∧ x.op ≤ 8) (ha : asksB x.op = true) :
  properB x = (labB x.at_.1 x.at_.2 && decide (0 ≤ x.key ∧ x.key ≤ 15) && (!decide (x.op = 3) || decide (x.key ≤ x.to_ ∧ x.to_ ≤ 15)) && (!decide (x.op = 4) || decide (0 ≤ x.value ∧ x.value ≤ 999))) := by
 unfold properB
 rw [h.1.1, ha, decide_eq_true (show 0 ≤ x.who.2.2 ∧ x.who.2.2 ≤ 3 ∧ 1 ≤ x.op ∧ x.op ≤ 8 from ⟨h.1.2.1, by omega, h.2⟩)]; rfl
theorem properK_any (x : Stp) (w : World) :
  Calls Try.prog 36 #[stepV x] w fun e w' => e = .returned (.bool (properB x)) ∧ Below w.heap.size w w' := by
 unfold stepV
 have hses := session_any x.who
 have hnum := number_any x.at_.1 x.at_.2
 have hA : Below w.heap.size w (w.alloc (.cells #[.int .i64 x.who.1, .int .i64 x.who.2.1, .int .i64 x.who.2.2, .int .i64 x.op, .int .i64 x.at_.1, .int .i64 x.at_.2, .int .i64 x.key, .int .i64 x.to_, .int .i64 x.value] 30)) := (Below.refl _ _).alloc (Nat.le_refl _) _
 have hX : (w.alloc (.cells #[.int .i64 x.who.1, .int .i64 x.who.2.1, .int .i64 x.who.2.2, .int .i64 x.op, .int .i64 x.at_.1, .int .i64 x.at_.2, .int .i64 x.key, .int .i64 x.to_, .int .i64 x.value] 30)).heap[w.heap.size]? = some (.cells (stepC x).toArray 30 (0, 0)) := heap_alloc_new w _
 by_cases h1 : (labB x.who.1 x.who.2.1 = true ∧ 0 ≤ x.who.2.2 ∧ x.who.2.2 < 4)
 ·obtain ⟨s1, s2⟩ := sessZ_pos h1
  generalize sessZ' x.who = sz at *
  by_cases h2 : 1 ≤ x.op ∧ x.op ≤ 8
  ·obtain ⟨o1, o2⟩ := h2
   by_cases ha : x.op = 2 ∨ x.op = 3 ∨ x.op = 4 ∨ x.op = 5
   ·have Hp : Hid (properB x = (labB x.at_.1 x.at_.2 && decide (0 ≤ x.key ∧ x.key ≤ 15) && (!decide (x.op = 3) || decide (x.key ≤ x.to_ ∧ x.to_ ≤ 15)) && (!decide (x.op = 4) || decide (0 ≤ x.value ∧ x.value ≤ 999)))) := properB_asks ⟨h1, o1, o2⟩ (by unfold asksB; simpa using ha)
    cases hl : labB x.at_.1 x.at_.2 with
    | false =>
     rw [numZ_neg hl] at hnum
     rw [hl] at Hp
     have Hp' : Hid (properB x = false) := by unfold Hid; rw [Hp.out]; rfl
     go_enter Try.func36, Try.ntmps36
     go_wp2_with fail
     refine (hses _).mono ?_
     rintro e w1 ⟨rfl, hbb⟩
     have hB1 : Below w.heap.size w w1 := hA.trans (hbb.mono hA.size)
     obtain ⟨k0, k1, k2, k3, k4, k5, k6, k7, k8, _⟩ := step9_cells ((hbb.block w.heap.size (by simp)).trans hX)
     clear hbb
     rcases ha with e | e | e | e <;> rw [e] at k3 <;> clear o1 o2
     all_goals (go_wp2_with fail; refine (hnum _).mono ?_; rintro e w2 ⟨rfl, hb2⟩; go_wp2; go_ret; rw [Hp'.out]; exact ⟨rfl, hB1.trans (hb2.mono hB1.size)⟩)
    | true =>
     obtain ⟨n1, n2⟩ := numZ_pos hl
     rw [hl] at Hp
     generalize numZ x.at_.1 x.at_.2 = nz at *
     go_enter Try.func36, Try.ntmps36
     go_wp2_with fail
     refine (hses _).mono ?_
     rintro e w1 ⟨rfl, hbb⟩
     have hB1 : Below w.heap.size w w1 := hA.trans (hbb.mono hA.size)
     have hX1 : w1.heap[w.heap.size]? = some (.cells (stepC x).toArray 30 (0, 0)) := (hbb.block w.heap.size (by simp)).trans hX
     have z1 : w.heap.size < w1.heap.size := (Array.getElem?_eq_some_iff.1 hX1).1
     have HX1 : Hid (type_of% hX1) := hX1
     obtain ⟨k0, k1, k2, k3, k4, k5, k6, k7, k8, _⟩ := step9_cells hX1
     clear hbb hX hX1
     rcases ha with e | e | e | e <;> rw [e] at k3 <;> clear o1 o2
     all_goals (go_wp2_with fail; refine (hnum _).mono ?_; rintro e' w2 ⟨rfl, hb2⟩; have hB2 : Below w.heap.size w w2 := hB1.trans (hb2.mono hB1.size); have g3 := cell_later hb2 k3; have g6 := cell_later hb2 k6; have g7 := cell_later hb2 k7; have g8 := cell_later hb2 k8; clear k0 k1 k2 k3 k4 k5 k6 k7 k8 hb2; go_wp2)
     all_goals go_ret
     all_goals (refine ⟨ret_bool ?_, hB2⟩; rw [Hp.out, e])
     all_goals first | (simp; done) | (simp; omega) | (symm; simp; omega) | (rw [Bool.eq_iff_iff]; simp; omega)
   ·have ha' : asksB x.op = false := by unfold asksB; simpa using ha
    have Hp : Hid (properB x = true) := properB_plain ⟨h1, o1, o2⟩ ha'
    have b2 : (x.op == 2) = false := by simp; omega
    have b3 : (x.op == 3) = false := by simp; omega
    have b4 : (x.op == 4) = false := by simp; omega
    have b5 : (x.op == 5) = false := by simp; omega
    clear ha ha'
    go_enter Try.func36, Try.ntmps36
    go_wp2_with fail
    refine (hses _).mono ?_
    rintro e w1 ⟨rfl, hbb⟩
    have hB1 : Below w.heap.size w w1 := hA.trans (hbb.mono hA.size)
    obtain ⟨k0, k1, k2, k3, k4, k5, k6, k7, k8, _⟩ := step9_cells ((hbb.block w.heap.size (by simp)).trans hX)
    clear hbb
    have n4 : x.op ≠ 4 := by simpa using b4
    go_wp2
    all_goals go_ret
    all_goals first | (exfalso; omega) | (rw [Hp.out]; exact ⟨rfl, hB1⟩)
  ·have Hp : Hid (properB x = false) := properB_no (fun e => h2 e.2)
   go_enter Try.func36, Try.ntmps36
   go_wp2_with fail
   refine (hses _).mono ?_
   rintro e w1 ⟨rfl, hbb⟩
   have hB1 : Below w.heap.size w w1 := hA.trans (hbb.mono hA.size)
   obtain ⟨k0, k1, k2, k3, k4, k5, k6, k7, k8, _⟩ := step9_cells ((hbb.block w.heap.size (by simp)).trans hX)
   clear hbb
   by_cases h3 : x.op < 1
   ·go_wp2
    go_ret
    rw [Hp.out]
    exact ⟨rfl, hB1⟩
   ·have h4 : 8 < x.op := by omega
    clear h2
    go_wp2
    go_ret
    rw [Hp.out]
    exact ⟨rfl, hB1⟩
 ·have Hp : Hid (properB x = false) := properB_no (fun e => h1 e.1)
  rw [sessZ_neg h1] at hses
  go_enter Try.func36, Try.ntmps36
  go_wp2_with fail
  refine (hses _).mono ?_
  rintro e w1 ⟨rfl, hbb⟩
  have hB1 : Below w.heap.size w w1 := hA.trans (hbb.mono hA.size)
  obtain ⟨k0, k1, k2, k3, k4, k5, k6, k7, k8, _⟩ := step9_cells ((hbb.block w.heap.size (by simp)).trans hX)
  clear hbb
  go_wp2
  go_ret
  rw [Hp.out]
  exact ⟨rfl, hB1⟩
structure Did where
 x : Stp
 v : Value
 items : List (Int × Int)
def didC (d : Did) : List Value := stepC d.x ++ [d.v]
theorem len_didC (d : Did) : (didC d).length = 10 := by simp [didC, stepC]
structure Hd where
 live : Bool
 dv : Value
 done : List Did
 open_ : Bool
 x : Stp
def handC (h : Hd) : List Value := [.bool h.live, h.dv, .bool h.open_] ++ stepC h.x
theorem len_handC (h : Hd) : (handC h).length = 12 := by simp [handC, stepC]
def hd0 : Hd := ⟨false, .slice none 0 0, [], false, zeroStp⟩
def seenPick (vals : Nat → Int) (l lo i : Nat) : Option (Int × Int) := if 0 ≤ vals (16 * l + (lo + i)) then some (((lo + i : Nat) : Int), vals (16 * l + (lo + i))) else none
def seenL (vals : Nat → Int) (l lo n : Nat) : List (Int × Int) := (List.range n).filterMap (seenPick vals l lo)
theorem seenL_hit {vals : Nat → Int} {l lo n : Nat} (h : 0 ≤ vals (16 * l + (lo + n))) : seenL vals l lo (n + 1) = seenL vals l lo n ++ [(((lo + n : Nat) : Int), vals (16 * l + (lo + n)))] := by
 simp [seenL, List.range_succ, List.filterMap_append, seenPick, h]
theorem seenL_miss {vals : Nat → Int} {l lo n : Nat} (h : ¬ 0 ≤ vals (16 * l + (lo + n))) : seenL vals l lo (n + 1) = seenL vals l lo n := by
 simp only [seenL, List.range_succ, List.filterMap_append, List.filterMap_cons, seenPick, if_neg h, List.filterMap_nil, List.append_nil]
theorem seenL_len (vals : Nat → Int) (l lo n : Nat) : (seenL vals l lo n).length ≤ n := by
 have := List.length_filterMap_le (seenPick vals l lo) (List.range n)
 simpa [seenL] using this
theorem seen_any (b : Nat) (vals : Nat → Int) (l lo hi : Nat) (w : World) (hl : l < 32) (hlo : lo ≤ hi) (hhi : hi < 16) (hv : ∀ j, j < 512 → w.cell? ⟨b, 1536 + j, none⟩ = some (.int .i64 (vals j))) (hb : b < w.heap.size) :
  Calls Try.prog 35 #[.pointer (some ⟨b, 1536, none⟩), .int .i64 (l : Int), .int .i64 (lo : Int), .int .i64 (hi : Int)] w fun e w' =>
   ∃ v, e = .returned v ∧ w'.ownsRow w.heap.size 94 2 v (seenL vals l lo (hi + 1 - lo)).length (itemsV (seenL vals l lo (hi + 1 - lo))) ∧ Below w.heap.size w w' := by
 obtain ⟨i0, hi0, hz0, hs0, hb0⟩ := info_all info94
 have HV : Hid (type_of% hv) := hv
 clear hv
 go_enter Try.func35, Try.ntmps35
 go_wp2_with fail
 go_loopw [9, 10] (fun v i wr => ∃ q : Nat, lo ≤ q ∧ q ≤ hi + 1 ∧ i = .int .i64 (q : Int) ∧ Hid (wr.ownsRow w.heap.size 94 2 v (seenL vals l lo (q - lo)).length (itemsV (seenL vals l lo (q - lo)))) ∧ Hid (Below w.heap.size w wr)) (fun _ i _ => hi + 1 - (intOf i).toNat)
 case atStart => exact ⟨lo, Nat.le_refl _, by omega, rfl, by rw [Nat.sub_self]; exact World.ownsRow_nil _ _ _ _, Below.refl _ _⟩
 case round =>
  obtain ⟨q, hq1, hq2, rfl, hown, hB⟩ := hrel
  have hnz := hB.out.size
  by_cases hlt : q < hi + 1
  ·have c0 : wr.cell? ⟨b, 1536 + l * 16 + q, none⟩ = some (.int .i64 (vals (16 * l + q))) := by
    rw [show 1536 + l * 16 + q = 1536 + (16 * l + q) by omega]
    exact (hB.out.cell (p := ⟨b, 1536 + (16 * l + q), none⟩) hb).trans (HV.out (16 * l + q) (by omega))
   have hle : (q : Int) ≤ (hi : Int) := by omega
   have hbw : b < wr.heap.size := by omega
   have hqe : lo + (q - lo) = q := by omega
   by_cases hit : 0 ≤ vals (16 * l + q)
   ·have Hs : Hid (seenL vals l lo (q + 1 - lo) = seenL vals l lo (q - lo) ++ [((q : Int), vals (16 * l + q))]) := by
     unfold Hid
     rw [show q + 1 - lo = (q - lo) + 1 by omega, seenL_hit (by rw [hqe]; exact hit), hqe]
    generalize hvv : vals (16 * l + q) = vv at *
    go_wp2_with (at_builtin; refine wpList_append_own _ rfl _ _ 44 rfl w.heap.size 94 i0 (.agg #[.int .i64 0, .int .i64 0]) 2 16 Try.underlying44 hi0 hz0 hs0 hb0 rfl (by decide) _ _ _ rfl (hown.out.alloc _) ⟨wr.heap.size, 0, none⟩ 1 1 [.int .i64 q, .int .i64 vv] rfl rfl ?c1 ?c2 ?c3 ?c4 ?c5 ?_)
    case c1 => exact two_new wr _ _ 94 _ rfl
    case c2 => intro u hu; simp at hu; rcases hu with rfl | rfl <;> rfl
    case c3 => have := seenL_len vals l lo (q - lo); unfold maxLen; omega
    case c4 => have := seenL_len vals l lo (q - lo); omega
    case c5 => simp; omega
    intro v' w1 hown' hgrow _
    have HB1 : Hid (Below w.heap.size w w1) := (hB.out.alloc hnz _).grown hgrow (by simp; omega) (fun k hk => (hown.out.lt k hk).1)
    have HO1 : Hid (w1.ownsRow w.heap.size 94 2 v' (seenL vals l lo (q + 1 - lo)).length (itemsV (seenL vals l lo (q + 1 - lo)))) := by
     unfold Hid
     rw [Hs.out, List.length_append, itemsV_snoc]
     exact hown'
    clear hown' hgrow hown
    go_wp2
    go_roundw
    case rel => exact ⟨q + 1, by omega, by omega, by go_num, HO1, HB1⟩
    case measure => simp [intOf]; omega
   ·have Hs : Hid (seenL vals l lo (q + 1 - lo) = seenL vals l lo (q - lo)) := by
     unfold Hid
     rw [show q + 1 - lo = (q - lo) + 1 by omega, seenL_miss (by rw [hqe]; exact hit)]
    go_wp2
    go_roundw
    case rel => exact ⟨q + 1, by omega, by omega, by go_num, by rw [Hs.out]; exact hown, hB⟩
    case measure => simp [intOf]; omega
  ·have e : q = hi + 1 := by omega
   subst e
   go_wp2
   go_ret
   exact ⟨_, rfl, hown.out, hB.out⟩
structure BkMem (w : World) (b : Nat) (hs : Nat → Hd) (vals : Nat → Int) (own : Own) : Prop where
 root : ∃ C, w.heap[b]? = some (.cells C 84 (0, 0)) ∧ C.size = 2048
 hand : ∀ k, k < 128 → w.rangeAt b (k * 12) (handC (hs k))
 val : ∀ j, j < 512 → w.cell? ⟨b, 1536 + j, none⟩ = some (.int .i64 (vals j))
 tag : own b = some (1, 0, 0, 0)
 row : ∀ k, k < 128 → Row w own (k + 10, 0, 0, 0) 156 10 (hs k).dv (hs k).done didC
 kept : ∀ k, k < 128 → ∀ d ∈ (hs k).done, w.ownsRow 0 94 2 d.v d.items.length (itemsV d.items) ∧ ∀ q, d.v.ownBlock = some q → own q = some (9, 0, 0, 0)
 old : ∀ q, own q ≠ none → q < w.heap.size
theorem BkMem.frame {w w' : World} {b : Nat} {hs : Nat → Hd} {vals : Nat → Int} {own : Own} (m : BkMem w b hs vals own) (hk : ∀ q, own q ≠ none → w'.heap[q]? = w.heap[q]?) (hz : w.heap.size ≤ w'.heap.size) : BkMem w' b hs vals own := by
 have hb := hk b (by rw [m.tag]; simp)
 have hc : ∀ o, w'.cell? ⟨b, o, none⟩ = w.cell? ⟨b, o, none⟩ := fun o => by unfold World.cell?; rw [hb]
 exact {
  root := by rw [hb]; exact m.root
  hand := fun k h j u hu => (hc _).trans (m.hand k h j u hu)
  val := fun j h => (hc _).trans (m.val j h)
  tag := m.tag
  row := fun k h => (m.row k h).frame (fun q hq => hk q (by rw [hq]; simp)) (fun _ h => h)
  kept := fun k h d hd => ⟨ownsRow_frame (m.kept k h d hd).1 (fun q hq => hk q (by rw [(m.kept k h d hd).2 q hq]; simp)), (m.kept k h d hd).2⟩
  old := fun q hq => Nat.lt_of_lt_of_le (m.old q hq) hz }
theorem BkMem.there {w : World} {b : Nat} {hs : Nat → Hd} {vals : Nat → Int} {own : Own} (m : BkMem w b hs vals own) {o n : Nat} (h : o + n ≤ 2048) : w.there b o n := fun j hj => by
 obtain ⟨C, hC, hz⟩ := m.root
 refine ⟨?_, frozen_of_row w b _ C _ hC⟩
 rw [cell_of_row w b _ C _ _ hC, Array.getElem?_eq_getElem (by omega)]; rfl
def updH (hs : Nat → Hd) (k : Nat) (h : Hd) : Nat → Hd := fun q => if q = k then h else hs q
theorem BkMem.setHand {w : World} {b : Nat} {hs : Nat → Hd} {vals : Nat → Int} {own own' : Own} (m : BkMem w b hs vals own) {k : Nat} (hk : k < 128) (h' : Hd) {w1 : World}
  (hx : ∀ q t, own q = some t → own' q = some t) (h1 : ∀ q, own q ≠ none → q ≠ b → own q ≠ some (k + 10, 0, 0, 0) → w1.heap[q]? = w.heap[q]?) (hroot : ∃ C, w1.heap[b]? = some (.cells C 84 (0, 0)) ∧ C.size = 2048)
  (hr : w1.rangeAt b (k * 12) (handC h')) (hcell : ∀ o, (o < k * 12 ∨ k * 12 + 12 ≤ o) → w1.cell? ⟨b, o, none⟩ = w.cell? ⟨b, o, none⟩)
  (hrow : Row w1 own' (k + 10, 0, 0, 0) 156 10 h'.dv h'.done didC) (hkept : ∀ d ∈ h'.done, w1.ownsRow 0 94 2 d.v d.items.length (itemsV d.items) ∧ ∀ q, d.v.ownBlock = some q → own' q = some (9, 0, 0, 0))
  (hold : ∀ q, own' q ≠ none → q < w1.heap.size) : BkMem w1 b (updH hs k h') vals own' := by
 have hne : ∀ q t, own q = some t → t ≠ (1, 0, 0, 0) → q ≠ b := fun q t hq ht e => by
  rw [e, m.tag] at hq; exact ht (Option.some.inj hq).symm
 refine ⟨hroot, fun j hj => ?_, fun j hj => ?_, hx _ _ m.tag, fun j hj => ?_, fun j hj => ?_, hold⟩
 ·unfold updH
  split
  ·rename_i e; subst e; exact hr
  ·rename_i e
   intro i u hu
   have hi : i < 12 := by rw [← len_handC (hs j)]; exact (List.getElem?_eq_some_iff.1 hu).1
   rw [hcell (j * 12 + i) (by omega)]
   exact m.hand j hj i u hu
 ·rw [hcell (1536 + j) (by omega)]; exact m.val j hj
 ·unfold updH
  split
  ·rename_i e; subst e; exact hrow
  ·rename_i e
   refine (m.row j hj).frame (fun q hq => h1 q (by rw [hq]; simp) (hne q _ hq (by intro c; cases c)) (by rw [hq]; intro c; injection c with c; injection c with c; omega)) (fun q hq => hx q _ hq)
 ·unfold updH
  split
  ·exact hkept
  ·intro d hd
   obtain ⟨a1, a2⟩ := m.kept j hj d hd
   refine ⟨ownsRow_frame a1 (fun q hq => h1 q (by rw [a2 q hq]; simp) (hne q _ (a2 q hq) (by intro c; cases c)) (by rw [a2 q hq]; intro c; injection c with c; injection c with c; omega)), fun q hq => hx q _ (a2 q hq)⟩
theorem infoDid : (Try.prog.info? 156).map (fun i => (i.zero, i.size, i.bytes)) = some (some (.agg #[.int .i64 0, .int .i64 0, .int .i64 0, .int .i64 0, .int .i64 0, .int .i64 0, .int .i64 0, .int .i64 0, .int .i64 0, .slice none 0 0]), 10, 96) := by kernel_rfl
structure Noted (hs hs' : Nat → Hd) (k : Nat) (l : List Did) : Prop where
 rest : ∀ q, q ≠ k → hs' q = hs q
 live : (hs' k).live = (hs k).live
 opn : (hs' k).open_ = (hs k).open_
 x : (hs' k).x = (hs k).x
 done : (hs' k).done = l
def BkPost (own : Own) (w : World) (b : Nat) (R : (Nat → Hd) → (Nat → Int) → Prop) (w' : World) : Prop := ∃ hs vals own', BkMem w' b hs vals own' ∧ ChgD own w w' own' ∧ (∀ q t, own q = some t → own' q = some t) ∧ R hs vals
theorem hand_cells {w : World} {b o : Nat} {h : Hd} (hr : w.rangeAt b o (handC h)) : w.cell? ⟨b, o, none⟩ = some (.bool h.live) ∧ w.cell? ⟨b, o + 1, none⟩ = some h.dv ∧ w.cell? ⟨b, o + 2, none⟩ = some (.bool h.open_) :=
 ⟨hr 0 _ rfl, hr 1 _ rfl, hr 2 _ rfl⟩
theorem BkMem.noted {w W w1 : World} {b k gg cap' H : Nat} {hs : Nat → Hd} {vals : Nat → Int} {own : Own} {d : Did} (m : BkMem w b hs vals own) (hk : k < 128)
  (hWb : ∀ q, q < w.heap.size → W.heap[q]? = w.heap[q]?) (hWs : w.heap.size ≤ W.heap.size) (hWo : W.os = w.os) (hWt : W.tape = w.tape) (hWp : W.output = w.output)
  (hgrow : W.grownBy w1 (hs k).dv.ownBlock) (hown1 : w1.ownsRow 0 156 10 (.slice (some ⟨gg, 0, none⟩) ((hs k).done.length + 1) cap') ((hs k).done.length + 1) ((hs k).done.flatMap didC ++ didC d))
  (hat : (hs k).dv.ownBlock = some gg ∨ gg = H) (hH : w.heap.size ≤ H) (hlt : gg < w1.heap.size)
  (hd : w.ownsRow 0 94 2 d.v d.items.length (itemsV d.items)) (hdo : ∀ q, d.v.ownBlock = some q → own q = some (9, 0, 0, 0)) :
  BkPost own w b (fun hs' vals' => vals' = vals ∧ Noted hs hs' k ((hs k).done ++ [d])) (w1.setCell ⟨b, k * 12 + 1, none⟩ (.slice (some ⟨gg, 0, none⟩) ((hs k).done.length + 1) cap')) := by
 have hsz : w.heap.size ≤ w1.heap.size := Nat.le_trans hWs hgrow.size
 have hv0 := (m.row k hk).2
 have hbl := m.old b (by rw [m.tag]; simp)
 have hgb : gg ≠ b := fun e => by
  rcases hat with h | h
  ·have := hv0 gg h; rw [e, m.tag] at this; injection this with this; injection this with this; omega
  ·omega
 have hgo : ∀ t, own gg = some t → t = (k + 10, 0, 0, 0) := fun t ht => by
  rcases hat with h | h
  ·have := hv0 gg h; rw [ht] at this; exact Option.some.inj this
  ·have := m.old gg (by rw [ht]; simp); omega
 have hblk : ∀ q, q < w.heap.size → some q ≠ (hs k).dv.ownBlock → w1.heap[q]? = w.heap[q]? := fun q hq hne => by rw [hgrow.block q (by omega) hne, hWb q hq]
 have hbn : some b ≠ (hs k).dv.ownBlock := fun e => by have := hv0 b e.symm; rw [m.tag] at this; injection this with this; injection this with this; omega
 obtain ⟨C, hC, hCz⟩ := m.root
 have hC1 : w1.heap[b]? = some (.cells C 84 (0, 0)) := by rw [hblk b hbl hbn]; exact hC
 have hC2 := heap_setCell_same w1 b (k * 12 + 1) C _ (.slice (some ⟨gg, 0, none⟩) ((hs k).done.length + 1) cap') hC1
 have hx : ∀ q t, own q = some t → ownAdd own gg (k + 10, 0, 0, 0) q = some t := fun q t hq => by
  unfold ownAdd
  split
  ·rename_i e; subst e; rw [hgo t hq]
  ·exact hq
 have hcell1 : ∀ o, w1.cell? ⟨b, o, none⟩ = w.cell? ⟨b, o, none⟩ := fun o => by unfold World.cell?; rw [hblk b hbl hbn]
 have hcell : ∀ o, o ≠ k * 12 + 1 → (w1.setCell ⟨b, k * 12 + 1, none⟩ (.slice (some ⟨gg, 0, none⟩) ((hs k).done.length + 1) cap')).cell? ⟨b, o, none⟩ = w.cell? ⟨b, o, none⟩ := fun o ho => by
  rw [World.cell?_setCell_other _ _ _ _ (by intro e; injection e with _ e; exact ho e.symm)]; exact hcell1 o
 refine ⟨updH hs k { hs k with dv := .slice (some ⟨gg, 0, none⟩) ((hs k).done.length + 1) cap', done := (hs k).done ++ [d] }, vals, ownAdd own gg (k + 10, 0, 0, 0), m.setHand hk _ hx ?_ ⟨_, hC2, by simp [hCz]⟩ ?_ ?_ ?_ ?_ ?_, ⟨hgrow.os.trans hWo, hgrow.tape.trans hWt, hgrow.output.trans hWp, by simpa using hsz, ?_, ?_⟩, hx, rfl, ⟨fun q hq => by unfold updH; rw [if_neg hq], by unfold updH; simp, by unfold updH; simp, by unfold updH; simp, by unfold updH; simp⟩⟩
 ·intro q hq hqb hqt
  rw [heap_setCell_ne _ _ _ _ _ hqb]
  exact hblk q (m.old q hq) (fun e => hqt (hv0 q e.symm))
 ·intro j u hj
  by_cases hj1 : j = 1
  ·subst hj1
   have : u = .slice (some ⟨gg, 0, none⟩) ((hs k).done.length + 1) cap' := by simpa [handC] using hj.symm
   rw [this, cell_of_row _ b _ _ _ _ hC2]
   rw [Array.getElem?_setIfInBounds, if_pos rfl, if_pos (by omega)]
  ·rw [hcell (k * 12 + j) (by omega)]
   refine m.hand k hk j u ?_
   rw [← hj]
   unfold handC
   match j, hj1 with
   | 0, _ => rfl
   | j + 2, _ => rfl
 ·intro o ho
  exact hcell o (by omega)
 ·refine ⟨?_, fun q hq => ?_⟩
  ·have e2 : ((hs k).done ++ [d]).length = (hs k).done.length + 1 := by simp
   rw [e2, List.flatMap_append]
   have := ownsRow_frame hown1 (w' := w1.setCell ⟨b, k * 12 + 1, none⟩ (.slice (some ⟨gg, 0, none⟩) ((hs k).done.length + 1) cap')) (fun q hq => heap_setCell_ne _ _ _ _ _ (by
    have : gg = q := by simpa [Value.ownBlock] using hq
    omega))
   simpa using this
  ·have : gg = q := by simpa [Value.ownBlock] using hq
   subst this
   unfold ownAdd; simp
 ·intro e he
  have key : ∀ q, own q = some (9, 0, 0, 0) → (w1.setCell ⟨b, k * 12 + 1, none⟩ (.slice (some ⟨gg, 0, none⟩) ((hs k).done.length + 1) cap')).heap[q]? = w.heap[q]? := fun q hq => by
   have hqb : q ≠ b := fun e => by rw [e, m.tag] at hq; cases hq
   rw [heap_setCell_ne _ _ _ _ _ hqb]
   exact hblk q (m.old q (by rw [hq]; simp)) (fun e => by have := hv0 q e.symm; rw [hq] at this; injection this with this; injection this with this; omega)
  rcases List.mem_append.1 he with he | he
  ·obtain ⟨a1, a2⟩ := m.kept k hk e he
   exact ⟨ownsRow_frame a1 (fun q hq => key q (a2 q hq)), fun q hq => hx q _ (a2 q hq)⟩
  ·simp only [List.mem_singleton] at he
   subst he
   exact ⟨ownsRow_frame hd (fun q hq => key q (hdo q hq)), fun q hq => hx q _ (hdo q hq)⟩
 ·intro q hq
  unfold ownAdd at hq
  split at hq
  ·rename_i e; subst e; simpa using hlt
  ·have := m.old q hq; simp; omega
 ·intro q hq hn
  have hqb : q ≠ b := fun e => by rw [e, m.tag] at hn; cases hn
  rw [heap_setCell_ne _ _ _ _ _ hqb]
  exact hblk q hq (fun e => by have := hv0 q e.symm; rw [hn] at this; cases this)
 ·intro q hq
  unfold ownAdd at hq
  split at hq
  ·rename_i e; subst e
   rcases hat with h | h
   ·left; rw [hv0 _ h]; simp
   ·right; omega
  ·exact .inl hq
theorem note_else (b k : Nat) (x : Stp) (a : Ans) (aq : Option Addr) (cq : Nat) (w : World) (hc : ¬ a.code = 0) :
  Calls Try.prog 63 #[.pointer (some ⟨b, k * 12, none⟩), .agg #[.int .i64 x.who.1, .int .i64 x.who.2.1, .int .i64 x.who.2.2, .int .i64 x.op, .int .i64 x.at_.1, .int .i64 x.at_.2, .int .i64 x.key, .int .i64 x.to_, .int .i64 x.value], .agg #[.int .i64 a.code, .int .i64 a.why, .slice aq a.items.length cq]] w fun e w' => e = .returned (.bool ((a.items.length : Int) == 0)) ∧ Below w.heap.size w w' := by
 have hcb : (a.code == 0) = false := by simpa using hc
 have hA : Below w.heap.size w ((w.alloc (.cells #[.int .i64 x.who.1, .int .i64 x.who.2.1, .int .i64 x.who.2.2, .int .i64 x.op, .int .i64 x.at_.1, .int .i64 x.at_.2, .int .i64 x.key, .int .i64 x.to_, .int .i64 x.value] 30)).alloc (.cells #[.int .i64 a.code, .int .i64 a.why, .slice aq a.items.length cq] 66)) := below2r
 clear hc
 cases hnb : ((a.items.length : Int) == 0) with
 | true =>
  go_enter Try.func63, Try.ntmps63
  go_wp2
  go_ret
  exact ⟨rfl, hA⟩
 | false =>
  go_enter Try.func63, Try.ntmps63
  go_wp2
  go_ret
  exact ⟨rfl, hA⟩
end Go.Proofs.Ytpbcplfpjcacfaa
