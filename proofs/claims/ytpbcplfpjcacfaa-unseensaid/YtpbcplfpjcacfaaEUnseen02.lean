import Derived.Test.YtpbcplfpjcacfaaEUnseen01
namespace Go.Proofs.Ytpbcplfpjcacfaa
open Go.RowKit
attribute [local go_sem ↓] Go.wp_at_zero Go.wp_at_succ
set_option maxRecDepth 100000
set_option maxHeartbeats 8000000
def domK (a b : Int) : Bool := decide (b / 8 ≤ a / 8) && (bits BinOp.or IntKind.i64 (a % 8) (b % 8) == a % 8)
theorem domK_yes {a b : Int} (h : b / 8 ≤ a / 8) : (bits BinOp.or IntKind.i64 (a % 8) (b % 8) == a % 8) = domK a b := by unfold domK; simp [h]
theorem domK_no {a b : Int} (h : ¬ b / 8 ≤ a / 8) : domK a b = false := by unfold domK; simp [h]
theorem dominatesK_any (a b : Int) (w : World) (h1 : 0 ≤ a ∧ a < 1000) (h2 : 0 ≤ b ∧ b < 1000) :
  Calls Try.prog 29 #[.int .i64 a, .int .i64 b] w fun e w' => e = .returned (.bool (domK a b)) ∧ w = w' := by
 obtain ⟨a1, a2⟩ := h1
 obtain ⟨b1, b2⟩ := h2
 by_cases h : b / 8 ≤ a / 8
 ·go_enter Try.func29, Try.ntmps29
  go_wp2
  go_ret
  exact ⟨ret_bool (domK_yes h), rfl⟩
 ·go_enter Try.func29, Try.ntmps29
  go_wp2
  go_ret
  exact ⟨ret_bool (domK_no (by omega)).symm, rfl⟩
theorem sameAnswer_is {a : Ans} {ao1 ao2 : Option Addr} {cap1 cap2 : Nat} {w : World} (h1 : isItems w (.slice ao1 a.items.length cap1) a.items) (h2 : isItems w (.slice ao2 a.items.length cap2) a.items) :
  Calls Try.prog 30 #[.agg #[.int .i64 a.code, .int .i64 a.why, .slice ao1 a.items.length cap1], .agg #[.int .i64 a.code, .int .i64 a.why, .slice ao2 a.items.length cap2]] w fun e w' => e = .returned (.bool true) ∧ Below w.heap.size w w' := by
 have hA : Below w.heap.size w ((w.alloc (.cells #[.int .i64 a.code, .int .i64 a.why, .slice ao1 a.items.length cap1] 66)).alloc (.cells #[.int .i64 a.code, .int .i64 a.why, .slice ao2 a.items.length cap2] 66)) := below2r
 have hs := ksameItems_any _ _ _ _ _ (isItems_kept h1 hA) (isItems_kept h2 hA)
 rw [decide_eq_true rfl] at hs
 have HS : Hid (type_of% hs) := hs
 clear hs h1 h2
 go_enter Try.func30, Try.ntmps30
 go_wp2_with fail
 refine HS.out.mono ?_
 rintro e w2 ⟨rfl, hb2⟩
 have hB2 : Below w.heap.size w w2 := hA.trans (hb2.mono hA.size)
 have c0 : w2.cell? ⟨w.heap.size, 0, none⟩ = some (.int .i64 a.code) := by rw [hb2.cell (p := ⟨w.heap.size, 0, none⟩) (by simp; omega), World.cell?_alloc_lt _ _ _ (by simp)]; simp
 have c1 : w2.cell? ⟨w.heap.size, 1, none⟩ = some (.int .i64 a.why) := by rw [hb2.cell (p := ⟨w.heap.size, 1, none⟩) (by simp; omega), World.cell?_alloc_lt _ _ _ (by simp)]; simp
 have c2 : w2.cell? ⟨w.heap.size + 1, 0, none⟩ = some (.int .i64 a.code) := by rw [hb2.cell (p := ⟨w.heap.size + 1, 0, none⟩) (by simp)]; simp
 have c3 : w2.cell? ⟨w.heap.size + 1, 1, none⟩ = some (.int .i64 a.why) := by rw [hb2.cell (p := ⟨w.heap.size + 1, 1, none⟩) (by simp)]; simp
 clear hb2 hA
 go_wp2
 go_ret
 exact ⟨rfl, hB2⟩
def TwoInv (P : Pgm) (B p1 p2 : Nat) (s1 s2 : P.S) (w : World) : Prop := ∃ o1 o2, P.Rep w p1 s1 o1 ∧ P.Rep w p2 s2 o2 ∧ (∀ k, o1 k ≠ none → o2 k = none) ∧ (∀ k, o1 k ≠ none → B ≤ k) ∧ ∀ k, o2 k ≠ none → B ≤ k
def lowB (kk : Int) (x : Stp) : Bool := decide (0 ≤ numZ x.who.1 x.who.2.1) && domK kk (numZ x.who.1 x.who.2.1)
def labK (n : Nat) : Lab := (((n / 8 : Nat) : Int), ((n % 8 : Nat) : Int))
theorem TwoInv.below {P : Pgm} {B p1 p2 : Nat} {s1 s2 : P.S} {w w' : World} (h : TwoInv P B p1 p2 s1 s2 w) (hb : Below w.heap.size w w') : TwoInv P B p1 p2 s1 s2 w' := by
 obtain ⟨o1, o2, a, b, c⟩ := h
 exact ⟨o1, o2, P.below a hb, P.below b hb, c⟩
structure Pgm.Unseens (P : Pgm) (s : P.S) (kk : Int) (script : List Stp) : Prop where
 ans : ∀ n x, script[n]? = some x → lowB kk x = true → (P.act (P.runs s (script.take n)) x).2 = (P.act (P.runs s ((script.take n).filter (lowB kk))) x).2
 look : ∀ n : Nat, n < 32 → domK kk (n : Int) = true → P.look (P.runs s script) (labK n) = P.look (P.runs s (script.filter (lowB kk))) (labK n)
theorem unseen_walk (P : Pgm) (k v c l : Int) (sv : Value) (script : List Stp) (w : World) (hk : i64B k) (hv : i64B v) (hc : i64B c) (hl : i64B l) (hsc : isSteps w sv script) (hlen : script.length + 1000 < 4398046511104)
  (s0 : P.S) (hs0 : s0 = P.start (1 + pickZ k 16) (1 + pickZ v 4) (1 + pickZ c 32)) (ho : P.Opens s0 (pickZ l 32 / 8, pickZ l 32 % 8, 0))
  (hun : P.Unseens (P.open3 s0 (pickZ l 32 / 8, pickZ l 32 % 8, 0)) (pickZ l 32) script) :
  Calls Try.prog 9 #[.agg #[.int .i64 k, .int .i64 v, .int .i64 c], .int .i64 l, sv] w fun e w' => e = .returned (.bool true) ∧ Below w.heap.size w w' := by
 obtain ⟨ao, cap, rfl, hmax, hel⟩ := hsc
 unfold maxLen at hmax
 have HE : Hid (type_of% hel) := hel
 have hmay := may_fits k v c
 have HF : Hid (∀ W, Calls Try.prog 25 #[.agg #[.int .i64 k, .int .i64 v, .int .i64 c]] W fun e w' => e = .returned (.agg #[.int .i64 (1 + pickZ k 16), .int .i64 (1 + pickZ v 4), .int .i64 (1 + pickZ c 32)]) ∧ Below W.heap.size W w') := fun W => fits_any k v c W hk hv hc
 obtain ⟨y1, y2⟩ := pickZ_range (c := l) (n := 32) (by decide)
 have HPK : Hid (∀ W, Calls Try.prog 23 #[.int .i64 l, .int .i64 32] W fun e w' => e = .returned (.int .i64 (pickZ l 32)) ∧ W = w') := fun W => pick_any l 32 W hl (by decide) (by decide)
 generalize pickZ l 32 = kk at *
 have HLB : Hid (∀ W, Calls Try.prog 24 #[.int .i64 kk] W fun e w' => e = .returned (.agg #[.int .i64 (kk / 8), .int .i64 (kk % 8)]) ∧ Below W.heap.size W w') := fun W => label_any _ W (by omega) (by omega)
 have HO : Hid (∀ W, Calls Try.prog 26 #[.agg #[.int .i64 (1 + pickZ k 16), .int .i64 (1 + pickZ v 4), .int .i64 (1 + pickZ c 32)], .agg #[.int .i64 (kk / 8), .int .i64 (kk % 8), .int .i64 0]] W (OpenPost P W (P.open3 s0 (kk / 8, kk % 8, 0)))) := fun W => by
  subst hs0
  exact opened_any P _ _ _ (kk / 8, kk % 8, 0) W hmay (labB_mk (by simp only; omega)) ho
 have HO0 : Hid (P.Ok 3 (P.open3 s0 (kk / 8, kk % 8, 0))) := by
  have := P.open3_ok (kk / 8, kk % 8, 0) (P.okStart hmay)
  unfold Hid
  rw [hs0]; exact this
 generalize P.open3 s0 (kk / 8, kk % 8, 0) = s3 at *
 have HUN : Hid (P.Unseens s3 kk script) := hun
 generalize 1 + pickZ k 16 = fk at *
 generalize 1 + pickZ v 4 = fv at *
 generalize 1 + pickZ c 32 = fc at *
 obtain ⟨la, hla⟩ : ∃ z, z = kk / 8 := ⟨_, rfl⟩
 obtain ⟨lb, hlb⟩ : ∃ z, z = kk % 8 := ⟨_, rfl⟩
 rw [← hla, ← hlb] at HLB HO
 clear hel hs0 ho hk hv hc hun hmay hl hla hlb
 go_enter Try.func9, Try.ntmps9
 go_wp2_with fail
 refine (HPK.out _).mono ?_
 rintro e wq ⟨rfl, hqq⟩
 subst hqq
 go_wp2_with fail
 refine (HLB.out _).mono ?_
 rintro e w1 ⟨rfl, hb1⟩
 have hA1 : Below w.heap.size w (w.alloc (.cells #[.int .i64 k, .int .i64 v, .int .i64 c] 23)) := (Below.refl _ _).alloc (Nat.le_refl _) _
 have HB1 : Hid (Below w.heap.size w w1) := hA1.trans (hb1.mono hA1.size)
 have c0 : w1.cell? ⟨w.heap.size, 0, none⟩ = some (.int .i64 k) := by rw [hb1.cell (p := ⟨w.heap.size, 0, none⟩) (by simp)]; simp
 have c1 : w1.cell? ⟨w.heap.size, 1, none⟩ = some (.int .i64 v) := by rw [hb1.cell (p := ⟨w.heap.size, 1, none⟩) (by simp)]; simp
 have c2 : w1.cell? ⟨w.heap.size, 2, none⟩ = some (.int .i64 c) := by rw [hb1.cell (p := ⟨w.heap.size, 2, none⟩) (by simp)]; simp
 have z1 : w.heap.size < w1.heap.size := by have := hb1.size; simp at this; omega
 clear hb1 hA1
 go_wp2_with fail
 refine (HF.out _).mono ?_
 rintro e w2 ⟨rfl, hb2⟩
 have hA2 : Below w1.heap.size w1 (w1.alloc (.cells #[.int .i64 la, .int .i64 lb, .int .i64 0] 28)) := (Below.refl _ _).alloc (Nat.le_refl _) _
 have hB2' : Below w1.heap.size w1 w2 := hA2.trans (hb2.mono hA2.size)
 have HB2 : Hid (Below w.heap.size w w2) := HB1.out.trans (hB2'.mono HB1.out.size)
 have hY2 : w2.heap[w1.heap.size]? = some (.cells #[.int .i64 la, .int .i64 lb, .int .i64 0] 28 (0, 0)) := by
  rw [hb2.block _ (by simp)]; exact heap_alloc_new w1 _
 generalize hgw : w1.heap.size = gw at *
 have zg2 : gw < w2.heap.size := (Array.getElem?_eq_some_iff.1 hY2).1
 have HY2 : Hid (type_of% hY2) := hY2
 have Hz1 : Hid (w.heap.size < gw) := z1
 clear hb2 hA2 hB2' c0 c1 c2 hY2 hgw z1
 obtain ⟨c0, c1, c2, _, _, _⟩ := ans_cells HY2.out
 go_upto_region 4 with fail
 have hBf : Below w2.heap.size w2 (w2.alloc (.cells #[.int .i64 fk, .int .i64 fv, .int .i64 fc] 23)) := (Below.refl _ _).alloc (Nat.le_refl _) _
 have hXf : (w2.alloc (.cells #[.int .i64 fk, .int .i64 fv, .int .i64 fc] 23)).heap[w2.heap.size]? = some (.cells #[.int .i64 fk, .int .i64 fv, .int .i64 fc] 23 (0, 0)) := heap_alloc_new w2 _
 have hYf : (w2.alloc (.cells #[.int .i64 fk, .int .i64 fv, .int .i64 fc] 23)).heap[gw]? = _ := (hBf.block gw zg2).trans HY2.out
 generalize hgf : w2.heap.size = gf at *
 generalize w2.alloc (.cells #[.int .i64 fk, .int .i64 fv, .int .i64 fc] 23) = wF at *
 have HBf : Hid (Below w.heap.size w wF) := HB2.out.trans (hBf.mono (by have := HB2.out.size; omega))
 have HYf : Hid (type_of% hYf) := hYf
 have HXf : Hid (type_of% hXf) := hXf
 have zgf : gf < wF.heap.size := (Array.getElem?_eq_some_iff.1 hXf).1
 have Hgg : Hid (gw < gf) := zg2
 have zgw : gw < wF.heap.size := by omega
 clear c0 c1 c2 hBf hXf hYf hgf zg2
 obtain ⟨c0, c1, c2, _, _, _⟩ := ans_cells HYf.out
 obtain ⟨f0, f1, f2, _, _, _⟩ := ans_cells HXf.out
 go_wp2_with fail
 refine (HO.out _).mono ?_
 rintro e w3 ⟨p1, o1, rfl, hb3, hfr1, hrep1⟩
 have HB3 : Hid (Below w.heap.size w w3) := HBf.out.trans (hb3.mono HBf.out.size)
 have HY3 : Hid (w3.heap[gw]? = _) := (hb3.block gw zgw).trans HYf.out
 have HX3 : Hid (w3.heap[gf]? = _) := (hb3.block gf zgf).trans HXf.out
 have HR1 : Hid (P.Rep w3 p1 s3 o1) := hrep1
 have HF1 : Hid (∀ q, o1 q ≠ none → gf + 1 ≤ q) := fun q hq => by have := hfr1 q hq; omega
 have zw3 : gw < w3.heap.size := (Array.getElem?_eq_some_iff.1 HY3.out).1
 have zf3 : gf < w3.heap.size := (Array.getElem?_eq_some_iff.1 HX3.out).1
 clear c0 c1 c2 f0 f1 f2 hb3 hfr1 hrep1
 obtain ⟨c0, c1, c2, _, _, _⟩ := ans_cells HY3.out
 obtain ⟨f0, f1, f2, _, _, _⟩ := ans_cells HX3.out
 go_wp2_with fail
 refine (HO.out _).mono ?_
 rintro e w4 ⟨p2, o2, rfl, hb4, hfr2, hrep2⟩
 have HB4 : Hid (Below w.heap.size w w4) := HB3.out.trans (hb4.mono HB3.out.size)
 have II : Hid (TwoInv P (w.heap.size) p1 p2 (P.runs s3 (script.take 0)) (P.runs s3 ((script.take 0).filter (lowB kk))) w4) := by
  have hwz := Hz1.out
  have hgg := Hgg.out
  refine ⟨o1, o2, P.below HR1.out hb4, hrep2, fun q hq => ?_, fun q hq => by have := HF1.out q hq; omega, fun q hq => by have := hfr2 q hq; omega⟩
  cases h2 : o2 q with
  | none => rfl
  | some t => have := hfr2 q (by rw [h2]; simp); have := P.old HR1.out q hq; omega
 clear c0 c1 c2 f0 f1 f2 hb4 hfr2 hrep2
 go_wp2_with fail
 go_loopw [14] (fun i wr => ∃ n : Nat, n ≤ script.length ∧ i = .int .i64 n ∧ Hid (TwoInv P (w.heap.size) p1 p2 (P.runs s3 (script.take n)) (P.runs s3 ((script.take n).filter (lowB kk))) wr) ∧ Hid (Below w.heap.size w wr)) (fun i _ => script.length - (intOf i).toNat)
 case atStart => exact ⟨0, Nat.zero_le _, rfl, II, HB4⟩
 case round =>
  obtain ⟨n, hn, rfl, In, hB⟩ := hrel
  have hz := hB.out.size
  by_cases hlt : n < script.length
  ·have hg := List.getElem?_eq_getElem hlt
   generalize script[n] = x at hg
   obtain ⟨b, off, rfl, hbl, hrg⟩ := HE.out n x hg
   have hrg' : wr.rangeAt b (off + n * 9) [.int .i64 x.who.1, .int .i64 x.who.2.1, .int .i64 x.who.2.2, .int .i64 x.op, .int .i64 x.at_.1, .int .i64 x.at_.2, .int .i64 x.key, .int .i64 x.to_, .int .i64 x.value] := rangeAt_below hrg hB.out hbl
   have zn : (n : Int) < (script.length : Int) := by omega
   have HST : Hid ((script.take (n + 1)).filter (lowB kk) = (script.take n).filter (lowB kk) ++ (if lowB kk x then [x] else [])) := by
    unfold Hid
    rw [take_snoc hg, List.filter_append]
    cases h : lowB kk x <;> simp [h]
   have HST1 : Hid (script.take (n + 1) = script.take n ++ [x]) := take_snoc hg
   have HAN : Hid (lowB kk x = true → (P.act (P.runs s3 (script.take n)) x).2 = (P.act (P.runs s3 ((script.take n).filter (lowB kk))) x).2) := HUN.out.ans n x hg
   have HOK1 : P.Ok (3 + n) (P.runs s3 (script.take n)) := by
    have h1 := P.runs_ok (script.take n) HO0.out
    rw [List.length_take, Nat.min_eq_left hn] at h1
    exact h1
   have HOK2 : P.Ok (3 + n) (P.runs s3 ((script.take n).filter (lowB kk))) := by
    have h2 : ((script.take n).filter (lowB kk)).length ≤ n := by
     refine Nat.le_trans (List.length_filter_le _ _) ?_
     rw [List.length_take]; exact Nat.min_le_left _ _
    exact P.okLe (by omega) (P.runs_ok ((script.take n).filter (lowB kk)) HO0.out)
   obtain ⟨o1', o2', hr1, hr2, hdis, hg1, hg2⟩ := In.out
   obtain ⟨ra, ea⟩ : ∃ r, r = P.act (P.runs s3 (script.take n)) x := ⟨_, rfl⟩
   obtain ⟨rb, eb⟩ : ∃ r, r = P.act (P.runs s3 ((script.take n).filter (lowB kk))) x := ⟨_, rfl⟩
   rw [← ea, ← eb] at HAN
   have HS1 : Hid (P.runs s3 (script.take (n + 1)) = ra.1) := by unfold Hid; rw [HST1.out, P.runs_snoc, ea]
   have HT1 : Hid (lowB kk x = true → P.runs s3 ((script.take (n + 1)).filter (lowB kk)) = rb.1) := fun h => by rw [HST.out, h, if_pos rfl, P.runs_snoc, eb]
   have HT0 : Hid (lowB kk x = false → P.runs s3 ((script.take (n + 1)).filter (lowB kk)) = P.runs s3 ((script.take n).filter (lowB kk))) := fun h => by rw [HST.out, h]; simp
   have HD1 : Hid (∀ W, P.Rep W p1 (P.runs s3 (script.take n)) o1' → Calls Try.prog 28 #[.pointer (some ⟨p1, 0, none⟩), .agg #[.int .i64 x.who.1, .int .i64 x.who.2.1, .int .i64 x.who.2.2, .int .i64 x.op, .int .i64 x.at_.1, .int .i64 x.at_.2, .int .i64 x.key, .int .i64 x.to_, .int .i64 x.value]] W (APost o1' W (fun w' o' => P.Rep w' p1 ra.1 o') ra.2)) := by
    intro W h; have := P.doAny x h HOK1 (by omega); rw [← ea] at this; exact this
   have HD2 : Hid (∀ W, P.Rep W p2 (P.runs s3 ((script.take n).filter (lowB kk))) o2' → Calls Try.prog 28 #[.pointer (some ⟨p2, 0, none⟩), .agg #[.int .i64 x.who.1, .int .i64 x.who.2.1, .int .i64 x.who.2.2, .int .i64 x.op, .int .i64 x.at_.1, .int .i64 x.at_.2, .int .i64 x.key, .int .i64 x.to_, .int .i64 x.value]] W (APost o2' W (fun w' o' => P.Rep w' p2 rb.1 o') rb.2)) := by
    intro W h; have := P.doAny x h HOK2 (by omega); rw [← eb] at this; exact this
   have Hr1 : Hid (P.Rep wr p1 (P.runs s3 (script.take n)) o1') := hr1
   have Hr2 : Hid (P.Rep wr p2 (P.runs s3 ((script.take n).filter (lowB kk))) o2') := hr2
   have HDI : Hid (∀ q, o1' q ≠ none → o2' q = none) := hdis
   have HDJ : Hid (∀ q, o2' q ≠ none → o1' q = none) := fun q hq => by
    cases h1 : o1' q with
    | none => rfl
    | some t => exact absurd (hdis q (by rw [h1]; simp)) hq
   have HG1 : Hid (∀ q, o1' q ≠ none → w.heap.size ≤ q) := hg1
   have HG2 : Hid (∀ q, o2' q ≠ none → w.heap.size ≤ q) := hg2
   clear hrg hg ea eb hr1 hr2 hdis hg1 hg2 HOK1 HOK2
   go_wp2_with (first | (refine wpList_load_mid rfl 30 _ rfl b (off + n * 9) rfl _ _ hrg' Try.underlying30 rfl sizeStep ?_))
   have hA : Below wr.heap.size wr (wr.alloc (.cells #[.int .i64 x.who.1, .int .i64 x.who.2.1, .int .i64 x.who.2.2, .int .i64 x.op, .int .i64 x.at_.1, .int .i64 x.at_.2, .int .i64 x.key, .int .i64 x.to_, .int .i64 x.value] 30)) := (Below.refl _ _).alloc (Nat.le_refl _) _
   have hX : (wr.alloc (.cells #[.int .i64 x.who.1, .int .i64 x.who.2.1, .int .i64 x.who.2.2, .int .i64 x.op, .int .i64 x.at_.1, .int .i64 x.at_.2, .int .i64 x.key, .int .i64 x.to_, .int .i64 x.value] 30)).heap[wr.heap.size]? = some (.cells #[.int .i64 x.who.1, .int .i64 x.who.2.1, .int .i64 x.who.2.2, .int .i64 x.op, .int .i64 x.at_.1, .int .i64 x.at_.2, .int .i64 x.key, .int .i64 x.to_, .int .i64 x.value] 30 (0, 0)) := heap_alloc_new wr _
   refine (number_any x.who.1 x.who.2.1 _).mono ?_
   rintro e wN ⟨rfl, hbN⟩
   have hBN : Below wr.heap.size wr wN := hA.trans (hbN.mono hA.size)
   have hXN : wN.heap[wr.heap.size]? = _ := (hbN.block wr.heap.size (by simp)).trans hX
   have HBN : Hid (Below wr.heap.size wr wN) := hBN
   have HXN : Hid (type_of% hXN) := hXN
   have zxN : wr.heap.size < wN.heap.size := (Array.getElem?_eq_some_iff.1 hXN).1
   have HRN1 : Hid (P.Rep wN p1 (P.runs s3 (script.take n)) o1') := P.below Hr1.out hBN
   have HRN2 : Hid (P.Rep wN p2 (P.runs s3 ((script.take n).filter (lowB kk))) o2') := P.below Hr2.out hBN
   have hno1 : Hid (o1' wr.heap.size = none) := by
    unfold Hid
    cases h1 : o1' wr.heap.size with
    | none => rfl
    | some t => exact absurd (P.old Hr1.out _ (by rw [h1]; simp)) (Nat.lt_irrefl _)
   have hno2 : Hid (o2' wr.heap.size = none) := by
    unfold Hid
    cases h1 : o2' wr.heap.size with
    | none => rfl
    | some t => exact absurd (P.old Hr2.out _ (by rw [h1]; simp)) (Nat.lt_irrefl _)
   clear hA hX hbN hBN hXN
   generalize hgx : wr.heap.size = gx at *
   obtain ⟨k0, k1, k2, k3, k4, k5, k6, k7, k8, _⟩ := step9_cells HXN.out
   go_wp2_with fail
   refine (HD1.out _ HRN1.out).mono ?_
   rintro e q1 h1
   obtain ⟨ao1, cap1, own1, rfl, hrow1, hrep1, hchg1, hv1⟩ := h1.mk'
   have A1 := Answered.late (Below.refl wN.heap.size wN) P.frame P.old hrow1 hrep1 hchg1 hv1
   clear hrow1 hrep1 hchg1 hv1 h1 k0 k1 k2 k3 k4 k5 k6 k7 k8
   unfold ansV
   go_upto_region 14 with fail
   generalize hb1 : q1.heap.size = b1 at *
   generalize hW1 : q1.alloc (.cells #[.int .i64 ra.2.code, .int .i64 ra.2.why, .slice ao1 ra.2.items.length cap1] 66) = W1 at *
   have HX1 : Hid (W1.heap[gx]? = _) := (A1.chg.block gx zxN hno1.out).trans HXN.out
   have HA1 : Hid (type_of% A1) := A1
   have s1 := A1.chg.size
   have HR12 : Hid (P.Rep W1 p2 (P.runs s3 ((script.take n).filter (lowB kk))) o2') := P.frame HRN2.out (fun q hq => A1.chg.block q (P.old HRN2.out q hq) (HDJ.out q hq)) s1
   have HD12 : Hid (∀ q, own1 q ≠ none → o2' q = none) := fun q hq => by
    rcases A1.chg.fresh q hq with h | h
    ·exact HDI.out q h
    ·cases h2 : o2' q with
     | none => rfl
     | some t => have := P.old HRN2.out q (by rw [h2]; simp); omega
   have HGo1 : Hid (∀ q, own1 q ≠ none → w.heap.size ≤ q) := fun q hq => by
    rcases A1.chg.fresh q hq with h | h
    ·exact HG1.out q h
    ·omega
   have HBW1 : Hid (Below w.heap.size w W1) := (hB.out.trans (HBN.out.mono hz)).trans (chgD_below' A1.chg HG1.out (by omega))
   have hv2 : ∀ q, (Value.slice ao1 ra.2.items.length cap1).ownBlock = some q → o2' q = none := fun q hq => by
    rcases (A1.out q hq).2.1 with h | h
    ·exact HDI.out q h
    ·cases h2 : o2' q with
     | none => rfl
     | some t => have := P.old HRN2.out q (by rw [h2]; simp); omega
   have HV2 : Hid (type_of% hv2) := hv2
   have hb1o : o2' b1 = none := by
    cases h2 : o2' b1 with
    | none => rfl
    | some t => have := P.old HRN2.out b1 (by rw [h2]; simp); have := A1.new; omega
   have Hb1o : Hid (o2' b1 = none) := hb1o
   clear A1 hb1 hW1 hv2 hb1o
   have hlow : lowB kk x = (decide (0 ≤ numZ x.who.1 x.who.2.1) && domK kk (numZ x.who.1 x.who.2.1)) := rfl
   have hnr : numZ x.who.1 x.who.2.1 < 32 := by
    unfold numZ
    split
    ·rename_i hh; have := labB_t hh; omega
    ·omega
   generalize numZ x.who.1 x.who.2.1 = nz at *
   have fin0 : lowB kk x = false → Hid (TwoInv P w.heap.size p1 p2 (P.runs s3 (script.take (n + 1))) (P.runs s3 ((script.take (n + 1)).filter (lowB kk))) W1) := fun h => ⟨own1, o2', by rw [HS1.out]; exact HA1.out.rep, by rw [HT0.out h]; exact HR12.out, HD12.out, HGo1.out, HG2.out⟩
   by_cases hn0 : 0 ≤ nz
   ·have hdk := fun W => dominatesK_any kk nz W ⟨y1, by omega⟩ ⟨hn0, by omega⟩
    cases hdm : domK kk nz with
    | false =>
     have I1 := fin0 (by rw [hlow, hdm]; simp)
     rw [hdm] at hdk
     clear hlow fin0 hdm
     go_wp2_with fail
     refine (hdk _).mono ?_
     rintro e wq ⟨rfl, hqq⟩
     subst hqq
     go_wp2
     go_roundw
     case rel => exact ⟨n + 1, by omega, by go_num, I1, HBW1⟩
     case measure => simp [intOf]; omega
    | true =>
     have hlt' : lowB kk x = true := by rw [hlow, hdm, decide_eq_true hn0]; rfl
     have heq := HAN.out hlt'
     have HT1' : Hid (P.runs s3 ((script.take (n + 1)).filter (lowB kk)) = rb.1) := HT1.out hlt'
     rw [hdm] at hdk
     have HEQ : Hid (ra.2 = rb.2) := heq
     clear hlow fin0 hdm heq hlt'
     go_wp2_with fail
     refine (hdk _).mono ?_
     rintro e wq ⟨rfl, hqq⟩
     subst hqq
     obtain ⟨k0, k1, k2, k3, k4, k5, k6, k7, k8, _⟩ := step9_cells HX1.out
     have zx1 : gx < W1.heap.size := (Array.getElem?_eq_some_iff.1 HX1.out).1
     go_wp2_with fail
     refine (HD2.out _ HR12.out).mono ?_
     rintro e q2 h2
     obtain ⟨ao2, cap2, own2, rfl, hrow2, hrep2, hchg2, hv2⟩ := h2.mk'
     have A2 := Answered.late (Below.refl W1.heap.size W1) P.frame P.old hrow2 hrep2 hchg2 hv2
     clear hrow2 hrep2 hchg2 hv2 h2 k0 k1 k2 k3 k4 k5 k6 k7 k8
     unfold ansV
     go_upto_region 16 with fail
     generalize hb2 : q2.heap.size = b2 at *
     generalize hW2 : q2.alloc (.cells #[.int .i64 rb.2.code, .int .i64 rb.2.why, .slice ao2 rb.2.items.length cap2] 66) = W2 at *
     have l1 : b1 < W1.heap.size := (Array.getElem?_eq_some_iff.1 HA1.out.blk).1
     have m1 : W2.heap[b1]? = _ := (A2.chg.block b1 l1 Hb1o.out).trans HA1.out.blk
     have m2 := A2.blk
     have hrwa : W2.ownsRow 0 94 2 (.slice ao1 ra.2.items.length cap1) ra.2.items.length (itemsV ra.2.items) := ownsRow_frame HA1.out.row (fun q hq => A2.chg.block q (ownsRow_lt HA1.out.row q hq) (HV2.out q hq))
     have hrwb := A2.row
     rw [← HEQ.out] at m2 hrwb
     obtain ⟨d0, d1, d2, _, _, _⟩ := ans_cells m1
     obtain ⟨f0, f1, f2, _, _, _⟩ := ans_cells m2
     have hs := sameAnswer_is (ownsRow_items hrwa) (ownsRow_items hrwb)
     have HS : Hid (type_of% hs) := hs
     have s2 := A2.chg.size
     have I2 : Hid (TwoInv P w.heap.size p1 p2 (P.runs s3 (script.take (n + 1))) (P.runs s3 ((script.take (n + 1)).filter (lowB kk))) W2) := by
      refine ⟨own1, own2, by rw [HS1.out]; exact P.frame HA1.out.rep (fun q hq => A2.chg.block q (P.old HA1.out.rep q hq) (HD12.out q hq)) s2, by rw [HT1'.out]; exact A2.rep, fun q hq => A2.chg.off (HD12.out q hq) (P.old HA1.out.rep q hq), HGo1.out, fun q hq => ?_⟩
      rcases A2.chg.fresh q hq with h | h
      ·exact HG2.out q h
      ·have := HBW1.out.size; omega
     have HBW2 : Hid (Below w.heap.size w W2) := HBW1.out.trans (chgD_below' A2.chg HG2.out HBW1.out.size)
     clear A2 hb2 hW2 m1 m2 hrwa hrwb hs l1
     go_wp2_with fail
     refine HS.out.mono ?_
     rintro e w9 ⟨rfl, hb9⟩
     have I9 : Hid (TwoInv P w.heap.size p1 p2 (P.runs s3 (script.take (n + 1))) (P.runs s3 ((script.take (n + 1)).filter (lowB kk))) w9) := I2.out.below hb9
     have HB9 : Hid (Below w.heap.size w w9) := HBW2.out.trans (hb9.mono HBW2.out.size)
     clear hb9 d0 d1 d2 f0 f1 f2
     go_wp2
     go_roundw
     case rel => exact ⟨n + 1, by omega, by go_num, I9, HB9⟩
     case measure => simp [intOf]; omega
   ·have I1 := fin0 (by rw [hlow, decide_eq_false hn0]; rfl)
    clear hlow fin0
    go_wp2
    go_roundw
    case rel => exact ⟨n + 1, by omega, by go_num, I1, HBW1⟩
    case measure => simp [intOf]; omega
  ·have e : n = script.length := by omega
   subst e
   have hIn := In.out
   rw [List.take_length] at hIn
   have HIn : Hid (type_of% hIn) := hIn
   have HOK1 : Hid (P.Ok (3 + script.length) (P.runs s3 script)) := P.runs_ok script HO0.out
   have HOK2 : Hid (P.Ok (3 + script.length) (P.runs s3 (script.filter (lowB kk)))) := P.okLe (Nat.add_le_add_left (List.length_filter_le _ _) 3) (P.runs_ok (script.filter (lowB kk)) HO0.out)
   have HLK : Hid (∀ n : Nat, n < 32 → domK kk (n : Int) = true → P.look (P.runs s3 script) (labK n) = P.look (P.runs s3 (script.filter (lowB kk))) (labK n)) := HUN.out.look
   generalize P.runs s3 script = sE at *
   generalize P.runs s3 (script.filter (lowB kk)) = tE at *
   clear hIn In
   go_wp2_with fail
   go_loopw [20] (fun i wq => ∃ m : Nat, m ≤ 32 ∧ i = .int .i64 m ∧ Hid (TwoInv P (w.heap.size) p1 p2 sE tE wq) ∧ Hid (Below w.heap.size w wq)) (fun i _ => 32 - (intOf i).toNat)
   case atStart => exact ⟨0, Nat.zero_le _, rfl, HIn, hB⟩
   case round =>
    obtain ⟨m, hm, rfl, Im, hBm⟩ := hrel
    have hzm := hBm.out.size
    by_cases hlm : m < 32
    ·have hdk := fun W => dominatesK_any kk (m : Int) W ⟨y1, by omega⟩ ⟨by omega, by omega⟩
     cases hdm : domK kk (m : Int) with
     | false =>
      rw [hdm] at hdk
      clear hdm
      go_wp2_with fail
      refine (hdk _).mono ?_
      rintro e wq2 ⟨rfl, hqq⟩
      subst hqq
      go_wp2
      go_roundw
      case rel => exact ⟨m + 1, by omega, by go_num, Im, hBm⟩
      case measure => simp [intOf]; omega
     | true =>
      have hlk := HLK.out m hlm hdm
      rw [hdm] at hdk
      obtain ⟨o1, o2, hr1, hr2, _, _, _⟩ := Im.out
      have hll : labB ((m : Int) / 8) ((m : Int) % 8) = true := labB_mk (by omega)
      have hlk' : P.look sE ((m : Int) / 8, (m : Int) % 8) = P.look tE ((m : Int) / 8, (m : Int) % 8) := by
       have : labK m = ((m : Int) / 8, (m : Int) % 8) := by unfold labK; simp
       rw [← this]; exact hlk
      have hlb := fun W => label_any (m : Int) W (by omega) (by omega)
      have HL1 : Hid (∀ W, Below wr.heap.size wr W → True) := fun _ _ => trivial
      have H1 : Hid (∀ W, P.Rep W p1 sE o1 → Calls Try.prog 31 #[.pointer (some ⟨p1, 0, none⟩), .agg #[.int .i64 ((m : Int) / 8), .int .i64 ((m : Int) % 8)]] W fun e w' => ∃ v, e = .returned (.tuple #[v, .int .i64 0]) ∧ w'.ownsRow W.heap.size 94 2 v (P.look tE ((m : Int) / 8, (m : Int) % 8)).length (itemsV (P.look tE ((m : Int) / 8, (m : Int) % 8))) ∧ Below W.heap.size W w') := by
       intro W h; have := P.lookYes ((m : Int) / 8) ((m : Int) % 8) h HOK1.out hll; rw [hlk'] at this; exact this
      have H2 : Hid (∀ W, P.Rep W p2 tE o2 → Calls Try.prog 31 #[.pointer (some ⟨p2, 0, none⟩), .agg #[.int .i64 ((m : Int) / 8), .int .i64 ((m : Int) % 8)]] W fun e w' => ∃ v, e = .returned (.tuple #[v, .int .i64 0]) ∧ w'.ownsRow W.heap.size 94 2 v (P.look tE ((m : Int) / 8, (m : Int) % 8)).length (itemsV (P.look tE ((m : Int) / 8, (m : Int) % 8))) ∧ Below W.heap.size W w') := by
       intro W h; exact P.lookYes ((m : Int) / 8) ((m : Int) % 8) h HOK2.out hll
      have Hr1 : Hid (type_of% hr1) := hr1
      have Hr2 : Hid (type_of% hr2) := hr2
      clear hdm hlk hlk' hll hr1 hr2 HL1
      go_wp2_with fail
      refine (hdk _).mono ?_
      rintro e wq2 ⟨rfl, hqq⟩
      subst hqq
      go_wp2_with fail
      refine (hlb _).mono ?_
      rintro e u1 ⟨rfl, hbu1⟩
      go_wp2_with fail
      refine (H1.out _ (P.below Hr1.out hbu1)).mono ?_
      rintro e u2 ⟨v1, rfl, hv1, hbu2⟩
      have t2 := hbu1.trans (hbu2.mono hbu1.size)
      go_wp2_with fail
      refine (hlb _).mono ?_
      rintro e u3 ⟨rfl, hbu3⟩
      have t3 := t2.trans (hbu3.mono t2.size)
      go_wp2_with fail
      refine (H2.out _ (P.below Hr2.out t3)).mono ?_
      rintro e u4 ⟨v2, rfl, hv2, hbu4⟩
      have t4 := t3.trans (hbu4.mono t3.size)
      have i1 : isItems u4 v1 _ := isItems_kept (isItems_kept (ownsRow_items hv1) hbu3) hbu4
      have hs := ksameItems_any _ _ _ _ u4 i1 (ownsRow_items hv2)
      rw [decide_eq_true rfl] at hs
      have HS : Hid (type_of% hs) := hs
      have I4 : Hid (TwoInv P (w.heap.size) p1 p2 sE tE u4) := Im.out.below t4
      have HB4 : Hid (Below w.heap.size w u4) := hBm.out.trans (t4.mono hzm)
      clear hs i1 hv1 hv2 t2 t3 t4 hbu1 hbu2 hbu3 hbu4 hlb hdk
      go_wp2_with fail
      refine HS.out.mono ?_
      rintro e u5 ⟨rfl, hb5⟩
      have I5 : Hid (TwoInv P (w.heap.size) p1 p2 sE tE u5) := I4.out.below hb5
      have HB5 : Hid (Below w.heap.size w u5) := HB4.out.trans (hb5.mono HB4.out.size)
      clear hb5
      go_wp2
      go_roundw
      case rel => exact ⟨m + 1, by omega, by go_num, I5, HB5⟩
      case measure => simp [intOf]; omega
    ·go_wp2
     go_ret
     exact ⟨rfl, hBm.out⟩
end Go.Proofs.Ytpbcplfpjcacfaa
namespace Go.Proofs.Ytpbcplfpjcacfaa
open Go.RowKit
set_option maxRecDepth 100000
set_option maxHeartbeats 8000000
structure PLow (z : Nat → Bool) (s t : PS) : Prop where
 k : s.k = t.k
 v : s.v = t.v
 c : s.c = t.c
 tr : ∀ q, q < 32 → z q = true → s.t q = t.t q
theorem PLow.refl {z : Nat → Bool} (s : PS) : PLow z s s := ⟨rfl, rfl, rfl, fun _ _ _ => rfl⟩
theorem PLow.symm {z : Nat → Bool} {s t : PS} (h : PLow z s t) : PLow z t s := ⟨h.k.symm, h.v.symm, h.c.symm, fun q a b => (h.tr q a b).symm⟩
theorem PLow.trans {z : Nat → Bool} {s t u : PS} (h : PLow z s t) (g : PLow z t u) : PLow z s u := ⟨h.k.trans g.k, h.v.trans g.v, h.c.trans g.c, fun q a b => (h.tr q a b).trans (g.tr q a b)⟩
def lkGood (q : Nat) (l : Lk) : Prop := labB l.at_.1 l.at_.2 = true ∧ domB (labOf q).1 (labOf q).2 l.at_.1 l.at_.2 = true ∧ (l.wr = true → l.at_ = labOf q)
def sesGood (q : Nat) (s : Ses) : Prop := (∀ l ∈ s.locks, lkGood q l) ∧ lkGood q (lkOf s.req)
def trGood (q : Nat) (t : Tr) : Prop := ∀ n, sesGood q (t.ses n)
def PDm (s : PS) : Prop := ∀ q, q < 32 → trGood q (s.t q)
def DownZ (z : Nat → Bool) : Prop := ∀ (q : Nat) (a : Lab), q < 32 → labB a.1 a.2 = true → domB (labOf q).1 (labOf q).2 a.1 a.2 = true → z q = true → z (plOf a) = true
theorem dom_least : ∀ q : Nat, q < 32 → domB (labOf q).1 (labOf q).2 0 0 = true := by decide
theorem lk0_good {q : Nat} (hq : q < 32) : lkGood q (lkOf stp0) := ⟨by decide, dom_least q hq, fun h => by simp [lkOf, stp0] at h⟩
theorem ses0_good {q : Nat} (hq : q < 32) : sesGood q ses0 := ⟨fun l hl => by simp [ses0] at hl, lk0_good hq⟩
theorem trGood.setS {q n : Nat} {t : Tr} (h : trGood q t) {x : Ses} (hx : sesGood q x) : trGood q (t.setS n x) := by
 intro m
 show sesGood q (upd t.ses n x m)
 by_cases e : m = n
 ·subst e; rw [upd_same]; exact hx
 ·rw [upd_ne _ _ e]; exact h m
theorem trGood.endT {q : Nat} {t : Tr} (h : trGood q t) (hq : q < 32) (n : Nat) : trGood q (t.endT n) := fun m => (h.setS (ses0_good hq) : trGood q (t.setS n ses0)) m
theorem trGood.forceT {q : Nat} {t : Tr} (h : trGood q t) (hq : q < 32) (n : Nat) (w : Int) : trGood q (t.forceT n w) := (h.endT hq n).setS ⟨fun l hl => by simp [ses0] at hl, lk0_good hq⟩
theorem trGood.preTo {q : Nat} {t : Tr} (h : trGood q t) (hq : q < 32) (r : Lk) : ∀ k, trGood q (t.preTo r k)
 | 0 => h
 | k + 1 => by
  unfold Tr.preTo
  split
  ·exact (trGood.preTo h hq r k).forceT hq k 1
  ·exact trGood.preTo h hq r k
theorem trGood.leaveT {q : Nat} {t : Tr} (h : trGood q t) (hq : q < 32) (n : Nat) : trGood q (t.leaveT n) := fun m => (h.setS (x := { t.ses n with req := stp0 }) ⟨(h n).1, lk0_good hq⟩ : trGood q (t.setS n _)) m
theorem trGood.joinT {q : Nat} {t : Tr} (h : trGood q t) (n : Nat) {x : Stp} (hx : lkGood q (lkOf x)) : trGood q (t.joinT n x) := fun m => (h.setS (x := { t.ses n with req := x }) ⟨(h n).1, hx⟩ : trGood q (t.setS n _)) m
theorem PDm.setT {s : PS} (h : PDm s) {q : Nat} {T : Tr} (hT : trGood q T) : PDm (s.setT q T) := by
 intro q' hq'
 show trGood q' (upd s.t q T q')
 by_cases e : q' = q
 ·subst e; rw [upd_same]; exact hT
 ·rw [upd_ne _ _ e]; exact h q' hq'
theorem PDm.setS {s : PS} (h : PDm s) {q n : Nat} (hq : q < 32) {x : Ses} (hl : x.locks = ((s.t q).ses n).locks) (hr : x.req = ((s.t q).ses n).req) : PDm (s.setS q n x) :=
 h.setT ((h q hq).setS ⟨by rw [hl]; exact (h q hq n).1, by rw [hr]; exact (h q hq n).2⟩)
theorem PDm.preT {s : PS} (h : PDm s) (r : Lk) : PDm (s.preT r) := by
 intro q hq
 show trGood q (if plOf r.at_ < q ∧ q < 32 then (s.t q).preTo r 4 else s.t q)
 split
 ·exact (h q hq).preTo hq r 4
 ·exact h q hq
theorem PDm.lockA {s : PS} (h : PDm s) {q : Nat} (hq : q < 32) (n : Nat) {r : Lk} (hr : lkGood q r) : PDm ((s.setT q ((s.t q).leaveT n)).addLock q n r) := by
 rw [addLock_leave]
 have g := (h q hq).leaveT hq n
 refine h.setT (g.setS ⟨fun l hl => ?_, (g n).2⟩)
 rcases List.mem_append.1 hl with h1 | h1
 ·exact (g n).1 l h1
 ·simp at h1; subst h1; exact hr
theorem PDm.lockT {s : PS} (h : PDm s) {q : Nat} (hq : q < 32) (n : Nat) {x : Stp} (hx : lkGood q (lkOf x)) : PDm (s.lockT q n x) := by
 unfold PS.lockT
 split
 ·exact (h.lockA hq n hx).preT _
 ·exact h.lockA hq n hx
theorem PDm.grantT {s : PS} (h : PDm s) {q : Nat} (hq : q < 32) (n : Nat) (x : Stp) : PDm (s.grantT q n x).1 := by
 unfold PS.grantT PS.putT
 split
 ·split
  ·exact h
  ·exact h.setS hq rfl rfl
 ·split
  ·exact h.setS hq rfl rfl
  ·exact h
theorem PDm.admitT {s : PS} (h : PDm s) {q : Nat} (hq : q < 32) (n : Nat) : PDm (s.admitT q n).1 := (h.lockT hq n (h q hq n).2).grantT hq n _
theorem PDm.settle1 {s : PS} (h : PDm s) {q : Nat} (hq : q < 32) (a n : Nat) : PDm (s.settle1 q a n) := by
 unfold PS.settle1
 split
 ·exact (h.admitT hq n).setS hq rfl rfl
 ·exact h
theorem PDm.settleL {q a : Nat} (hq : q < 32) : ∀ (l : List Nat) (s : PS), PDm s → PDm (PS.settleL q a s l)
 | [], _, h => h
 | n :: l, _, h => PDm.settleL hq l _ (h.settle1 hq a n)
theorem PDm.settleQ {s : PS} (h : PDm s) {q : Nat} (hq : q < 32) (a : Nat) : PDm (s.settleQ q a) := PDm.settleL hq _ s h
theorem PDm.settleF {s : PS} (h : PDm s) (a : Nat) : ∀ k, a + k ≤ 32 → PDm (s.settleF a k)
 | 0, _ => h
 | k + 1, hk => (PDm.settleF h a k (by omega)).settleQ (by omega) a
theorem PDm.settleTo {s : PS} (h : PDm s) : ∀ a, a ≤ 32 → PDm (s.settleTo a)
 | 0, _ => h
 | a + 1, ha => (PDm.settleTo h a (by omega)).settleF a (32 - a) (by omega)
theorem PDm.settleT {s : PS} (h : PDm s) : PDm s.settleT := h.settleTo 32 (Nat.le_refl _)
theorem PLow.setT {z : Nat → Bool} {s t : PS} (h : PLow z s t) (q : Nat) (T : Tr) : PLow z (s.setT q T) (t.setT q T) := by
 refine ⟨h.k, h.v, h.c, fun q' hq' hz => ?_⟩
 show upd s.t q T q' = upd t.t q T q'
 by_cases e : q' = q
 ·subst e; rw [upd_same, upd_same]
 ·rw [upd_ne _ _ e, upd_ne _ _ e]; exact h.tr q' hq' hz
theorem PLow.high {z : Nat → Bool} (s : PS) {q : Nat} (hz : z q = false) (T : Tr) : PLow z s (s.setT q T) := by
 refine ⟨rfl, rfl, rfl, fun q' hq' hz' => ?_⟩
 show s.t q' = upd s.t q T q'
 have e : q' ≠ q := fun e => by rw [e, hz] at hz'; cases hz'
 rw [upd_ne _ _ e]
theorem PLow.preT {z : Nat → Bool} {s t : PS} (h : PLow z s t) (r : Lk) : PLow z (s.preT r) (t.preT r) := by
 refine ⟨h.k, h.v, h.c, fun q hq hz => ?_⟩
 show (if plOf r.at_ < q ∧ q < 32 then (s.t q).preTo r 4 else s.t q) = (if plOf r.at_ < q ∧ q < 32 then (t.t q).preTo r 4 else t.t q)
 rw [h.tr q hq hz]
theorem preTo_all {t : Tr} {r : Lk} (h : ∀ n, (t.ses n).metB r = false) : ∀ k, t.preTo r k = t
 | 0 => rfl
 | k + 1 => by
  unfold Tr.preTo
  rw [preTo_all h k, h k]; rfl
theorem PLow.preHigh {z : Nat → Bool} {s : PS} (D : PDm s) (Z : DownZ z) {q : Nat} (hq : q < 32) (hz : z q = false) {r : Lk} (hr : r.at_ = labOf q) : PLow z s (s.preT r) := by
 refine ⟨rfl, rfl, rfl, fun q' hq' hz' => ?_⟩
 show s.t q' = (if plOf r.at_ < q' ∧ q' < 32 then (s.t q').preTo r 4 else s.t q')
 split
 ·refine (preTo_all (fun n => ?_) 4).symm
  unfold Ses.metB
  rw [List.any_eq_false]
  intro l hl hm
  obtain ⟨h1, h2, _⟩ := (D q' hq' n).1 l hl
  unfold Lk.meetB sameL at hm
  simp only [Bool.and_eq_true, decide_eq_true_eq] at hm
  have e : l.at_ = labOf q := by rw [← hr]; exact Prod.ext hm.1.1 hm.1.2
  have := Z q' l.at_ hq' h1 h2 hz'
  rw [e, plOf_labOf hq, hz] at this
  cases this
 ·rfl
theorem PLow.setS {z : Nat → Bool} {s t : PS} (h : PLow z s t) (q n : Nat) (hq : q < 32) (zq : z q = true) (x : Ses) : PLow z (s.setS q n x) (t.setS q n x) := by
 unfold PS.setS
 rw [h.tr q hq zq]; exact h.setT _ _
theorem PLow.grantT {z : Nat → Bool} {s t : PS} (h : PLow z s t) (Z : DownZ z) {q : Nat} (hq : q < 32) (zq : z q = true) (n : Nat) {x : Stp} (hx : lkGood q (lkOf x)) :
  PLow z (s.grantT q n x).1 (t.grantT q n x).1 ∧ (s.grantT q n x).2 = (t.grantT q n x).2 := by
 have e := h.tr q hq zq
 unfold PS.grantT PS.putT PS.setW
 rw [e, h.k]
 by_cases h4 : x.op = 4
 ·simp only [if_pos h4]
  by_cases hf : (t.t q).takenB x.key.toNat = false ∧ t.k ≤ ((t.t q).takenTo 16 : Int)
  ·simp only [if_pos hf]; exact ⟨h, trivial⟩
  ·simp only [if_neg hf]; exact ⟨h.setS q n hq zq _, trivial⟩
 ·simp only [if_neg h4]
  by_cases h5 : x.op = 5
  ·simp only [if_pos h5]; exact ⟨h.setS q n hq zq _, trivial⟩
  ·simp only [if_neg h5]
   refine ⟨h, ?_⟩
   have e2 : s.seesT q n x.at_ = t.seesT q n x.at_ := by unfold PS.seesT; rw [e, h.tr (plOf x.at_) (plOf_lt hx.1) (Z q x.at_ hq hx.1 hx.2.1 zq)]
   rw [e2]
theorem PLow.lockT {z : Nat → Bool} {s t : PS} (h : PLow z s t) {q : Nat} (hq : q < 32) (zq : z q = true) (n : Nat) (x : Stp) : PLow z (s.lockT q n x) (t.lockT q n x) := by
 have g : PLow z ((s.setT q ((s.t q).leaveT n)).addLock q n (lkOf x)) ((t.setT q ((t.t q).leaveT n)).addLock q n (lkOf x)) := by
  rw [addLock_leave, addLock_leave, h.tr q hq zq]; exact h.setT _ _
 unfold PS.lockT
 by_cases hw : (lkOf x).wr = true
 ·simp only [if_pos hw]; exact g.preT _
 ·simp only [if_neg hw]; exact g
theorem PLow.admitT {z : Nat → Bool} {s t : PS} (h : PLow z s t) (Z : DownZ z) (D : PDm t) {q : Nat} (hq : q < 32) (zq : z q = true) (n : Nat) :
  PLow z (s.admitT q n).1 (t.admitT q n).1 ∧ (s.admitT q n).2 = (t.admitT q n).2 := by
 unfold PS.admitT
 rw [h.tr q hq zq]
 exact (h.lockT hq zq n _).grantT Z hq zq n (D q hq n).2
theorem PLow.hindB {z : Nat → Bool} {s t : PS} (h : PLow z s t) (Z : DownZ z) (D : PDm t) {q : Nat} (hq : q < 32) (zq : z q = true) (n : Nat) : s.hindB q n = t.hindB q n := by
 unfold PS.hindB
 obtain ⟨h1, h2, _⟩ := (D q hq n).2
 have e : s.t (plOf ((t.t q).ses n).req.at_) = t.t (plOf ((t.t q).ses n).req.at_) := h.tr _ (plOf_lt h1) (Z q _ hq h1 h2 zq)
 rw [h.tr q hq zq, e]
theorem PLow.settle1 {z : Nat → Bool} {s t : PS} (h : PLow z s t) (Z : DownZ z) (D : PDm t) {q : Nat} (hq : q < 32) (zq : z q = true) (a n : Nat) : PLow z (s.settle1 q a n) (t.settle1 q a n) := by
 unfold PS.settle1
 rw [h.hindB Z D hq zq n, h.tr q hq zq]
 split
 ·obtain ⟨g1, g2⟩ := h.admitT Z D hq zq n
  rw [g2]
  unfold PS.tellT
  rw [g1.tr q hq zq]
  exact g1.setS q n hq zq _
 ·exact h
theorem PLow.settleL {z : Nat → Bool} (Z : DownZ z) {q a : Nat} (hq : q < 32) (zq : z q = true) : ∀ (l : List Nat) (s t : PS), PLow z s t → PDm t → PLow z (PS.settleL q a s l) (PS.settleL q a t l)
 | [], _, _, h, _ => h
 | n :: l, _, _, h, D => PLow.settleL Z hq zq l _ _ (h.settle1 Z D hq zq a n) (D.settle1 hq a n)
theorem PLow.grantHigh {z : Nat → Bool} (s : PS) {q : Nat} (hz : z q = false) (n : Nat) (x : Stp) : PLow z s (s.grantT q n x).1 := by
 unfold PS.grantT PS.putT
 split
 ·split
  ·exact PLow.refl s
  ·exact PLow.high s hz _
 ·split
  ·exact PLow.high s hz _
  ·exact PLow.refl s
theorem PLow.lockHigh {z : Nat → Bool} {s : PS} (D : PDm s) (Z : DownZ z) {q : Nat} (hq : q < 32) (hz : z q = false) (n : Nat) {x : Stp} (hx : lkGood q (lkOf x)) : PLow z s (s.lockT q n x) := by
 have g : PLow z s ((s.setT q ((s.t q).leaveT n)).addLock q n (lkOf x)) := by rw [addLock_leave]; exact PLow.high s hz _
 unfold PS.lockT
 split
 ·rename_i hw
  exact g.trans (PLow.preHigh (D.lockA hq n hx) Z hq hz (hx.2.2 hw))
 ·exact g
theorem PLow.admitHigh {z : Nat → Bool} {s : PS} (D : PDm s) (Z : DownZ z) {q : Nat} (hq : q < 32) (hz : z q = false) (n : Nat) : PLow z s (s.admitT q n).1 :=
 (PLow.lockHigh D Z hq hz n (D q hq n).2).trans (PLow.grantHigh _ hz n _)
theorem PLow.settle1High {z : Nat → Bool} {s : PS} (D : PDm s) (Z : DownZ z) {q : Nat} (hq : q < 32) (hz : z q = false) (a n : Nat) : PLow z s (s.settle1 q a n) := by
 unfold PS.settle1
 split
 ·exact (PLow.admitHigh D Z hq hz n).trans (PLow.high _ hz _)
 ·exact PLow.refl s
theorem PLow.settleLHigh {z : Nat → Bool} (Z : DownZ z) {q a : Nat} (hq : q < 32) (hz : z q = false) : ∀ (l : List Nat) (s : PS), PDm s → PLow z s (PS.settleL q a s l)
 | [], s, _ => PLow.refl s
 | n :: l, _, D => (PLow.settle1High D Z hq hz a n).trans (PLow.settleLHigh Z hq hz l _ (D.settle1 hq a n))
theorem PLow.settleQ {z : Nat → Bool} {s t : PS} (h : PLow z s t) (Z : DownZ z) (Ds : PDm s) (Dt : PDm t) {q : Nat} (hq : q < 32) (a : Nat) : PLow z (s.settleQ q a) (t.settleQ q a) := by
 unfold PS.settleQ
 cases hz : z q with
 | true => rw [h.tr q hq hz]; exact PLow.settleL Z hq hz _ s t h Dt
 | false => exact ((PLow.settleLHigh Z hq hz _ s Ds).symm.trans h).trans (PLow.settleLHigh Z hq hz _ t Dt)
theorem PLow.settleF {z : Nat → Bool} {s t : PS} (h : PLow z s t) (Z : DownZ z) (Ds : PDm s) (Dt : PDm t) (a : Nat) : ∀ k, a + k ≤ 32 → PLow z (s.settleF a k) (t.settleF a k)
 | 0, _ => h
 | k + 1, hk => (PLow.settleF h Z Ds Dt a k (by omega)).settleQ Z (Ds.settleF a k (by omega)) (Dt.settleF a k (by omega)) (by omega) a
theorem PLow.settleTo {z : Nat → Bool} {s t : PS} (h : PLow z s t) (Z : DownZ z) (Ds : PDm s) (Dt : PDm t) : ∀ a, a ≤ 32 → PLow z (s.settleTo a) (t.settleTo a)
 | 0, _ => h
 | a + 1, ha => (PLow.settleTo h Z Ds Dt a (by omega)).settleF Z (Ds.settleTo a (by omega)) (Dt.settleTo a (by omega)) a (32 - a) (by omega)
theorem PLow.settleT {z : Nat → Bool} {s t : PS} (h : PLow z s t) (Z : DownZ z) (Ds : PDm s) (Dt : PDm t) : PLow z s.settleT t.settleT := h.settleTo Z Ds Dt 32 (Nat.le_refl _)
theorem PDm.finishT {s : PS} (h : PDm s) {q : Nat} (hq : q < 32) (n : Nat) : PDm (s.finishT q n) := by
 unfold PS.finishT
 exact (h.setT ((h q hq).endT hq n)).settleT
theorem PDm.setI {s : PS} (h : PDm s) {q : Nat} (hq : q < 32) (f : Nat → Option Int) : PDm (s.setI q f) := h.setT (fun n => h q hq n)
theorem PDm.ringsN {q n : Nat} (hq : q < 32) : ∀ (k : Nat) (s : PS), PDm s → PDm (PS.ringsN q n k s)
 | 0, _, h => h
 | k + 1, s, h => by
  cases hy : (s.t q).youngest n with
  | none => rw [ringsN_no hy]; exact h
  | some y => rw [ringsN_yes hy]; exact PDm.ringsN hq k _ (h.setT ((h q hq).forceT hq y 2)).settleT
theorem PDm.askT {s : PS} (h : PDm s) {q : Nat} (hq : q < 32) (n : Nat) {x : Stp} (hx : x.may = true → lkGood q (lkOf x)) : PDm (s.askT q n x).1 := by
 unfold PS.askT
 split
 ·exact h
 ·rename_i hm
  have hg := hx (by simpa using hm)
  split
  ·exact h.grantT hq n x
  ·split
   ·exact h
   ·have hj : PDm (s.setT q ((s.t q).joinT n x)) := h.setT ((h q hq).joinT n hg)
    split
    ·unfold PS.ringsT
     split
     ·exact PDm.ringsN hq 4 _ hj
     ·exact (PDm.ringsN hq 4 _ hj).setS hq rfl rfl
    ·dsimp only
     exact (hj.admitT hq n).settleT
theorem PDm.actT {s : PS} (h : PDm s) {q : Nat} (hq : q < 32) (n : Nat) {x : Stp} (hx : x.op ≠ 8 → x.op ≠ 7 → x.op ≠ 1 → x.op ≠ 6 → x.may = true → lkGood q (lkOf x)) : PDm (s.actT q n x).1 := by
 unfold PS.actT
 split
 ·exact h.setS hq rfl rfl
 ·split
  ·unfold PS.pollT
   split
   ·exact h
   ·split
    ·exact h.setS hq rfl rfl
    ·exact h
  ·rename_i h8
   split
   ·unfold PS.abortT
    split
    ·dsimp only
     exact h.finishT hq n
    ·exact h
   ·rename_i h7
    split
    ·exact h
    ·split
     ·unfold PS.beginT
      split
      ·exact h
      ·split
       ·exact h
       ·exact h.setT (fun m => h q hq m)
     ·rename_i h1
      split
      ·exact h
      ·split
       ·unfold PS.commitT
        dsimp only
        exact (h.setI hq _).finishT hq n
       ·rename_i h6
        exact h.askT hq n (hx h8 h7 h1 h6)
theorem PLow.finishT {z : Nat → Bool} {s t : PS} (h : PLow z s t) (Z : DownZ z) (Ds : PDm s) (Dt : PDm t) {q : Nat} (hq : q < 32) (zq : z q = true) (n : Nat) : PLow z (s.finishT q n) (t.finishT q n) := by
 have g : PLow z (s.setT q ((s.t q).endT n)) (t.setT q ((t.t q).endT n)) := by rw [h.tr q hq zq]; exact h.setT _ _
 unfold PS.finishT
 exact g.settleT Z (Ds.setT ((Ds q hq).endT hq n)) (Dt.setT ((Dt q hq).endT hq n))
theorem PLow.ringsN {z : Nat → Bool} (Z : DownZ z) {q : Nat} (hq : q < 32) (zq : z q = true) (n : Nat) : ∀ (k : Nat) (s t : PS), PLow z s t → PDm s → PDm t → PLow z (PS.ringsN q n k s) (PS.ringsN q n k t)
 | 0, _, _, h, _, _ => h
 | k + 1, s, t, h, Ds, Dt => by
  have e := h.tr q hq zq
  cases hy : (t.t q).youngest n with
  | none =>
   have hy' : (s.t q).youngest n = none := by rw [e]; exact hy
   rw [ringsN_no hy, ringsN_no hy']; exact h
  | some y =>
   have hy' : (s.t q).youngest n = some y := by rw [e]; exact hy
   rw [ringsN_yes hy, ringsN_yes hy']
   have g : PLow z (s.setT q ((s.t q).forceT y 2)) (t.setT q ((t.t q).forceT y 2)) := by rw [e]; exact h.setT _ _
   have D1 := Ds.setT ((Ds q hq).forceT hq y 2)
   have D2 := Dt.setT ((Dt q hq).forceT hq y 2)
   exact PLow.ringsN Z hq zq n k _ _ (g.settleT Z D1 D2) D1.settleT D2.settleT
theorem PLow.untold {z : Nat → Bool} {s t : PS} (h : PLow z s t) {q : Nat} (hq : q < 32) (zq : z q = true) (n : Nat) : PLow z (s.untold q n) (t.untold q n) := by
 unfold PS.untold
 rw [h.tr q hq zq]; exact h.setS q n hq zq _
theorem PLow.askT {z : Nat → Bool} {s t : PS} (h : PLow z s t) (Z : DownZ z) (Ds : PDm s) (Dt : PDm t) {q : Nat} (hq : q < 32) (zq : z q = true) (n : Nat) {x : Stp} (hx : x.may = true → lkGood q (lkOf x)) :
  PLow z (s.askT q n x).1 (t.askT q n x).1 ∧ (s.askT q n x).2 = (t.askT q n x).2 := by
 have e := h.tr q hq zq
 unfold PS.askT
 rw [e, h.c]
 by_cases hm : x.may = false
 ·simp only [if_pos hm]; exact ⟨h, trivial⟩
 ·have hg := hx (by simpa using hm)
  simp only [if_neg hm]
  by_cases hcv : ((t.t q).ses n).covB (lkOf x) = true
  ·simp only [if_pos hcv]; exact h.grantT Z hq zq n hg
  ·simp only [if_neg hcv]
   by_cases hf : t.c ≤ ((t.t q).lockTo 4 : Int)
   ·simp only [if_pos hf]; exact ⟨h, trivial⟩
   ·simp only [if_neg hf]
    have g : PLow z (s.setT q ((t.t q).joinT n x)) (t.setT q ((t.t q).joinT n x)) := h.setT _ _
    have D1 : PDm (s.setT q ((t.t q).joinT n x)) := Ds.setT ((Dt q hq).joinT n hg)
    have D2 : PDm (t.setT q ((t.t q).joinT n x)) := Dt.setT ((Dt q hq).joinT n hg)
    rw [g.hindB Z D2 hq zq n]
    generalize s.setT q ((t.t q).joinT n x) = s1 at *
    generalize t.setT q ((t.t q).joinT n x) = t1 at *
    by_cases hh : t1.hindB q n = true
    ·simp only [if_pos hh]
     have r := PLow.ringsN Z hq zq n 4 s1 t1 g D1 D2
     unfold PS.ringsT
     rw [r.tr q hq zq]
     generalize PS.ringsN q n 4 s1 = s2 at *
     generalize PS.ringsN q n 4 t1 = t2 at *
     by_cases h0 : ((t2.t q).ses n).ended = 0
     ·simp only [if_pos h0]; exact ⟨r, trivial⟩
     ·simp only [if_neg h0]; exact ⟨r.untold hq zq n, trivial⟩
    ·simp only [if_neg hh]
     obtain ⟨a1, a2⟩ := g.admitT Z D2 hq zq n
     have E1 := D1.admitT hq n
     have E2 := D2.admitT hq n
     exact ⟨a1.settleT Z E1 E2, a2⟩
theorem PLow.actT {z : Nat → Bool} {s t : PS} (h : PLow z s t) (Z : DownZ z) (Ds : PDm s) (Dt : PDm t) {q : Nat} (hq : q < 32) (zq : z q = true) (n : Nat) {x : Stp} (hx : x.op ≠ 8 → x.op ≠ 7 → x.op ≠ 1 → x.op ≠ 6 → x.may = true → lkGood q (lkOf x)) :
  PLow z (s.actT q n x).1 (t.actT q n x).1 ∧ (s.actT q n x).2 = (t.actT q n x).2 := by
 have e := h.tr q hq zq
 unfold PS.actT
 rw [e]
 by_cases he : ((t.t q).ses n).ended ≠ 0
 ·simp only [if_pos he]; exact ⟨h.untold hq zq n, trivial⟩
 ·simp only [if_neg he]
  by_cases h8 : x.op = 8
  ·simp only [if_pos h8]
   unfold PS.pollT
   rw [e]
   by_cases hb : hasB (t.t q).queue n = true
   ·simp only [if_pos hb]; exact ⟨h, trivial⟩
   ·simp only [if_neg hb]
    by_cases hk : ((t.t q).ses n).came = true
    ·simp only [if_pos hk]
     refine ⟨?_, trivial⟩
     unfold PS.heard
     rw [e]; exact h.setS q n hq zq _
    ·simp only [if_neg hk]; exact ⟨h, trivial⟩
  ·simp only [if_neg h8]
   by_cases h7 : x.op = 7
   ·simp only [if_pos h7]
    unfold PS.abortT
    rw [e]
    by_cases hb : hasB (t.t q).begun n = true
    ·simp only [if_pos hb]; exact ⟨h.finishT Z Ds Dt hq zq n, trivial⟩
    ·simp only [if_neg hb]; exact ⟨h, trivial⟩
   ·simp only [if_neg h7]
    by_cases hb : (t.t q).busyB n = true
    ·simp only [if_pos hb]; exact ⟨h, trivial⟩
    ·simp only [if_neg hb]
     by_cases h1 : x.op = 1
     ·simp only [if_pos h1]
      unfold PS.beginT
      rw [e, h.v]
      by_cases hg : hasB (t.t q).begun n = true
      ·simp only [if_pos hg]; exact ⟨h, trivial⟩
      ·simp only [if_neg hg]
       by_cases hf : t.v ≤ ((t.t q).begun.length : Int)
       ·simp only [if_pos hf]; exact ⟨h, trivial⟩
       ·simp only [if_neg hf]
        refine ⟨?_, trivial⟩
        unfold PS.setB
        rw [e]; exact h.setT _ _
     ·simp only [if_neg h1]
      by_cases hg : hasB (t.t q).begun n = false
      ·simp only [if_pos hg]; exact ⟨h, trivial⟩
      ·simp only [if_neg hg]
       by_cases h6 : x.op = 6
       ·simp only [if_pos h6]
        unfold PS.commitT
        rw [e]
        dsimp only
        refine ⟨?_, rfl⟩
        have g : PLow z (s.setI q (((t.t q).ses n).wr.over (t.t q).items)) (t.setI q (((t.t q).ses n).wr.over (t.t q).items)) := by unfold PS.setI; rw [e]; exact h.setT _ _
        exact g.finishT Z (Ds.setI hq _) (Dt.setI hq _) hq zq n
       ·simp only [if_neg h6]
        exact h.askT Z Ds Dt hq zq n (hx h8 h7 h1 h6)
theorem PLow.still {z : Nat → Bool} {s t : PS} (h : PLow z s t) (Z : DownZ z) (Ds : PDm s) (Dt : PDm t) (hs : s.settleT = s) : PLow z s t.settleT := by
 have g := h.settleT Z Ds Dt
 rw [hs] at g
 exact g
theorem PLow.finishHigh {z : Nat → Bool} {s t : PS} (h : PLow z s t) (Z : DownZ z) (Ds : PDm s) (Dt : PDm t) (hs : s.settleT = s) {q : Nat} (hq : q < 32) (hz : z q = false) (n : Nat) : PLow z s (t.finishT q n) := by
 unfold PS.finishT
 exact (h.trans (PLow.high t hz _)).still Z Ds (Dt.setT ((Dt q hq).endT hq n)) hs
theorem PLow.ringsHigh {z : Nat → Bool} (Z : DownZ z) {s : PS} (Ds : PDm s) (hs : s.settleT = s) {q : Nat} (hq : q < 32) (hz : z q = false) (n : Nat) : ∀ (k : Nat) (t : PS), PLow z s t → PDm t → PLow z s (PS.ringsN q n k t)
 | 0, _, h, _ => h
 | k + 1, t, h, Dt => by
  cases hy : (t.t q).youngest n with
  | none => rw [ringsN_no hy]; exact h
  | some y =>
   rw [ringsN_yes hy]
   have D2 := Dt.setT ((Dt q hq).forceT hq y 2)
   exact PLow.ringsHigh Z Ds hs hq hz n k _ ((h.trans (PLow.high t hz _)).still Z Ds D2 hs) D2.settleT
theorem PLow.actHigh {z : Nat → Bool} (Z : DownZ z) {s : PS} (D : PDm s) (hs : s.settleT = s) {q : Nat} (hq : q < 32) (hz : z q = false) (n : Nat) {x : Stp} (hx : x.op ≠ 8 → x.op ≠ 7 → x.op ≠ 1 → x.op ≠ 6 → x.may = true → lkGood q (lkOf x)) :
  PLow z s (s.actT q n x).1 := by
 have R := PLow.refl (z := z) s
 unfold PS.actT
 split
 ·exact PLow.high s hz _
 ·split
  ·unfold PS.pollT
   split
   ·exact R
   ·split
    ·exact PLow.high s hz _
    ·exact R
  ·rename_i h8
   split
   ·unfold PS.abortT
    split
    ·dsimp only
     exact R.finishHigh Z D D hs hq hz n
    ·exact R
   ·rename_i h7
    split
    ·exact R
    ·split
     ·unfold PS.beginT
      split
      ·exact R
      ·split
       ·exact R
       ·exact PLow.high s hz _
     ·rename_i h1
      split
      ·exact R
      ·split
       ·unfold PS.commitT
        dsimp only
        have g : PLow z s (s.setI q (((s.t q).ses n).wr.over (s.t q).items)) := PLow.high s hz _
        exact g.finishHigh Z D (D.setI hq _) hs hq hz n
       ·rename_i h6
        unfold PS.askT
        split
        ·exact R
        ·rename_i hm
         have hg := hx h8 h7 h1 h6 (by simpa using hm)
         split
         ·exact PLow.grantHigh s hz n x
         ·split
          ·exact R
          ·have g : PLow z s (s.setT q ((s.t q).joinT n x)) := PLow.high s hz _
           have hj : PDm (s.setT q ((s.t q).joinT n x)) := D.setT ((D q hq).joinT n hg)
           generalize s.setT q ((s.t q).joinT n x) = s1 at *
           split
           ·have r := PLow.ringsHigh Z D hs hq hz n 4 s1 g hj
            unfold PS.ringsT
            generalize PS.ringsN q n 4 s1 = s2 at *
            split
            ·exact r
            ·exact r.trans (PLow.high s2 hz _)
           ·dsimp only
            exact (g.trans (PLow.admitHigh hj Z hq hz n)).still Z D (hj.admitT hq n) hs
theorem good_of {x : Stp} {q n : Nat} (hp : properB x = true) (hw : x.who = whoOf q n) : x.op ≠ 8 → x.op ≠ 7 → x.op ≠ 1 → x.op ≠ 6 → x.may = true → lkGood q (lkOf x) := fun h8 h7 h1 h6 hm => by
 have ho := (proper_of hp).op
 have hr := req_of hp hw (by omega)
 have hwr := may_wr hr.who hm
 refine ⟨hr.lab, ?_, hwr⟩
 show domB (labOf q).1 (labOf q).2 x.at_.1 x.at_.2 = true
 by_cases hz : x.op = 4 ∨ x.op = 5
 ·have : x.at_ = labOf q := hwr (by unfold lkOf; exact decide_eq_true hz)
  rw [this]; exact domB_self _ _
 ·unfold Stp.may at hm
  rw [if_neg hz, hw] at hm
  exact hm
theorem PDm.doT {s : PS} (h : PDm s) (x : Stp) : PDm (s.doT x).1 := by
 unfold PS.doT
 split
 ·exact h
 ·rename_i hp
  have hp' : properB x = true := by simpa using hp
  obtain ⟨h1, h2, h3⟩ := proper_q hp'
  exact h.actT h1 _ (good_of hp' h3)
theorem dm0 (k v c : Int) : PDm (ps0 k v c) := fun _ hq _ => ses0_good hq
theorem or_down : ∀ a : Nat, a < 8 → ∀ b : Nat, b < 8 → ∀ c : Nat, c < 8 → (bits BinOp.or IntKind.i64 (a : Int) (b : Int) == (a : Int)) = true → okTo (b : Int) (c : Int) 3 = true → (bits BinOp.or IntKind.i64 (a : Int) (c : Int) == (a : Int)) = true := by decide +kernel
theorem downK {kk : Int} (_h1 : 0 ≤ kk) (_h2 : kk < 32) : DownZ (fun q => domK kk (q : Int)) := by
 intro q a hq ha hd hz
 obtain ⟨x, y⟩ := a
 obtain ⟨a1, a2, a3, a4⟩ := labB_t ha
 simp only at a1 a2 a3 a4
 show domK kk ((plOf (x, y) : Nat) : Int) = true
 have hz' : domK kk (q : Int) = true := hz
 unfold domK at hz' ⊢
 unfold domB at hd
 have e1 : ((plOf (x, y) : Nat) : Int) / 8 = x := by unfold plOf placeOf; simp only; omega
 have e2 : ((plOf (x, y) : Nat) : Int) % 8 = y := by unfold plOf placeOf; simp only; omega
 rw [e1, e2]
 simp only [Bool.and_eq_true, decide_eq_true_eq] at hz' hd ⊢
 have l1 : (labOf q).1 = (q : Int) / 8 := by unfold labOf; simp
 have l2 : (labOf q).2 = (q : Int) % 8 := by unfold labOf; simp
 rw [l1, l2] at hd
 refine ⟨Int.le_trans hd.1 hz'.1, ?_⟩
 obtain ⟨A, hA⟩ : ∃ A : Nat, kk % 8 = (A : Int) := ⟨(kk % 8).toNat, by omega⟩
 obtain ⟨B, hB⟩ : ∃ B : Nat, (q : Int) % 8 = (B : Int) := ⟨q % 8, by omega⟩
 obtain ⟨C, hC⟩ : ∃ C : Nat, y = (C : Int) := ⟨y.toNat, by omega⟩
 rw [hA, hB] at hz'
 rw [hB, hC] at hd
 rw [hA, hC]
 exact or_down A (by omega) B (by omega) C (by omega) hz'.2 hd.2
theorem pair_still {N : Nat} {p : PS × RS} (h : (thePgm.pair theDoc).Ok N p) : p.1.settleT = p.1 := by
 obtain ⟨PF, ⟨e, F, _, I, S, _⟩, _⟩ := h
 have PF' : p.2.toPS.Fit := by rw [← e]; exact PF
 have h2 := (sim_again F I PF').1
 rw [again_still (fun d hd => ?_), ← e] at h2
 ·exact h2.symm
 ·unfold RS.free
  cases hw : d.waits with
  | false => rfl
  | true => rw [S d hd hw]; rfl
theorem pair_ans {N : Nat} {p : PS × RS} (h : (thePgm.pair theDoc).Ok N p) (x : Stp) : ((thePgm.pair theDoc).act p x).2 = (p.1.doT x).2 := (theDoc.ans x h.2.1 h.1).symm
theorem num_pl {x : Stp} (hp : properB x = true) : numZ x.who.1 x.who.2.1 = ((plOf x.who.lab : Nat) : Int) := by
 have hlab : labB x.who.1 x.who.2.1 = true := by
  unfold properB at hp
  simp only [Bool.and_eq_true] at hp
  exact hp.1.1
 obtain ⟨a1, a2, a3, a4⟩ := labB_t hlab
 unfold numZ
 rw [if_pos hlab]
 unfold plOf placeOf Wh.lab
 simp only
 omega
theorem low_doT {kk : Int} (Z : DownZ (fun q => domK kk (q : Int))) {s t : PS} (h : PLow (fun q => domK kk (q : Int)) s t) (Ds : PDm s) (Dt : PDm t) {x : Stp} (hx : lowB kk x = true) :
  PLow (fun q => domK kk (q : Int)) (s.doT x).1 (t.doT x).1 ∧ (s.doT x).2 = (t.doT x).2 := by
 unfold PS.doT
 by_cases hp : properB x = false
 ·simp only [if_pos hp]; exact ⟨h, trivial⟩
 ·simp only [if_neg hp]
  have hp' : properB x = true := by simpa using hp
  obtain ⟨h1, h2, h3⟩ := proper_q hp'
  unfold lowB at hx
  rw [num_pl hp', Bool.and_eq_true] at hx
  exact h.actT Z Ds Dt h1 hx.2 _ (good_of hp' h3)
theorem high_doT {kk : Int} (Z : DownZ (fun q => domK kk (q : Int))) {s : PS} (D : PDm s) (hs : s.settleT = s) {x : Stp} (hx : lowB kk x = false) : PLow (fun q => domK kk (q : Int)) s (s.doT x).1 := by
 unfold PS.doT
 split
 ·exact PLow.refl s
 ·rename_i hp
  have hp' : properB x = true := by simpa using hp
  obtain ⟨h1, h2, h3⟩ := proper_q hp'
  unfold lowB at hx
  rw [num_pl hp', decide_eq_true (by omega), Bool.true_and] at hx
  exact PLow.actHigh Z D hs h1 hx _ (good_of hp' h3)
theorem low_runs {kk : Int} (Z : DownZ (fun q => domK kk (q : Int))) : ∀ (l : List Stp) (N : Nat) (s t : PS × RS), (thePgm.pair theDoc).Ok N s → (thePgm.pair theDoc).Ok N t → PLow (fun q => domK kk (q : Int)) s.1 t.1 → PDm s.1 → PDm t.1 →
  PLow (fun q => domK kk (q : Int)) ((thePgm.pair theDoc).runs s l).1 ((thePgm.pair theDoc).runs t (l.filter (lowB kk))).1 ∧ PDm ((thePgm.pair theDoc).runs s l).1 ∧ PDm ((thePgm.pair theDoc).runs t (l.filter (lowB kk))).1
 | [], _, _, _, _, _, h, Ds, Dt => ⟨h, Ds, Dt⟩
 | x :: l, N, s, t, os, ot, h, Ds, Dt => by
  cases hx : lowB kk x with
  | true =>
   rw [List.filter_cons_of_pos hx]
   exact low_runs Z l (N + 1) ((thePgm.pair theDoc).act s x).1 ((thePgm.pair theDoc).act t x).1 ((thePgm.pair theDoc).okAct x os) ((thePgm.pair theDoc).okAct x ot) (low_doT Z h Ds Dt hx).1 (Ds.doT x) (Dt.doT x)
  | false =>
   rw [List.filter_cons_of_neg (by rw [hx]; simp)]
   exact low_runs Z l (N + 1) ((thePgm.pair theDoc).act s x).1 t ((thePgm.pair theDoc).okAct x os) ((thePgm.pair theDoc).okMono ot) ((high_doT Z Ds (pair_still os) hx).symm.trans h) (Ds.doT x) Dt
theorem pair_look {N : Nat} {p : PS × RS} (h : (thePgm.pair theDoc).Ok N p) {n : Nat} (hn : n < 32) : (thePgm.pair theDoc).look p (labK n) = listTo (p.1.t n).items 0 15 16 := by
 have e := theDoc.look (l := (labOf n).1) (c := (labOf n).2) h.2.1 h.1 (labOf_ok hn)
 have e2 : thePgm.look p.1 ((labOf n).1, (labOf n).2) = listTo (p.1.t (plOf (labOf n))).items 0 15 16 := rfl
 rw [plOf_labOf hn] at e2
 exact e.symm.trans e2
theorem unseens {kk : Int} (h1 : 0 ≤ kk) (h2 : kk < 32) {N : Nat} {s : PS × RS} (os : (thePgm.pair theDoc).Ok N s) (D : PDm s.1) (script : List Stp) : (thePgm.pair theDoc).Unseens s kk script where
 ans := fun n x _ hx => by
  have Z := downK h1 h2
  obtain ⟨g1, g2, g3⟩ := low_runs Z (script.take n) N s s os os (PLow.refl _) D D
  rw [pair_ans ((thePgm.pair theDoc).runs_ok _ os), pair_ans ((thePgm.pair theDoc).runs_ok _ os)]
  exact (low_doT Z g1 g2 g3 hx).2
 look := fun n hn hz => by
  obtain ⟨g1, _⟩ := low_runs (downK h1 h2) script N s s os os (PLow.refl _) D D
  rw [pair_look ((thePgm.pair theDoc).runs_ok _ os) hn, pair_look ((thePgm.pair theDoc).runs_ok _ os) hn, g1.tr n hn hz]
theorem unseen_true {k v c l : Int} (hk : i64B k) (hv : i64B v) (hc : i64B c) (hl : i64B l) {sv : Value} {script : List Stp} {w : World} (hsc : isSteps w sv script) (hlen : script.length + 1000 < 4398046511104) :
  Calls Try.prog 9 #[.agg #[.int .i64 k, .int .i64 v, .int .i64 c], .int .i64 l, sv] w fun e w' => e = .returned (.bool true) ∧ Below w.heap.size w w' := by
 obtain ⟨y1, y2⟩ := pickZ_range (c := l) (n := 32) (by decide)
 have hy : Wh.ok (pickZ l 32 / 8, pickZ l 32 % 8, 0) := by
  unfold Wh.ok Lab.ok Wh.lab
  simp only
  omega
 have hmay := may_fits k v c
 obtain ⟨ho, _⟩ := pair_opens thePgm theDoc hmay hy
 have hO := (thePgm.pair theDoc).open3_ok (pickZ l 32 / 8, pickZ l 32 % 8, 0) ((thePgm.pair theDoc).okStart hmay)
 refine unseen_walk (thePgm.pair theDoc) k v c l sv script w hk hv hc hl hsc hlen _ rfl ho (unseens y1 y2 hO ?_ script)
 exact (((dm0 _ _ _).doT _).doT _).doT _
end Go.Proofs.Ytpbcplfpjcacfaa
