import Derived.Test.YtpbcplfpjcacfaaB34
import Derived.Test.YtpbcplfpjcacfaaCFreed01
namespace Go.Proofs.Ytpbcplfpjcacfaa
open Go.RowKit
attribute [local go_sem ↓] Go.wp_at_zero Go.wp_at_succ
set_option maxRecDepth 100000
set_option maxHeartbeats 8000000
def fr1 (y : Wh) : Stp := ⟨y, 1, (0, 0), 0, 0, 0⟩
def fr2 (y : Wh) : Stp := ⟨y, 3, y.lab, 0, 15, 0⟩
structure Pgm.Freeds (P : Pgm) (s : P.S) (q : Nat) (y : Wh) : Prop where
 others : ∀ k, k < 128 → k ≠ q → P.Leaves (P.runs s (othersL q k)) (whoK k)
 poll : (P.act (P.runs s (othersL q 128)) (po y)).2.code ≠ 1
 leave : P.Leaves (P.act (P.runs s (othersL q 128)) (po y)).1 y
 start : (P.act (P.runs (P.act (P.runs s (othersL q 128)) (po y)).1 (leaveL y)) (fr1 y)).2.code = 0
 scan : (P.act (P.act (P.runs (P.act (P.runs s (othersL q 128)) (po y)).1 (leaveL y)) (fr1 y)).1 (fr2 y)).2.code = 0
 same : (P.act (P.act (P.runs (P.act (P.runs s (othersL q 128)) (po y)).1 (leaveL y)) (fr1 y)).1 (fr2 y)).2.items = P.look (P.act (P.act (P.runs (P.act (P.runs s (othersL q 128)) (po y)).1 (leaveL y)) (fr1 y)).1 (fr2 y)).1 y.lab
theorem whoK_lab (k : Nat) (h : k < 128) : labB (whoK k).1 (whoK k).2.1 = true := by
 unfold whoK
 exact labB_mk (by simp only; omega)
theorem freed_walk (P : Pgm) (k v c who : Int) (sv : Value) (script : List Stp) (w : World) (hk : i64B k) (hv : i64B v) (hc : i64B c) (hwho : i64B who) (hsc : isSteps w sv script) (hlen : script.length + 1000 < 4398046511104)
  (s0 : P.S) (hs0 : s0 = P.start (1 + pickZ k 16) (1 + pickZ v 4) (1 + pickZ c 32)) (ho : P.Opens s0 (whoK (pickZ who 128).toNat))
  (hfr : P.Freeds (P.runs (P.open3 s0 (whoK (pickZ who 128).toNat)) script) (pickZ who 128).toNat (whoK (pickZ who 128).toNat)) :
  Calls Try.prog 13 #[.agg #[.int .i64 k, .int .i64 v, .int .i64 c], sv, .int .i64 who] w fun e w' => e = .returned (.bool true) ∧ Below w.heap.size w w' := by
 obtain ⟨ao, cap, rfl, hmax, hel⟩ := hsc
 unfold maxLen at hmax
 have HE : Hid (type_of% hel) := hel
 have hmay := may_fits k v c
 have HF : Hid (∀ W, Calls Try.prog 25 #[.agg #[.int .i64 k, .int .i64 v, .int .i64 c]] W fun e w' => e = .returned (.agg #[.int .i64 (1 + pickZ k 16), .int .i64 (1 + pickZ v 4), .int .i64 (1 + pickZ c 32)]) ∧ Below W.heap.size W w') := fun W => fits_any k v c W hk hv hc
 obtain ⟨y1, y2⟩ := pickZ_range (c := who) (n := 128) (by decide)
 obtain ⟨q, hq⟩ : ∃ q : Nat, q = (pickZ who 128).toNat := ⟨_, rfl⟩
 have hqz : pickZ who 128 = (q : Int) := by omega
 have hq128 : q < 128 := by omega
 rw [← hq] at ho hfr
 have HPK : Hid (∀ W, Calls Try.prog 23 #[.int .i64 who, .int .i64 128] W fun e w' => e = .returned (.int .i64 (q : Int)) ∧ W = w') := fun W => by
  have := pick_any who 128 W hwho (by decide) (by decide)
  rw [hqz] at this; exact this
 have HLB : Hid (∀ W, Calls Try.prog 24 #[.int .i64 ((q : Int) / 4)] W fun e w' => e = .returned (.agg #[.int .i64 ((q : Int) / 4 / 8), .int .i64 ((q : Int) / 4 % 8)]) ∧ Below W.heap.size W w') := fun W => label_any _ W (by omega) (by omega)
 have HWK : Hid (whoK q = ((q : Int) / 4 / 8, (q : Int) / 4 % 8, (q : Int) % 4)) := by unfold Hid whoK; simp
 have hyl := whoK_lab q hq128
 have HO : Hid (∀ W, Calls Try.prog 26 #[.agg #[.int .i64 (1 + pickZ k 16), .int .i64 (1 + pickZ v 4), .int .i64 (1 + pickZ c 32)], .agg #[.int .i64 (whoK q).1, .int .i64 (whoK q).2.1, .int .i64 (whoK q).2.2]] W (OpenPost P W (P.open3 s0 (whoK q)))) := fun W => by
  subst hs0
  exact opened_any P _ _ _ (whoK q) W hmay hyl ho
 have HO0 : Hid (P.Ok 3 (P.open3 s0 (whoK q))) := by
  have := P.open3_ok (whoK q) (P.okStart hmay)
  unfold Hid
  rw [hs0]; exact this
 rw [HWK.out] at HO HO0 hfr hyl
 generalize hye : (((q : Int) / 4 / 8, (q : Int) / 4 % 8, (q : Int) % 4) : Wh) = y at *
 have hy1 : (q : Int) / 4 / 8 = y.1 := by rw [← hye]
 have hy2 : (q : Int) / 4 % 8 = y.2.1 := by rw [← hye]
 have hy3 : (q : Int) % 4 = y.2.2 := by rw [← hye]
 generalize P.open3 s0 y = s3 at *
 generalize 1 + pickZ k 16 = fk at *
 generalize 1 + pickZ v 4 = fv at *
 generalize 1 + pickZ c 32 = fc at *
 have HFR : Hid (P.Freeds (P.runs s3 script) q y) := hfr
 have Hyl : Hid (labB y.1 y.2.1 = true) := hyl
 rw [hy1, hy2] at HLB
 have Hy3 : Hid ((q : Int) % 4 = y.2.2) := hy3
 clear hel hs0 ho hk hv hc hfr hmay hwho y1 y2 hq hqz hyl hye HWK hy1 hy2
 go_enter Try.func13, Try.ntmps13
 go_wp2_with fail
 refine (HPK.out _).mono ?_
 rintro e wq ⟨rfl, hqq⟩
 subst hqq
 go_wp2_with fail
 refine (HLB.out _).mono ?_
 rintro e w1 ⟨rfl, hb1⟩
 have hA1 : Below w.heap.size w (w.alloc (.cells #[.int .i64 k, .int .i64 v, .int .i64 c] 23)) := (Below.refl _ _).alloc (Nat.le_refl _) _
 have HB1 : Hid (Below w.heap.size w w1) := hA1.trans (hb1.mono hA1.size)
 have c0 : w1.cell? ⟨w.heap.size, 0, none⟩ = some (.int .i64 k) := by rw [hb1.cell (p := ⟨w.heap.size, 0, none⟩) (by simp)]; simp
 have c1 : w1.cell? ⟨w.heap.size, 1, none⟩ = some (.int .i64 v) := by rw [hb1.cell (p := ⟨w.heap.size, 1, none⟩) (by simp)]; simp
 have c2 : w1.cell? ⟨w.heap.size, 2, none⟩ = some (.int .i64 c) := by rw [hb1.cell (p := ⟨w.heap.size, 2, none⟩) (by simp)]; simp
 have z1 : w.heap.size < w1.heap.size := by have := hb1.size; simp at this; omega
 clear hb1 hA1
 go_upto_region 3 with fail
 rw [Hy3.out]
 generalize hgw : w1.heap.size = gw at *
 have hBA : Below gw w1 (w1.alloc (.cells #[.int .i64 y.1, .int .i64 y.2.1, .int .i64 y.2.2] 28)) := by rw [← hgw]; exact (Below.refl _ _).alloc (Nat.le_refl _) _
 have hYA : (w1.alloc (.cells #[.int .i64 y.1, .int .i64 y.2.1, .int .i64 y.2.2] 28)).heap[gw]? = some (.cells #[.int .i64 y.1, .int .i64 y.2.1, .int .i64 y.2.2] 28 (0, 0)) := by rw [← hgw]; exact heap_alloc_new w1 _
 generalize w1.alloc (.cells #[.int .i64 y.1, .int .i64 y.2.1, .int .i64 y.2.2] 28) = wA at *
 have HBwA : Hid (Below w.heap.size w wA) := HB1.out.trans (hBA.mono (by omega))
 have HYA : Hid (wA.heap[gw]? = some (.cells #[.int .i64 y.1, .int .i64 y.2.1, .int .i64 y.2.2] 28 (0, 0))) := hYA
 have zgA : gw < wA.heap.size := (Array.getElem?_eq_some_iff.1 hYA).1
 have a0 : wA.cell? ⟨w.heap.size, 0, none⟩ = some (.int .i64 k) := (hBA.cell (p := ⟨w.heap.size, 0, none⟩) z1).trans c0
 have a1 : wA.cell? ⟨w.heap.size, 1, none⟩ = some (.int .i64 v) := (hBA.cell (p := ⟨w.heap.size, 1, none⟩) z1).trans c1
 have a2 : wA.cell? ⟨w.heap.size, 2, none⟩ = some (.int .i64 c) := (hBA.cell (p := ⟨w.heap.size, 2, none⟩) z1).trans c2
 have Hz1 : Hid (w.heap.size < gw) := z1
 clear hYA hBA c0 c1 c2 hgw z1
 go_wp2_with fail
 refine (HF.out _).mono ?_
 rintro e w2 ⟨rfl, hb2⟩
 have HB2 : Hid (Below w.heap.size w w2) := HBwA.out.trans (hb2.mono HBwA.out.size)
 have HY2 : Hid (w2.heap[gw]? = some (.cells #[.int .i64 y.1, .int .i64 y.2.1, .int .i64 y.2.2] 28 (0, 0))) := by unfold Hid; rw [hb2.block gw zgA]; exact HYA.out
 have zg2 : gw < w2.heap.size := (Array.getElem?_eq_some_iff.1 HY2.out).1
 obtain ⟨c0, c1, c2, _, _, _⟩ := ans_cells HY2.out
 clear hb2 a0 a1 a2
 go_wp2_with fail
 refine (HO.out _).mono ?_
 rintro e w3 ⟨p, own, rfl, hb3, hfr, hrep⟩
 have hA3 : Below w2.heap.size w2 (w2.alloc (.cells #[.int .i64 fk, .int .i64 fv, .int .i64 fc] 23)) := (Below.refl _ _).alloc (Nat.le_refl _) _
 have hB3' : Below w2.heap.size w2 w3 := hA3.trans (hb3.mono hA3.size)
 have HB3 : Hid (Below w.heap.size w w3) := HB2.out.trans (hB3'.mono HB2.out.size)
 have II : Hid (RunInv P (gw + 1) p s3 (script.take 0) w3) := ⟨own, hrep, fun q hq => by have := hfr q hq; simp at this; omega⟩
 have HY3 : Hid (w3.heap[gw]? = some (.cells #[.int .i64 y.1, .int .i64 y.2.1, .int .i64 y.2.2] 28 (0, 0))) := by unfold Hid; rw [hB3'.block gw zg2]; exact HY2.out
 clear hb3 hfr hrep hA3 hB3' c0 c1 c2
 go_wp2_with fail
 go_loopw [12] (fun i wr => ∃ n : Nat, n ≤ script.length ∧ i = .int .i64 n ∧ Hid (RunInv P (gw + 1) p s3 (script.take n) wr) ∧ Hid (Below w.heap.size w wr) ∧ Hid (wr.heap[gw]? = some (.cells #[.int .i64 y.1, .int .i64 y.2.1, .int .i64 y.2.2] 28 (0, 0)))) (fun i _ => script.length - (intOf i).toNat)
 case atStart => exact ⟨0, Nat.zero_le _, rfl, II, HB3, HY3⟩
 case round =>
  obtain ⟨n, hn, rfl, In, hB, HYn⟩ := hrel
  have hz := hB.out.size
  have hzg : gw < wr.heap.size := (Array.getElem?_eq_some_iff.1 HYn.out).1
  by_cases hlt : n < script.length
  ·have hg := List.getElem?_eq_getElem hlt
   generalize script[n] = x at hg
   obtain ⟨b, off, rfl, hbl, hrg⟩ := HE.out n x hg
   have hrg' : wr.rangeAt b (off + n * 9) (stepC x) := rangeAt_below hrg hB.out hbl
   have zn : (n : Int) < (script.length : Int) := by omega
   obtain ⟨own', hrep', hfr'⟩ := In.out
   have HOKn : P.Ok (3 + n) (P.runs s3 (script.take n)) := by
    have h1 := P.runs_ok (script.take n) HO0.out
    rw [List.length_take, Nat.min_eq_left hn] at h1
    exact h1
   have hd := P.doAny x hrep' HOKn (by omega)
   have HD : Hid (type_of% hd) := hd
   have HR1 : Hid (P.runs s3 (script.take (n + 1)) = (P.act (P.runs s3 (script.take n)) x).1) := by unfold Hid; rw [take_snoc hg, P.runs_snoc]
   have HF' : Hid (∀ q, own' q ≠ none → gw + 1 ≤ q) := hfr'
   have hnog : Hid (own' gw = none) := by
    unfold Hid
    cases hq : own' gw with
    | none => rfl
    | some t => have := hfr' gw (by rw [hq]; simp); omega
   clear hrg hg hrep' hfr' hd HOKn
   go_wp2_with (first | (refine wpList_load_mid rfl 30 _ rfl b (off + n * 9) rfl _ _ hrg' Try.underlying30 rfl (by rw [show (stepC x).length = 9 from rfl]; exact sizeStep) ?_))
   refine HD.out.mono ?_
   rintro e q3 ⟨va, own3, rfl, hrow3, hrep3, hchg3, hv3⟩
   have I1 : Hid (RunInv P (gw + 1) p s3 (script.take (n + 1)) q3) := ⟨own3, by rw [HR1.out]; exact hrep3, fun q hq => by
    rcases hchg3.fresh q hq with h | h
    ·exact HF'.out q h
    ·omega⟩
   have HB1 : Hid (Below w.heap.size w q3) := hB.out.trans (chgD_below' hchg3 (fun q hq => by have := HF'.out q hq; have := Hz1.out; omega) hz)
   have HY1 : Hid (q3.heap[gw]? = some (.cells #[.int .i64 y.1, .int .i64 y.2.1, .int .i64 y.2.2] 28 (0, 0))) := by unfold Hid; rw [hchg3.block gw hzg hnog.out]; exact HYn.out
   clear hrow3 hrep3 hchg3 hv3
   unfold ansV
   go_wp2_with fail
   go_roundw
   case rel => exact ⟨n + 1, by omega, by go_num, I1, HB1, HY1⟩
   case measure => simp [intOf]; omega
  ·have e : n = script.length := by omega
   subst e
   obtain ⟨ownL, hrepL, hfrL⟩ := In.out
   rw [List.take_length] at hrepL
   have HOKL : P.Ok (3 + script.length) (P.runs s3 script) := P.runs_ok script HO0.out
   generalize P.runs s3 script = sL at *
   have HOT : Hid (∀ W, Below wr.heap.size wr W → Calls Try.prog 38 #[.pointer (some ⟨p, 0, none⟩), .int .i64 (q : Int)] W fun e w' => e = .returned (.bool true) ∧ Gone P ownL W p (P.runs sL (othersL q 128)) w') := fun W hW => others_any P p q sL ownL W (P.below hrepL hW) HOKL (by omega) HFR.out.others
   have o0 : P.Ok (3 + script.length + 640) (P.runs sL (othersL q 128)) := P.okLe (by have := othersL_len q 128; omega) (P.runs_ok (othersL q 128) HOKL)
   obtain ⟨sO, eO⟩ : ∃ r, r = P.runs sL (othersL q 128) := ⟨_, rfl⟩
   obtain ⟨r1, e1⟩ : ∃ r, r = P.act sO (po y) := ⟨_, rfl⟩
   obtain ⟨sV, eV⟩ : ∃ r, r = P.runs r1.1 (leaveL y) := ⟨_, rfl⟩
   obtain ⟨r2, e2⟩ : ∃ r, r = P.act sV (fr1 y) := ⟨_, rfl⟩
   obtain ⟨r3, e3⟩ : ∃ r, r = P.act r2.1 (fr2 y) := ⟨_, rfl⟩
   rw [← eO] at HOT o0
   have o1 := P.okAct (po y) o0
   rw [← e1] at o1
   have oV := P.runs_ok (leaveL y) o1
   rw [← eV] at oV
   have o2 := P.okAct (fr1 y) oV
   rw [← e2] at o2
   have o3 := P.okAct (fr2 y) o2
   rw [← e3] at o3
   have hll : (leaveL y).length = 5 := rfl
   rw [hll] at oV o2 o3
   have K1 : Hid (r1.2.code ≠ 1) := by unfold Hid; rw [e1, eO]; exact HFR.out.poll
   have KV : Hid (P.Leaves r1.1 y) := by unfold Hid; rw [e1, eO]; exact HFR.out.leave
   have K2 : Hid (r2.2.code = 0) := by unfold Hid; rw [e2, eV, e1, eO]; exact HFR.out.start
   have K3 : Hid (r3.2.code = 0) := by unfold Hid; rw [e3, e2, eV, e1, eO]; exact HFR.out.scan
   have K5 : Hid (P.look r3.1 (y.1, y.2.1) = r3.2.items) := by unfold Hid; rw [e3, e2, eV, e1, eO]; exact HFR.out.same.symm
   have HD1 : Hid (∀ W own, P.Rep W p sO own → Calls Try.prog 28 #[.pointer (some ⟨p, 0, none⟩), .agg #[.int .i64 y.1, .int .i64 y.2.1, .int .i64 y.2.2, .int .i64 8, .int .i64 0, .int .i64 0, .int .i64 0, .int .i64 0, .int .i64 0]] W (APost own W (fun w' own' => P.Rep w' p r1.1 own') r1.2)) := by
    intro W own h; have := P.doAny (po y) h o0 (by omega); rw [← e1] at this; exact this
   have HLV : Hid (∀ W own, P.Rep W p r1.1 own → Calls Try.prog 39 #[.pointer (some ⟨p, 0, none⟩), .agg #[.int .i64 y.1, .int .i64 y.2.1, .int .i64 y.2.2]] W fun e w' => e = .returned (.bool true) ∧ Gone P own W p sV w') := by
    intro W own h; have := leave_any P p r1.1 y own W h o1 (by omega) KV.out; rw [← eV] at this; exact this
   have HD2 : Hid (∀ W own, P.Rep W p sV own → Calls Try.prog 28 #[.pointer (some ⟨p, 0, none⟩), .agg #[.int .i64 y.1, .int .i64 y.2.1, .int .i64 y.2.2, .int .i64 1, .int .i64 0, .int .i64 0, .int .i64 0, .int .i64 0, .int .i64 0]] W (APost own W (fun w' own' => P.Rep w' p r2.1 own') r2.2)) := by
    intro W own h; have := P.doAny (fr1 y) h oV (by omega); rw [← e2] at this; exact this
   have HD3 : Hid (∀ W own, P.Rep W p r2.1 own → Calls Try.prog 28 #[.pointer (some ⟨p, 0, none⟩), .agg #[.int .i64 y.1, .int .i64 y.2.1, .int .i64 y.2.2, .int .i64 3, .int .i64 y.1, .int .i64 y.2.1, .int .i64 0, .int .i64 15, .int .i64 0]] W (APost own W (fun w' own' => P.Rep w' p r3.1 own') r3.2)) := by
    intro W own h; have := P.doAny (fr2 y) h o2 (by omega); rw [← e3] at this; exact this
   have HL : Hid (∀ W own, P.Rep W p r3.1 own → Calls Try.prog 31 #[.pointer (some ⟨p, 0, none⟩), .agg #[.int .i64 y.1, .int .i64 y.2.1]] W fun e w' => ∃ v, e = .returned (.tuple #[v, .int .i64 0]) ∧ w'.ownsRow W.heap.size 94 2 v r3.2.items.length (itemsV r3.2.items) ∧ Below W.heap.size W w') := by
    intro W own h; have := P.lookYes y.1 y.2.1 h o3 Hyl.out; rw [K5.out] at this; exact this
   have HFL : Hid (∀ q, ownL q ≠ none → gw + 1 ≤ q) := hfrL
   have hnoL : Hid (ownL gw = none) := by
    unfold Hid
    cases hq : ownL gw with
    | none => rfl
    | some t => have := hfrL gw (by rw [hq]; simp); omega
   clear eO e1 eV e2 e3 o0 o1 oV o2 o3 hll hrepL hfrL HOKL HFR
   go_wp2_with fail
   refine (HOT.out _ (Below.refl _ _)).mono ?_
   rintro e W0 ⟨rfl, own0', hrep0, hchg0⟩
   have HY0 : Hid (W0.heap[gw]? = some (.cells #[.int .i64 y.1, .int .i64 y.2.1, .int .i64 y.2.2] 28 (0, 0))) := by unfold Hid; rw [hchg0.block gw hzg hnoL.out]; exact HYn.out
   have hno0 : Hid (own0' gw = none) := hchg0.off hnoL.out hzg
   have zw0 : gw < W0.heap.size := (Array.getElem?_eq_some_iff.1 HY0.out).1
   have HRR0 : Hid (P.Rep W0 p sO own0') := hrep0
   have HC0 : Hid (ChgD ownL wr W0 own0') := hchg0
   obtain ⟨c0, c1, c2, _, _, _⟩ := ans_cells HY0.out
   clear hrep0 hchg0
   go_wp2_with fail
   refine (HD1.out _ _ HRR0.out).mono ?_
   rintro e q1 h1
   obtain ⟨ao1, cap1, own1, rfl, hrow1, hrep1, hchg1, hv1⟩ := h1.mk'
   have A1 := Answered.late (Below.refl W0.heap.size W0) P.frame P.old hrow1 hrep1 hchg1 hv1
   clear hrow1 hrep1 hchg1 hv1 h1 c0 c1 c2
   unfold ansV
   go_upto_region 13 with fail
   generalize hb1 : q1.heap.size = b1 at *
   generalize hW1 : q1.alloc (.cells #[.int .i64 r1.2.code, .int .i64 r1.2.why, .slice ao1 r1.2.items.length cap1] 66) = W1 at *
   have HY1 : Hid (W1.heap[gw]? = some (.cells #[.int .i64 y.1, .int .i64 y.2.1, .int .i64 y.2.2] 28 (0, 0))) := by unfold Hid; rw [A1.chg.block _ zw0 hno0.out]; exact HY0.out
   have hno1 : Hid (own1 gw = none) := A1.chg.off hno0.out zw0
   have zw1 : gw < W1.heap.size := (Array.getElem?_eq_some_iff.1 HY1.out).1
   obtain ⟨c0, c1, c2, _, _, _⟩ := ans_cells HY1.out
   have HA1 : Hid (type_of% A1) := A1
   have HRR1 : Hid (P.Rep W1 p r1.1 own1) := A1.rep
   clear A1 hb1 hW1
   go_wp2_with fail
   refine (HLV.out _ _ HRR1.out).mono ?_
   rintro e WV ⟨rfl, ownV, hrepV, hchgV⟩
   have HYV : Hid (WV.heap[gw]? = some (.cells #[.int .i64 y.1, .int .i64 y.2.1, .int .i64 y.2.2] 28 (0, 0))) := by unfold Hid; rw [hchgV.block gw zw1 hno1.out]; exact HY1.out
   have hnoV : Hid (ownV gw = none) := hchgV.off hno1.out zw1
   have zwV : gw < WV.heap.size := (Array.getElem?_eq_some_iff.1 HYV.out).1
   have HRRV : Hid (P.Rep WV p sV ownV) := hrepV
   have l1 : b1 < W1.heap.size := (Array.getElem?_eq_some_iff.1 HA1.out.blk).1
   have m1 : WV.heap[b1]? = _ := (hchgV.block b1 l1 HA1.out.off).trans HA1.out.blk
   obtain ⟨d1, _, _, _, _, _⟩ := ans_cells m1
   have HCV : Hid (ChgD own1 W1 WV ownV) := hchgV
   have k1 : (r1.2.code == 1) = false := by have := K1.out; simpa using this
   clear c0 c1 c2 hrepV hchgV m1
   obtain ⟨c0, c1, c2, _, _, _⟩ := ans_cells HYV.out
   go_wp2_with fail
   refine (HD2.out _ _ HRRV.out).mono ?_
   rintro e q2 h2
   obtain ⟨ao2, cap2, own2, rfl, hrow2, hrep2, hchg2, hv2⟩ := h2.mk'
   have A2 := Answered.late (Below.refl WV.heap.size WV) P.frame P.old hrow2 hrep2 hchg2 hv2
   rw [K2.out] at A2 ⊢
   clear hrow2 hrep2 hchg2 hv2 h2 c0 c1 c2
   unfold ansV
   go_upto_region 17 with fail
   generalize hb2 : q2.heap.size = b2 at *
   generalize hW2 : q2.alloc (.cells #[.int .i64 0, .int .i64 r2.2.why, .slice ao2 r2.2.items.length cap2] 66) = W2 at *
   have HY2 : Hid (W2.heap[gw]? = some (.cells #[.int .i64 y.1, .int .i64 y.2.1, .int .i64 y.2.2] 28 (0, 0))) := by unfold Hid; rw [A2.chg.block _ zwV hnoV.out]; exact HYV.out
   have hno2 : Hid (own2 gw = none) := A2.chg.off hnoV.out zwV
   have zw2 : gw < W2.heap.size := (Array.getElem?_eq_some_iff.1 HY2.out).1
   obtain ⟨c0, c1, c2, _, _, _⟩ := ans_cells HY2.out
   have HA2 : Hid (type_of% A2) := A2
   have HRR2 : Hid (P.Rep W2 p r2.1 own2) := A2.rep
   clear A2 hb2 hW2
   go_wp2_with fail
   refine (HD3.out _ _ HRR2.out).mono ?_
   rintro e q3 h3
   obtain ⟨ao3, cap3, own3, rfl, hrow3, hrep3, hchg3, hv3⟩ := h3.mk'
   have A3 := Answered.late (Below.refl W2.heap.size W2) P.frame P.old hrow3 hrep3 hchg3 hv3
   rw [K3.out] at A3 ⊢
   clear hrow3 hrep3 hchg3 hv3 h3 c0 c1 c2
   unfold ansV
   go_upto_region 18 with fail
   generalize hb3 : q3.heap.size = b3 at *
   generalize hW3 : q3.alloc (.cells #[.int .i64 0, .int .i64 r3.2.why, .slice ao3 r3.2.items.length cap3] 66) = W3 at *
   have HY3 : Hid (W3.heap[gw]? = some (.cells #[.int .i64 y.1, .int .i64 y.2.1, .int .i64 y.2.2] 28 (0, 0))) := by unfold Hid; rw [A3.chg.block _ zw2 hno2.out]; exact HY2.out
   have hno3 : Hid (own3 gw = none) := A3.chg.off hno2.out zw2
   have zw3 : gw < W3.heap.size := (Array.getElem?_eq_some_iff.1 HY3.out).1
   obtain ⟨c0, c1, c2, _, _, _⟩ := ans_cells HY3.out
   have HA3 : Hid (type_of% A3) := A3
   have HRR3 : Hid (P.Rep W3 p r3.1 own3) := A3.rep
   clear A3 hb3 hW3
   go_wp2_with fail
   refine (HL.out _ _ HRR3.out).mono ?_
   rintro e w9 ⟨vl, rfl, hl, hb9⟩
   have l2 : b2 < W2.heap.size := (Array.getElem?_eq_some_iff.1 HA2.out.blk).1
   have l3 : b3 < W3.heap.size := (Array.getElem?_eq_some_iff.1 HA3.out.blk).1
   have m2 : w9.heap[b2]? = _ := (hb9.block b2 (by have := HA3.out.chg.size; omega)).trans ((HA3.out.chg.block b2 l2 HA2.out.off).trans HA2.out.blk)
   have m3 : w9.heap[b3]? = _ := (hb9.block b3 l3).trans HA3.out.blk
   rw [K2.out] at m2
   rw [K3.out] at m3
   obtain ⟨d2, _, _, _, _, _⟩ := ans_cells m2
   obtain ⟨d3, _, d3i, _, _, _⟩ := ans_cells m3
   have hs := ksameItems_any _ _ _ _ w9 (isItems_kept (ownsRow_items HA3.out.row) hb9) (ownsRow_items hl)
   rw [decide_eq_true rfl] at hs
   have HS : Hid (type_of% hs) := hs
   have HBL : Hid (Below w.heap.size w w9) := by
    have hw := Hz1.out
    have g0 : ∀ k, ownL k ≠ none → w.heap.size ≤ k := fun k hk => by have := HFL.out k hk; omega
    have tt := HC0.out.size
    have t1 := HA1.out.chg.size
    have tv := HCV.out.size
    have t2 := HA2.out.chg.size
    have t3 := HA3.out.chg.size
    have gO : ∀ k, own0' k ≠ none → w.heap.size ≤ k := fun k hk => by rcases HC0.out.fresh k hk with h | h; exact g0 k h; omega
    have g1 : ∀ k, own1 k ≠ none → w.heap.size ≤ k := fun k hk => by rcases HA1.out.chg.fresh k hk with h | h; exact gO k h; omega
    have gV : ∀ k, ownV k ≠ none → w.heap.size ≤ k := fun k hk => by rcases HCV.out.fresh k hk with h | h; exact g1 k h; omega
    have g2 : ∀ k, own2 k ≠ none → w.heap.size ≤ k := fun k hk => by rcases HA2.out.chg.fresh k hk with h | h; exact gV k h; omega
    exact (((((hB.out.trans (chgD_below' HC0.out g0 hz)).trans (chgD_below' HA1.out.chg gO (by omega))).trans (chgD_below' HCV.out g1 (by omega))).trans (chgD_below' HA2.out.chg gV (by omega))).trans (chgD_below' HA3.out.chg g2 (by omega))).trans (hb9.mono (by omega))
   have l29 : b2 < w9.heap.size := (Array.getElem?_eq_some_iff.1 m2).1
   have l39 : b3 < w9.heap.size := (Array.getElem?_eq_some_iff.1 m3).1
   clear m2 m3 hs hl hb9 c0 c1 c2 l2 l3
   go_wp2_with fail
   refine HS.out.mono ?_
   rintro e w10 ⟨rfl, hb10⟩
   have e2 := cell_later hb10 d2
   have e3 := cell_later hb10 d3
   have HB10 : Hid (Below w.heap.size w w10) := HBL.out.trans (hb10.mono HBL.out.size)
   clear d2 d3 d3i hb10
   go_wp2
   go_ret
   exact ⟨rfl, HB10.out⟩
end Go.Proofs.Ytpbcplfpjcacfaa
namespace Go.Proofs.Ytpbcplfpjcacfaa
open Go.RowKit
set_option maxRecDepth 100000
set_option maxHeartbeats 8000000
theorem closed_gone (y : Wh) (x : Stp) (hx : x.who ≠ y) : Closed (GoneW y) x where
 told := fun st h => ⟨h.txns, fun e he => h.ended e (List.mem_of_mem_eraseP he)⟩
 unready := fun st h => ⟨fun t ht => by
  obtain ⟨u, hu, rfl⟩ := List.mem_map.1 ht
  have := h.txns u hu
  split <;> exact this, h.ended⟩
 start := fun st h _ => ⟨fun t ht => by
  rcases List.mem_append.1 ht with ht | ht
  ·exact h.txns t ht
  ·simp only [List.mem_singleton] at ht; subst ht; exact hx, h.ended⟩
 quit := fun st z b h => h.ends z b 0
 dead := fun st z h => h.ends z true 2
 shove := fun st _ a h _ _ => h.ends a.who true 1
 park := fun st h _ _ => ⟨fun t ht => by
  obtain ⟨u, hu, rfl⟩ := List.mem_map.1 ht
  have := h.txns u hu
  split <;> exact this, h.ended⟩
 take := fun st h _ _ => ⟨h.txns, h.ended⟩
 off := fun st _ _ h _ => ⟨h.txns, h.ended⟩
 does := fun st z h => ⟨fun t ht => by
  obtain ⟨u, hu, e⟩ := does_who z ht
  rw [← e]; exact h.txns u hu, by rw [(does_recs st z).2]; exact h.ended⟩
 tell := fun st z a h _ _ => ⟨fun t ht => by
  obtain ⟨u, hu, rfl⟩ := List.mem_map.1 ht
  have := h.txns u hu
  split <;> exact this, h.ended⟩
theorem noEnd_find {st : RS} {y : Wh} (h : ∀ e ∈ st.ended, e.1 ≠ y) : st.ended.find? (isW y) = none :=
 List.find?_eq_none.2 fun e he hw => h e he ((isW_iff y e).1 hw)
theorem po_proper {y : Wh} (hy : y.ok) : properB (po y) = true := properB_ask (x := po y) hy (by simp [po]) (by simp [po, asksB]) (by simp [po]) (by simp [po])
theorem ab_proper {y : Wh} (hy : y.ok) : properB (ab y) = true := properB_ask (x := ab y) hy (by simp [ab]) (by simp [ab, asksB]) (by simp [ab]) (by simp [ab])
theorem noEnd_po {N : Nat} {st : RS} (F : st.Fit N) {y : Wh} (hy : y.ok) : ∀ e ∈ (st.doT (po y)).1.ended, e.1 ≠ y := by
 have h := told_gone F y
 unfold RS.doT
 rw [po_proper hy, if_neg (by simp)]
 split
 ·exact h
 ·unfold RS.actT
  rw [if_pos (by rfl)]
  unfold RS.pollT
  split
  ·exact h
  ·split
   ·exact h
   ·exact h
theorem gone_again {y : Wh} {st : RS} (h : GoneW y st) : GoneW y st.againT := by
 have hne : ((y.1, y.2.1, y.2.2 + 1) : Wh) ≠ y := fun e => by
  have := congrArg (fun q : Wh => q.2.2) e
  simp only at this
  omega
 exact (closed_gone y (po (y.1, y.2.1, y.2.2 + 1)) hne).againT st h
theorem gone_ab {st : RS} {y : Wh} (hy : y.ok) (he : ∀ e ∈ st.ended, e.1 ≠ y) : GoneW y (st.doT (ab y)).1 := by
 rw [doT_live (ab_proper hy) (noEnd_find (y := y) he)]
 unfold RS.actT
 rw [if_neg (by simp [ab])]
 rcases txOf_cases st y with ⟨h1, _, h3⟩ | ⟨m, t, h1, _, h3, h4⟩
 ·rw [if_pos ⟨.inl rfl, by rw [show st.txOf (ab y).who = none from h1]; rfl⟩]
  exact ⟨h3, he⟩
 ·rw [if_neg (fun e => by rw [show st.txOf (ab y).who = some t from h1] at e; simp at e), if_pos (show (ab y).op = 7 from rfl)]
  refine gone_again ?_
  show GoneW y (st.ends y true 0)
  rcases ends_rest st y true 0 with e | ⟨p, e⟩
  ·unfold RS.ends at e
   rw [h1] at e
   have h2 := congrArg RS.txns e
   simp only at h2
   have : t ∈ st.txns.filter (fun t => t.who != y) := by rw [h2]; exact List.mem_of_getElem? h3
   have := (List.mem_filter.1 this).2
   simp [h4] at this
  ·rw [e]
   refine ⟨fun u hu => by have := (List.mem_filter.1 hu).2; simpa using this, fun e he' => he e (by simpa using he')⟩
theorem gone_ab2 {st : RS} {y : Wh} (hy : y.ok) (h : GoneW y st) : st.doT (ab y) = (st, ⟨5, 0, []⟩) := by
 rw [doT_live (ab_proper hy) (noEnd_find h.ended)]
 unfold RS.actT
 rw [if_neg (by simp [ab])]
 rcases txOf_cases st y with ⟨h1, _, h3⟩ | ⟨m, t, h1, _, h3, h4⟩
 ·rw [if_pos ⟨.inl rfl, by rw [show st.txOf (ab y).who = none from h1]; rfl⟩]
 ·exact absurd h4 (h.txns t (List.mem_of_getElem? h3))
theorem gone_po {N : Nat} {st : RS} (F : st.Fit N) {y : Wh} (hy : y.ok) (h : GoneW y st) : st.doT (po y) = (st, ⟨8, 0, []⟩) := by
 rw [doT_live (po_proper hy) (noEnd_find h.ended)]
 unfold RS.actT
 rw [if_pos (by rfl)]
 have h1 : st.txOf y = none := by
  rcases txOf_cases st y with ⟨h1, _⟩ | ⟨m, t, _, _, h3, h4⟩
  ·exact h1
  ·exact absurd h4 (h.txns t (List.mem_of_getElem? h3))
 have h2 : st.waitRec y = none := by
  refine List.find?_eq_none.2 fun c hc hw => ?_
  unfold isWt at hw
  simp only [Bool.and_eq_true] at hw
  have h3 := hw.2
  unfold sameW at h3
  simp only [decide_eq_true_eq] at h3
  obtain ⟨t, ht, e⟩ := F.backed c hc
  exact h.txns t ht (by rw [e]; exact Prod.ext h3.1 (Prod.ext h3.2.1 h3.2.2))
 unfold RS.pollT
 rw [show st.waitRec (po y).who = none from h2, if_neg (by simp)]
 have h3 : st.isReady (po y).who = false := by unfold RS.isReady; rw [show st.txOf (po y).who = none from h1]
 rw [h3]; rfl
theorem leaves_rs {N : Nat} {st : RS} (F : st.Fit N) (hc : st.c ≤ 32) {y : Wh} (hy : y.ok) :
  ((st.runs [po y, po y, ab y]).doT (ab y)).2.code = 5 ∧ ((st.runs [po y, po y, ab y, ab y]).doT (po y)).2.code = 8 ∧ GoneW y (st.runs (leaveL y)) := by
 have F1 := F.doT (po y) hc
 have c1 : (st.doT (po y)).1.c ≤ 32 := by rw [(doT_cfg st (po y)).2.2]; exact hc
 have F2 := F1.doT (po y) c1
 have c2 : ((st.doT (po y)).1.doT (po y)).1.c ≤ 32 := by rw [(doT_cfg _ (po y)).2.2]; exact c1
 have F3 := F2.doT (ab y) c2
 have h2 := noEnd_po F1 hy
 have h3 := gone_ab hy h2
 have e4 := gone_ab2 hy h3
 have e5 := gone_po F3 hy h3
 refine ⟨?_, ?_, ?_⟩
 ·show ((((st.doT (po y)).1.doT (po y)).1.doT (ab y)).1.doT (ab y)).2.code = 5
  rw [e4]
 ·show (((((st.doT (po y)).1.doT (po y)).1.doT (ab y)).1.doT (ab y)).1.doT (po y)).2.code = 8
  rw [e4]; simp only; rw [e5]
 ·show GoneW y (((((st.doT (po y)).1.doT (po y)).1.doT (ab y)).1.doT (ab y)).1.doT (po y)).1
  rw [e4]; simp only; rw [e5]; exact h3
theorem closed_told (x : Stp) : Closed (fun st => ∀ t ∈ st.txns, t.told.code ≠ 1) x where
 told := fun st h => h
 unready := fun st h t ht => by
  obtain ⟨u, hu, rfl⟩ := List.mem_map.1 ht
  have := h u hu
  split <;> exact this
 start := fun st h _ t ht => by
  rcases List.mem_append.1 ht with ht | ht
  ·exact h t ht
  ·simp only [List.mem_singleton] at ht; subst ht; simp [newTx]
 quit := fun st y b h t ht => by
  rcases ends_rest st y b 0 with e | ⟨p, e⟩ <;> rw [e] at ht
  ·exact h t ht
  ·exact h t (List.mem_filter.1 ht).1
 dead := fun st y h t ht => by
  rcases ends_rest st y true 2 with e | ⟨p, e⟩ <;> rw [e] at ht
  ·exact h t ht
  ·exact h t (List.mem_filter.1 ht).1
 shove := fun st _ a h _ _ t ht => by
  rcases ends_rest st a.who true 1 with e | ⟨p, e⟩ <;> rw [e] at ht
  ·exact h t ht
  ·exact h t (List.mem_filter.1 ht).1
 park := fun st h _ _ t ht => by
  obtain ⟨u, hu, rfl⟩ := List.mem_map.1 ht
  have := h u hu
  split <;> exact this
 take := fun st h _ _ => h
 off := fun st _ _ h _ => h
 does := fun st y h => does_told (st := st) y (fun a => a.code ≠ 1) h
 tell := fun st y a h hc _ t ht => by
  obtain ⟨u, hu, rfl⟩ := List.mem_map.1 ht
  have := h u hu
  split
  ·rcases hc with hc | hc <;> simp [hc]
  ·exact this
theorem poll_free {N : Nat} {st : RS} (F : st.Fit N) (hS : Settled st) (hT : ∀ t ∈ st.txns, t.told.code ≠ 1) {y : Wh} (hy : y.ok) (hall : ∀ t ∈ st.txns, t.who = y) : (st.doT (po y)).2.code ≠ 1 := by
 unfold RS.doT
 rw [po_proper hy, if_neg (by simp)]
 split
 ·simp
 ·unfold RS.actT
  rw [if_pos (by rfl)]
  unfold RS.pollT
  split
  ·rename_i hw
   exfalso
   obtain ⟨c, hc⟩ := Option.isSome_iff_exists.1 hw
   have hcm : c ∈ st.recs := List.mem_of_find?_eq_some hc
   have hcw : c.waits = true := by
    have := List.find?_some hc
    unfold isWt at this
    simp only [Bool.and_eq_true] at this
    exact this.1
   have hh := hS c hcm hcw
   unfold RS.hindered at hh
   obtain ⟨a, ha, hab⟩ := List.any_eq_true.1 hh
   have hw1 : ∀ d ∈ st.recs, d.who = y := fun d hd => by
    obtain ⟨t, ht, e⟩ := F.backed d hd
    rw [← e]; exact hall t ht
   unfold hindB at hab
   rw [hw1 a ha, hw1 c hcm] at hab
   have : sameW y.1 y.2.1 y.2.2 y.1 y.2.1 y.2.2 = true := by unfold sameW; simp
   rw [this] at hab
   simp at hab
  ·split
   ·show (RS.toldOf (st.toldT y) y).code ≠ 1
    unfold RS.toldOf
    split
    ·simp
    ·rename_i t ht
     exact hT t (List.mem_of_find?_eq_some ht)
   ·simp
theorem fresh_scan {st : RS} (ht : st.txns = []) (hr : st.recs = []) (he : st.ended = []) (hv : 1 ≤ st.v) (hc : 1 ≤ st.c) {y : Wh} (hy : y.ok) :
  (st.doT (fr1 y)).2.code = 0 ∧ ((st.doT (fr1 y)).1.doT (fr2 y)).2.code = 0 ∧ ((st.doT (fr1 y)).1.doT (fr2 y)).2.items = ((st.doT (fr1 y)).1.doT (fr2 y)).1.lookTo y.lab 16 := by
 have p1 : properB (fr1 y) = true := properB_ask (x := fr1 y) hy (by simp [fr1]) (by simp [fr1, asksB]) (by simp [fr1]) (by simp [fr1])
 have p2 : properB (fr2 y) = true := properB_ask (x := fr2 y) hy (by simp [fr2]) (fun _ => ⟨hy.1, by simp [fr2]⟩) (by simp [fr2]) (by simp [fr2])
 have hv0 : ¬ st.v ≤ 0 := by omega
 have hc0 : ¬ st.c ≤ 0 := by omega
 have e1 : st.doT (fr1 y) = (st.beginT y, ⟨0, 0, []⟩) := by
  rw [doT_live p1 (by rw [he]; rfl)]
  simp [RS.actT, RS.startT, RS.txOf, RS.waitRec, RS.isReady, ht, hr, fr1, cntIx, hv0]
 have b2 : (fr2 y).barred = false := by
  unfold Stp.barred
  simp [fr2, Wh.lab, domB_self, Stp.wr]
 have t1 : (st.beginT y).txns = [newTx y (st.begun + 1)] := by simp [RS.beginT, ht]
 have hx : (st.beginT y).doT (fr2 y) = ((st.beginT y).addRec ((st.beginT y).askR (fr2 y)), ⟨0, 0, ((st.beginT y).addRec ((st.beginT y).askR (fr2 y))).reads (fr2 y)⟩) := by
  rw [doT_live p2 (by show st.ended.find? _ = none; rw [he]; rfl)]
  have h1 : (st.beginT y).actT (fr2 y) = (st.beginT y).askT (fr2 y) := by
   unfold RS.actT
   have h3 : (st.beginT y).txOf (fr2 y).who = some (newTx y (st.begun + 1)) := by unfold RS.txOf; rw [t1]; simp [fr2, newTx]
   have h4 : (st.beginT y).waitRec (fr2 y).who = none := by unfold RS.waitRec; rw [show (st.beginT y).recs = [] from hr]; rfl
   have h5 : (st.beginT y).isReady (fr2 y).who = false := by unfold RS.isReady; rw [h3]; rfl
   rw [if_neg (by simp [fr2]), if_neg (by simp [fr2]), if_neg (by simp [fr2]), if_neg (by rw [h4, h5]; simp), if_neg (by simp [fr2]), if_neg (by rw [h3]; simp), if_neg (by simp [fr2])]
  have h2 : (st.beginT y).askT (fr2 y) = (st.beginT y).took (fr2 y) := by
   unfold RS.askT
   rw [b2, show (st.beginT y).recs = [] from hr]
   have : (st.beginT y).hindered ((st.beginT y).askR (fr2 y)) = false := by unfold RS.hindered; rw [show (st.beginT y).recs = [] from hr]; rfl
   rw [this]
   simp [labN, show (st.beginT y).c = st.c from rfl, hc0]
  rw [h1, h2]
  unfold RS.took
  have h6 : ((st.beginT y).addRec ((st.beginT y).askR (fr2 y))).clearT ((st.beginT y).askR (fr2 y)) = (st.beginT y).addRec ((st.beginT y).askR (fr2 y)) := by
   unfold RS.clearT
   rw [if_neg (by simp [RS.askR, fr2, Stp.wr])]
  have h7 : ((st.beginT y).addRec ((st.beginT y).askR (fr2 y))).does (fr2 y) = ((st.beginT y).addRec ((st.beginT y).askR (fr2 y)), ⟨0, 0, ((st.beginT y).addRec ((st.beginT y).askR (fr2 y))).reads (fr2 y)⟩) := by
   unfold RS.does
   have h3 : ((st.beginT y).addRec ((st.beginT y).askR (fr2 y))).txOf (fr2 y).who = some (newTx y (st.begun + 1)) := by
    show (st.beginT y).txns.find? _ = _
    rw [t1]; simp [fr2, newTx]
   rw [h3]
   unfold RS.job
   simp only
   rw [if_neg (by simp [fr2]), if_neg (by simp [fr2])]
  have h8 : ((st.beginT y).addRec ((st.beginT y).askR (fr2 y))).againT = (st.beginT y).addRec ((st.beginT y).askR (fr2 y)) := by
   unfold RS.againT RS.waitN
   have : ((st.beginT y).addRec ((st.beginT y).askR (fr2 y))).recs = [(st.beginT y).askR (fr2 y)] := by
    show (st.beginT y).recs ++ _ = _
    rw [show (st.beginT y).recs = [] from hr]; rfl
   rw [this]
   rfl
  rw [h6, h7]; simp only; rw [h8]
 rw [e1]
 refine ⟨rfl, by simp only; rw [hx], ?_⟩
 simp only
 rw [hx]
 simp only
 generalize hq : (st.beginT y).addRec ((st.beginT y).askR (fr2 y)) = s2
 have tq : s2.txns = [newTx y (st.begun + 1)] := by rw [← hq]; exact t1
 have hcomm : ∀ k : Int, s2.comm y.lab k = s2.val y.lab k := fun k => by
  unfold RS.comm
  rw [tq]
  simp [commIx, newTx, oldIx]
 unfold RS.reads RS.readTo RS.lookTo Stp.top
 simp only [fr2, Wh.lab]
 rw [if_pos trivial]
 refine congrFun (congrArg List.filterMap (funext fun i => ?_)) _
 unfold seePick lookPick RS.sees
 have := hcomm ((0 + i : Nat) : Int)
 simp only [sameL_self, if_true]
 rw [show ((0 : Int).toNat + i) = i by simp, show (y.1, y.2.1) = y.lab from rfl, hcomm]
end Go.Proofs.Ytpbcplfpjcacfaa
namespace Go.Proofs.Ytpbcplfpjcacfaa
open Go.ChangeShapes Go.WideShapes Go.ChangeAt Go.RowKit Go.Joins Go.Deep
set_option maxRecDepth 100000
set_option maxHeartbeats 8000000
theorem bytesStep : Try.prog.bytesOf 30 = 72 := by kernel_rfl
end Go.Proofs.Ytpbcplfpjcacfaa
namespace Go.Proofs.Ytpbcplfpjcacfaa
open Go.RowKit
set_option maxRecDepth 100000
set_option maxHeartbeats 8000000
def Pgm.pair (P : Pgm) (D : P.Doc) : Pgm where
 S := P.S × RS
 Rep := fun w p s own => P.Rep w p s.1 own
 act := fun s x => (((P.act s.1 x).1, (s.2.doT x).1), (s.2.doT x).2)
 look := fun s l => s.2.lookTo l 16
 start := fun k v c => (P.start k v c, st0 k v c)
 Ok := fun N s => P.Ok N s.1 ∧ D.Sim N s.1 s.2 ∧ s.2.Fit N ∧ s.2.c ≤ 32
 old := fun h => P.old h
 frame := fun h => P.frame h
 okStart := fun {k v c} h => ⟨P.okStart h, D.start h, Fit0 k v c, (mayB_t h).2.2.2.2.2⟩
 okAct := fun {N s} x h => ⟨P.okAct x h.1, D.step x h.2.1 h.1, h.2.2.1.doT x h.2.2.2, by rw [(doT_cfg s.2 x).2.2]; exact h.2.2.2⟩
 okMono := fun {N s} h => ⟨P.okMono h.1, D.mono h.2.1, h.2.2.1.mono (Nat.le_succ N), h.2.2.2⟩
 newYes := P.newYes
 newNo := P.newNo
 lookYes := fun {w p s own N} l c hr ho hl => by
  have := P.lookYes l c hr ho.1 hl
  rw [D.look ho.2.1 ho.1 hl] at this
  exact this
 lookNo := fun l c hr ho hl => P.lookNo l c hr ho.1 hl
 doAny := fun {w p s own N} x hr ho hN => by
  have := P.doAny x hr ho.1 hN
  rw [D.ans x ho.2.1 ho.1] at this
  exact this
theorem pair_runs (P : Pgm) (D : P.Doc) : ∀ (l : List Stp) (s : P.S × RS), ((P.pair D).runs s l).2 = s.2.runs l
 | [], _ => rfl
 | x :: l, s => pair_runs P D l ((P.pair D).act s x).1
theorem pair_opens (P : Pgm) (D : P.Doc) {k v c : Int} {y : Wh} (hm : mayB k v c = true) (hy : y.ok) : (P.pair D).Opens ((P.pair D).start k v c) y ∧ ((P.pair D).open3 ((P.pair D).start k v c) y).2 = stC k v c y := by
 have ha : (st0 k v c).doT (op1 y) = _ := open_a hm hy
 have hb : (stA k v c y).doT (op2 y) = _ := open_b hm hy
 have hc : (stB k v c y).doT (op3 y) = _ := open_c hy
 have e1 : ((st0 k v c).doT (op1 y)).1 = stA k v c y := by rw [ha]
 have e2 : ((stA k v c y).doT (op2 y)).1 = stB k v c y := by rw [hb]
 have e3 : ((P.pair D).open3 ((P.pair D).start k v c) y).2 = stC k v c y := by
  show (((((st0 k v c).doT (op1 y)).1).doT (op2 y)).1.doT (op3 y)).1 = _
  rw [e1, e2, hc]
 refine ⟨⟨?_, ?_, ?_, ?_⟩, e3⟩
 ·show ((st0 k v c).doT (op1 y)).2.code = 0
  rw [ha]
 ·show ((((st0 k v c).doT (op1 y)).1).doT (op2 y)).2.code = 0
  rw [e1, hb]
 ·show (((((st0 k v c).doT (op1 y)).1).doT (op2 y)).1.doT (op3 y)).2.code = 0
  rw [e1, e2, hc]
 ·show ((P.pair D).open3 ((P.pair D).start k v c) y).2.lookTo y.lab 16 = [(7, 77)]
  rw [e3]; exact open_l k v c y
end Go.Proofs.Ytpbcplfpjcacfaa
namespace Go.Proofs.Ytpbcplfpjcacfaa
open Go.ChangeShapes Go.WideShapes Go.ChangeAt Go.RowKit Go.Joins Go.Deep
set_option maxRecDepth 100000
set_option maxHeartbeats 8000000
theorem i64B_of {n : Int} (h : (Lit.int .i64 n).wf = true) : i64B n := by
 unfold Lit.wf at h
 simp only [Bool.and_eq_true, decide_eq_true_eq] at h
 exact h
section
variable {H : Type} {enc : TypeId × Value → H} {w : World} {base b0 : Nat} {spare : Nat → Bool} {held : Bool} {r : Reach} {v : Value} {d : DataW H} {p : List MemPlace}
theorem open_configB (hv : Value.okWide Try.prog w r b0 23 v) (h : DataW.Trod enc Try.prog w base spare held 23 v d p) :
  ∃ a b c : Int, v = .agg #[.int .i64 a, .int .i64 b, .int .i64 c] ∧ i64B a ∧ i64B b ∧ i64B c := by
 obtain ⟨c0, c1, c2, y0, y1, y2, m, rfl, rfl, rfl, hy0, hy1, hy2⟩ := open_agg3 Try.underlying23 (by kernel_rfl) cellsConfig hv h
 obtain ⟨a, e0, rfl, wa⟩ := DataW.trod_int Try.underlying3 hy0
 obtain ⟨b, e1, rfl, wb⟩ := DataW.trod_int Try.underlying3 hy1
 obtain ⟨c, e2, rfl, wc⟩ := DataW.trod_int Try.underlying3 hy2
 simp at e0 e1 e2
 exact ⟨a, b, c, by rw [e0, e1, e2], i64B_of wa, i64B_of wb, i64B_of wc⟩
theorem open_steps (hv : Value.okWide Try.prog w r b0 59 v) (h : DataW.Trod enc Try.prog w base spare held 59 v d p) :
  ∃ l : List Stp, isSteps w v l ∧ (d = .nil ∧ l = [] ∨ ∃ es s, d = .slice es s ∧ es.length = l.length) := by
 obtain ⟨a0, len, cap, rfl⟩ := okWide_slice Try.underlying59 hv
 obtain ⟨fuel, hf⟩ := h
 have : Inhabited Stp := ⟨zeroStp⟩
 obtain ⟨ao, cp, l, h1, h2, h3, h4⟩ := open_rows stepC Try.underlying59 cellsStep (by decide) (fun _ _ _ h => trod_step h) hf
 exact ⟨l, ⟨ao, cp, h1, h2, h3⟩, h4⟩
theorem open_intB (hv : Value.okWide Try.prog w r b0 3 v) (h : DataW.Trod enc Try.prog w base spare held 3 v d p) : ∃ a : Int, v = .int .i64 a ∧ i64B a := by
 obtain ⟨n, rfl, _, _, hw⟩ := Go.ChangeShapes.open_int Try.underlying3 hv h
 exact ⟨n, rfl, i64B_of hw⟩
end
end Go.Proofs.Ytpbcplfpjcacfaa
namespace Go.Proofs.Ytpbcplfpjcacfaa
open Go.ChangeShapes Go.WideShapes Go.ChangeAt Go.RowKit Go.Joins Go.Deep
set_option linter.unusedVariables false
set_option maxRecDepth 100000
set_option maxHeartbeats 8000000
structure Fine (N : Nat) (st : RS) : Prop where
 fit : st.Fit N
 locks : st.c ≤ 32
 settled : Settled st
 told : ∀ t ∈ st.txns, t.told.code ≠ 1
theorem Fine.doT {N : Nat} {st : RS} (h : Fine N st) (x : Stp) : Fine (N + 1) (st.doT x).1 :=
 ⟨h.fit.doT x h.locks, by rw [(doT_cfg st x).2.2]; exact h.locks, h.settled.doT h.fit h.locks, (closed_told x).doT st h.told⟩
theorem Fine.runs : ∀ (l : List Stp) {N : Nat} {st : RS}, Fine N st → Fine (N + l.length) (st.runs l)
 | [], _, _, h => h
 | x :: l, N, st, h => by
  have := Fine.runs l (h.doT x)
  rw [List.length_cons, show N + (l.length + 1) = N + 1 + l.length by omega]
  exact this
theorem runs_app : ∀ (l m : List Stp) (st : RS), st.runs (l ++ m) = (st.runs l).runs m
 | [], _, _ => rfl
 | x :: l, m, st => runs_app l m (st.doT x).1
theorem runs_cfg7 : ∀ (l : List Stp) (st : RS), (st.runs l).k = st.k ∧ (st.runs l).v = st.v ∧ (st.runs l).c = st.c
 | [], _ => ⟨rfl, rfl, rfl⟩
 | x :: l, st => by
  obtain ⟨h1, h2, h3⟩ := runs_cfg7 l (st.doT x).1
  obtain ⟨g1, g2, g3⟩ := doT_cfg st x
  exact ⟨h1.trans g1, h2.trans g2, h3.trans g3⟩
theorem gone_runs {y : Wh} : ∀ (l : List Stp) (st : RS), (∀ x ∈ l, x.who ≠ y) → GoneW y st → GoneW y (st.runs l)
 | [], _, _, h => h
 | x :: l, st, hx, h => gone_runs l _ (fun z hz => hx z (List.mem_cons_of_mem _ hz)) ((closed_gone y x (hx x (by simp))).doT st h)
theorem whoK_ok (k : Nat) (h : k < 128) : (whoK k).ok := by
 unfold Wh.ok Lab.ok Wh.lab whoK
 simp only
 omega
theorem whoK_inj {j k : Nat} (h : whoK j = whoK k) : j = k := by
 unfold whoK at h
 simp only [Prod.mk.injEq] at h
 omega
theorem leaveL_who {y : Wh} {x : Stp} (h : x ∈ leaveL y) : x.who = y := by
 unfold leaveL at h
 simp only [List.mem_cons, List.not_mem_nil, or_false] at h
 rcases h with rfl | rfl | rfl | rfl | rfl <;> rfl
theorem others_gone {N : Nat} {st : RS} (h : Fine N st) (q : Nat) : ∀ n, n ≤ 128 → ∀ k, k < n → k ≠ q → GoneW (whoK k) (st.runs (othersL q n))
 | 0, _, k, hk, _ => by omega
 | n + 1, hn, k, hk, hq => by
  by_cases hnq : n = q
  ·rw [othersL_skip hnq]
   exact others_gone h q n (by omega) k (by omega) hq
  ·rw [othersL_more hnq, runs_app]
   by_cases e : k = n
   ·subst e
    have hF := h.runs (othersL q k)
    exact (leaves_rs hF.fit hF.locks (whoK_ok k (by omega))).2.2
   ·exact gone_runs _ _ (fun x hx e2 => e (whoK_inj ((leaveL_who hx).symm.trans e2)).symm) (others_gone h q n (by omega) k (by omega) hq)
theorem who_whoK {y : Wh} (h : y.ok) : ∃ k, k < 128 ∧ y = whoK k := by
 obtain ⟨⟨h1, h2, h3, h4⟩, h5, h6⟩ := h
 unfold Wh.lab at h1 h2 h3 h4
 simp only at h1 h2 h3 h4
 refine ⟨((y.1 * 8 + y.2.1) * 4 + y.2.2).toNat, by omega, ?_⟩
 unfold whoK
 refine Prod.ext ?_ (Prod.ext ?_ ?_) <;> simp only <;> omega
theorem pair_leaves (P : Pgm) (D : P.Doc) {N : Nat} {s : P.S × RS} (h : Fine N s.2) {y : Wh} (hy : y.ok) : (P.pair D).Leaves s y := by
 obtain ⟨h1, h2, _⟩ := leaves_rs h.fit h.locks hy
 refine ⟨?_, ?_⟩
 ·show ((((P.pair D).runs s [po y, po y, ab y]).2).doT (ab y)).2.code = 5
  rw [pair_runs]; exact h1
 ·show ((((P.pair D).runs s [po y, po y, ab y, ab y]).2).doT (po y)).2.code = 8
  rw [pair_runs]; exact h2
theorem freeds_rs (P : Pgm) (D : P.Doc) {N : Nat} {s : P.S × RS} (h : Fine N s.2) (hv : 1 ≤ s.2.v) (hc : 1 ≤ s.2.c) {q : Nat} (hq : q < 128) : (P.pair D).Freeds s q (whoK q) := by
 have hy := whoK_ok q hq
 have hO : ((P.pair D).runs s (othersL q 128)).2 = s.2.runs (othersL q 128) := pair_runs P D _ _
 have fO := h.runs (othersL q 128)
 have gO := others_gone h q 128 (Nat.le_refl _)
 have cO := runs_cfg7 (othersL q 128) s.2
 rw [← hO] at fO gO cO
 generalize hsO : (P.pair D).runs s (othersL q 128) = sO at fO gO cO
 have hall : ∀ t ∈ sO.2.txns, t.who = whoK q := fun t ht => by
  obtain ⟨k, hk, e⟩ := who_whoK (fO.fit.who t ht)
  by_cases hkq : k = q
  ·rw [e, hkq]
  ·exact absurd e ((gO k hk hkq).txns t ht)
 have hend : ∀ e ∈ sO.2.ended, e.1 = whoK q := fun e he => by
  obtain ⟨k, hk, e2⟩ := who_whoK (fO.fit.endW e he)
  by_cases hkq : k = q
  ·rw [e2, hkq]
  ·exact absurd e2 ((gO k hk hkq).ended e he)
 have f1 := fO.doT (po (whoK q))
 have f2 := f1.runs (leaveL (whoK q))
 have gq := (leaves_rs f1.fit f1.locks hy).2.2
 have hV : ((P.pair D).runs ((P.pair D).act sO (po (whoK q))).1 (leaveL (whoK q))).2 = (sO.2.doT (po (whoK q))).1.runs (leaveL (whoK q)) := pair_runs P D _ _
 have cV := runs_cfg7 (po (whoK q) :: leaveL (whoK q)) sO.2
 have gk : ∀ k, k < 128 → k ≠ q → GoneW (whoK k) ((sO.2.doT (po (whoK q))).1.runs (leaveL (whoK q))) := fun k hk hkq =>
  gone_runs (po (whoK q) :: leaveL (whoK q)) sO.2 (fun x hx e => by
   rcases List.mem_cons.1 hx with rfl | hx
   ·exact hkq (whoK_inj e).symm
   ·exact hkq (whoK_inj ((leaveL_who hx).symm.trans e)).symm) (gO k hk hkq)
 have cV' : ((sO.2.doT (po (whoK q))).1.runs (leaveL (whoK q))).v = s.2.v ∧ ((sO.2.doT (po (whoK q))).1.runs (leaveL (whoK q))).c = s.2.c := ⟨cV.2.1.trans cO.2.1, cV.2.2.trans cO.2.2⟩
 generalize (sO.2.doT (po (whoK q))).1.runs (leaveL (whoK q)) = sV at f2 gq gk hV cV'
 have tN : sV.txns = [] := by
  rw [List.eq_nil_iff_forall_not_mem]
  intro t ht
  obtain ⟨k, hk, e⟩ := who_whoK (f2.fit.who t ht)
  by_cases hkq : k = q
  ·subst hkq; exact gq.txns t ht e
  ·exact (gk k hk hkq).txns t ht e
 have eN : sV.ended = [] := by
  rw [List.eq_nil_iff_forall_not_mem]
  intro e he
  obtain ⟨k, hk, e2⟩ := who_whoK (f2.fit.endW e he)
  by_cases hkq : k = q
  ·subst hkq; exact gq.ended e he e2
  ·exact (gk k hk hkq).ended e he e2
 have rN : sV.recs = [] := by
  rw [List.eq_nil_iff_forall_not_mem]
  intro c hc
  obtain ⟨t, ht, _⟩ := f2.fit.backed c hc
  rw [tN] at ht; cases ht
 obtain ⟨b1, b2, b3⟩ := fresh_scan tN rN eN (by rw [cV'.1]; exact hv) (by rw [cV'.2]; exact hc) hy
 refine ⟨?_, ?_, ?_, ?_, ?_, ?_⟩
 ·intro k hk hkq
  have fk := h.runs (othersL q k)
  exact pair_leaves P D (N := N + (othersL q k).length) (by rw [pair_runs]; exact fk) (whoK_ok k hk)
 ·rw [hsO]
  exact poll_free fO.fit fO.settled fO.told hy hall
 ·rw [hsO]
  exact pair_leaves P D (N := _) f1 hy
 ·rw [hsO]
  show (((P.pair D).runs ((P.pair D).act sO (po (whoK q))).1 (leaveL (whoK q))).2.doT (fr1 (whoK q))).2.code = 0
  rw [hV]; exact b1
 ·rw [hsO]
  show ((((P.pair D).runs ((P.pair D).act sO (po (whoK q))).1 (leaveL (whoK q))).2.doT (fr1 (whoK q))).1.doT (fr2 (whoK q))).2.code = 0
  rw [hV]; exact b2
 ·rw [hsO]
  show ((((P.pair D).runs ((P.pair D).act sO (po (whoK q))).1 (leaveL (whoK q))).2.doT (fr1 (whoK q))).1.doT (fr2 (whoK q))).2.items = ((((P.pair D).runs ((P.pair D).act sO (po (whoK q))).1 (leaveL (whoK q))).2.doT (fr1 (whoK q))).1.doT (fr2 (whoK q))).1.lookTo (whoK q).lab 16
  rw [hV]; exact b3
theorem freed_true (P : Pgm) (D : P.Doc) {k v c who : Int} (hk : i64B k) (hv : i64B v) (hc : i64B c) (hwho : i64B who) {sv : Value} {script : List Stp} {w : World} (hsc : isSteps w sv script) (hlen : script.length + 1000 < 4398046511104) :
  Calls Try.prog 13 #[.agg #[.int .i64 k, .int .i64 v, .int .i64 c], sv, .int .i64 who] w fun e w' => e = .returned (.bool true) ∧ Below w.heap.size w w' := by
 obtain ⟨v1, v2⟩ := pickZ_range (c := v) (n := 4) (by decide)
 obtain ⟨c1, c2⟩ := pickZ_range (c := c) (n := 32) (by decide)
 obtain ⟨y1, y2⟩ := pickZ_range (c := who) (n := 128) (by decide)
 have hq : (pickZ who 128).toNat < 128 := by omega
 have hmay := may_fits k v c
 obtain ⟨ho, he⟩ := pair_opens P D hmay (whoK_ok _ hq)
 have hO := (P.pair D).open3_ok (whoK (pickZ who 128).toNat) ((P.pair D).okStart hmay)
 have h0 : Fine 3 ((P.pair D).open3 ((P.pair D).start (1 + pickZ k 16) (1 + pickZ v 4) (1 + pickZ c 32)) (whoK (pickZ who 128).toNat)).2 := by
  refine ⟨hO.2.2.1, hO.2.2.2, ?_, ?_⟩
  ·rw [he]; intro c hc; simp [stC] at hc
  ·rw [he]; intro t ht; simp [stC] at ht
 refine freed_walk (P.pair D) k v c who sv script w hk hv hc hwho hsc hlen _ rfl ho ?_
 have hr := h0.runs script
 have hcf := runs_cfg7 script ((P.pair D).open3 ((P.pair D).start (1 + pickZ k 16) (1 + pickZ v 4) (1 + pickZ c 32)) (whoK (pickZ who 128).toNat)).2
 have hp := pair_runs P D script ((P.pair D).open3 ((P.pair D).start (1 + pickZ k 16) (1 + pickZ v 4) (1 + pickZ c 32)) (whoK (pickZ who 128).toNat))
 rw [← hp] at hr hcf
 rw [he] at hcf
 refine freeds_rs P D hr ?_ ?_ hq
 ·rw [hcf.2.1]; show 1 ≤ 1 + pickZ v 4; omega
 ·rw [hcf.2.2]; show 1 ≤ 1 + pickZ c 32; omega
theorem freed_lifted (P : Pgm) (D : P.Doc) (os : Os) (started : os.Started) (H : Type) (enc : TypeId × Value → H) :
  ReturnsInHanded {} Try.checked os 13 .any (Rows.freedSpec.pre6 enc Try.prog Try.f13 Rows.freedRow.domain false) (Rows.freedSpec.post enc Try.prog Try.f13 false true false false) := by
 refine returnsInHanded_of_change_sized (C := Try.checked) tryOwn started (by kernel_rfl) Try.func13
  (ChangeSpec.witness6 (enc := enc) (C := Try.checked) false ⟨#[], #[.agg #[.int .i64 0, .int .i64 0, .int .i64 0], .slice none 0 0, .int .i64 0], []⟩ 8 (by kernel_rfl) (by kernel_rfl) (by kernel_rfl) (by kernel_rfl)) ?_
 intro W base args ds gs before hval0 hW hcnd hsz0 _
 have hsz : (DataW.weightsEach Try.prog (Try.f13.params.toList ++ Rows.freedSpec.plain.varTypes Try.prog) (ds ++ gs)).all (· ≤ reachBytes) = true := hsz0
 have hval : ∀ (j : Nat) t v, Try.f13.params[j]? = some t → args[j]? = some v → Value.okWide Try.prog W .any base t v := hval0
 have hW' := hW
 obtain ⟨p, q, hA0, hV, rfl, hfz, hnd⟩ := hW
 have hA : DataW.TrodAll enc Try.prog W 0 (fun _ => true) true Try.f13.params.toList args.toList ds p := hA0
 rw [Try.params13] at hA hval hsz
 obtain ⟨v0, vs0, d0, ds0, p0, q0, hargs, rfl, rfl, h0, r0⟩ := trodAll_cons hA
 obtain ⟨v1, vs1, d1, ds1, p1, q1, rfl, rfl, rfl, h1, r1⟩ := trodAll_cons r0
 obtain ⟨v2, vs2, d2, ds2, p2, q2, rfl, rfl, rfl, h2, r2⟩ := trodAll_cons r1
 obtain ⟨rfl, rfl, rfl⟩ := trodAll_nil r2
 obtain rfl : args = #[v0, v1, v2] := by cases args; simp_all
 obtain ⟨rfl, rfl⟩ := trodVars_none hV
 have lt0 : ∀ x ∈ p0, x.block < W.heap.size := by obtain ⟨m, hm⟩ := h0; exact DataW.trod_lt m _ _ _ hm
 have lt1 : ∀ x ∈ p1, x.block < W.heap.size := by obtain ⟨m, hm⟩ := h1; exact DataW.trod_lt m _ _ _ hm
 have lt2 : ∀ x ∈ p2, x.block < W.heap.size := by obtain ⟨m, hm⟩ := h2; exact DataW.trod_lt m _ _ _ hm
 obtain ⟨a, b, c, rfl, ia, ib, ic⟩ := open_configB (hval 0 23 v0 rfl rfl) h0
 obtain ⟨script, hsc, hd1⟩ := open_steps (hval 1 59 v1 rfl rfl) h1
 obtain ⟨key, rfl, iky⟩ := open_intB (hval 2 3 v2 rfl rfl) h2
 have hlen : script.length * 72 ≤ 140737488351232 := by
  rcases hd1 with ⟨rfl, rfl⟩ | ⟨es, s, rfl, e⟩
  ·simp
  ·have := sized_slice hsz (j := 1) (t := 59) (e := 30) rfl rfl Try.underlying59
   rw [bytesStep, e] at this
   simp only [reachBytes] at this
   have h2 : script.length * 72 ≤ (script.length + s.length) * 72 := Nat.mul_le_mul_right _ (Nat.le_add_right _ _)
   omega
 clear hA0 hval0
 refine (freed_true P D ia ib ic iky hsc (by omega)).mono fun e W' ⟨he, bel⟩ => ?_
 subst he
 exact ⟨_, rfl, _, _, _, [], _, [], hW', trodAll_mk1 (shut_bool Try.underlying4 _), (trodAll_cons_mk (Below.trod tryLaid (by kernel_rfl) (of_decide_eq_true (by kernel_rfl)) h0 bel lt0) (trodAll_cons_mk (Below.trod tryLaid (by kernel_rfl) (of_decide_eq_true (by kernel_rfl)) h1 bel lt1) (trodAll_cons_mk (Below.trod tryLaid (by kernel_rfl) (of_decide_eq_true (by kernel_rfl)) h2 bel lt2) trodAll_mk0))), rfl, bel.frame _, fun h => by cases h⟩
theorem freed_over (P : Pgm) (D : P.Doc) : Rows.freedRow.holds Try.pinned (OpenSpec.ofChange Rows.freedSpec) :=
 OpenClaim.holds_of_wide 13 Try.f13 rfl rfl rfl rfl rfl rfl rfl ⟨rfl, rfl, rfl, rfl, rfl⟩ rfl rfl rfl rfl rfl (by kernel_rfl) Try.func13 (by kernel_rfl)
  (of_decide_eq_true (by kernel_rfl)) (by unfold Func.isWrapper; first | (rw [if_pos (by decide +kernel)]; kernel_rfl) | (rw [if_neg (by decide +kernel)]; exact ⟨rfl, rfl⟩))
  (fun os started H enc _ => freed_lifted P D os started H enc)
theorem freed_said (P : Pgm) (D : P.Doc) : Rows.FreedSaid := freed_over P D
theorem freed_holds : Rows.FreedSaid := freed_said thePgm theDoc
#print axioms freed_holds
end Go.Proofs.Ytpbcplfpjcacfaa
