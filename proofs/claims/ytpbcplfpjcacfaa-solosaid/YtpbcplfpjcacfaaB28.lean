import Derived.Test.YtpbcplfpjcacfaaB27
namespace Go.Proofs.Ytpbcplfpjcacfaa
open Go.RowKit
set_option maxRecDepth 100000
set_option maxHeartbeats 8000000
theorem settle_is {w : World} {p : Nat} {s : PS} {own : Own} {G : PG} (m : PMem w p s own G) (F : s.Fit) :
  Calls Try.prog 83 #[.pointer (some ⟨p, 0, none⟩)] w fun e w' => e = .returned (.tuple #[]) ∧ Moved own w p s.settleT w' := by
 have HF : Hid s.Fit := F
 have I0 : Hid (Moved own w p (s.settleTo 0) w) := m.went (Below.refl _ _)
 clear m F
 go_enter Try.func83, Try.ntmps83
 go_wp2_with fail
 go_loopw [4] (fun i wr => ∃ a : Nat, a ≤ 32 ∧ i = .int .i64 a ∧ Hid (Moved own w p (s.settleTo a) wr)) (fun i _ => 32 - (intOf i).toNat)
 case atStart => exact ⟨0, Nat.zero_le _, rfl, I0⟩
 case round =>
  obtain ⟨a, ha, rfl, I⟩ := hrel
  by_cases hlt : a < 32
  ·have za : (a : Int) < 32 := by omega
   have J0 : Hid (Moved own w p ((s.settleTo a).settleF a 0) wr) := I
   go_wp2_with fail
   go_loopw [3] (fun i wr => ∃ k : Nat, a + k ≤ 32 ∧ i = .int .i64 (a + k : Nat) ∧ Hid (Moved own w p ((s.settleTo a).settleF a k) wr)) (fun i _ => 32 - (intOf i).toNat)
   case atStart => exact ⟨0, by omega, rfl, J0⟩
   case round =>
    obtain ⟨k, hk, rfl, J⟩ := hrel
    by_cases hlt2 : a + k < 32
    ·have zk : ((a + k : Nat) : Int) < 32 := by omega
     obtain ⟨own2, G2, m2, cg2⟩ := J.out
     have M2 : Hid (PMem wr p ((s.settleTo a).settleF a k) own2 G2) := m2
     have CG2 : Hid (ChgQ own w wr own2) := cg2
     have FSt : Hid ((s.settleTo a).settleF a k).Fit := (HF.out.settleTo a (by omega)).settleF a k (by omega)
     clear m2 cg2
     generalize hc : a + k = c at *
     have HC : Hid (a + k = c) := hc
     clear hc
     go_wp2_with fail
     refine (settleQ_is (q := c) (a := a) M2.out hlt2 FSt.out).mono ?_
     rintro e w5 ⟨rfl, hmv⟩
     have J' : Hid (Moved own w p ((s.settleTo a).settleF a (k + 1)) w5) := by
      show Moved _ _ _ ((PS.settleQ _ (a + k) a)) _
      rw [HC.out]; exact Moved.trans CG2.out hmv
     clear hmv
     have hc1 : a + (k + 1) = c + 1 := by have := HC.out; omega
     go_wp2
     go_roundw
     case rel => exact ⟨k + 1, by omega, by rw [hc1]; go_num, J'⟩
     case measure => simp [intOf]; omega
    ·have e : a + k = 32 := by omega
     have ek : k = 32 - a := by omega
     subst ek
     have I' : Hid (Moved own w p (s.settleTo (a + 1)) wr) := J
     rw [e]
     go_wp2
     go_roundw
     case rel => exact ⟨a + 1, by omega, by go_num, I'⟩
     case measure => simp [intOf]; omega
  ·have e : a = 32 := by omega
   subst e
   go_wp2
   refine bodyPost_end (v := .tuple #[]) (by simp [results, Try.results83, go_sem]) rfl ⟨rfl, ?_⟩
   exact I.out
theorem finish_is {w : World} {p q n : Nat} {a : Wh} {s : PS} {own : Own} {G : PG} (m : PMem w p s own G) (hq : q < 32) (hn : n < 4) (ha : a = whoOf q n) (F : s.Fit) :
  Calls Try.prog 72 #[.pointer (some ⟨p, 0, none⟩), .agg #[.int .i64 a.1, .int .i64 a.2.1, .int .i64 a.2.2]] w fun e w' => e = .returned (.tuple #[]) ∧ Moved own w p (s.finishT q n) w' := by
 have M : Hid (PMem w p s own G) := m
 have HF : Hid s.Fit := F
 have hp := m.lt
 clear m F
 obtain ⟨a0, a1, a2⟩ := a
 simp only [whoOf, Prod.mk.injEq] at ha
 obtain ⟨h0, h1, h2⟩ := ha
 subst h2
 have Ha : Hid ((a0, a1) = labOf q) := by show _ = _; rw [h0, h1]
 have hlab : labB a0 a1 = true := by rw [h0, h1]; exact labOf_ok hq
 have hpl : plOf (a0, a1) = q := by rw [Ha.out]; exact plOf_labOf hq
 clear h0 h1
 go_enter Try.func72, Try.ntmps72
 go_wp2_with fail
 refine (tier_is (a := (a0, a1)) hlab hpl).mono ?_
 rintro e w1 ⟨rfl, hb1⟩
 have hB1 : Hid (Below w.heap.size w w1) := ((Below.refl _ _).alloc (Nat.le_refl _) _).trans (hb1.mono (by simp))
 have hz1 : w.heap.size < w1.heap.size := by have := hb1.size; simp at this; omega
 have d2 : w1.cell? ⟨w.heap.size, 2, none⟩ = some (.int .i64 (n : Int)) := by rw [(bcell hb1).1 _ _ (by simp)]; simp
 clear hb1
 go_wp2_with fail
 refine (trEnd_is (M.out.below hB1.out) hq hn (HF.out.short q hq).1 (HF.out.short q hq).2).mono ?_
 rintro e w2 ⟨rfl, own2, G2, m2, cg2⟩
 have M2 : Hid (PMem w2 p (s.setT q ((s.t q).endT n)) own2 G2) := m2
 have CG2 : Hid (ChgQ own w w2 own2) := (ChgQ.of_below hB1.out).trans cg2
 clear m2 cg2 d2
 go_wp2_with fail
 refine (settle_is M2.out (HF.out.setT ((HF.out.tr q hq).endT n))).mono ?_
 rintro e w3 ⟨rfl, hmv⟩
 have J : Hid (Moved own w p (s.finishT q n) w3) := Moved.trans CG2.out hmv
 clear hmv
 go_wp2
 exact bodyPost_end (v := .tuple #[]) (by simp [results, Try.results72, go_sem]) rfl ⟨rfl, J.out⟩
theorem abort_is {w : World} {p q n : Nat} {a : Wh} {s : PS} {own : Own} {G : PG} (m : PMem w p s own G) (hq : q < 32) (hn : n < 4) (ha : a = whoOf q n) (F : s.Fit) :
  Calls Try.prog 54 #[.pointer (some ⟨p, 0, none⟩), .agg #[.int .i64 a.1, .int .i64 a.2.1, .int .i64 a.2.2]] w (AQ own w p (s.abortT q n).1 (s.abortT q n).2) := by
 have M : Hid (PMem w p s own G) := m
 have HF : Hid s.Fit := F
 have hp := m.lt
 have HA : Hid (a = whoOf q n) := ha
 clear m F
 obtain ⟨a0, a1, a2⟩ := a
 simp only [whoOf, Prod.mk.injEq] at ha
 obtain ⟨h0, h1, h2⟩ := ha
 subst h2
 have Ha : Hid ((a0, a1) = labOf q) := by show _ = _; rw [h0, h1]
 have hlab : labB a0 a1 = true := by rw [h0, h1]; exact labOf_ok hq
 have hpl : plOf (a0, a1) = q := by rw [Ha.out]; exact plOf_labOf hq
 clear h0 h1
 go_enter Try.func54, Try.ntmps54
 go_upto_region 1 with fail
 obtain ⟨B1, L0, L1⟩ := entryW (w := w) (a := (a0, a1, (n : Int)))
 unfold whoObj ansObj at *
 simp only at *
 generalize (w.alloc _).alloc _ = W1 at *
 have hs1 : w.heap.size + 1 < W1.heap.size := (Array.getElem?_eq_some_iff.1 L1.out).1
 obtain ⟨r0, r1, r2⟩ := who_cells L0.out
 go_wp2_with fail
 refine (tier_is (a := (a0, a1)) hlab hpl).mono ?_
 rintro e w2 ⟨rfl, hb2⟩
 have B2 : Hid (Below w.heap.size w w2) := B1.out.trans (hb2.mono B1.out.size)
 have L02 : Hid (w2.heap[w.heap.size]? = _) := (hb2.block _ (by omega)).trans L0.out
 have L12 : Hid (ansBlk w2 (w.heap.size + 1) 0 0 (.slice none 0 0)) := (hb2.block _ (by omega)).trans L1.out
 have hs2 : w.heap.size + 1 < w2.heap.size := Nat.lt_of_lt_of_le hs1 hb2.size
 obtain ⟨s0, s1, s2⟩ := who_cells L02.out
 obtain ⟨e0, e1, e2, f0, f1, f2⟩ := ans_cells L12.out
 clear r0 r1 r2 L0 L1 hb2 B1
 cases hlv : hasB (s.t q).begun n
 ·have HP : Hid (s.abortT q n = (s, ⟨5, 0, []⟩)) := by show _ = _; unfold PS.abortT; rw [hlv]; rfl
  obtain ⟨a1, a2⟩ := still_chain M.out B2.out (b := w.heap.size + 1) (by omega) L12.out 5 0
  have A1 : Hid (ansBlk _ _ _ _ _) := a1
  have A2 : Hid (AQ _ _ _ _ _ _ _) := a2
  clear a1 a2
  go_wp2_with fail
  refine (isLive_is (M.out.below B2.out) hq hlv).mono ?_
  rintro e w3 ⟨rfl, rfl⟩
  go_wp2
  refine ret_ans Try.results54 rfl A1.out rfl ?_
  rw [HP.out]; exact A2.out
 ·have HP : Hid (s.abortT q n = (s.finishT q n, ⟨0, 0, []⟩)) := by show _ = _; unfold PS.abortT; rw [hlv]; rfl
  go_wp2_with fail
  refine (isLive_is (M.out.below B2.out) hq hlv).mono ?_
  rintro e w3 ⟨rfl, rfl⟩
  go_wp2_with fail
  refine (finish_is (a := (a0, a1, (n : Int))) (M.out.below B2.out) hq hn HA.out HF.out).mono ?_
  generalize s.finishT q n = sF at *
  rintro e w4 ⟨rfl, hmv⟩
  obtain ⟨b0, b1, b2⟩ := moved_chain (ChgQ.of_below B2.out) (b := w.heap.size + 1) (by omega) (M.out.off (by omega)) L12.out hmv 0 0
  clear e0 e1 e2 f0 f1 f2
  obtain ⟨e0, e1, e2, f0, f1, f2⟩ := ans_cells b0
  have A1 : Hid (ansBlk _ _ _ _ _) := b1
  have A2 : Hid (AQ _ _ _ _ _ _ _) := b2
  clear b0 b1 b2 hmv s0 s1 s2
  go_wp2
  refine ret_ans Try.results54 rfl A1.out rfl ?_
  rw [HP.out]; exact A2.out
theorem poll_is {w : World} {p q n : Nat} {s : PS} {own : Own} {G : PG} (m : PMem w p s own G) (hq : q < 32) (hn : n < 4) :
  Calls Try.prog 53 #[.pointer (some ⟨p, tO q, none⟩), .int .i64 n] w (AQ own w p (s.pollT q n).1 (s.pollT q n).2) := by
 have M : Hid (PMem w p s own G) := m
 have hp := m.lt
 have zn : (n : Int) < 4 := by omega
 clear m
 go_enter Try.func53, Try.ntmps53
 go_upto_region 1 with fail
 have B1 : Hid (Below w.heap.size w (w.alloc ansObj)) := (Below.refl _ _).alloc (Nat.le_refl _) _
 have L1 : Hid (ansBlk (w.alloc ansObj) w.heap.size 0 0 (.slice none 0 0)) := heap_alloc_new w _
 unfold ansObj at *
 generalize w.alloc _ = W1 at *
 have hs1 : w.heap.size < W1.heap.size := (Array.getElem?_eq_some_iff.1 L1.out).1
 have M1 : Hid (PMem W1 p s own G) := M.out.below B1.out
 have hc := M1.out.queC hq
 have hp1 := M1.out.lt
 have hcm := ses_came (M1.out.sesAt hq hn)
 obtain ⟨e0, e1, e2, f0, f1, f2⟩ := ans_cells L1.out
 cases hqu : hasB (s.t q).queue n
 ·cases hca : ((s.t q).ses n).came
  ·have HP : Hid (s.pollT q n = (s, ⟨8, 0, []⟩)) := by show _ = _; unfold PS.pollT; rw [hqu, hca]; rfl
   rw [hca] at hcm
   obtain ⟨a1, a2⟩ := still_chain M.out B1.out (b := w.heap.size) (by omega) L1.out 8 0
   have A1 : Hid (ansBlk _ _ _ _ _) := a1
   have A2 : Hid (AQ _ _ _ _ _ _ _) := a2
   clear a1 a2
   go_wp2_with fail
   refine (has_is (M1.out.queR q hq) hqu).mono ?_
   rintro e w3 ⟨rfl, rfl⟩
   go_wp2
   refine ret_ans Try.results53 rfl A1.out rfl ?_
   rw [HP.out]; exact A2.out
  ·have HP : Hid (s.pollT q n = (s.heard q n, ((s.t q).ses n).out)) := by show _ = _; unfold PS.pollT; rw [hqu, hca]; rfl
   rw [hca] at hcm
   go_wp2_with fail
   refine (has_is (M1.out.queR q hq) hqu).mono ?_
   rintro e w3 ⟨rfl, rfl⟩
   go_wp2_with fail
   refine (tellOut_is M1.out hq hn).mono ?_
   intro e w4 haq
   obtain ⟨ao, cap, rfl, a0, a1, a2⟩ := aq_chain (ChgQ.of_below B1.out) (b := w.heap.size) (Nat.le_refl _) (M.out.off (Nat.le_refl _)) L1.out haq
   clear e0 e1 e2 f0 f1 f2 hc hcm
   obtain ⟨e0, e1, e2, f0, f1, f2⟩ := ans_cells a0
   have A1 : Hid (ansBlk _ _ _ _ _) := a1
   have A2 : Hid (AQ _ _ _ _ _ _ _) := a2
   clear a0 a1 a2 haq
   unfold ansV
   go_wp2
   refine ret_ans Try.results53 rfl A1.out rfl ?_
   rw [HP.out]; exact A2.out
 ·have HP : Hid (s.pollT q n = (s, ⟨1, 0, []⟩)) := by show _ = _; unfold PS.pollT; rw [hqu]; rfl
  obtain ⟨a1, a2⟩ := still_chain M.out B1.out (b := w.heap.size) (by omega) L1.out 1 0
  have A1 : Hid (ansBlk _ _ _ _ _) := a1
  have A2 : Hid (AQ _ _ _ _ _ _ _) := a2
  clear a1 a2
  go_wp2_with fail
  refine (has_is (M1.out.queR q hq) hqu).mono ?_
  rintro e w3 ⟨rfl, rfl⟩
  go_wp2
  refine ret_ans Try.results53 rfl A1.out rfl ?_
  rw [HP.out]; exact A2.out
def wtgC (w : Wtg) : List Value := (List.range 16).map (fun i => .bool (w (i / 4) (i % 4)))
def wtg0 : Wtg := fun _ _ => false
theorem len_wtgC (w : Wtg) : (wtgC w).length = 16 := by simp [wtgC]
theorem wtgC_at (w : Wtg) {a c : Nat} (ha : a < 4) (hc : c < 4) : (wtgC w)[a * 4 + c]? = some (.bool (w a c)) := by
 have h : a * 4 + c < 16 := by omega
 have h1 : (a * 4 + c) / 4 = a := by omega
 have h2 : (a * 4 + c) % 4 = c := by omega
 simp [wtgC, h, h1, h2]
theorem wtgC_set (w : Wtg) {a c : Nat} (ha : a < 4) (hc : c < 4) (v : Bool) : wtgC (w.set a c v) = (wtgC w).set (a * 4 + c) (.bool v) := by
 apply List.ext_getElem?
 intro i
 rw [List.getElem?_set]
 unfold wtgC
 by_cases hi : i < 16
 ·by_cases e : a * 4 + c = i
  ·subst e
   have h1 : (a * 4 + c) / 4 = a := by omega
   have h2 : (a * 4 + c) % 4 = c := by omega
   simp [hi, Wtg.set, h1, h2]
  ·have e' : ¬ (i / 4 = a ∧ i % 4 = c) := by omega
   simp [hi, Wtg.set, e, e']
 ·have h16 : ((List.range 16).map (fun i => Value.bool (w (i / 4) (i % 4))))[i]? = none := by simp; omega
  have h17 : ((List.range 16).map (fun i => Value.bool (w.set a c v (i / 4) (i % 4))))[i]? = none := by simp; omega
  rw [h16, h17, if_neg (by omega)]
def WtgAt (w : World) (b : Nat) (f : Wtg) : Prop := (∃ C, w.heap[b]? = some (.cells C 180 (0, 0)) ∧ C.size = 16) ∧ w.rangeAt b 0 (wtgC f)
theorem WtgAt.there {w : World} {b : Nat} {f : Wtg} (h : WtgAt w b f) {o n : Nat} (hn : o + n ≤ 16) : w.there b o n := fun j hj => by
 obtain ⟨C, hC, hz⟩ := h.1
 refine ⟨?_, frozen_of_row w b _ C _ hC⟩
 rw [cell_of_row w b _ C _ _ hC, Array.getElem?_eq_getElem (by omega)]; rfl
theorem WtgAt.froz {w : World} {b : Nat} {f : Wtg} (h : WtgAt w b f) (j : Nat) : w.frozen? ⟨b, j, none⟩ = false := by
 obtain ⟨C, hC, hz⟩ := h.1
 exact frozen_of_row w b _ C _ hC
theorem WtgAt.lt {w : World} {b : Nat} {f : Wtg} (h : WtgAt w b f) : b < w.heap.size := by
 obtain ⟨C, hC, hz⟩ := h.1
 exact (Array.getElem?_eq_some_iff.1 hC).1
theorem WtgAt.frame {w w' : World} {b : Nat} {f : Wtg} (h : WtgAt w b f) (hk : w'.heap[b]? = w.heap[b]?) : WtgAt w' b f :=
 ⟨by rw [hk]; exact h.1, fun j u hj => (cell_of_same hk _).trans (h.2 j u hj)⟩
theorem WtgAt.cell {w : World} {b : Nat} {f : Wtg} (h : WtgAt w b f) {a c : Nat} (ha : a < 4) (hc : c < 4) : w.cell? ⟨b, a * 4 + c, none⟩ = some (.bool (f a c)) := by
 have := h.2 (a * 4 + c) _ (wtgC_at f ha hc)
 rw [Nat.zero_add] at this; exact this
theorem WtgAt.set {w : World} {b : Nat} {f : Wtg} (h : WtgAt w b f) {a c : Nat} (ha : a < 4) (hc : c < 4) (v : Bool) : WtgAt (w.setCell ⟨b, a * 4 + c, none⟩ (.bool v)) b (f.set a c v) := by
 obtain ⟨C, hC, hz⟩ := h.1
 refine ⟨⟨_, heap_setCell_same w b (a * 4 + c) C _ (.bool v) hC, by simp [hz]⟩, ?_⟩
 obtain ⟨A, Z, u, e1, e2, e3⟩ := set_split (.bool v) (l := wtgC f) (i := a * 4 + c) (by rw [len_wtgC]; omega)
 have := rangeAt_splice h.2 e1 ((wtgC_set f ha hc v).trans e2) e3 rfl (h.there (by show 0 + (a * 4 + c) + 1 ≤ 16; omega))
 rw [Nat.zero_add] at this
 exact this
theorem WtgAt.new {w : World} {f : Wtg} : WtgAt (w.alloc (.cells (wtgC f).toArray 180)) w.heap.size f :=
 ⟨⟨_, heap_alloc_new w _, by rw [List.size_toArray, len_wtgC]⟩, fun j u hj => by
  rw [cell_of_row _ _ _ _ _ _ (heap_alloc_new w _), Nat.zero_add]; simpa using hj⟩
theorem WtgAt.all {w : World} {b : Nat} {f : Wtg} (h : WtgAt w b f) (g : Wtg) : WtgAt (w.setCells b 0 (wtgC g)) b g := by
 obtain ⟨C, hC, hz⟩ := h.1
 obtain ⟨C', hC', hz'⟩ := setCells_root (wtgC g) 0 w C hC
 exact ⟨⟨C', hC', by omega⟩, World.rangeAt_setCells_same w b 0 _ (h.there (by rw [len_wtgC]; omega))⟩
theorem size_wtg : (Try.prog.info? 180).map (·.size) = some 16 := by kernel_rfl
theorem wtg_one (f : Wtg) : (wtgC f).toArray.all (·.oneCell') = true := all_oneCell_toArray (by
 intro v hv
 unfold wtgC at hv
 obtain ⟨k, _, rfl⟩ := List.mem_map.1 hv
 rfl)
abbrev wtgObj (f : Wtg) : Obj := .cells (wtgC f).toArray 180
theorem zeroWtg : (.cells #[Value.bool false, Value.bool false, Value.bool false, Value.bool false, Value.bool false, Value.bool false, Value.bool false, Value.bool false, Value.bool false, Value.bool false, Value.bool false, Value.bool false, Value.bool false, Value.bool false, Value.bool false, Value.bool false] 180 : Obj) = wtgObj wtg0 := rfl
theorem wtg_ret {fn : Func} {pt : Tmp} {R : Ending → World → Prop} {a : Act} {w : World} {b : Nat} {f : Wtg} (hres : fn.results = #[.cell pt 180]) (hp : a.tmps.getD pt undef = .pointer (some ⟨b, 0, none⟩)) (hd : a.defers = [])
  (h : w.rangeAt b 0 (wtgC f)) (hR : R (.returned (.agg (wtgC f).toArray)) w) : bodyPost Try.prog fn R .ret a w := by
 have hl := run_loadVar_mid (P := Try.prog) w b 0 180 (wtgC f) _ h Try.underlying180 rfl (by rw [len_wtgC]; exact size_wtg)
 refine bodyPost_ret (v := .agg (wtgC f).toArray) ?_ hd hR
 have hp' : a.tmps[pt]?.getD undef = .pointer (some ⟨b, 0, none⟩) := by simpa using hp
 simp [results, hres, hp', hl, asAddr]
theorem hands_snoc (t : Tr) : ∀ (l : List Nat) (w : Wtg) (n : Nat), t.hands w (l ++ [n]) = t.row (t.hands w l) n 4
 | [], _, _ => rfl
 | m :: l, w, n => hands_snoc t l (t.row w m 4) n
def WtgPost (w : World) (f : Wtg) (e : Ending) (w' : World) : Prop := e = .returned (.agg (wtgC f).toArray) ∧ Below w.heap.size w w'
theorem firstHand_is {w : World} {p q : Nat} {s : PS} {own : Own} {G : PG} (m : PMem w p s own G) (hq : q < 32) (F : s.Fit) :
  Calls Try.prog 124 #[.pointer (some ⟨p, tO q, none⟩)] w (WtgPost w (s.t q).firstHand) := by
 have M : Hid (PMem w p s own G) := m
 have hp := m.lt
 have HQL : Hid (∀ n ∈ (s.t q).queue, n < 4) := (F.tr q hq).queL
 have hq4 := (F.short q hq).2
 clear m F
 go_enter Try.func124, Try.ntmps124
 go_upto_region 2 with fail
 rw [zeroWtg]
 have hz1 : (w.alloc (wtgObj wtg0)).heap.size = w.heap.size + 1 := by simp
 have B1 : Hid (Below w.heap.size w ((w.alloc (wtgObj wtg0)).alloc (wtgObj wtg0))) := below2r
 have T1 : Hid (WtgAt ((w.alloc (wtgObj wtg0)).alloc (wtgObj wtg0)) w.heap.size wtg0) := WtgAt.new.frame (heap_alloc_old (by simp))
 have T2 : Hid (WtgAt ((w.alloc (wtgObj wtg0)).alloc (wtgObj wtg0)) (w.heap.size + 1) wtg0) := by
  show WtgAt _ _ _
  rw [← hz1]; exact WtgAt.new
 clear hz1
 generalize (w.alloc (wtgObj wtg0)).alloc (wtgObj wtg0) = W1 at *
 have M1 : Hid (PMem W1 p s own G) := M.out.below B1.out
 obtain ⟨ao, cap, hv, hel⟩ := queRow_at M1.out hq
 have hc := M1.out.queC hq
 rw [hv] at hc
 have HEL : Hid (∀ k (n : Nat), (s.t q).queue[k]? = some n → ∃ b, ao = some ⟨b, 0, none⟩ ∧ own b = some (queTag q) ∧ b < W1.heap.size ∧ W1.cell? ⟨b, k, none⟩ = some (.int .i64 (n : Int))) := hel
 clear hv hel
 have I0 : Hid (WtgAt W1 (w.heap.size + 1) ((s.t q).hands wtg0 ((s.t q).queue.take 0))) := T2
 have hs1 := T2.out.lt
 go_wp2_with fail
 go_loopw [12] (fun i wr => ∃ k : Nat, k ≤ (s.t q).queue.length ∧ i = .int .i64 k ∧ Hid (WtgAt wr (w.heap.size + 1) ((s.t q).hands wtg0 ((s.t q).queue.take k))) ∧ Hid (WtgAt wr w.heap.size wtg0) ∧ Hid (W1.heap.size ≤ wr.heap.size ∧ ∀ b, b < W1.heap.size → b ≠ w.heap.size + 1 → wr.heap[b]? = W1.heap[b]?) ∧ Hid (Below w.heap.size w wr)) (fun i _ => (s.t q).queue.length - (intOf i).toNat)
 case atStart => exact ⟨0, Nat.zero_le _, rfl, I0, T1, ⟨Nat.le_refl _, fun _ _ _ => rfl⟩, B1⟩
 case round =>
  obtain ⟨k, hk, rfl, I, IZ, IS, IB⟩ := hrel
  by_cases hlt : k < (s.t q).queue.length
  ·have gk := List.getElem?_eq_getElem hlt
   generalize (s.t q).queue[k] = n at gk
   have Gk : Hid ((s.t q).queue[k]? = some n) := gk
   have hn : n < 4 := HQL.out n (List.mem_of_getElem? gk)
   have HSn : Hid ((s.t q).hands wtg0 ((s.t q).queue.take (k + 1)) = (s.t q).row ((s.t q).hands wtg0 ((s.t q).queue.take k)) n 4) := by
    show _ = _
    obtain ⟨h1, h2⟩ := List.getElem?_eq_some_iff.1 gk
    rw [List.take_succ_eq_append_getElem h1, h2, hands_snoc]
   clear gk
   have zk : (k : Int) < ((s.t q).queue.length : Int) := by omega
   have zn : (n : Int) < 4 := by omega
   obtain ⟨bt, rfl, hbo, hbt, hcell⟩ := HEL.out k n Gk.out
   have hbne : bt ≠ w.heap.size + 1 := fun e => by rw [e, M.out.off (by omega)] at hbo; cases hbo
   have y0 : wr.cell? ⟨bt, k, none⟩ = some (.int .i64 (n : Int)) := by rw [cell_of_same (IS.out.2 bt hbt hbne)]; exact hcell
   have J0 : Hid (WtgAt wr (w.heap.size + 1) ((s.t q).row ((s.t q).hands wtg0 ((s.t q).queue.take k)) n 0)) := I
   generalize (s.t q).hands wtg0 ((s.t q).queue.take k) = f0 at *
   go_wp2_with fail
   go_loopw [16] (fun i wr => ∃ o : Nat, o ≤ 4 ∧ i = .int .i64 o ∧ Hid (WtgAt wr (w.heap.size + 1) ((s.t q).row f0 n o)) ∧ Hid (WtgAt wr w.heap.size wtg0) ∧ Hid (W1.heap.size ≤ wr.heap.size ∧ ∀ b, b < W1.heap.size → b ≠ w.heap.size + 1 → wr.heap[b]? = W1.heap[b]?) ∧ Hid (Below w.heap.size w wr)) (fun i _ => 4 - (intOf i).toNat)
   case atStart => exact ⟨0, Nat.zero_le _, rfl, J0, IZ, IS, IB⟩
   case round =>
    obtain ⟨o, ho, rfl, J, JZ, JS, JB⟩ := hrel
    by_cases hlt2 : o < 4
    ·have zo : (o : Int) < 4 := by omega
     go_upto_region 8 with fail
     have hS : (fun _ : World => True) wr.drew := trivial
     refine wp_region_Z (z := 8) (S := fun _ => True) (by kernel_rfl) ?_
     refine zC 9 (i := 0) (v := ?v227) (by decide +kernel) rfl (fun _ _ _ h => h) hS (.inl ⟨by rfl, ?y227⟩) ?_
     case y227 => (intro wz zs0; go_simp <;> with_reducible rfl)
     simp only [Act.put, z1, z2, z4]
     refine zC 9 (i := 1) (v := ?v228) (by decide +kernel) rfl (fun _ _ _ h => h) hS (.inl ⟨by rfl, ?y228⟩) ?_
     case y228 => (intro wz zs0; go_simp <;> with_reducible rfl)
     simp only [Act.put, z1, z2, z3, z4, z5, z6]
     refine zC 9 (i := 2) (v := ?v229) (by decide +kernel) rfl (fun _ _ _ h => h) hS (.inl ⟨by rfl, ?y229⟩) ?_
     case y229 => (intro wz zs0; go_simp <;> with_reducible rfl)
     simp only [Act.put, z1, z2, z3, z4, z5, z6]
     refine zC 9 (i := 3) (v := ?v230) (by decide +kernel) rfl (fun _ _ _ h => h) hS (.inl ⟨by rfl, ?y230⟩) ?_
     case y230 => (intro wz zs0; go_simp <;> with_reducible rfl)
     simp only [Act.put, z1, z2, z3, z4, z5, z6]
     refine zC 9 (i := 4) (v := ?v231) (by decide +kernel) rfl (fun _ _ _ h => h) hS (.inl ⟨by rfl, ?y231⟩) ?_
     case y231 => (intro wz zs0; go_simp <;> with_reducible rfl)
     simp only [Act.put, z1, z2, z3, z4, z5, z6]
     refine zC 9 (i := 6) (v := ?v232) (by decide +kernel) rfl (fun _ _ _ h => h) hS (.inl ⟨by rfl, ?y232⟩) ?_
     case y232 => (intro wz zs0; go_simp <;> with_reducible rfl)
     simp only [Act.put, z1, z2, z3, z4, z5, z6]
     refine wpAnyZ_one (i := 5) (by decide +kernel) rfl (fun K hK => ?_)
     go_simp
     refine (trHind_is (M.out.below JB.out.drew) hq hlt2 hn rfl).mono ?_
     rintro e w5 ⟨rfl, hb5⟩
     have hb5' : Below wr.heap.size wr w5 := (Below.refl _ _).drew.trans hb5
     have K1 : Hid (WtgAt w5 (w.heap.size + 1) ((s.t q).row f0 n o)) := J.out.frame (hb5'.block _ J.out.lt)
     have c5 := K1.out.cell hn hlt2
     have f5 := K1.out.froz (n * 4 + o)
     have K2 : Hid (WtgAt (w5.setCell ⟨w.heap.size + 1, n * 4 + o, none⟩ (.bool ((s.t q).hindB o n))) (w.heap.size + 1) ((s.t q).row f0 n (o + 1))) := K1.out.set hn hlt2 _
     have KZ : Hid (WtgAt (w5.setCell ⟨w.heap.size + 1, n * 4 + o, none⟩ (.bool ((s.t q).hindB o n))) w.heap.size wtg0) := (JZ.out.frame (hb5'.block _ JZ.out.lt)).frame (heap_setCell_ne _ _ _ _ _ (by omega))
     have KS : Hid (W1.heap.size ≤ (w5.setCell ⟨w.heap.size + 1, n * 4 + o, none⟩ (.bool ((s.t q).hindB o n))).heap.size ∧ ∀ b, b < W1.heap.size → b ≠ w.heap.size + 1 → (w5.setCell ⟨w.heap.size + 1, n * 4 + o, none⟩ (.bool ((s.t q).hindB o n))).heap[b]? = W1.heap[b]?) := by
      refine ⟨by rw [World.size_setCell]; exact Nat.le_trans JS.out.1 hb5'.size, fun b hb hne => ?_⟩
      rw [heap_setCell_ne _ _ _ _ _ hne, hb5'.block b (Nat.lt_of_lt_of_le hb JS.out.1)]
      exact JS.out.2 b hb hne
     have KB : Hid (Below w.heap.size w (w5.setCell ⟨w.heap.size + 1, n * 4 + o, none⟩ (.bool ((s.t q).hindB o n)))) := (JB.out.trans (hb5'.mono JB.out.size)).setCell (p := ⟨w.heap.size + 1, n * 4 + o, none⟩) (by simp) _
     refine hK _ _ (fun _ => trivial) ?_
     clear hK
     refine wpAnyZ_one (i := 7) (by decide +kernel) rfl (fun K hK => ?_)
     go_simp
     refine hK _ _ (fun _ => trivial) ?_
     clear hK
     refine wpAnyZ_one (i := 8) (by decide +kernel) rfl (fun K hK => ?_)
     go_simp
     refine hK _ _ (fun h => absurd rfl h) ?_
     clear hK
     refine wpAnyZ_done (by decide +kernel) ?_ _
     go_wp2
     go_roundw
     case rel => exact ⟨o + 1, by omega, by go_num, K2, KZ, KS, KB⟩
     case measure => simp [intOf]; omega
    ·have e : o = 4 := by omega
     subst e
     have I' : Hid (WtgAt wr (w.heap.size + 1) ((s.t q).hands wtg0 ((s.t q).queue.take (k + 1)))) := by show WtgAt _ _ _; rw [HSn.out]; exact J.out
     go_wp2
     go_roundw
     case rel => exact ⟨k + 1, by omega, by go_num, I', JZ, JS, JB⟩
     case measure => simp [intOf]; omega
  ·have e : k = (s.t q).queue.length := by omega
   subst e
   have I' : Hid (WtgAt wr (w.heap.size + 1) (s.t q).firstHand) := by show WtgAt _ _ _; have := I.out; rw [List.take_length] at this; exact this
   generalize (s.t q).firstHand = f at *
   have HT : Hid (wr.there w.heap.size 0 (wtgC f).toArray.size) := IZ.out.there (by rw [List.size_toArray, len_wtgC]; omega)
   go_wp2_with (first | (refine wpList_load_mid rfl 180 _ rfl (w.heap.size + 1) 0 rfl (wtgC f) _ I'.out.2 Try.underlying180 rfl (by rw [len_wtgC]; exact size_wtg) ?_) | (refine wpList_store_mid rfl 180 _ _ rfl w.heap.size 0 (wtgC f).toArray rfl rfl HT.out (by rw [List.size_toArray, len_wtgC]; exact size_wtg) (wtg_one _) ?_))
   exact wtg_ret Try.results124 rfl rfl (IZ.out.all f).2 ⟨rfl, below_setCells (Nat.le_refl _) _ _ _ IB.out⟩
end Go.Proofs.Ytpbcplfpjcacfaa
