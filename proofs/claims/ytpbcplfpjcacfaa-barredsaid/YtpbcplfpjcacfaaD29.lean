import Derived.Test.YtpbcplfpjcacfaaD27
import Derived.Test.YtpbcplfpjcacfaaD28
namespace Go.Proofs.Ytpbcplfpjcacfaa
open Go.RowKit
set_option maxRecDepth 100000
set_option maxHeartbeats 8000000
def PS.doT (s : PS) (x : Stp) : PS × Ans := if properB x = false then (s, ⟨9, 0, []⟩) else s.actT (plOf x.who.lab) (numOf x.who) x
theorem who_is {x : Wh} {q n : Nat} (h1 : labB x.1 x.2.1 = true) (h2 : 0 ≤ x.2.2) (hq : plOf x.lab = q) (hn : numOf x = n) : x = whoOf q n := by
 subst hq hn
 have := labOf_plOf (a := x.lab) h1
 unfold whoOf numOf
 rw [this]
 obtain ⟨a, b, c⟩ := x
 simp only [Wh.lab, Prod.mk.injEq, true_and] at *
 omega
theorem apost_chain {own own1 : Own} {w W1 W : World} {p b : Nat} {s' : PS} {a : Ans} {e : Ending} (cg : ChgD own w W1 own1) (hb : w.heap.size ≤ b) (ho1 : own1 b = none) (hblk : ansBlk W1 b 0 0 (.slice none 0 0)) (h : AskPost own1 W1 p s' a e W) :
  ∃ ao cap, e = .returned (ansV a.code a.why (.slice ao a.items.length cap)) ∧ ansBlk W b 0 0 (.slice none 0 0) ∧ ansBlk (ansW W b a.code a.why (.slice ao a.items.length cap)) b a.code a.why (.slice ao a.items.length cap) ∧
   APost own w (fun w' o => PRep w' p s' o) a (.returned (ansV a.code a.why (.slice ao a.items.length cap))) (ansW W b a.code a.why (.slice ao a.items.length cap)) := by
 obtain ⟨v, o2, rfl, hrow, ⟨G2, m2⟩, cg2, hv⟩ := h
 obtain ⟨ao, cap, rfl⟩ := ownsRow_form hrow
 have hb1 : b < W1.heap.size := (Array.getElem?_eq_some_iff.1 hblk).1
 have ho2 : o2 b = none := cg2.off ho1 hb1
 have hW : ansBlk W b 0 0 (.slice none 0 0) := (cg2.block b hb1 ho1).trans hblk
 have hvb : ∀ k, (Value.slice ao a.items.length cap).ownBlock = some k → k ≠ b := fun k hk e => by
  subst e
  rcases (hv k hk).2 with h | h
  ·exact h ho1
  ·omega
 have hWW : ansW W b a.code a.why (.slice ao a.items.length cap) = W.setCells b 0 [.int .i64 a.code, .int .i64 a.why, .slice ao a.items.length cap] := rfl
 refine ⟨ao, cap, rfl, hW, ans_stored _ _ _ hW, _, o2, rfl, ?_, ⟨G2, ?_⟩, ?_, ?_⟩
 ·rw [hWW]; exact ownsRow_frame hrow (fun k hk => setCells_other _ _ _ _ (hvb k hk))
 ·rw [hWW]; exact m2.free ho2 _
 ·rw [hWW]; exact chgD_free (cg.trans cg2) hb _
 ·intro k hk
  refine ⟨(hv k hk).1, ?_⟩
  rcases (hv k hk).2 with h | h
  ·exact cg.fresh k h
  ·exact .inr (Nat.le_trans cg.size h)
theorem do_is {w : World} {p : Nat} {x : Stp} {s : PS} {own : Own} {G : PG} (m : PMem w p s own G) (F : s.Fit) :
  Calls Try.prog 28 #[.pointer (some ⟨p, 0, none⟩), stepV x] w (AskPost own w p (s.doT x).1 (s.doT x).2) := by
 have M : Hid (PMem w p s own G) := m
 have HF : Hid s.Fit := F
 have hp := m.lt
 clear m F
 cases hpr : properB x
 ·have HK : Hid (s.doT x = (s, ⟨9, 0, []⟩)) := by show _ = _; unfold PS.doT; rw [hpr]; rfl
  have HPO : Hid (∀ w', Calls Try.prog 50 #[stepV x] w' (BoolPost w' false)) := fun w' => by have := possible_any x w'; rw [hpr] at this; exact this
  generalize s.doT x = AT at *
  unfold stepV at *
  go_enter Try.func28, Try.ntmps28
  go_upto_region 1 with fail
  obtain ⟨B1, L0, L1⟩ := entry2 (w := w) (x := x)
  unfold stpObj ansObj at *
  generalize (w.alloc _).alloc _ = W1 at *
  have hs1 : w.heap.size + 1 < W1.heap.size := (Array.getElem?_eq_some_iff.1 L1.out).1
  obtain ⟨r0, r1, r2, r3, r4, r5, r6, r7, r8⟩ := stp_cells (loc_stp L0.out)
  simp only [Nat.zero_add] at r0 r1 r2 r3 r4 r5 r6 r7 r8
  go_wp2_with fail
  refine (HPO.out _).mono ?_
  rintro e w2 ⟨rfl, hb2⟩
  have B2 : Hid (Below w.heap.size w w2) := B1.out.trans (hb2.mono B1.out.size)
  have L12 : Hid (ansBlk w2 (w.heap.size + 1) 0 0 (.slice none 0 0)) := (hb2.block _ (by omega)).trans L1.out
  obtain ⟨e0, e1, e2, f0, f1, f2⟩ := ans_cells L12.out
  clear r0 r1 r2 r3 r4 r5 r6 r7 r8 hb2
  obtain ⟨a1, a2⟩ := still_chain M.out B2.out (b := w.heap.size + 1) (by omega) L12.out 9 0
  have A1 : Hid (ansBlk _ _ _ _ _) := a1
  have A2 : Hid (APost _ _ _ _ _ _) := a2.toA
  clear a1 a2
  go_wp2
  refine ret_ans Try.results28 rfl A1.out rfl ?_
  rw [HK.out]; exact A2.out
 ·have hPr := proper_of hpr
  obtain ⟨n, hnn⟩ : ∃ n, numOf x.who = n := ⟨_, rfl⟩
  obtain ⟨q, hqq⟩ : ∃ q, plOf x.who.lab = q := ⟨_, rfl⟩
  have hlab : labB x.who.1 x.who.2.1 = true := by
   unfold properB at hpr
   simp only [Bool.and_eq_true] at hpr
   exact hpr.1.1
  have hq : q < 32 := by rw [← hqq]; exact plOf_lt hlab
  have h02 := hPr.who.2.1
  have h32 := hPr.who.2.2
  have hn : n < 4 := by rw [← hnn]; unfold numOf; omega
  have HW : Hid (x.who = whoOf q n) := who_is hlab h02 hqq hnn
  have h22 : x.who.2.2 = (n : Int) := by rw [HW.out]; rfl
  have hpl : plOf (x.who.1, x.who.2.1) = q := hqq
  have zn : (n : Int) < 4 := by omega
  have HASK : Hid (x.op = 2 ∨ x.op = 3 ∨ x.op = 4 ∨ x.op = 5 → ReqOk q n x) := fun ho => by
   obtain ⟨h1, h2⟩ := hPr.asks ho
   exact ⟨HW.out, ⟨h1.key.1, h1.key.2⟩, by unfold labB; exact decide_eq_true h2⟩
  have hop := hPr.op
  have HK : Hid (s.doT x = s.actT q n x) := by show _ = _; unfold PS.doT; rw [hpr, hqq, hnn]; rfl
  have HPO : Hid (∀ w', Calls Try.prog 50 #[stepV x] w' (BoolPost w' true)) := fun w' => by have := possible_any x w'; rw [hpr] at this; exact this
  have HAT : Hid (s.actT q n x = if ((s.t q).ses n).ended ≠ 0 then (s.untold q n, ⟨2, ((s.t q).ses n).ended, []⟩) else if x.op = 8 then s.pollT q n else if x.op = 7 then s.abortT q n else if (s.t q).busyB n then (s, ⟨7, 0, []⟩) else if x.op = 1 then s.beginT q n else if hasB (s.t q).begun n = false then (s, ⟨5, 0, []⟩) else if x.op = 6 then s.commitT q n else s.askT q n x) := rfl
  rw [HK.out]
  generalize s.actT q n x = AT at *
  clear HK hPr hpr h02 h32 hqq hnn
  have hz : stepV x = .agg #[.int .i64 x.who.1, .int .i64 x.who.2.1, .int .i64 (n : Int), .int .i64 x.op, .int .i64 x.at_.1, .int .i64 x.at_.2, .int .i64 x.key, .int .i64 x.to_, .int .i64 x.value] := by unfold stepV; rw [h22]
  have HZ : Hid (stepV x = .agg #[.int .i64 x.who.1, .int .i64 x.who.2.1, .int .i64 (n : Int), .int .i64 x.op, .int .i64 x.at_.1, .int .i64 x.at_.2, .int .i64 x.key, .int .i64 x.to_, .int .i64 x.value]) := hz
  rw [hz]
  have H22 : Hid (x.who.2.2 = (n : Int)) := h22
  have HWO : Hid ((x.who.1, x.who.2.1, (n : Int)) = whoOf q n) := by show _ = _; rw [← H22.out]; exact HW.out
  have HPO1 : Hid (∀ w', Calls Try.prog 50 #[.agg #[.int .i64 x.who.1, .int .i64 x.who.2.1, .int .i64 (n : Int), .int .i64 x.op, .int .i64 x.at_.1, .int .i64 x.at_.2, .int .i64 x.key, .int .i64 x.to_, .int .i64 x.value]] w' (BoolPost w' true)) := fun w' => by have := HPO.out w'; rw [HZ.out] at this; exact this
  clear h22 hz HPO
  go_enter Try.func28, Try.ntmps28
  go_upto_region 1 with fail
  obtain ⟨B1, L0, L1⟩ := entry2 (w := w) (x := x)
  unfold stpObj ansObj at *
  rw [H22.out] at B1 L0 L1
  generalize (w.alloc _).alloc _ = W1 at *
  have hs1 : w.heap.size + 1 < W1.heap.size := (Array.getElem?_eq_some_iff.1 L1.out).1
  have HCE : Hid (∀ W : World, W.heap[w.heap.size]? = some (.cells (stepC x).toArray 30 (0, 0)) → W.cell? ⟨w.heap.size, 0, none⟩ = some (.int .i64 x.who.1) ∧ W.cell? ⟨w.heap.size, 1, none⟩ = some (.int .i64 x.who.2.1) ∧ W.cell? ⟨w.heap.size, 2, none⟩ = some (.int .i64 (n : Int)) ∧ W.cell? ⟨w.heap.size, 3, none⟩ = some (.int .i64 x.op) ∧ W.cell? ⟨w.heap.size, 4, none⟩ = some (.int .i64 x.at_.1) ∧ W.cell? ⟨w.heap.size, 5, none⟩ = some (.int .i64 x.at_.2) ∧ W.cell? ⟨w.heap.size, 6, none⟩ = some (.int .i64 x.key) ∧ W.cell? ⟨w.heap.size, 7, none⟩ = some (.int .i64 x.to_) ∧ W.cell? ⟨w.heap.size, 8, none⟩ = some (.int .i64 x.value)) := fun W h => by
   have := stp_cells (loc_stp h)
   simp only [Nat.zero_add] at this
   rw [H22.out] at this
   exact this
  obtain ⟨r0, r1, r2, r3, r4, r5, r6, r7, r8⟩ := HCE.out _ L0.out
  go_wp2_with fail
  refine (HPO1.out _).mono ?_
  rintro e w2 ⟨rfl, hb2⟩
  have B2 : Hid (Below w.heap.size w w2) := B1.out.trans (hb2.mono B1.out.size)
  have L02 : Hid (w2.heap[w.heap.size]? = some (.cells (stepC x).toArray 30 (0, 0))) := (hb2.block _ (by omega)).trans L0.out
  have L12 : Hid (ansBlk w2 (w.heap.size + 1) 0 0 (.slice none 0 0)) := (hb2.block _ (by omega)).trans L1.out
  have hs2 : w.heap.size + 1 < w2.heap.size := Nat.lt_of_lt_of_le hs1 hb2.size
  clear r0 r1 r2 r3 r4 r5 r6 r7 r8 hb2 L0 L1 B1 HPO1
  obtain ⟨r0, r1, r2, r3, r4, r5, r6, r7, r8⟩ := HCE.out _ L02.out
  go_wp2_with fail
  refine (tier_is (a := (x.who.1, x.who.2.1)) hlab hpl).mono ?_
  rintro e w3 ⟨rfl, hb3⟩
  have B3 : Hid (Below w.heap.size w w3) := B2.out.trans (hb3.mono B2.out.size)
  have L03 : Hid (w3.heap[w.heap.size]? = some (.cells (stepC x).toArray 30 (0, 0))) := (hb3.block _ (by omega)).trans L02.out
  have L13 : Hid (ansBlk w3 (w.heap.size + 1) 0 0 (.slice none 0 0)) := (hb3.block _ (by omega)).trans L12.out
  have hs3 : w.heap.size + 1 < w3.heap.size := Nat.lt_of_lt_of_le hs2 hb3.size
  clear r0 r1 r2 r3 r4 r5 r6 r7 r8 hb3 L02 L12 B2
  obtain ⟨r0, r1, r2, r3, r4, r5, r6, r7, r8⟩ := HCE.out _ L03.out
  have kne := kin_some w3
  have kx2 := kin_cell r2
  go_upto_region 4 with fail
  refine wp_region_kin (by kernel_rfl) (by kernel_rfl) ?_
  repeat (first | go_big_quiet_step (fail) | quiet_step (fail))
  refine wpQuiet_nil ?_
  intro _ hw'
  obtain ⟨xq, hw''⟩ := hw'
  subst hw''
  have B4 : Hid (Below w.heap.size w xq.w) := B3.out.trans (xq.h.mono B3.out.size)
  have L04 : Hid (xq.w.heap[w.heap.size]? = some (.cells (stepC x).toArray 30 (0, 0))) := (xq.h.block _ (by omega)).trans L03.out
  have L14 : Hid (ansBlk xq.w (w.heap.size + 1) 0 0 (.slice none 0 0)) := (xq.h.block _ (by omega)).trans L13.out
  have hs4 : w.heap.size + 1 < xq.w.heap.size := Nat.lt_of_lt_of_le hs3 xq.h.size
  clear kne kx2 r0 r1 r2 r3 r4 r5 r6 r7 r8 L03 L13 B3
  generalize xq.w = w4 at *
  have M4 : Hid (PMem w4 p s own G) := M.out.below B4.out
  obtain ⟨r0, r1, r2, r3, r4, r5, r6, r7, r8⟩ := HCE.out _ L04.out
  obtain ⟨e0, e1, e2, f0, f1, f2⟩ := ans_cells L14.out
  have he := ses_ended (M4.out.sesAt hq hn)
  have hp4 := M4.out.lt
  by_cases hen : ((s.t q).ses n).ended = 0
  ·rw [hen] at he
   have HAT1 : Hid (AT = if x.op = 8 then s.pollT q n else if x.op = 7 then s.abortT q n else if (s.t q).busyB n then (s, ⟨7, 0, []⟩) else if x.op = 1 then s.beginT q n else if hasB (s.t q).begun n = false then (s, ⟨5, 0, []⟩) else if x.op = 6 then s.commitT q n else s.askT q n x) := by
    show _ = _
    have := HAT.out
    rw [if_neg (by rw [hen]; simp)] at this; exact this
   clear hen HAT
   cases h8 : (x.op == 8)
   ·have HAT2 : Hid (AT = if x.op = 7 then s.abortT q n else if (s.t q).busyB n then (s, ⟨7, 0, []⟩) else if x.op = 1 then s.beginT q n else if hasB (s.t q).begun n = false then (s, ⟨5, 0, []⟩) else if x.op = 6 then s.commitT q n else s.askT q n x) := by
     show _ = _
     have := HAT1.out
     rw [if_neg (by simpa using h8)] at this; exact this
    cases h7 : (x.op == 7)
    ·have HAT3 : Hid (AT = if (s.t q).busyB n then (s, ⟨7, 0, []⟩) else if x.op = 1 then s.beginT q n else if hasB (s.t q).begun n = false then (s, ⟨5, 0, []⟩) else if x.op = 6 then s.commitT q n else s.askT q n x) := by
      show _ = _
      have := HAT2.out
      rw [if_neg (by simpa using h7)] at this; exact this
     clear HAT1 HAT2
     go_wp2_with fail
     cases hbz : (s.t q).busyB n
     ·have HAT4 : Hid (AT = if x.op = 1 then s.beginT q n else if hasB (s.t q).begun n = false then (s, ⟨5, 0, []⟩) else if x.op = 6 then s.commitT q n else s.askT q n x) := by
       show _ = _
       have := HAT3.out
       rw [if_neg (by rw [hbz]; simp)] at this; exact this
      refine (isBusy_is M4.out hq hn hbz).mono ?_
      rintro e w5 ⟨rfl, rfl⟩
      cases h1 : (x.op == 1)
      ·have HAT5 : Hid (AT = if hasB (s.t q).begun n = false then (s, ⟨5, 0, []⟩) else if x.op = 6 then s.commitT q n else s.askT q n x) := by
        show _ = _
        have := HAT4.out
        rw [if_neg (by simpa using h1)] at this; exact this
       go_wp2_with fail
       cases hlv : hasB (s.t q).begun n
       ·have HAT6 : Hid (AT = (s, ⟨5, 0, []⟩)) := by
         show _ = _
         have := HAT5.out
         rw [if_pos hlv] at this; exact this
        refine (isLive_is M4.out hq hlv).mono ?_
        rintro e w5 ⟨rfl, rfl⟩
        obtain ⟨a1, a2⟩ := still_chain M.out B4.out (b := w.heap.size + 1) (by omega) L14.out 5 0
        have A1 : Hid (ansBlk _ _ _ _ _) := a1
        have A2 : Hid (APost _ _ _ _ _ _) := a2.toA
        clear a1 a2
        go_wp2
        refine ret_ans Try.results28 rfl A1.out rfl ?_
        rw [HAT6.out]; exact A2.out
       ·have HAT6 : Hid (AT = if x.op = 6 then s.commitT q n else s.askT q n x) := by
         show _ = _
         have := HAT5.out
         rw [if_neg (by rw [hlv]; simp)] at this; exact this
        refine (isLive_is M4.out hq hlv).mono ?_
        rintro e w5 ⟨rfl, rfl⟩
        cases h6 : (x.op == 6)
        ·have HAT7 : Hid (AT = s.askT q n x) := by
          show _ = _
          have := HAT6.out
          rw [if_neg (by simpa using h6)] at this; exact this
         have hRq : ReqOk q n x := HASK.out (by simp at h1 h6 h7 h8; omega)
         have hnq : hasB (s.t q).queue n = false := by unfold Tr.busyB at hbz; simp at hbz; exact hbz.2
         have HAS : Hid (Calls Try.prog 59 #[.pointer (some ⟨p, 0, none⟩), .agg #[.int .i64 x.who.1, .int .i64 x.who.2.1, .int .i64 (n : Int), .int .i64 x.op, .int .i64 x.at_.1, .int .i64 x.at_.2, .int .i64 x.key, .int .i64 x.to_, .int .i64 x.value]] w4 (AskPost own w4 p (s.askT q n x).1 (s.askT q n x).2)) := by
          have := ask_is M4.out hq hn hRq HF.out hnq
          rw [HZ.out] at this; exact this
         clear hRq hnq
         go_wp2_with fail
         refine HAS.out.mono ?_
         generalize s.askT q n x = GT at *
         intro e wz haq
         obtain ⟨ao, cap, rfl, b0, b1, b2⟩ := apost_chain (ChgD.of_below B4.out) (b := w.heap.size + 1) (by omega) (M.out.off (by omega)) L14.out haq
         clear e0 e1 e2 f0 f1 f2
         obtain ⟨e0, e1, e2, f0, f1, f2⟩ := ans_cells b0
         have A1 : Hid (ansBlk _ _ _ _ _) := b1
         have A2 : Hid (APost _ _ _ _ _ _) := b2
         clear b0 b1 b2 haq r0 r1 r2 r3 r4 r5 r6 r7 r8
         unfold ansV
         go_wp2
         refine ret_ans Try.results28 rfl A1.out rfl ?_
         rw [HAT7.out]; exact A2.out
        ·have HAT7 : Hid (AT = s.commitT q n) := by
          show _ = _
          have := HAT6.out
          rw [if_pos (by simpa using h6)] at this; exact this
         go_wp2_with fail
         refine (commit_is (a := (x.who.1, x.who.2.1, (n : Int))) M4.out hq hn HWO.out HF.out).mono ?_
         generalize s.commitT q n = GT at *
         intro e wz haq
         obtain ⟨ao, cap, rfl, b0, b1, b2⟩ := aq_chain (ChgQ.of_below B4.out) (b := w.heap.size + 1) (by omega) (M.out.off (by omega)) L14.out haq
         clear e0 e1 e2 f0 f1 f2
         obtain ⟨e0, e1, e2, f0, f1, f2⟩ := ans_cells b0
         have A1 : Hid (ansBlk _ _ _ _ _) := b1
         have A2 : Hid (APost _ _ _ _ _ _) := b2.toA
         clear b0 b1 b2 haq r0 r1 r2 r3 r4 r5 r6 r7 r8
         unfold ansV
         go_wp2
         refine ret_ans Try.results28 rfl A1.out rfl ?_
         rw [HAT7.out]; exact A2.out
      ·have HAT5 : Hid (AT = s.beginT q n) := by
        show _ = _
        have := HAT4.out
        rw [if_pos (by simpa using h1)] at this; exact this
       go_wp2_with fail
       refine (begin_is (a := (x.who.1, x.who.2.1, (n : Int))) M4.out hq HWO.out HF.out).mono ?_
       generalize s.beginT q n = GT at *
       intro e wz haq
       obtain ⟨ao, cap, rfl, b0, b1, b2⟩ := aq_chain (ChgQ.of_below B4.out) (b := w.heap.size + 1) (by omega) (M.out.off (by omega)) L14.out haq
       clear e0 e1 e2 f0 f1 f2
       obtain ⟨e0, e1, e2, f0, f1, f2⟩ := ans_cells b0
       have A1 : Hid (ansBlk _ _ _ _ _) := b1
       have A2 : Hid (APost _ _ _ _ _ _) := b2.toA
       clear b0 b1 b2 haq r0 r1 r2 r3 r4 r5 r6 r7 r8
       unfold ansV
       go_wp2
       refine ret_ans Try.results28 rfl A1.out rfl ?_
       rw [HAT5.out]; exact A2.out
     ·have HAT4 : Hid (AT = (s, ⟨7, 0, []⟩)) := by
       show _ = _
       have := HAT3.out
       rw [if_pos hbz] at this; exact this
      refine (isBusy_is M4.out hq hn hbz).mono ?_
      rintro e w5 ⟨rfl, rfl⟩
      obtain ⟨a1, a2⟩ := still_chain M.out B4.out (b := w.heap.size + 1) (by omega) L14.out 7 0
      have A1 : Hid (ansBlk _ _ _ _ _) := a1
      have A2 : Hid (APost _ _ _ _ _ _) := a2.toA
      clear a1 a2
      go_wp2
      refine ret_ans Try.results28 rfl A1.out rfl ?_
      rw [HAT4.out]; exact A2.out
    ·have HAT3 : Hid (AT = s.abortT q n) := by
      show _ = _
      have := HAT2.out
      rw [if_pos (by simpa using h7)] at this; exact this
     go_wp2_with fail
     refine (abort_is (a := (x.who.1, x.who.2.1, (n : Int))) M4.out hq hn HWO.out HF.out).mono ?_
     generalize s.abortT q n = GT at *
     intro e wz haq
     obtain ⟨ao, cap, rfl, b0, b1, b2⟩ := aq_chain (ChgQ.of_below B4.out) (b := w.heap.size + 1) (by omega) (M.out.off (by omega)) L14.out haq
     clear e0 e1 e2 f0 f1 f2
     obtain ⟨e0, e1, e2, f0, f1, f2⟩ := ans_cells b0
     have A1 : Hid (ansBlk _ _ _ _ _) := b1
     have A2 : Hid (APost _ _ _ _ _ _) := b2.toA
     clear b0 b1 b2 haq r0 r1 r2 r3 r4 r5 r6 r7 r8
     unfold ansV
     go_wp2
     refine ret_ans Try.results28 rfl A1.out rfl ?_
     rw [HAT3.out]; exact A2.out
   ·have HAT2 : Hid (AT = s.pollT q n) := by
     show _ = _
     have := HAT1.out
     rw [if_pos (by simpa using h8)] at this; exact this
    go_wp2_with fail
    refine (poll_is M4.out hq hn).mono ?_
    generalize s.pollT q n = GT at *
    intro e wz haq
    obtain ⟨ao, cap, rfl, b0, b1, b2⟩ := aq_chain (ChgQ.of_below B4.out) (b := w.heap.size + 1) (by omega) (M.out.off (by omega)) L14.out haq
    clear e0 e1 e2 f0 f1 f2
    obtain ⟨e0, e1, e2, f0, f1, f2⟩ := ans_cells b0
    have A1 : Hid (ansBlk _ _ _ _ _) := b1
    have A2 : Hid (APost _ _ _ _ _ _) := b2.toA
    clear b0 b1 b2 haq r0 r1 r2 r3 r4 r5 r6 r7 r8
    unfold ansV
    go_wp2
    refine ret_ans Try.results28 rfl A1.out rfl ?_
    rw [HAT2.out]; exact A2.out
  ·have HAT1 : Hid (AT = (s.untold q n, ⟨2, ((s.t q).ses n).ended, []⟩)) := by
    show _ = _
    have := HAT.out
    rw [if_pos hen] at this; exact this
   have hne : (((s.t q).ses n).ended == 0) = false := by simpa using hen
   have HTE : Hid (Calls Try.prog 52 #[.pointer (some ⟨p, tO q + 32 + n * 79, none⟩)] w4 (AQ own w4 p (s.untold q n) ⟨2, ((s.t q).ses n).ended, []⟩)) := tellEnd_is M4.out hq hn
   clear hen HAT
   generalize ((s.t q).ses n).ended = en at *
   go_wp2_with fail
   refine HTE.out.mono ?_
   generalize s.untold q n = GT at *
   intro e wz haq
   obtain ⟨ao, cap, rfl, b0, b1, b2⟩ := aq_chain (ChgQ.of_below B4.out) (b := w.heap.size + 1) (by omega) (M.out.off (by omega)) L14.out haq
   clear e0 e1 e2 f0 f1 f2
   obtain ⟨e0, e1, e2, f0, f1, f2⟩ := ans_cells b0
   have A1 : Hid (ansBlk _ _ _ _ _) := b1
   have A2 : Hid (APost _ _ _ _ _ _) := b2.toA
   clear b0 b1 b2 haq r0 r1 r2 r3 r4 r5 r6 r7 r8
   unfold ansV
   go_wp2
   refine ret_ans Try.results28 rfl A1.out rfl ?_
   rw [HAT1.out]; exact A2.out
theorem tier_enc : tierZ = tabV (fun _ => none) ++ (sesC ses0 (.slice none 0 0, .slice none 0 0) ++ (sesC ses0 (.slice none 0 0, .slice none 0 0) ++ (sesC ses0 (.slice none 0 0, .slice none 0 0) ++ (sesC ses0 (.slice none 0 0, .slice none 0 0) ++ [.slice none 0 0, .slice none 0 0])))) := chk_sound _ _ (by kernel_rfl)
theorem tierZ_items (j : Nat) (hj : j < 32) : tierZ[j]? = (tabV (fun _ => none))[j]? := by
 rw [tier_enc, List.getElem?_append_left (by rw [len_tabV]; exact hj)]
theorem tierZ_ses (n j : Nat) (hn : n < 4) (hj : j < 79) : tierZ[32 + n * 79 + j]? = (sesC ses0 (.slice none 0 0, .slice none 0 0))[j]? := by
 have hL := len_sesC ses0 (.slice none 0 0, .slice none 0 0)
 rw [tier_enc, List.getElem?_append_right (by rw [len_tabV]; omega), len_tabV]
 generalize sesC ses0 (.slice none 0 0, .slice none 0 0) = S at *
 rcases (show n = 0 ∨ n = 1 ∨ n = 2 ∨ n = 3 by omega) with rfl | rfl | rfl | rfl
 ·rw [List.getElem?_append_left (by omega)]; congr 1; omega
 ·rw [List.getElem?_append_right (by omega), List.getElem?_append_left (by omega)]; congr 1; omega
 ·rw [List.getElem?_append_right (by omega), List.getElem?_append_right (by omega), List.getElem?_append_left (by omega)]; congr 1; omega
 ·rw [List.getElem?_append_right (by omega), List.getElem?_append_right (by omega), List.getElem?_append_right (by omega), List.getElem?_append_left (by omega)]; congr 1; omega
theorem tierZ_tail (j : Nat) (hj : j < 2) : tierZ[348 + j]? = some (.slice none 0 0) := by
 have hL := len_sesC ses0 (.slice none 0 0, .slice none 0 0)
 rw [tier_enc, List.getElem?_append_right (by rw [len_tabV]; omega), len_tabV]
 generalize sesC ses0 (.slice none 0 0, .slice none 0 0) = S at *
 rw [List.getElem?_append_right (by omega), List.getElem?_append_right (by omega), List.getElem?_append_right (by omega), List.getElem?_append_right (by omega), hL]
 rcases (show j = 0 ∨ j = 1 by omega) with rfl | rfl <;> rfl
theorem pmem0 {w : World} {p : Nat} {k v c : Int} (h : w.heap[p]? = some (.cells ⟨storeZ k v c⟩ 138 (0, 0))) :
  PMem w p (ps0 k v c) (own0 p) ⟨fun _ _ => (.slice none 0 0, .slice none 0 0), fun _ => .slice none 0 0, fun _ => .slice none 0 0⟩ := by
 have hc : ∀ o, w.cell? ⟨p, o, none⟩ = (storeZ k v c)[o]? := fun o => by rw [cell_of_row _ _ _ _ _ _ h]; simp
 refine ⟨⟨_, h, by simp [len_storeZ]⟩, ?_, ?_, ?_, ?_, ?_, by simp [own0, rootTag], fun _ _ _ _ => nilRow _ _ _ _ _ _, fun _ _ _ _ => nilRow _ _ _ _ _ _, fun _ _ => nilRow _ _ _ _ _ _, fun _ _ => nilRow _ _ _ _ _ _, fun b hb => ?_⟩
 ·intro j u hj
  have hj3 : j < 3 := (List.getElem?_eq_some_iff.1 hj).1
  rw [hc, Nat.zero_add]
  unfold storeZ
  rw [List.getElem?_append_left (by exact hj3)]; exact hj
 ·intro q hq j u hj
  have hj3 : j < 32 := by rw [← len_tabV]; exact (List.getElem?_eq_some_iff.1 hj).1
  rw [hc]
  unfold tO
  rw [storeZ_tier k v c q j hq (by omega), tierZ_items j hj3]; exact hj
 ·intro q hq n hn j u hj
  have hj3 : j < 79 := by rw [← len_sesC]; exact (List.getElem?_eq_some_iff.1 hj).1
  rw [hc]
  unfold sO
  rw [show 3 + q * 350 + 32 + n * 79 + j = 3 + q * 350 + (32 + n * 79 + j) by omega, storeZ_tier k v c q _ hq (by omega), tierZ_ses n j hn hj3]; exact hj
 ·intro q hq
  rw [hc]
  unfold tO
  rw [storeZ_tier k v c q _ hq (by omega)]
  exact tierZ_tail 0 (by omega)
 ·intro q hq
  rw [hc]
  unfold tO
  rw [storeZ_tier k v c q _ hq (by omega)]
  exact tierZ_tail 1 (by omega)
 ·have := own0_at hb
  subst this
  exact (Array.getElem?_eq_some_iff.1 h).1
theorem fit0 {k v c : Int} (h : c ≤ 32) : (ps0 k v c).Fit := by
 refine ⟨fun q _ => ⟨List.nodup_nil, fun n hn => (by cases hn), List.nodup_nil, fun n hn => (by cases hn), fun n hn => (by cases hn), ?_⟩, h⟩
 rw [lockTo4]
 show (0 : Nat) + (0 + 0 + 0 + 0) ≤ 32
 omega
theorem PS.Fit.finishT {s : PS} (F : s.Fit) {q : Nat} (n : Nat) (hq : q < 32) : (s.finishT q n).Fit := (F.setT ((F.tr q hq).endT n)).settleT
theorem PS.Fit.ringsN {q n : Nat} (hq : q < 32) : ∀ (k : Nat) (s : PS), s.Fit → (PS.ringsN q n k s).Fit
 | 0, _, F => F
 | k + 1, s, F => by
  cases hy : (s.t q).youngest n with
  | none => rw [ringsN_no hy]; exact F
  | some y => rw [ringsN_yes hy]; exact PS.Fit.ringsN hq k _ (F.setT ((F.tr q hq).forceT y 2)).settleT
theorem PS.Fit.ringsT {s : PS} (F : s.Fit) {q : Nat} (n : Nat) (hq : q < 32) : (s.ringsT q n).1.Fit := by
 unfold PS.ringsT; split
 ·exact PS.Fit.ringsN hq 4 s F
 ·exact (PS.Fit.ringsN hq 4 s F).setS hq rfl rfl
theorem PS.Fit.askT {s : PS} (F : s.Fit) {q n : Nat} {x : Stp} (hq : q < 32) (hn : n < 4) (hx : ReqOk q n x) (hnq : hasB (s.t q).queue n = false) : (s.askT q n x).1.Fit := by
 unfold PS.askT; split
 ·exact F
 ·rename_i hm
  have hm' : x.may = true := by simpa using hm
  split
  ·exact F.grantT hq x
  ·split
   ·exact F
   ·rename_i hfull
    have FJ : (s.setT q ((s.t q).joinT n x)).Fit := F.setT ((F.tr q hq).joinT hn hnq (by have := F.c; omega) ⟨hx, may_wr hx.who hm'⟩)
    split
    ·exact FJ.ringsT n hq
    ·dsimp only
     exact (FJ.admitT hq (by rw [setT_t]; exact joinT_mem _ _ _)).settleT
theorem PS.Fit.beginT {s : PS} (F : s.Fit) {q n : Nat} (hq : q < 32) (hn : n < 4) : (s.beginT q n).1.Fit := by
 unfold PS.beginT; split
 ·exact F
 ·rename_i hb
  split
  ·exact F
  ·refine F.setT ⟨?_, ?_, (F.tr q hq).queN, (F.tr q hq).queL, (F.tr q hq).req, (F.tr q hq).lock⟩
   ·show ((s.t q).begun ++ [n]).Nodup
    rw [List.nodup_append]
    refine ⟨(F.tr q hq).begN, by simp, fun a ha b hb' e => ?_⟩
    simp at hb'; subst hb'; subst e
    exact hb (by unfold hasB; rw [List.any_eq_true]; exact ⟨a, ha, by simp⟩)
   ·intro m hm
    rcases List.mem_append.1 hm with h | h
    ·exact (F.tr q hq).begL m h
    ·simp at h; omega
theorem PS.Fit.actT {s : PS} (F : s.Fit) {q n : Nat} {x : Stp} (hq : q < 32) (hn : n < 4) (hx : x.op = 2 ∨ x.op = 3 ∨ x.op = 4 ∨ x.op = 5 → ReqOk q n x) (hop : 1 ≤ x.op ∧ x.op ≤ 8) : (s.actT q n x).1.Fit := by
 unfold PS.actT
 split
 ·exact F.setS hq rfl rfl
 ·split
  ·unfold PS.pollT; split
   ·exact F
   ·split
    ·exact F.setS hq rfl rfl
    ·exact F
  ·split
   ·unfold PS.abortT; split
    ·dsimp only
     exact F.finishT n hq
    ·exact F
   ·split
    ·exact F
    ·rename_i hbz
     split
     ·exact F.beginT hq hn
     ·split
      ·exact F
      ·split
       ·unfold PS.commitT
        dsimp only
        have h : (s.setI q (((s.t q).ses n).wr.over (s.t q).items)).Fit := F.setT ((F.tr q hq).same rfl rfl (fun _ _ => rfl) (fun _ _ => rfl))
        exact h.finishT n hq
       ·refine F.askT hq hn (hx (by omega)) ?_
        unfold Tr.busyB at hbz
        simp at hbz; exact hbz.2
theorem proper_q {x : Stp} (h : properB x = true) : plOf x.who.lab < 32 ∧ numOf x.who < 4 ∧ x.who = whoOf (plOf x.who.lab) (numOf x.who) := by
 have hPr := proper_of h
 have hlab : labB x.who.1 x.who.2.1 = true := by
  unfold properB at h
  simp only [Bool.and_eq_true] at h
  exact h.1.1
 have h1 := hPr.who.2.1
 have h2 := hPr.who.2.2
 exact ⟨plOf_lt hlab, by unfold numOf; omega, who_is hlab h1 rfl rfl⟩
theorem req_of {x : Stp} {q n : Nat} (h : properB x = true) (hw : x.who = whoOf q n) : x.op = 2 ∨ x.op = 3 ∨ x.op = 4 ∨ x.op = 5 → ReqOk q n x := fun ho => by
 obtain ⟨h1, h2⟩ := (proper_of h).asks ho
 exact ⟨hw, ⟨h1.key.1, h1.key.2⟩, by unfold labB; exact decide_eq_true h2⟩
theorem PS.Fit.doT {s : PS} (F : s.Fit) (x : Stp) : (s.doT x).1.Fit := by
 unfold PS.doT; split
 ·exact F
 ·rename_i h
  have h' : properB x = true := by simpa using h
  obtain ⟨h1, h2, h3⟩ := proper_q h'
  exact F.actT h1 h2 (req_of h' h3) (proper_of h').op
def thePgm : Pgm where
 S := PS
 Rep := PRep
 act := PS.doT
 look := fun s l => listTo (s.t (plOf l)).items 0 15 16
 start := ps0
 Ok := fun _ s => s.Fit
 old := fun ⟨_, m⟩ => m.old
 frame := fun ⟨G, m⟩ h1 h2 => ⟨G, m.frame h1 h2⟩
 okStart := fun h => fit0 (mayB_t h).2.2.2.2.2
 okAct := fun x F => F.doT x
 okMono := fun F => F
 newYes := fun k v c w h => (new_yes k v c w h).mono fun e w' ⟨h1, h2⟩ => by
  subst h2
  refine ⟨w.heap.size + 1, own0 (w.heap.size + 1), h1, below2r, fun b hb => ?_, _, pmem0 ?_⟩
  ·have := own0_at hb; omega
  ·have := heap_alloc_new (w.alloc (.cells #[.int .i64 k, .int .i64 v, .int .i64 c] 23)) (.cells ⟨storeZ k v c⟩ 138)
   rw [World.size_alloc] at this
   exact this
 newNo := new_no
 lookYes := fun l c ⟨G, m⟩ _ h => look_yes _ l c _ _ h (m.items _ (plOf_lt (a := (l, c)) h)) m.lt
 lookNo := fun l c _ _ h => look_no _ l c _ h
 doAny := fun x ⟨_, m⟩ F _ => do_is m F
end Go.Proofs.Ytpbcplfpjcacfaa
