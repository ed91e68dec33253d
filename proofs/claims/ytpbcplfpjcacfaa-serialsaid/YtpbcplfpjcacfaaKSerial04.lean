import Derived.Deep.DeepAppendRoom
import Derived.Test.YtpbcplfpjcacfaaKSerial03
namespace Go.Proofs.Ytpbcplfpjcacfaa
open Go.RowKit
set_option maxRecDepth 100000
set_option maxHeartbeats 8000000
theorem tell_poll {ps : Nat → Pd} {vals : Nat → Int} {x : Stp} {c : Int} {k : Nat} (hp : properB x = true) (hk : (sessZ' x.who).toNat = k) (h8 : x.op = 8) (h2 : c ≠ 2) (ho : (ps k).open_ = false ∨ c = 1) : tellP ps vals x ⟨c, 0, []⟩ = (true, ps, vals) := by
 rw [tell_proper hp hk, if_neg h2, if_neg (by simp), if_neg (fun h => by have := h.1; omega), if_neg (fun h => by have := h.1; omega), if_neg (fun h => by have := h.1; omega), if_neg ?_, if_neg (fun h => by have := h.1.2; omega), if_neg (fun h => by have := h.2; omega)]
 rintro ⟨_, a, b⟩
 rcases ho with h | h
 ·rw [h] at a; cases a
 ·exact b h
theorem tell_note {ps : Nat → Pd} {vals : Nat → Int} {x : Stp} {a : Ans} {k : Nat} (hp : properB x = true) (hk : (sessZ' x.who).toNat = k) (ho : x.op = 2 ∨ x.op = 3 ∨ x.op = 4 ∨ x.op = 5) (hw : a.why = 0) (hc : a.code = 0 ∨ (a.code = 4 ∧ a.items = [])) (hl : (ps k).live = true) :
  tellP ps vals x a = (true, updP ps k { ps k with done := (ps k).done ++ (if a.code = 0 then [(x, a.items)] else []) }, vals) := by
 rw [tell_proper hp hk, if_neg (by omega), if_neg (by simp [hw]), if_neg (fun h => by have := h.1; omega), if_neg (fun h => by have := h.1; omega), if_neg (fun h => by have := h.1; omega), if_neg (fun h => by have := h.1; omega), if_neg (fun h => by have := h.2; omega), if_pos (by omega)]
 unfold noteP
 rcases hc with hc | ⟨hc, hi⟩
 ·rw [if_pos hc, if_pos hc, hl]
 ·rw [if_neg (by omega), if_neg (by omega), hi, List.append_nil, updP_same]; rfl
theorem ser_act {s : PS} {ps : Nat → Pd} {vals : Nat → Int} (h : SOk s ps vals) {x : Stp} (hp : properB x = true) {q n : Nat} (hq : q < 32) (hn : n < 4) (hw : x.who = whoOf q n) (hk : (sessZ' x.who).toNat = 4 * q + n) : Told (s.actT q n x).1 ps vals x (s.actT q n x).2 := by
 have H := h.ses q n hq hn
 have hop := (proper_of hp).op
 unfold PS.actT
 by_cases he : ((s.t q).ses n).ended ≠ 0
 ·rw [if_pos he]
  dsimp only
  refine told_of (ps' := updP ps (4 * q + n) pd0) (vals' := vals) ?_ (h.untold hq hn he)
  rw [tell_proper hp hk, if_pos rfl]
  have hy := H.why
  have : (decide (((s.t q).ses n).ended = 1) || decide (((s.t q).ses n).ended = 2)) = true := by
   rw [Bool.or_eq_true, decide_eq_true_eq, decide_eq_true_eq]
   omega
  show (decide (((s.t q).ses n).ended = 1) || decide (((s.t q).ses n).ended = 2), updP ps (4 * q + n) pd0, vals) = _
  rw [this]
 rw [if_neg he]
 have he0 : ((s.t q).ses n).ended = 0 := Decidable.not_not.1 he
 by_cases h8 : x.op = 8
 ·rw [if_pos h8]
  unfold PS.pollT
  by_cases hqu : hasB (s.t q).queue n = true
  ·rw [if_pos hqu]
   dsimp only
   exact told_of (tell_poll hp hk h8 (by omega) (.inr rfl)) h
  ·rw [if_neg hqu]
   have hnq : ¬ n ∈ (s.t q).queue := fun e => hqu (hasB_iff.2 e)
   cases hcm : ((s.t q).ses n).came with
   | false =>
    rw [if_neg (by simp)]
    dsimp only
    refine told_of (tell_poll hp hk h8 (by omega) (.inl ?_)) h
    by_cases hb : n ∈ (s.t q).begun
    ·cases ho : (ps (4 * q + n)).open_ with
     | false => rfl
     | true =>
      rcases (H.beg hb).opn.1 ho with e | e
      ·exact absurd e hnq
      ·rw [hcm] at e; cases e
    ·exact (H.gone hb he0).2
   | true =>
    rw [if_pos rfl]
    have hb : n ∈ (s.t q).begun := Decidable.byContradiction fun e => by
     have := (H.bare e).2.1
     rw [hcm] at this; cases this
    have hin := H.beg hb
    obtain ⟨hy, hcd⟩ := H.out hcm
    have ho := hin.opn.2 (.inr hcm)
    dsimp only
    refine told_of (ps' := updP ps (4 * q + n) { ps (4 * q + n) with open_ := false, done := (ps (4 * q + n)).done ++ pend ((s.t q).ses n) (ps (4 * q + n)) }) (vals' := vals) ?_ ?_
    ·rw [tell_proper hp hk, if_neg (by omega), if_neg (by simp [hy]), if_neg (fun g => by have := g.1; omega), if_neg (fun g => by have := g.1; omega), if_neg (fun g => by have := g.1; omega), if_pos ⟨h8, ho, by omega⟩]
     unfold noteP pend
     rcases hcd with hc | ⟨hc, hi⟩
     ·rw [if_pos hc, if_pos ⟨hcm, hc⟩, updP_updP, updP_at]
      simp only [hin.live]
     ·rw [if_neg (by omega), if_neg (by omega), hi, List.append_nil]; rfl
    ·unfold PS.heard
     have hs := setS_ses s q n { (s.t q).ses n with out := ⟨0, 0, []⟩, came := false }
     have hpe : pend { (s.t q).ses n with out := ⟨0, 0, []⟩, came := false } { ps (4 * q + n) with open_ := false, done := (ps (4 * q + n)).done ++ pend ((s.t q).ses n) (ps (4 * q + n)) } = [] := pend_no _ rfl
     refine h.turn (s' := s.setS q n { (s.t q).ses n with out := ⟨0, 0, []⟩, came := false }) hq hn (h.fit.setS hq rfl rfl) (h.dm.setS hq rfl rfl) (fun q' _ => setS_items _ _ _ _ _) (fun q' n' _ _ h3 => .inl (setS_kept s _ h3)) ?_ (fun q' n' h1 h2 h3 l hl m hm => ?_)
     ·rw [hs, setS_begun, setS_queue]
      refine ⟨fun _ => ⟨hin.ended, hin.live, ⟨fun e => (by cases e), fun e => ?_⟩, by rw [hpe, List.append_nil]; exact hin.good, by rw [hpe, List.append_nil]; exact hin.rd, hin.wrt, hin.left⟩, fun e => absurd e hnq, fun e => absurd hb e, fun e => absurd hb e, fun e => (by cases e), .inl hin.ended⟩
      rcases e with e | e
      ·exact absurd e hnq
      ·cases e
     ·rw [hs] at hl
      rw [(setS_kept s { (s.t q).ses n with out := ⟨0, 0, []⟩, came := false } h3).2.2] at hm
      exact h.apart q n q' n' hq hn h1 h2 h3 l hl m hm
 rw [if_neg h8]
 by_cases h7 : x.op = 7
 ·rw [if_pos h7]
  unfold PS.abortT
  cases hb : hasB (s.t q).begun n with
  | false =>
   rw [if_neg (by simp)]
   dsimp only
   exact told_of (tell_quiet hp h8 (by omega) (by omega) (by omega)) h
  | true =>
   rw [if_pos rfl]
   dsimp only
   refine told_of (ps' := updP ps (4 * q + n) pd0) (vals' := vals) ?_ ?_
   ·rw [tell_proper hp hk, if_neg (by decide), if_neg (by simp), if_neg (fun g => by have := g.1; omega), if_pos ⟨h7, rfl⟩]
   ·unfold PS.finishT
    exact (h.ends hq hn).settleT
 rw [if_neg h7]
 cases hbz : (s.t q).busyB n with
 | true =>
  rw [if_pos rfl]
  dsimp only
  exact told_of (tell_quiet hp h8 (by omega) (by omega) (by omega)) h
 | false =>
 rw [if_neg (by simp)]
 have hcm : ((s.t q).ses n).came = false := by
  unfold Tr.busyB at hbz
  simp at hbz; exact hbz.1
 have hnq : ¬ n ∈ (s.t q).queue := by
  unfold Tr.busyB at hbz
  simp at hbz; exact hasB_mem hbz.2
 by_cases h1 : x.op = 1
 ·rw [if_pos h1]
  have hF := h.fit.beginT hq hn
  unfold PS.beginT at hF ⊢
  cases hb : hasB (s.t q).begun n with
  | true =>
   rw [if_pos rfl]
   dsimp only
   exact told_of (tell_quiet hp h8 (by omega) (by omega) (by omega)) h
  | false =>
   rw [hb, if_neg (by simp)] at hF
   rw [if_neg (by simp)]
   have hnb := hasB_mem hb
   by_cases hv : s.v ≤ ((s.t q).begun.length : Int)
   ·rw [if_pos hv]
    dsimp only
    exact told_of (tell_quiet hp h8 (by omega) (by omega) (by omega)) h
   ·rw [if_neg hv] at hF ⊢
    obtain ⟨b1, b2, b3⟩ := H.bare hnb
    dsimp only
    refine told_of (ps' := updP ps (4 * q + n) { pd0 with live := true }) (vals' := vals) ?_ ?_
    ·rw [tell_proper hp hk, if_neg (by decide), if_neg (by simp), if_pos ⟨h1, rfl⟩]
    ·have hs : ((s.setB q ((s.t q).begun ++ [n])).t q).ses n = (s.t q).ses n := by unfold PS.setB; rw [setT_t]
     have hqe : ((s.setB q ((s.t q).begun ++ [n])).t q).queue = (s.t q).queue := by unfold PS.setB; rw [setT_t]
     have hbe : n ∈ ((s.setB q ((s.t q).begun ++ [n])).t q).begun := by unfold PS.setB; rw [setT_t]; exact List.mem_append.2 (.inr (List.mem_singleton.2 rfl))
     have hpe : pend ((s.t q).ses n) { pd0 with live := true } = [] := pend_no _ hcm
     refine h.turn hq hn hF (h.dm.setT (fun m => h.dm q hq m)) (fun q' _ => ?_) (fun q' n' _ _ h3 => .inl ?_) ?_ (fun q' n' _ _ _ l hl => by rw [hs, b1] at hl; cases hl)
     ·unfold PS.setB
      by_cases e : q' = q
      ·subst e; rw [setT_t]
      ·rw [setT_ne _ _ e]
     ·unfold PS.setB
      by_cases e : q' = q
      ·subst e
       unfold Kept
       rw [setT_t]
       refine ⟨⟨fun g => ?_, fun g => List.mem_append.2 (.inl g)⟩, Iff.rfl, rfl⟩
       rcases List.mem_append.1 g with g | g
       ·exact g
       ·exact absurd (List.mem_singleton.1 g) (by omega)
      ·exact Kept.of_tier (setT_ne s _ e) n'
     ·rw [hs, hqe]
      refine ⟨fun _ => ⟨he0, rfl, ⟨fun e => (by cases e), fun e => ?_⟩, ?_, ?_, fun k hk => ?_, fun k v hv => ?_⟩, fun e => absurd e hnq, fun e => absurd hbe e, fun e => absurd hbe e, H.out, .inl he0⟩
      ·rcases e with e | e
       ·exact absurd e hnq
       ·rw [hcm] at e; cases e
      ·rw [hpe, b3]; exact rfl
      ·rw [hpe]; intro e he; cases he
      ·rw [b3] at hk; cases hk
      ·rw [b3] at hv; cases hv
 rw [if_neg h1]
 cases hbb : hasB (s.t q).begun n with
 | false =>
  rw [if_pos rfl]
  dsimp only
  exact told_of (tell_quiet hp h8 (by omega) (by omega) (by omega)) h
 | true =>
 rw [if_neg (by simp)]
 have hb := hasB_iff.1 hbb
 have hin := H.beg hb
 have hopf : (ps (4 * q + n)).open_ = false := by
  cases ho : (ps (4 * q + n)).open_ with
  | false => rfl
  | true =>
   rcases hin.opn.1 ho with e | e
   ·exact absurd e hnq
   ·rw [hcm] at e; cases e
 by_cases h6 : x.op = 6
 ·rw [if_pos h6]
  unfold PS.commitT
  have hgood := hin.good
  rw [pend_no _ hcm, List.append_nil] at hgood
  have hrp := good_replay _ _ _ hgood
  rw [ovl_zero] at hrp
  dsimp only
  refine told_of (ps' := updP ps (4 * q + n) pd0) (vals' := ovl vals q ((s.t q).ses n).wr) ?_ ?_
  ·rw [tell_proper hp hk, if_neg (by decide), if_neg (by simp), if_neg (fun g => h1 g.1), if_neg (fun g => h7 g.1), if_pos ⟨h6, rfl⟩, hrp]
  ·unfold PS.finishT
   exact (h.commits hq hn hb).settleT
 rw [if_neg h6]
 have hasks : x.op = 2 ∨ x.op = 3 ∨ x.op = 4 ∨ x.op = 5 := by omega
 have hx : Asked x := ⟨hp, hasks⟩
 unfold PS.askT
 cases hm : x.may with
 | false =>
  rw [if_pos rfl]
  dsimp only
  exact told_of (tell_quiet hp h8 (by omega) (by omega) (by omega)) h
 | true =>
 rw [if_neg (by simp)]
 have hg := good_of hp hw h8 h7 h1 h6 hm
 cases hcov : ((s.t q).ses n).covB (lkOf x) with
 | true =>
  rw [if_pos rfl]
  obtain ⟨g1, g2, g3⟩ := h.grantD hq hn hx hg hb hnq hcm hcov
  exact told_of (tell_note hp hk hasks g1 g2 hin.live) g3
 | false =>
 rw [if_neg (by simp)]
 by_cases hlk : s.c ≤ ((s.t q).lockTo 4 : Int)
 ·rw [if_pos hlk]
  dsimp only
  exact told_of (tell_quiet hp h8 (by omega) (by omega) (by omega)) h
 rw [if_neg hlk]
 have hJ := h.joins hq hn hx (req_of hp hw hasks) hg hb hnq hcm (by have := h.fit.c; omega)
 have hjq : n ∈ ((s.setT q ((s.t q).joinT n x)).t q).queue := by rw [setT_t]; exact List.mem_append.2 (.inr (List.mem_singleton.2 rfl))
 have hjs := join_ses s q n x
 generalize s.setT q ((s.t q).joinT n x) = s1 at *
 cases hh : s1.hindB q n with
 | true =>
  rw [if_pos rfl]
  unfold PS.ringsT
  have hR := SOk.ringsN (n := n) hq 4 s1 hJ
  generalize PS.ringsN q n 4 s1 = s3 at *
  by_cases hz : ((s3.t q).ses n).ended = 0
  ·rw [if_pos hz]
   dsimp only
   refine told_of ?_ hR
   rw [tell_proper hp hk, if_neg (by decide), if_neg (by simp), if_neg (fun g => h1 g.1), if_neg (fun g => h7 g.1), if_neg (fun g => h6 g.1), if_neg (fun g => h8 g.1), if_pos ⟨by omega, rfl⟩]
  ·rw [if_neg hz]
   dsimp only
   refine told_of (ps' := updP ps (4 * q + n) pd0) (vals' := vals) ?_ ?_
   ·rw [tell_proper hp hk, if_pos rfl]
    have hy := (hR.ses q n hq hn).why
    have : (decide (((s3.t q).ses n).ended = 1) || decide (((s3.t q).ses n).ended = 2)) = true := by
     rw [Bool.or_eq_true, decide_eq_true_eq, decide_eq_true_eq]
     omega
    show (decide (((s3.t q).ses n).ended = 1) || decide (((s3.t q).ses n).ended = 2), updP ps (4 * q + n) pd0, vals) = _
    rw [this]
   ·have := hR.untold hq hn hz
    rw [updP_updP] at this
    exact this
 | false =>
  rw [if_neg (by simp)]
  have A := admit_core hJ hq hn hjq hh
  have hreq : ((s1.t q).ses n).req = x := by rw [hjs]
  have hcd : (s1.admitT q n).2.code = 0 ∨ ((s1.admitT q n).2.code = 4 ∧ (s1.admitT q n).2.items = []) := by
   rcases A.res with ⟨c, _⟩ | ⟨c, i, _⟩
   ·exact .inl c
   ·exact .inr ⟨c, i⟩
  dsimp only
  refine told_of (tell_note hp hk hasks A.why hcd hin.live) ?_
  have := hJ.admitD hq hn hjq hh (P := { ps (4 * q + n) with done := (ps (4 * q + n)).done ++ (if (s1.admitT q n).2.code = 0 then [(x, (s1.admitT q n).2.items)] else []) }) hin.live hopf (by rw [hreq, updP_at])
  rw [updP_updP] at this
  exact this.settleT
theorem ser_do {s : PS} {ps : Nat → Pd} {vals : Nat → Int} (h : SOk s ps vals) (x : Stp) : Told (s.doT x).1 ps vals x (s.doT x).2 := by
 unfold PS.doT
 cases hp : properB x with
 | false =>
  rw [if_pos rfl]
  dsimp only
  refine told_of ?_ h
  unfold tellP
  rw [if_pos hp]; rfl
 | true =>
  rw [if_neg (by simp)]
  obtain ⟨h1, h2, h3⟩ := proper_q hp
  exact ser_act h hp h1 h2 h3 (sess_idx hp)
theorem sok0 {k v c : Int} (h : mayB k v c = true) : SOk (ps0 k v c) (fun _ => pd0) (fun _ => -1) where
 fit := fit0 (mayB_t h).2.2.2.2.2
 dm := dm0 k v c
 val := fun _ _ _ _ => rfl
 nn := fun _ _ _ _ _ e => by cases e
 ses := fun _ _ _ _ => none_ok (fun e => by cases e) (fun e => by cases e) rfl rfl rfl rfl ⟨rfl, rfl⟩
 apart := fun _ _ _ _ _ _ _ _ _ l hl => by cases hl
theorem first_ok : Wh.ok (0, 0, 0) := by unfold Wh.ok Lab.ok Wh.lab; decide
theorem tell_1 : tellP (fun _ => pd0) (fun _ => -1) (op1 (0, 0, 0)) ⟨0, 0, []⟩ = (true, updP (fun _ => pd0) 0 { pd0 with live := true }, fun _ => -1) := by
 rw [tell_proper (k := 0) (by decide) (by decide), if_neg (by decide), if_neg (by decide), if_pos (by decide)]
theorem tell_2 : tellP (updP (fun _ => pd0) 0 { pd0 with live := true }) (fun _ => -1) (op2 (0, 0, 0)) ⟨0, 0, []⟩ = (true, updP (fun _ => pd0) 0 { pd0 with live := true, done := [(op2 (0, 0, 0), [])] }, fun _ => -1) := by
 rw [tell_note (k := 0) (by decide) (by decide) (by decide) rfl (.inl rfl) (by rw [updP_at]), updP_at, updP_updP]
 rfl
theorem tell_3 : tellP (updP (fun _ => pd0) 0 { pd0 with live := true, done := [(op2 (0, 0, 0), [])] }) (fun _ => -1) (op3 (0, 0, 0)) ⟨0, 0, []⟩ = (true, fun _ => pd0, updV (fun _ => -1) 7 77) := by
 rw [tell_proper (k := 0) (by decide) (by decide), if_neg (by decide), if_neg (by decide), if_neg (by decide), if_neg (by decide), if_pos (by decide), updP_at, updP_updP, updP_same (fun _ => pd0) 0]
 rfl
theorem sok_open {k v c : Int} (hm : mayB k v c = true) : SOk ((thePgm.pair theDoc).open3 ((thePgm.pair theDoc).start k v c) (0, 0, 0)).1 (fun _ => pd0) (updV (fun _ => -1) 7 77) := by
 have ok0 := (thePgm.pair theDoc).okStart hm
 have ok1 := (thePgm.pair theDoc).okAct (op1 (0, 0, 0)) ok0
 have ok2 := (thePgm.pair theDoc).okAct (op2 (0, 0, 0)) ok1
 have ha := open_a hm first_ok
 have hb := open_b hm first_ok
 have hc := open_c (k := k) (v := v) (c := c) first_ok
 have a0 := pair_ans ok0 (op1 (0, 0, 0))
 have a1 := pair_ans ok1 (op2 (0, 0, 0))
 have a2 := pair_ans ok2 (op3 (0, 0, 0))
 have b0 : ((thePgm.pair theDoc).act ((thePgm.pair theDoc).start k v c) (op1 (0, 0, 0))).2 = ⟨0, 0, []⟩ := by
  show ((st0 k v c).doT (op1 (0, 0, 0))).2 = _
  rw [ha]
 have e1 : ((st0 k v c).doT (op1 (0, 0, 0))).1 = stA k v c (0, 0, 0) := by rw [ha]
 have e2 : ((stA k v c (0, 0, 0)).doT (op2 (0, 0, 0))).1 = stB k v c (0, 0, 0) := by rw [hb]
 have b1 : ((thePgm.pair theDoc).act ((thePgm.pair theDoc).act ((thePgm.pair theDoc).start k v c) (op1 (0, 0, 0))).1 (op2 (0, 0, 0))).2 = ⟨0, 0, []⟩ := by
  show (((st0 k v c).doT (op1 (0, 0, 0))).1.doT (op2 (0, 0, 0))).2 = _
  rw [e1, hb]
 have b2 : ((thePgm.pair theDoc).act ((thePgm.pair theDoc).act ((thePgm.pair theDoc).act ((thePgm.pair theDoc).start k v c) (op1 (0, 0, 0))).1 (op2 (0, 0, 0))).1 (op3 (0, 0, 0))).2 = ⟨0, 0, []⟩ := by
  show ((((st0 k v c).doT (op1 (0, 0, 0))).1.doT (op2 (0, 0, 0))).1.doT (op3 (0, 0, 0))).2 = _
  rw [e1, e2, hc]
 have t1 := (ser_do (sok0 hm) (op1 (0, 0, 0))).2
 rw [show ((ps0 k v c).doT (op1 (0, 0, 0))).2 = ⟨0, 0, []⟩ from a0.symm.trans b0, tell_1] at t1
 have t2 := (ser_do t1 (op2 (0, 0, 0))).2
 rw [show (((ps0 k v c).doT (op1 (0, 0, 0))).1.doT (op2 (0, 0, 0))).2 = ⟨0, 0, []⟩ from a1.symm.trans b1, tell_2] at t2
 have t3 := (ser_do t2 (op3 (0, 0, 0))).2
 rw [show ((((ps0 k v c).doT (op1 (0, 0, 0))).1.doT (op2 (0, 0, 0))).1.doT (op3 (0, 0, 0))).2 = ⟨0, 0, []⟩ from a2.symm.trans b2, tell_3] at t3
 exact t3
theorem ser_look {N : Nat} {s : PS × RS} {ps : Nat → Pd} {vals : Nat → Int} (ok : (thePgm.pair theDoc).Ok N s) (h : SOk s.1 ps vals) (n : Nat) (hn : n < 32) : (thePgm.pair theDoc).look s (labK n) = seenL vals n 0 16 := by
 rw [pair_look ok hn]
 exact sees_seenL (lo := 0) (hi := 15) (by omega) (by omega) (fun k hk => h.val n k hn hk) (fun k v hk e => h.nn n k v hn hk e)
theorem nextcap_wide (n : Nat) : Builtin.nextslicecap (n + 1) n ≤ n + (n + 768) / 4 + 600 := by
 unfold Builtin.nextslicecap
 split
 ·omega
 ·split
  ·omega
  ·simp only [Builtin.growBy]
   split
   ·omega
   ·split
    ·omega
    ·exfalso
     omega
theorem made_row (w : World) (e size : Nat) (xs : List Value) (n cap : Nat) (z : Array Value) (hz : z.size = size) (hl : xs.length = n * size) (hn : n ≤ cap) (hm : cap ≤ maxLen) :
  (w.alloc (.cells (xs.toArray ++ Builtin.zeroCells z (cap - n)) e)).ownsRow 0 e size (.slice (some ⟨w.heap.size, 0, none⟩) n cap) n xs := by
 refine ⟨hl, .inr ⟨w.heap.size, cap, _, rfl, Nat.zero_le _, heap_alloc_new w _, hn, hm, ?_, ?_⟩⟩
 ·rw [Array.size_append, List.size_toArray, size_zeroCells, hz, hl, ← Nat.add_mul]
  congr 1
  omega
 ·rw [Array.toList_append, ← hl]
  exact List.take_left
theorem append_wide {P : Program} (w : World) (t ty e : TypeId) (i : TypeInfo) (z : Value) (size bytes : Nat) (ht : P.underlying t = some (.slice e)) (hi : P.info? e = some i) (hz : i.zero = some z)
  (hsize : i.size = size) (hby : i.bytes = bytes) (hzs : z.cells.size = size)
  (v : Value) (n : Nat) (xs : List Value) (hown : w.ownsRow 0 e size v n xs)
  (a : Addr) (c : Nat) (news : List Value) (hl : news.length = 1 * size) (hnews : ∀ j u, news[j]? = some u → w.cell? (a.add j) = some u) (h1 : ∀ u ∈ news, u.oneCell' = true)
  (h63 : n + 1 ≤ maxLen) (hbytes : (n + (n + 768) / 4 + 600) * bytes ≤ 281474976710656) :
  ∃ g cap w', (Builtin.append_ #[t, t] ty #[v, .slice (some a) 1 c]).run P w = .ok (.slice (some ⟨g, 0, none⟩) (n + 1) cap) w' ∧ w'.ownsRow 0 e size (.slice (some ⟨g, 0, none⟩) (n + 1) cap) (n + 1) (xs ++ news) ∧
   ((v.ownBlock = some g ∧ w.grownBy w' (some g)) ∨ (g = w.heap.size ∧ w.grownBy w' none)) ∧ g < w'.heap.size := by
 subst hsize
 subst hby
 have hsmall : n + 1 ≤ 9223372036854775807 := by simp only [maxLen] at h63; omega
 have hgr : ∀ o : Obj, w.grownBy (w.drew.alloc o) none := fun o => ⟨rfl, rfl, rfl, by simp, fun k hk _ => Below.heap_alloc w.drew o k hk⟩
 have hlen : (xs ++ news).length = (n + 1) * i.size := by rw [List.length_append, hown.1, hl, Nat.add_mul]
 have hfit : Builtin.nextslicecap (n + 1) n * i.bytes ≤ 281474976710656 := Nat.le_trans (Nat.mul_le_mul_right _ (nextcap_wide n)) hbytes
 rcases hown.2 with ⟨rfl, rfl⟩ | ⟨g, cap, cur, rfl, hbg, hg, hnc, hcm, hcs, htake⟩
 ·have hx : xs = [] := List.eq_nil_of_length_eq_zero (by simpa using hown.1)
  subst hx
  have hr := run_append_nil (P := P) w t ty e i z ht hi hz a 1 c news hl hnews (by omega) (by omega) (by
   have : 1 * i.bytes ≤ (0 + (0 + 768) / 4 + 600) * i.bytes := Nat.mul_le_mul_right _ (by omega)
   omega)
  refine ⟨_, _, _, hr, ?_, .inr ⟨rfl, hgr _⟩, by simp⟩
  exact made_row w.drew e i.size news 1 _ z.cells hzs hl (grownCap_ge w 1 0 e) (grownCap_le_maxLen w 1 0 e h63)
 ·by_cases hroom : n + 1 ≤ cap
  ·obtain ⟨w', hr, h2, h3⟩ := run_append_own_spare (P := P) w 0 t ty e i i.size ht hi rfl g n cap xs hown a 1 c news hl hnews h1 hroom
   exact ⟨g, cap, w', hr, h2, .inl ⟨rfl, h3⟩, Nat.lt_of_lt_of_le (Array.getElem?_eq_some_iff.1 hg).1 h3.size⟩
  ·have hcn : cap = n := by omega
   subst hcn
   have hr := run_append_grow (P := P) w t ty e i z ht hi hz ⟨g, 0, none⟩ cap cap xs hown.1 (hown.cells (g := g) rfl) a 1 c news hl hnews (by omega) (by omega) hfit
   refine ⟨_, _, _, hr, ?_, .inr ⟨rfl, hgr _⟩, by simp⟩
   have := made_row w.drew e i.size (xs ++ news) (cap + 1) (grownCap w (cap + 1) cap e) z.cells hzs hlen (grownCap_ge w (cap + 1) cap e) (grownCap_le_maxLen w (cap + 1) cap e h63)
   rw [show (xs ++ news).toArray = xs.toArray ++ news.toArray by simp] at this
   exact this
theorem step_append_wide {P : Program} {w : World} {ops : Array Oper} {o : Oper} {a : Act} {K : Act → World → Prop} {Q : Exit → Act → World → Prop} {E : Prop} (hgd : o.guard = none) (s x : Operand) (t : TypeId)
  (ho : o.op = .call { callee := .builtin .append, args := #[s, x], argTypes := #[t, t] })
  (e : TypeId) (i : TypeInfo) (z : Value) (size bytes : Nat) (ht : P.underlying t = some (.slice e)) (hi : P.info? e = some i) (hz : i.zero = some z)
  (hsize : i.size = size) (hby : i.bytes = bytes) (hzs : z.cells.size = size)
  (v : Value) (n : Nat) (xs : List Value) (hs : a.eval s = v) (hown : w.ownsRow 0 e size v n xs)
  (ad : Addr) (c : Nat) (news : List Value) (hx : a.eval x = .slice (some ad) 1 c) (hl : news.length = 1 * size) (hnews : ∀ j u, news[j]? = some u → w.cell? (ad.add j) = some u) (h1 : ∀ u ∈ news, u.oneCell' = true)
  (h63 : n + 1 ≤ maxLen) (hbytes : (n + (n + 768) / 4 + 600) * bytes ≤ 281474976710656) (H : Nat) (hH : w.heap.size = H)
  (h : ∀ g cap w', w'.ownsRow 0 e size (.slice (some ⟨g, 0, none⟩) (n + 1) cap) (n + 1) (xs ++ news) → w.grownBy w' v.ownBlock → (v.ownBlock = some g ∨ g = H) → g < w'.heap.size → K (a.put o.dst (.slice (some ⟨g, 0, none⟩) (n + 1) cap)) w') :
  if Region.wanted o (yielded ops a.tmps) = true then Oper.wp P o a w K Q else E := by
 have hw : Region.wanted o (yielded ops a.tmps) = true := by simp [Region.wanted, hgd]
 rw [if_pos hw]
 obtain ⟨g, cap, w', hr, h2, h3, h4⟩ := append_wide (P := P) w t o.type e i z size bytes ht hi hz hsize hby hzs v n xs hown ad c news hl hnews h1 h63 hbytes
 have h5 : w.grownBy w' v.ownBlock := by
  rcases h3 with ⟨e1, e2⟩ | ⟨_, e2⟩
  ·rw [e1]; exact e2
  ·exact ⟨e2.os, e2.tape, e2.output, e2.size, fun k hk _ => e2.block k hk (by simp)⟩
 have h6 : v.ownBlock = some g ∨ g = H := by
  rcases h3 with ⟨e1, _⟩ | ⟨e1, _⟩
  ·exact .inl e1
  ·exact .inr (e1.trans hH)
 unfold Oper.wp execOp
 simp only [ho, resolve, invoke, builtin, Sem.run_bind, Sem.run_pure, Result.andThen_ok, List.map_toArray, List.map_cons, List.map_nil, hs, hx, hr]
 exact h g cap w' h2 h5 h6 h4
end Go.Proofs.Ytpbcplfpjcacfaa
namespace Go.Proofs.Ytpbcplfpjcacfaa
open Go.RowKit
attribute [local go_sem ↓] Go.wp_at_zero Go.wp_at_succ
set_option maxRecDepth 100000
set_option maxHeartbeats 8000000
theorem note_doneW (b k : Nat) (hs : Nat → Hd) (vals : Nat → Int) (own : Own) (x : Stp) (a : Ans) (aq : Option Addr) (cq : Nat) (w : World) (m : BkMem w b hs vals own) (hk : k < 128) (hc : a.code = 0)
  (hrowa : w.ownsRow 0 94 2 (.slice aq a.items.length cq) a.items.length (itemsV a.items)) (hva : ∀ q, (Value.slice aq a.items.length cq).ownBlock = some q → own q = some (9, 0, 0, 0)) (hlen : (hs k).done.length < 2000000000000) :
  Calls Try.prog 63 #[.pointer (some ⟨b, k * 12, none⟩), .agg #[.int .i64 x.who.1, .int .i64 x.who.2.1, .int .i64 x.who.2.2, .int .i64 x.op, .int .i64 x.at_.1, .int .i64 x.at_.2, .int .i64 x.key, .int .i64 x.to_, .int .i64 x.value], .agg #[.int .i64 a.code, .int .i64 a.why, .slice aq a.items.length cq]] w fun e w' => e = .returned (.bool (hs k).live) ∧ BkPost own w b (fun hs' vals' => vals' = vals ∧ Noted hs hs' k ((hs k).done ++ [⟨x, .slice aq a.items.length cq, a.items⟩])) w' := by
 obtain ⟨j0, hj0, hz0, hs0, hb0⟩ := info_all infoDid
 obtain ⟨ad, cd, hdv⟩ := ownsRow_slice (m.row k hk).1
 obtain ⟨h0, h1, h2⟩ := hand_cells (m.hand k hk)
 have hbl := m.old b (by rw [m.tag]; simp)
 rw [hc]
 have hA : Below w.heap.size w ((w.alloc (.cells #[.int .i64 x.who.1, .int .i64 x.who.2.1, .int .i64 x.who.2.2, .int .i64 x.op, .int .i64 x.at_.1, .int .i64 x.at_.2, .int .i64 x.key, .int .i64 x.to_, .int .i64 x.value] 30)).alloc (.cells #[.int .i64 0, .int .i64 a.why, .slice aq a.items.length cq] 66)) := below2r
 have hX : ((w.alloc (.cells #[.int .i64 x.who.1, .int .i64 x.who.2.1, .int .i64 x.who.2.2, .int .i64 x.op, .int .i64 x.at_.1, .int .i64 x.at_.2, .int .i64 x.key, .int .i64 x.to_, .int .i64 x.value] 30)).alloc (.cells #[.int .i64 0, .int .i64 a.why, .slice aq a.items.length cq] 66)).heap[w.heap.size]? = some (.cells (stepC x).toArray 30 (0, 0)) := by
  rw [Below.heap_alloc _ _ _ (by simp)]; exact heap_alloc_new w _
 have hY : ((w.alloc (.cells #[.int .i64 x.who.1, .int .i64 x.who.2.1, .int .i64 x.who.2.2, .int .i64 x.op, .int .i64 x.at_.1, .int .i64 x.at_.2, .int .i64 x.key, .int .i64 x.to_, .int .i64 x.value] 30)).alloc (.cells #[.int .i64 0, .int .i64 a.why, .slice aq a.items.length cq] 66)).heap[w.heap.size + 1]? = some (.cells #[.int .i64 0, .int .i64 a.why, .slice aq a.items.length cq] 66 (0, 0)) := by
  have := heap_alloc_new (w.alloc (.cells #[.int .i64 x.who.1, .int .i64 x.who.2.1, .int .i64 x.who.2.2, .int .i64 x.op, .int .i64 x.at_.1, .int .i64 x.at_.2, .int .i64 x.key, .int .i64 x.to_, .int .i64 x.value] 30)) (.cells #[.int .i64 0, .int .i64 a.why, .slice aq a.items.length cq] 66 (0, 0))
  simpa using this
 have hzA : ((w.alloc (.cells #[.int .i64 x.who.1, .int .i64 x.who.2.1, .int .i64 x.who.2.2, .int .i64 x.op, .int .i64 x.at_.1, .int .i64 x.at_.2, .int .i64 x.key, .int .i64 x.to_, .int .i64 x.value] 30)).alloc (.cells #[.int .i64 0, .int .i64 a.why, .slice aq a.items.length cq] 66)).heap.size = w.heap.size + 2 := by simp
 have hbA : b < w.heap.size + 2 := by omega
 have mA := m.frame (fun q hq => hA.block q (m.old q hq)) hA.size
 have HM : Hid (BkMem w b hs vals own) := m
 have HHA : Hid (Below w.heap.size w ((w.alloc (.cells #[.int .i64 x.who.1, .int .i64 x.who.2.1, .int .i64 x.who.2.2, .int .i64 x.op, .int .i64 x.at_.1, .int .i64 x.at_.2, .int .i64 x.key, .int .i64 x.to_, .int .i64 x.value] 30)).alloc (.cells #[.int .i64 0, .int .i64 a.why, .slice aq a.items.length cq] 66))) := hA
 have HRA : Hid (type_of% hrowa) := hrowa
 have HVA : Hid (type_of% hva) := hva
 clear m hrowa hva
 go_enter Try.func63, Try.ntmps63
 go_upto_region 2 with fail
 generalize (w.alloc (.cells #[.int .i64 x.who.1, .int .i64 x.who.2.1, .int .i64 x.who.2.2, .int .i64 x.op, .int .i64 x.at_.1, .int .i64 x.at_.2, .int .i64 x.key, .int .i64 x.to_, .int .i64 x.value] 30)).alloc (.cells #[.int .i64 0, .int .i64 a.why, .slice aq a.items.length cq] 66) = wA at *
 have HMA : Hid (BkMem wA b hs vals own) := mA
 have HXA : Hid (type_of% hX) := hX
 have HYA : Hid (type_of% hY) := hY
 have HzA : Hid (wA.heap.size = w.heap.size + 2) := hzA
 have g1 : wA.cell? ⟨b, k * 12 + 1, none⟩ = some (.slice ad (hs k).done.length cd) := by rw [← hdv]; exact (hand_cells (mA.hand k hk)).2.1
 have nX : own w.heap.size = none := by
  cases hq : own w.heap.size with
  | none => rfl
  | some t => have := HM.out.old w.heap.size (by rw [hq]; simp); omega
 have nY : own (w.heap.size + 1) = none := by
  cases hq : own (w.heap.size + 1) with
  | none => rfl
  | some t => have := HM.out.old (w.heap.size + 1) (by rw [hq]; simp); omega
 clear hX hY mA h0 h1 h2 hzA hA
 go_cut [] from 7 to 30 (fun wd => Hid (BkPost own w b (fun hs' vals' => vals' = vals ∧ Noted hs hs' k ((hs k).done ++ [⟨x, .slice aq a.items.length cq, a.items⟩])) wd))
 case first =>
  refine wp_region_Z (z := 13) (S := fun W => W.cell? ⟨b, k * 12 + 1, none⟩ = some (.slice ad (hs k).done.length cd) ∧ W.cell? ⟨w.heap.size, 0, none⟩ = some (.int .i64 x.who.1) ∧ W.cell? ⟨w.heap.size, 1, none⟩ = some (.int .i64 x.who.2.1) ∧ W.cell? ⟨w.heap.size, 2, none⟩ = some (.int .i64 x.who.2.2) ∧ W.cell? ⟨w.heap.size, 3, none⟩ = some (.int .i64 x.op) ∧ W.cell? ⟨w.heap.size, 4, none⟩ = some (.int .i64 x.at_.1) ∧ W.cell? ⟨w.heap.size, 5, none⟩ = some (.int .i64 x.at_.2) ∧ W.cell? ⟨w.heap.size, 6, none⟩ = some (.int .i64 x.key) ∧ W.cell? ⟨w.heap.size, 7, none⟩ = some (.int .i64 x.to_) ∧ W.cell? ⟨w.heap.size, 8, none⟩ = some (.int .i64 x.value) ∧ W.cell? ⟨w.heap.size + 1, 2, none⟩ = some (.slice aq a.items.length cq)) (by kernel_rfl) ?_
  obtain ⟨b0, b1, b2, b3, b4, b5, b6, b7, b8, _⟩ := step9_cells HXA.out
  obtain ⟨_, _, b9, _, _, _⟩ := ans_cells HYA.out
  have hS : wA.drew.cell? ⟨b, k * 12 + 1, none⟩ = some (.slice ad (hs k).done.length cd) ∧ wA.drew.cell? ⟨w.heap.size, 0, none⟩ = some (.int .i64 x.who.1) ∧ wA.drew.cell? ⟨w.heap.size, 1, none⟩ = some (.int .i64 x.who.2.1) ∧ wA.drew.cell? ⟨w.heap.size, 2, none⟩ = some (.int .i64 x.who.2.2) ∧ wA.drew.cell? ⟨w.heap.size, 3, none⟩ = some (.int .i64 x.op) ∧ wA.drew.cell? ⟨w.heap.size, 4, none⟩ = some (.int .i64 x.at_.1) ∧ wA.drew.cell? ⟨w.heap.size, 5, none⟩ = some (.int .i64 x.at_.2) ∧ wA.drew.cell? ⟨w.heap.size, 6, none⟩ = some (.int .i64 x.key) ∧ wA.drew.cell? ⟨w.heap.size, 7, none⟩ = some (.int .i64 x.to_) ∧ wA.drew.cell? ⟨w.heap.size, 8, none⟩ = some (.int .i64 x.value) ∧ wA.drew.cell? ⟨w.heap.size + 1, 2, none⟩ = some (.slice aq a.items.length cq) := ⟨g1, b0, b1, b2, b3, b4, b5, b6, b7, b8, b9⟩
  refine zT (i := 0) (v := ?v1) (by decide +kernel) rfl (fun _ _ _ h => h) hS (.inl ⟨by rfl, ?y1⟩) ?_
  case y1 => (rintro wz ⟨zs0, zs1, zs2, zs3, zs4, zs5, zs6, zs7, zs8, zs9, zs10⟩; go_simp <;> with_reducible rfl)
  simp only [Act.put, z1, z2, z4, z5, z6]
  refine zT (i := 1) (v := ?v2) (by decide +kernel) rfl (fun _ _ _ h => h) hS (.inl ⟨by rfl, ?y2⟩) ?_
  case y2 => (rintro wz ⟨zs0, zs1, zs2, zs3, zs4, zs5, zs6, zs7, zs8, zs9, zs10⟩; go_simp <;> with_reducible rfl)
  simp only [Act.put, z1, z2, z3, z4, z5, z6]
  refine zT (i := 2) (v := ?v3) (by decide +kernel) rfl (fun _ _ _ h => h) hS (.inl ⟨by rfl, ?y3⟩) ?_
  case y3 => (rintro wz ⟨zs0, zs1, zs2, zs3, zs4, zs5, zs6, zs7, zs8, zs9, zs10⟩; go_simp <;> with_reducible rfl)
  simp only [Act.put, z1, z2, z3, z4, z5, z6]
  refine zT (i := 3) (v := ?v4) (by decide +kernel) rfl (fun _ _ _ h => h) hS (.inl ⟨by rfl, ?y4⟩) ?_
  case y4 => (rintro wz ⟨zs0, zs1, zs2, zs3, zs4, zs5, zs6, zs7, zs8, zs9, zs10⟩; go_simp <;> with_reducible rfl)
  simp only [Act.put, z1, z2, z3, z4, z5, z6]
  refine zT (i := 4) (v := ?v5) (by decide +kernel) rfl (fun _ _ _ h => h) hS (.inl ⟨by rfl, ?y5⟩) ?_
  case y5 => (rintro wz ⟨zs0, zs1, zs2, zs3, zs4, zs5, zs6, zs7, zs8, zs9, zs10⟩; go_simp <;> with_reducible rfl)
  simp only [Act.put, z1, z2, z3, z4, z5, z6]
  refine zT (i := 5) (v := ?v6) (by decide +kernel) rfl (fun _ _ _ h => h) hS (.inl ⟨by rfl, ?y6⟩) ?_
  case y6 => (rintro wz ⟨zs0, zs1, zs2, zs3, zs4, zs5, zs6, zs7, zs8, zs9, zs10⟩; go_simp <;> with_reducible rfl)
  simp only [Act.put, z1, z2, z3, z4, z5, z6]
  refine zT (i := 6) (v := ?v7) (by decide +kernel) rfl (fun _ _ _ h => h) hS (.inl ⟨by rfl, ?y7⟩) ?_
  case y7 => (rintro wz ⟨zs0, zs1, zs2, zs3, zs4, zs5, zs6, zs7, zs8, zs9, zs10⟩; go_simp <;> with_reducible rfl)
  simp only [Act.put, z1, z2, z3, z4, z5, z6]
  refine zT (i := 7) (v := ?v8) (by decide +kernel) rfl (fun _ _ _ h => h) hS (.inl ⟨by rfl, ?y8⟩) ?_
  case y8 => (rintro wz ⟨zs0, zs1, zs2, zs3, zs4, zs5, zs6, zs7, zs8, zs9, zs10⟩; go_simp <;> with_reducible rfl)
  simp only [Act.put, z1, z2, z3, z4, z5, z6]
  refine zT (i := 8) (v := ?v9) (by decide +kernel) rfl (fun _ _ _ h => h) hS (.inl ⟨by rfl, ?y9⟩) ?_
  case y9 => (rintro wz ⟨zs0, zs1, zs2, zs3, zs4, zs5, zs6, zs7, zs8, zs9, zs10⟩; go_simp <;> with_reducible rfl)
  simp only [Act.put, z1, z2, z3, z4, z5, z6]
  refine wpAnyZ_one (i := 9) (by decide +kernel) rfl (fun K hK => ?_)
  go_simp
  have hzw := HzA.out
  have nlt : ∀ p, p < wA.heap.size → ∀ j v, wA.cell? ⟨p, j, none⟩ = some v → (wA.alloc (.cells #[.int .i64 x.who.1, .int .i64 x.who.2.1, .int .i64 x.who.2.2, .int .i64 x.op, .int .i64 x.at_.1, .int .i64 x.at_.2, .int .i64 x.key, .int .i64 x.to_, .int .i64 x.value, .slice aq a.items.length cq] 156)).drew.cell? ⟨p, j, none⟩ = some v := fun p hp j v h => by
   rw [World.cell?_drew, World.cell?_alloc_lt _ _ _ hp]; exact h
  have lx : w.heap.size < wA.heap.size := by omega
  have ly : w.heap.size + 1 < wA.heap.size := by omega
  have lb : b < wA.heap.size := by omega
  refine hK _ _ (fun _ => ⟨nlt _ lb _ _ g1, nlt _ lx _ _ b0, nlt _ lx _ _ b1, nlt _ lx _ _ b2, nlt _ lx _ _ b3, nlt _ lx _ _ b4, nlt _ lx _ _ b5, nlt _ lx _ _ b6, nlt _ lx _ _ b7, nlt _ lx _ _ b8, nlt _ ly _ _ b9⟩) ?_
  clear hK
  have hrow6 := (HMA.out.row k hk).1
  rw [hdv] at hrow6
  refine wpAnyZ_one (i := 10) (by decide +kernel) rfl (fun K hK => ?_)
  refine step_append_wide (by rfl) _ _ _ (by rfl) 156 j0 _ 10 96 Try.underlying78 hj0 hz0 hs0 hb0 rfl (.slice ad (hs k).done.length cd) (hs k).done.length ((hs k).done.flatMap didC) (by rfl) ((hrow6.alloc _).drew)
   ⟨wA.heap.size, 0, none⟩ 1 [.int .i64 x.who.1, .int .i64 x.who.2.1, .int .i64 x.who.2.2, .int .i64 x.op, .int .i64 x.at_.1, .int .i64 x.at_.2, .int .i64 x.key, .int .i64 x.to_, .int .i64 x.value, .slice aq a.items.length cq] (by rfl) (by rfl) (World.news_of_block (cs := #[.int .i64 x.who.1, .int .i64 x.who.2.1, .int .i64 x.who.2.2, .int .i64 x.op, .int .i64 x.at_.1, .int .i64 x.at_.2, .int .i64 x.key, .int .i64 x.to_, .int .i64 x.value, .slice aq a.items.length cq]) (t := 156) (fr := (0, 0)) (heap_alloc_new wA _)) (by simp [Value.oneCell'])
   (by unfold maxLen; omega) (by omega) (wA.heap.size + 1) (by simp) ?_
  intro gg cap' w8 hown8 hgrow hat hlt8
  simp only [Act.put, List.getElem_toArray, List.getElem_cons_zero, List.getElem_cons_succ, List.setIfInBounds_toArray, List.set_cons_zero, List.set_cons_succ]
  have hnb : ∀ p, (Value.slice ad (hs k).done.length cd).ownBlock = some p → own p = some (k + 10, 0, 0, 0) := by rw [← hdv]; exact (HMA.out.row k hk).2
  have nr : some b ≠ (Value.slice ad (hs k).done.length cd).ownBlock := fun e => by have := hnb b e.symm; rw [HMA.out.tag] at this; injection this with this; injection this with this; omega
  have nx : some w.heap.size ≠ (Value.slice ad (hs k).done.length cd).ownBlock := fun e => by have := hnb _ e.symm; rw [nX] at this; cases this
  have ny : some (w.heap.size + 1) ≠ (Value.slice ad (hs k).done.length cd).ownBlock := fun e => by have := hnb _ e.symm; rw [nY] at this; cases this
  have hS8 := And.intro (hgrow.cell (nlt _ lb _ _ g1) nr) <| And.intro (hgrow.cell (nlt _ lx _ _ b0) nx) <| And.intro (hgrow.cell (nlt _ lx _ _ b1) nx) <| And.intro (hgrow.cell (nlt _ lx _ _ b2) nx) <| And.intro (hgrow.cell (nlt _ lx _ _ b3) nx) <| And.intro (hgrow.cell (nlt _ lx _ _ b4) nx) <| And.intro (hgrow.cell (nlt _ lx _ _ b5) nx) <| And.intro (hgrow.cell (nlt _ lx _ _ b6) nx) <| And.intro (hgrow.cell (nlt _ lx _ _ b7) nx) <| And.intro (hgrow.cell (nlt _ lx _ _ b8) nx) (hgrow.cell (nlt _ ly _ _ b9) ny)
  have fo : w8.frozen? ⟨b, k * 12 + 1, none⟩ = false := by
   obtain ⟨C, hC, _⟩ := HMA.out.root
   rw [World.frozen?_of_block (hgrow.block b (by simp; omega) nr)]
   rw [World.frozen?_drew, World.frozen?_alloc_past _ _ _ (by omega)]; exact frozen_of_row _ b _ _ _ hC
  have o5 := hgrow.cell (nlt _ lb _ _ g1) nr
  refine hK _ _ (fun _ => hS8) ?_
  clear hK
  refine wpAnyZ_one (i := 11) (by decide +kernel) rfl (fun K hK => ?_)
  go_simp
  refine hK _ _ (fun _ => hS8) ?_
  clear hK
  refine wpAnyZ_one (i := 12) (by decide +kernel) rfl (fun K hK => ?_)
  go_simp
  refine hK _ _ (fun _ => hS8) ?_
  clear hK
  refine wpAnyZ_one (i := 13) (by decide +kernel) rfl (fun K hK => ?_)
  go_simp
  refine hK _ _ (fun h => absurd rfl h) ?_
  clear hK
  refine wpAnyZ_done (by decide +kernel) ?_ _
  have hfin := HM.out.noted (W := (wA.alloc (.cells #[.int .i64 x.who.1, .int .i64 x.who.2.1, .int .i64 x.who.2.2, .int .i64 x.op, .int .i64 x.at_.1, .int .i64 x.at_.2, .int .i64 x.key, .int .i64 x.to_, .int .i64 x.value, .slice aq a.items.length cq] 156)).drew) (H := wA.heap.size + 1) (d := ⟨x, .slice aq a.items.length cq, a.items⟩) (w1 := w8) (gg := gg) (cap' := cap') hk (fun q hq => (Below.heap_alloc _ _ _ (by omega)).trans (HHA.out.block q hq)) (by simp; omega) HHA.out.os HHA.out.tape HHA.out.output (by rw [hdv]; exact hgrow) hown8 (by rw [hdv]; exact hat) (by omega) hlt8 HRA.out HVA.out
  have HFin : Hid (type_of% hfin) := hfin
  clear hfin
  go_wp2_with fail
  go_meet
  case rel => exact HFin.out
 case rest =>
  obtain ⟨hs', vals', own', m', hch, hx, hv', hN⟩ := hcut.out
  obtain ⟨i0, i1, i2⟩ := hand_cells (m'.hand k hk)
  rw [hN.live] at i0
  have HP := hcut
  clear hcut m' hch hx hN
  go_wp2
  go_ret
  exact ⟨rfl, HP.out⟩
theorem sizeHand : (Try.prog.info? 80).map (·.size) = some 12 := by kernel_rfl
theorem properB_sess {x : Stp} (h : properB x = true) : ∃ k : Nat, k < 128 ∧ sessZ' x.who = (k : Int) := by
 have hp := proper_of h
 have h1 : labB x.who.1 x.who.2.1 = true ∧ 0 ≤ x.who.2.2 ∧ x.who.2.2 < 4 := ⟨labB_mk hp.who.1, hp.who.2.1, by have := hp.who.2.2; omega⟩
 obtain ⟨a, b⟩ := sessZ_pos h1
 exact ⟨(sessZ' x.who).toNat, by omega, by omega⟩
structure TellIn (w : World) (b : Nat) (ps : Nat → Pd) (vals : Nat → Int) (own : Own) (a : Ans) (aq : Option Addr) (cq : Nat) : Prop where
 at_ : BkAt w b ps vals own
 row : w.ownsRow 0 94 2 (.slice aq a.items.length cq) a.items.length (itemsV a.items)
 tag : ∀ q, (Value.slice aq a.items.length cq).ownBlock = some q → own q = some (9, 0, 0, 0)
 len : ∀ k, k < 128 → (ps k).done.length < 2000000000000
 good : ∀ k, k < 128 → ∀ e ∈ (ps k).done, ∃ p kn hn, Good0 e.1 p kn hn
def ToldPost (own : Own) (w : World) (b : Nat) (ps : Nat → Pd) (vals : Nat → Int) (x : Stp) (a : Ans) (e : Ending) (w' : World) : Prop := e = .returned (.bool (tellP ps vals x a).1) ∧ BkOut own w b (tellP ps vals x a).2.1 (tellP ps vals x a).2.2 w'
theorem told_bad (b : Nat) (ps : Nat → Pd) (vals : Nat → Int) (own : Own) (x : Stp) (a : Ans) (aq : Option Addr) (cq : Nat) (w : World) (TI : TellIn w b ps vals own a aq cq) (hp : properB x = false) :
  Calls Try.prog 34 #[.pointer (some ⟨b, 0, none⟩), .agg #[.int .i64 x.who.1, .int .i64 x.who.2.1, .int .i64 x.who.2.2, .int .i64 x.op, .int .i64 x.at_.1, .int .i64 x.at_.2, .int .i64 x.key, .int .i64 x.to_, .int .i64 x.value], .agg #[.int .i64 a.code, .int .i64 a.why, .slice aq a.items.length cq]] w (ToldPost own w b ps vals x a) := by
 obtain ⟨⟨hs, m, hpl⟩, hrowa, hva, hlen, hgood⟩ := TI
 have HM : Hid (BkMem w b hs vals own) := m
 have HPL : Hid (∀ k, k < 128 → (hs k).pl = ps k) := hpl
 have HRA : Hid (type_of% hrowa) := hrowa
 have HVA : Hid (type_of% hva) := hva
 have HLN : Hid (type_of% hlen) := hlen
 have HGD : Hid (type_of% hgood) := hgood
 have hbl := m.old b (by rw [m.tag]; simp)
 have hA : Below w.heap.size w ((w.alloc (.cells #[.int .i64 x.who.1, .int .i64 x.who.2.1, .int .i64 x.who.2.2, .int .i64 x.op, .int .i64 x.at_.1, .int .i64 x.at_.2, .int .i64 x.key, .int .i64 x.to_, .int .i64 x.value] 30)).alloc (.cells #[.int .i64 a.code, .int .i64 a.why, .slice aq a.items.length cq] 66)) := below2r
 have hX : ((w.alloc (.cells #[.int .i64 x.who.1, .int .i64 x.who.2.1, .int .i64 x.who.2.2, .int .i64 x.op, .int .i64 x.at_.1, .int .i64 x.at_.2, .int .i64 x.key, .int .i64 x.to_, .int .i64 x.value] 30)).alloc (.cells #[.int .i64 a.code, .int .i64 a.why, .slice aq a.items.length cq] 66)).heap[w.heap.size]? = some (.cells (stepC x).toArray 30 (0, 0)) := by
  rw [Below.heap_alloc _ _ _ (by simp)]; exact heap_alloc_new w _
 have hY : ((w.alloc (.cells #[.int .i64 x.who.1, .int .i64 x.who.2.1, .int .i64 x.who.2.2, .int .i64 x.op, .int .i64 x.at_.1, .int .i64 x.at_.2, .int .i64 x.key, .int .i64 x.to_, .int .i64 x.value] 30)).alloc (.cells #[.int .i64 a.code, .int .i64 a.why, .slice aq a.items.length cq] 66)).heap[w.heap.size + 1]? = some (.cells #[.int .i64 a.code, .int .i64 a.why, .slice aq a.items.length cq] 66 (0, 0)) := by
  have := heap_alloc_new (w.alloc (.cells #[.int .i64 x.who.1, .int .i64 x.who.2.1, .int .i64 x.who.2.2, .int .i64 x.op, .int .i64 x.at_.1, .int .i64 x.at_.2, .int .i64 x.key, .int .i64 x.to_, .int .i64 x.value] 30)) (.cells #[.int .i64 a.code, .int .i64 a.why, .slice aq a.items.length cq] 66 (0, 0))
  simpa using this
 have hpr := properK_any x
 rw [hp] at hpr
 unfold stepV at hpr
 clear m hpl hrowa hva hlen hgood
 go_enter Try.func34, Try.ntmps34
 go_wp2_with fail
 refine (hpr _).mono ?_
 rintro e w1 ⟨rfl, hb1⟩
 have hB1 : Below w.heap.size w w1 := hA.trans (hb1.mono hA.size)
 have hX1 : w1.heap[w.heap.size]? = _ := (hb1.block w.heap.size (by simp; omega)).trans hX
 have hY1 : w1.heap[w.heap.size + 1]? = _ := (hb1.block (w.heap.size + 1) (by simp)).trans hY
 have HX1 : Hid (type_of% hX1) := hX1
 have HY1 : Hid (type_of% hY1) := hY1
 have HB1 : Hid (Below w.heap.size w w1) := hB1
 have M1 : Hid (BkMem w1 b hs vals own) := HM.out.below hB1
 obtain ⟨d0, d1, d2, _, _, _⟩ := ans_cells hY1
 obtain ⟨c0, c1, c2, c3, c4, c5, c6, c7, c8, _⟩ := step9_cells hX1
 have zx : w.heap.size < w1.heap.size := (Array.getElem?_eq_some_iff.1 hX1).1
 have zy : w.heap.size + 1 < w1.heap.size := (Array.getElem?_eq_some_iff.1 hY1).1
 have zb : b < w1.heap.size := by omega
 clear hA hX hY hb1 hB1 hX1 hY1 hpr
 have HT : Hid (tellP ps vals x a = (((a.code == 9) && ((a.items.length : Int) == 0)), ps, vals)) := by unfold Hid tellP; rw [if_pos hp]; rfl
 have HF : Hid (BkOut own w b ps vals w1) := ⟨own, ⟨hs, M1.out, HPL.out⟩, ChgD.of_below HB1.out, fun _ _ h => h⟩
 cases h9 : (a.code == 9) with
 | false =>
  rw [h9] at HT
  go_wp2
  go_ret
  unfold ToldPost
  rw [HT.out]
  exact ⟨rfl, HF.out⟩
 | true =>
  rw [h9] at HT
  cases h0 : ((a.items.length : Int) == 0) with
  | false =>
   rw [h0] at HT
   go_wp2
   go_ret
   unfold ToldPost
   rw [HT.out]
   exact ⟨rfl, HF.out⟩
  | true =>
   rw [h0] at HT
   go_wp2
   go_ret
   unfold ToldPost
   rw [HT.out]
   exact ⟨rfl, HF.out⟩
theorem told_aborted (b : Nat) (ps : Nat → Pd) (vals : Nat → Int) (own : Own) (x : Stp) (a : Ans) (aq : Option Addr) (cq : Nat) (w : World) (TI : TellIn w b ps vals own a aq cq) (hp : properB x = true) (hc2 : a.code = 2) :
  Calls Try.prog 34 #[.pointer (some ⟨b, 0, none⟩), .agg #[.int .i64 x.who.1, .int .i64 x.who.2.1, .int .i64 x.who.2.2, .int .i64 x.op, .int .i64 x.at_.1, .int .i64 x.at_.2, .int .i64 x.key, .int .i64 x.to_, .int .i64 x.value], .agg #[.int .i64 a.code, .int .i64 a.why, .slice aq a.items.length cq]] w (ToldPost own w b ps vals x a) := by
 have Khc2 : Hid (a.code = 2) := hc2
 clear hc2
 obtain ⟨⟨hs, m, hpl⟩, hrowa, hva, hlen, hgood⟩ := TI
 have HM : Hid (BkMem w b hs vals own) := m
 have HPL : Hid (∀ k, k < 128 → (hs k).pl = ps k) := hpl
 have HRA : Hid (type_of% hrowa) := hrowa
 have HVA : Hid (type_of% hva) := hva
 have HLN : Hid (type_of% hlen) := hlen
 have HGD : Hid (type_of% hgood) := hgood
 have hbl := m.old b (by rw [m.tag]; simp)
 have hA : Below w.heap.size w ((w.alloc (.cells #[.int .i64 x.who.1, .int .i64 x.who.2.1, .int .i64 x.who.2.2, .int .i64 x.op, .int .i64 x.at_.1, .int .i64 x.at_.2, .int .i64 x.key, .int .i64 x.to_, .int .i64 x.value] 30)).alloc (.cells #[.int .i64 a.code, .int .i64 a.why, .slice aq a.items.length cq] 66)) := below2r
 have hX : ((w.alloc (.cells #[.int .i64 x.who.1, .int .i64 x.who.2.1, .int .i64 x.who.2.2, .int .i64 x.op, .int .i64 x.at_.1, .int .i64 x.at_.2, .int .i64 x.key, .int .i64 x.to_, .int .i64 x.value] 30)).alloc (.cells #[.int .i64 a.code, .int .i64 a.why, .slice aq a.items.length cq] 66)).heap[w.heap.size]? = some (.cells (stepC x).toArray 30 (0, 0)) := by
  rw [Below.heap_alloc _ _ _ (by simp)]; exact heap_alloc_new w _
 have hY : ((w.alloc (.cells #[.int .i64 x.who.1, .int .i64 x.who.2.1, .int .i64 x.who.2.2, .int .i64 x.op, .int .i64 x.at_.1, .int .i64 x.at_.2, .int .i64 x.key, .int .i64 x.to_, .int .i64 x.value] 30)).alloc (.cells #[.int .i64 a.code, .int .i64 a.why, .slice aq a.items.length cq] 66)).heap[w.heap.size + 1]? = some (.cells #[.int .i64 a.code, .int .i64 a.why, .slice aq a.items.length cq] 66 (0, 0)) := by
  have := heap_alloc_new (w.alloc (.cells #[.int .i64 x.who.1, .int .i64 x.who.2.1, .int .i64 x.who.2.2, .int .i64 x.op, .int .i64 x.at_.1, .int .i64 x.at_.2, .int .i64 x.key, .int .i64 x.to_, .int .i64 x.value] 30)) (.cells #[.int .i64 a.code, .int .i64 a.why, .slice aq a.items.length cq] 66 (0, 0))
  simpa using this
 have hpr := properK_any x
 rw [hp] at hpr
 unfold stepV at hpr
 clear m hpl hrowa hva hlen hgood
 go_enter Try.func34, Try.ntmps34
 go_wp2_with fail
 refine (hpr _).mono ?_
 rintro e w1 ⟨rfl, hb1⟩
 have hB1 : Below w.heap.size w w1 := hA.trans (hb1.mono hA.size)
 have hX1 : w1.heap[w.heap.size]? = _ := (hb1.block w.heap.size (by simp; omega)).trans hX
 have hY1 : w1.heap[w.heap.size + 1]? = _ := (hb1.block (w.heap.size + 1) (by simp)).trans hY
 have HX1 : Hid (type_of% hX1) := hX1
 have HY1 : Hid (type_of% hY1) := hY1
 have HB1 : Hid (Below w.heap.size w w1) := hB1
 have M1 : Hid (BkMem w1 b hs vals own) := HM.out.below hB1
 obtain ⟨d0, d1, d2, _, _, _⟩ := ans_cells hY1
 obtain ⟨c0, c1, c2, c3, c4, c5, c6, c7, c8, _⟩ := step9_cells hX1
 have zx : w.heap.size < w1.heap.size := (Array.getElem?_eq_some_iff.1 hX1).1
 have zy : w.heap.size + 1 < w1.heap.size := (Array.getElem?_eq_some_iff.1 hY1).1
 have zb : b < w1.heap.size := by omega
 clear hA hX hY hb1 hB1 hX1 hY1 hpr
 obtain ⟨k, hk, hsz⟩ := properB_sess hp
 have hses := session_any x.who
 rw [hsz] at hses
 have hkt : (sessZ' x.who).toNat = k := by rw [hsz]; simp
 have zk : (k : Int) < 128 := by omega
 go_upto_region 4 with fail
 have kc0 := kin_cell c0
 have kc1 := kin_cell c1
 have kc2 := kin_cell c2
 have hki := kin_some w1
 refine wp_region_kin (by kernel_rfl) (by kernel_rfl) ?_
 repeat (first | go_big_quiet_step ((go_at_call 37; exact Calls.kin (hses _))) | quiet_step ((go_at_call 37; exact Calls.kin (hses _))))
 refine wpQuiet_nil ?_
 intro _ hw'
 obtain ⟨xq, hw''⟩ := hw'
 subst hw''
 have HBq : Hid (Below w1.heap.size w1 xq.w) := xq.h
 generalize xq.w = wq at *
 have hC0 : ChgD own w wq own := ChgD.of_below (HB1.out.trans (HBq.out.mono HB1.out.size))
 have HC0 : Hid (ChgD own w wq own) := hC0
 have Mq : Hid (BkMem wq b hs vals own) := M1.out.below HBq.out
 have e0 := cell_later HBq.out d0
 have e1 := cell_later HBq.out d1
 have e2 := cell_later HBq.out d2
 have f3 := cell_later HBq.out c3
 have HXq : Hid (wq.heap[w.heap.size]? = _) := (HBq.out.block w.heap.size zx).trans HX1.out
 have HYq : Hid (wq.heap[w.heap.size + 1]? = _) := (HBq.out.block (w.heap.size + 1) zy).trans HY1.out
 have zxq : w.heap.size < wq.heap.size := by have := HBq.out.size; omega
 have zyq : w.heap.size + 1 < wq.heap.size := by have := HBq.out.size; omega
 have zbq : b < wq.heap.size := by have := HBq.out.size; omega
 have HPS : Hid ((hs k).pl = ps k) := HPL.out k hk
 have hth := Mq.out.there (o := k * 12) (n := 12) (by omega)
 have HTH : Hid (type_of% hth) := hth
 have hbx : b ≠ w.heap.size := by omega
 have hby : b ≠ w.heap.size + 1 := by omega
 have HTP : Hid (tellP ps vals x a = (
  if a.code = 2 then (decide (a.why = 1) || decide (a.why = 2), updP ps k pd0, vals)
  else if a.why ≠ 0 then (false, ps, vals)
  else if x.op = 1 ∧ a.code = 0 then (true, updP ps k { pd0 with live := true }, vals)
  else if x.op = 7 ∧ a.code = 0 then (true, updP ps k pd0, vals)
  else if x.op = 6 ∧ a.code = 0 then ((replayP vals (ps k).done).1, updP ps k pd0, (replayP vals (ps k).done).2)
  else if x.op = 8 ∧ (ps k).open_ = true ∧ a.code ≠ 1 then ((noteP (updP ps k { ps k with open_ := false }) k (ps k).x a).1, (noteP (updP ps k { ps k with open_ := false }) k (ps k).x a).2, vals)
  else if (2 ≤ x.op ∧ x.op ≤ 5) ∧ a.code = 1 then (true, updP ps k { ps k with open_ := true, x := x }, vals)
  else if 2 ≤ x.op ∧ x.op ≤ 5 then ((noteP ps k x a).1, (noteP ps k x a).2, vals)
  else (true, ps, vals))) := by
  unfold Hid tellP
  rw [if_neg (by rw [hp]; simp)]
  simp only [hkt]
 have hpo := (proper_of hp).op
 clear hth kc0 kc1 kc2 hki c0 c1 c2 c3 c4 c5 c6 c7 c8 d0 d1 d2 hses hC0 xq
 have hc2 := Khc2.out
 have HS0 : Hid (∀ h' : Hd, h'.dv = .slice none 0 0 → h'.done = [] → BkOut own w b (updP ps k h'.pl) vals (wq.setCells b (k * 12) (handC h'))) := fun h' g1 g2 => by
  obtain ⟨m1, m2⟩ := Mq.out.setBare hk h' g1 g2
  exact ⟨own, ⟨_, m1, upd_pl HPL.out⟩, HC0.out.trans m2, fun _ _ h => h⟩
 have H0 : Hid ((#[.bool false, .slice none 0 0, .bool false, .int .i64 0, .int .i64 0, .int .i64 0, .int .i64 0, .int .i64 0, .int .i64 0, .int .i64 0, .int .i64 0, .int .i64 0] : Array Value).all (·.oneCell') = true) := all_oneCell_toArray (cs := [.bool false, .slice none 0 0, .bool false, .int .i64 0, .int .i64 0, .int .i64 0, .int .i64 0, .int .i64 0, .int .i64 0, .int .i64 0, .int .i64 0, .int .i64 0]) (by simp [Value.oneCell'])
 have HZ0 : Hid (([.bool false, .slice none 0 0, .bool false, .int .i64 0, .int .i64 0, .int .i64 0, .int .i64 0, .int .i64 0, .int .i64 0, .int .i64 0, .int .i64 0, .int .i64 0] : List Value) = handC hd0) := rfl
 rw [hc2] at e0
 have HF : Hid (BkOut own w b (updP ps k pd0) vals (wq.setCells b (k * 12) (handC hd0))) := HS0.out hd0 rfl rfl
 have e1' : (wq.setCells b (k * 12) (handC hd0)).cell? ⟨w.heap.size + 1, 1, none⟩ = some (.int .i64 a.why) := (World.cell?_setCells_out b (handC hd0) (k * 12) wq ⟨w.heap.size + 1, 1, none⟩ (fun e _ => absurd e.symm hby)).trans e1
 have HT : Hid (tellP ps vals x a = (((a.why == 1) || (a.why == 2)), updP ps k pd0, vals)) := by unfold Hid; rw [HTP.out, if_pos hc2]; rfl
 clear hc2
 cases hw1 : (a.why == 1) with
 | true =>
  rw [hw1] at HT
  go_upto_region 7 with (refine wpList_store_mid rfl 80 _ _ rfl b (k * 12) #[.bool false, .slice none 0 0, .bool false, .int .i64 0, .int .i64 0, .int .i64 0, .int .i64 0, .int .i64 0, .int .i64 0, .int .i64 0, .int .i64 0, .int .i64 0] rfl rfl HTH.out sizeHand H0.out ?_)
  rw [HZ0.out]
  go_wp2
  go_ret
  unfold ToldPost
  rw [HT.out]
  exact ⟨rfl, HF.out⟩
 | false =>
  rw [hw1] at HT
  cases hw2 : (a.why == 2) with
  | true =>
   rw [hw2] at HT
   go_upto_region 7 with (refine wpList_store_mid rfl 80 _ _ rfl b (k * 12) #[.bool false, .slice none 0 0, .bool false, .int .i64 0, .int .i64 0, .int .i64 0, .int .i64 0, .int .i64 0, .int .i64 0, .int .i64 0, .int .i64 0, .int .i64 0] rfl rfl HTH.out sizeHand H0.out ?_)
   rw [HZ0.out]
   go_wp2
   go_ret
   unfold ToldPost
   rw [HT.out]
   exact ⟨rfl, HF.out⟩
  | false =>
   rw [hw2] at HT
   go_upto_region 7 with (refine wpList_store_mid rfl 80 _ _ rfl b (k * 12) #[.bool false, .slice none 0 0, .bool false, .int .i64 0, .int .i64 0, .int .i64 0, .int .i64 0, .int .i64 0, .int .i64 0, .int .i64 0, .int .i64 0, .int .i64 0] rfl rfl HTH.out sizeHand H0.out ?_)
   rw [HZ0.out]
   go_wp2
   go_ret
   unfold ToldPost
   rw [HT.out]
   exact ⟨rfl, HF.out⟩
theorem told_why (b : Nat) (ps : Nat → Pd) (vals : Nat → Int) (own : Own) (x : Stp) (a : Ans) (aq : Option Addr) (cq : Nat) (w : World) (TI : TellIn w b ps vals own a aq cq) (hp : properB x = true) (hc2 : ¬ a.code = 2) (hw0 : ¬ a.why = 0) :
  Calls Try.prog 34 #[.pointer (some ⟨b, 0, none⟩), .agg #[.int .i64 x.who.1, .int .i64 x.who.2.1, .int .i64 x.who.2.2, .int .i64 x.op, .int .i64 x.at_.1, .int .i64 x.at_.2, .int .i64 x.key, .int .i64 x.to_, .int .i64 x.value], .agg #[.int .i64 a.code, .int .i64 a.why, .slice aq a.items.length cq]] w (ToldPost own w b ps vals x a) := by
 have Khc2 : Hid (¬ a.code = 2) := hc2
 have Khw0 : Hid (¬ a.why = 0) := hw0
 clear hc2 hw0
 obtain ⟨⟨hs, m, hpl⟩, hrowa, hva, hlen, hgood⟩ := TI
 have HM : Hid (BkMem w b hs vals own) := m
 have HPL : Hid (∀ k, k < 128 → (hs k).pl = ps k) := hpl
 have HRA : Hid (type_of% hrowa) := hrowa
 have HVA : Hid (type_of% hva) := hva
 have HLN : Hid (type_of% hlen) := hlen
 have HGD : Hid (type_of% hgood) := hgood
 have hbl := m.old b (by rw [m.tag]; simp)
 have hA : Below w.heap.size w ((w.alloc (.cells #[.int .i64 x.who.1, .int .i64 x.who.2.1, .int .i64 x.who.2.2, .int .i64 x.op, .int .i64 x.at_.1, .int .i64 x.at_.2, .int .i64 x.key, .int .i64 x.to_, .int .i64 x.value] 30)).alloc (.cells #[.int .i64 a.code, .int .i64 a.why, .slice aq a.items.length cq] 66)) := below2r
 have hX : ((w.alloc (.cells #[.int .i64 x.who.1, .int .i64 x.who.2.1, .int .i64 x.who.2.2, .int .i64 x.op, .int .i64 x.at_.1, .int .i64 x.at_.2, .int .i64 x.key, .int .i64 x.to_, .int .i64 x.value] 30)).alloc (.cells #[.int .i64 a.code, .int .i64 a.why, .slice aq a.items.length cq] 66)).heap[w.heap.size]? = some (.cells (stepC x).toArray 30 (0, 0)) := by
  rw [Below.heap_alloc _ _ _ (by simp)]; exact heap_alloc_new w _
 have hY : ((w.alloc (.cells #[.int .i64 x.who.1, .int .i64 x.who.2.1, .int .i64 x.who.2.2, .int .i64 x.op, .int .i64 x.at_.1, .int .i64 x.at_.2, .int .i64 x.key, .int .i64 x.to_, .int .i64 x.value] 30)).alloc (.cells #[.int .i64 a.code, .int .i64 a.why, .slice aq a.items.length cq] 66)).heap[w.heap.size + 1]? = some (.cells #[.int .i64 a.code, .int .i64 a.why, .slice aq a.items.length cq] 66 (0, 0)) := by
  have := heap_alloc_new (w.alloc (.cells #[.int .i64 x.who.1, .int .i64 x.who.2.1, .int .i64 x.who.2.2, .int .i64 x.op, .int .i64 x.at_.1, .int .i64 x.at_.2, .int .i64 x.key, .int .i64 x.to_, .int .i64 x.value] 30)) (.cells #[.int .i64 a.code, .int .i64 a.why, .slice aq a.items.length cq] 66 (0, 0))
  simpa using this
 have hpr := properK_any x
 rw [hp] at hpr
 unfold stepV at hpr
 clear m hpl hrowa hva hlen hgood
 go_enter Try.func34, Try.ntmps34
 go_wp2_with fail
 refine (hpr _).mono ?_
 rintro e w1 ⟨rfl, hb1⟩
 have hB1 : Below w.heap.size w w1 := hA.trans (hb1.mono hA.size)
 have hX1 : w1.heap[w.heap.size]? = _ := (hb1.block w.heap.size (by simp; omega)).trans hX
 have hY1 : w1.heap[w.heap.size + 1]? = _ := (hb1.block (w.heap.size + 1) (by simp)).trans hY
 have HX1 : Hid (type_of% hX1) := hX1
 have HY1 : Hid (type_of% hY1) := hY1
 have HB1 : Hid (Below w.heap.size w w1) := hB1
 have M1 : Hid (BkMem w1 b hs vals own) := HM.out.below hB1
 obtain ⟨d0, d1, d2, _, _, _⟩ := ans_cells hY1
 obtain ⟨c0, c1, c2, c3, c4, c5, c6, c7, c8, _⟩ := step9_cells hX1
 have zx : w.heap.size < w1.heap.size := (Array.getElem?_eq_some_iff.1 hX1).1
 have zy : w.heap.size + 1 < w1.heap.size := (Array.getElem?_eq_some_iff.1 hY1).1
 have zb : b < w1.heap.size := by omega
 clear hA hX hY hb1 hB1 hX1 hY1 hpr
 obtain ⟨k, hk, hsz⟩ := properB_sess hp
 have hses := session_any x.who
 rw [hsz] at hses
 have hkt : (sessZ' x.who).toNat = k := by rw [hsz]; simp
 have zk : (k : Int) < 128 := by omega
 go_upto_region 4 with fail
 have kc0 := kin_cell c0
 have kc1 := kin_cell c1
 have kc2 := kin_cell c2
 have hki := kin_some w1
 refine wp_region_kin (by kernel_rfl) (by kernel_rfl) ?_
 repeat (first | go_big_quiet_step ((go_at_call 37; exact Calls.kin (hses _))) | quiet_step ((go_at_call 37; exact Calls.kin (hses _))))
 refine wpQuiet_nil ?_
 intro _ hw'
 obtain ⟨xq, hw''⟩ := hw'
 subst hw''
 have HBq : Hid (Below w1.heap.size w1 xq.w) := xq.h
 generalize xq.w = wq at *
 have hC0 : ChgD own w wq own := ChgD.of_below (HB1.out.trans (HBq.out.mono HB1.out.size))
 have HC0 : Hid (ChgD own w wq own) := hC0
 have Mq : Hid (BkMem wq b hs vals own) := M1.out.below HBq.out
 have e0 := cell_later HBq.out d0
 have e1 := cell_later HBq.out d1
 have e2 := cell_later HBq.out d2
 have f3 := cell_later HBq.out c3
 have HXq : Hid (wq.heap[w.heap.size]? = _) := (HBq.out.block w.heap.size zx).trans HX1.out
 have HYq : Hid (wq.heap[w.heap.size + 1]? = _) := (HBq.out.block (w.heap.size + 1) zy).trans HY1.out
 have zxq : w.heap.size < wq.heap.size := by have := HBq.out.size; omega
 have zyq : w.heap.size + 1 < wq.heap.size := by have := HBq.out.size; omega
 have zbq : b < wq.heap.size := by have := HBq.out.size; omega
 have HPS : Hid ((hs k).pl = ps k) := HPL.out k hk
 have hth := Mq.out.there (o := k * 12) (n := 12) (by omega)
 have HTH : Hid (type_of% hth) := hth
 have hbx : b ≠ w.heap.size := by omega
 have hby : b ≠ w.heap.size + 1 := by omega
 have HTP : Hid (tellP ps vals x a = (
  if a.code = 2 then (decide (a.why = 1) || decide (a.why = 2), updP ps k pd0, vals)
  else if a.why ≠ 0 then (false, ps, vals)
  else if x.op = 1 ∧ a.code = 0 then (true, updP ps k { pd0 with live := true }, vals)
  else if x.op = 7 ∧ a.code = 0 then (true, updP ps k pd0, vals)
  else if x.op = 6 ∧ a.code = 0 then ((replayP vals (ps k).done).1, updP ps k pd0, (replayP vals (ps k).done).2)
  else if x.op = 8 ∧ (ps k).open_ = true ∧ a.code ≠ 1 then ((noteP (updP ps k { ps k with open_ := false }) k (ps k).x a).1, (noteP (updP ps k { ps k with open_ := false }) k (ps k).x a).2, vals)
  else if (2 ≤ x.op ∧ x.op ≤ 5) ∧ a.code = 1 then (true, updP ps k { ps k with open_ := true, x := x }, vals)
  else if 2 ≤ x.op ∧ x.op ≤ 5 then ((noteP ps k x a).1, (noteP ps k x a).2, vals)
  else (true, ps, vals))) := by
  unfold Hid tellP
  rw [if_neg (by rw [hp]; simp)]
  simp only [hkt]
 have hpo := (proper_of hp).op
 clear hth kc0 kc1 kc2 hki c0 c1 c2 c3 c4 c5 c6 c7 c8 d0 d1 d2 hses hC0 xq
 have hc2 := Khc2.out
 have hw0 := Khw0.out
 have hc2b : (a.code == 2) = false := by simpa using hc2
 have hwb : (a.why == 0) = false := by simpa using hw0
 have HT : Hid (tellP ps vals x a = (false, ps, vals)) := by unfold Hid; rw [HTP.out, if_neg hc2, if_pos hw0]
 have HF : Hid (BkOut own w b ps vals wq) := ⟨own, ⟨hs, Mq.out, HPL.out⟩, HC0.out, fun _ _ h => h⟩
 clear hc2 hw0
 go_wp2
 go_ret
 unfold ToldPost
 rw [HT.out]
 exact ⟨rfl, HF.out⟩
end Go.Proofs.Ytpbcplfpjcacfaa
