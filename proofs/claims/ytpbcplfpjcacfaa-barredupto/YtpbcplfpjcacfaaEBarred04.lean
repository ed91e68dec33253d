import Derived.Test.YtpbcplfpjcacfaaEBarred03
namespace Go.Proofs.Ytpbcplfpjcacfaa
open Go.RowKit
set_option maxRecDepth 100000
set_option maxHeartbeats 8000000
theorem sess_idx {x : Stp} (hp : properB x = true) : (sessZ' x.who).toNat = 4 * plOf x.who.lab + numOf x.who := by
 have hlab : labB x.who.1 x.who.2.1 = true := by
  have h := hp
  unfold properB at h
  simp only [Bool.and_eq_true] at h
  exact h.1.1
 have hP := (proper_of hp).who.2
 obtain ⟨a1, a2, a3, a4⟩ := labB_t hlab
 unfold sessZ'
 rw [if_pos ⟨hlab, hP.1, by have := hP.2; omega⟩]
 unfold plOf placeOf Wh.lab numOf
 have := hP.1
 simp only
 omega
theorem tell_proper {ps : Nat → Pd} {vals : Nat → Int} {x : Stp} {a : Ans} {k : Nat} (hp : properB x = true) (hk : (sessZ' x.who).toNat = k) : tellP ps vals x a = (
      if a.code = 2 then (decide (a.why = 1) || decide (a.why = 2), updP ps k pd0, vals)
      else if a.why ≠ 0 then (false, ps, vals)
      else if x.op = 1 ∧ a.code = 0 then (true, updP ps k { pd0 with live := true }, vals)
      else if x.op = 7 ∧ a.code = 0 then (true, updP ps k pd0, vals)
      else if x.op = 6 ∧ a.code = 0 then ((replayP vals (ps k).done).1, updP ps k pd0, (replayP vals (ps k).done).2)
      else if x.op = 8 ∧ (ps k).open_ = true ∧ a.code ≠ 1 then ((noteP (updP ps k { ps k with open_ := false }) k (ps k).x a).1, (noteP (updP ps k { ps k with open_ := false }) k (ps k).x a).2, vals)
      else if (2 ≤ x.op ∧ x.op ≤ 5) ∧ a.code = 1 then (true, updP ps k { ps k with open_ := true, x := x }, vals)
      else if 2 ≤ x.op ∧ x.op ≤ 5 then ((noteP ps k x a).1, (noteP ps k x a).2, vals)
      else (true, ps, vals)) := by
  unfold tellP
  rw [if_neg (by rw [hp]; simp)]
  simp only [hk]
def Told (s' : PS) (ps : Nat → Pd) (vals : Nat → Int) (x : Stp) (a : Ans) : Prop := (tellP ps vals x a).1 = true ∧ SOk s' (tellP ps vals x a).2.1 (tellP ps vals x a).2.2
theorem told_of {s' : PS} {ps ps' : Nat → Pd} {vals vals' : Nat → Int} {x : Stp} {a : Ans} (h : tellP ps vals x a = (true, ps', vals')) (g : SOk s' ps' vals') : Told s' ps vals x a := by
 unfold Told; rw [h]; exact ⟨rfl, g⟩
theorem note_no {ps : Nat → Pd} {k : Nat} {x : Stp} {a : Ans} (h : a.code ≠ 0) (hi : a.items = []) : noteP ps k x a = (true, ps) := by
 unfold noteP; rw [if_neg h, hi]; rfl
theorem tell_quiet {ps : Nat → Pd} {vals : Nat → Int} {x : Stp} {c : Int} (hp : properB x = true) (h8 : x.op ≠ 8) (h0 : c ≠ 0) (h1 : c ≠ 1) (h2 : c ≠ 2) : tellP ps vals x ⟨c, 0, []⟩ = (true, ps, vals) := by
 rw [tell_proper hp rfl]
 rw [if_neg h2, if_neg (by simp), if_neg (fun h => h0 h.2), if_neg (fun h => h0 h.2), if_neg (fun h => h0 h.2), if_neg (fun h => h8 h.1), if_neg (fun h => h1 h.2)]
 split
 ·rw [note_no (a := ⟨c, 0, []⟩) h0 rfl]
 ·rfl
theorem updP_updP (ps : Nat → Pd) (k : Nat) (P Q : Pd) : updP (updP ps k P) k Q = updP ps k Q := by
 funext j; unfold updP; split <;> rfl
theorem hasB_not {l : List Nat} {n : Nat} (h : ¬ n ∈ l) : hasB l n = false := by
 cases e : hasB l n with
 | false => rfl
 | true => exact absurd (hasB_iff.1 e) h
theorem hasB_mem {l : List Nat} {n : Nat} (h : hasB l n = false) : ¬ n ∈ l := fun e => by
 rw [hasB_iff.2 e] at h; cases h
theorem none_ok {vals : Nat → Int} {q : Nat} {b w : Prop} {S : Ses} {P : Pd} (hb : ¬ b) (hw : ¬ w) (hl : S.locks = []) (hc : S.came = false) (hr : S.wr = wrt0) (he : S.ended = 0) (hP : P.live = false ∧ P.open_ = false) : SesOk vals q b w S P :=
 ⟨fun e => absurd e hb, fun e => absurd e hw, fun _ _ => hP, fun _ => ⟨hl, hc, hr⟩, fun e => (by rw [hc] at e; cases e), .inl he⟩
theorem end_kept (s : PS) {q n : Nat} {q' n' : Nat} (h : q' ≠ q ∨ n' ≠ n) : Kept s (s.setT q ((s.t q).endT n)) q' n' := by
 by_cases e : q' = q
 ·subst e
  have hn : n' ≠ n := by omega
  unfold Kept
  rw [setT_t]
  exact ⟨⟨fun h => (lsOff_mem.1 h).1, fun h => lsOff_mem.2 ⟨h, hn⟩⟩, ⟨fun h => (lsOff_mem.1 h).1, fun h => lsOff_mem.2 ⟨h, hn⟩⟩, upd_ne _ _ hn⟩
 ·exact Kept.of_tier (setT_ne s _ e) n'
theorem SOk.ends {s : PS} {ps : Nat → Pd} {vals : Nat → Int} (h : SOk s ps vals) {q n : Nat} (hq : q < 32) (hn : n < 4) : SOk (s.setT q ((s.t q).endT n)) (updP ps (4 * q + n) pd0) vals := by
 have hs : ((s.setT q ((s.t q).endT n)).t q).ses n = ses0 := by rw [setT_t]; exact endT_ses _ _
 refine h.turn hq hn (h.fit.setT ((h.fit.tr q hq).endT n)) (h.dm.setT ((h.dm q hq).endT hq n)) (fun q' _ => ?_) (fun q' n' _ _ h3 => .inl (end_kept s h3)) ?_ (fun q' n' _ _ _ l hl => by rw [hs] at hl; cases hl)
 ·by_cases e : q' = q
  ·subst e; rw [setT_t]; rfl
  ·rw [setT_ne _ _ e]
 ·rw [hs]
  refine none_ok ?_ ?_ rfl rfl rfl rfl ⟨rfl, rfl⟩
  ·rw [setT_t]; exact fun e => (lsOff_mem.1 e).2 rfl
  ·rw [setT_t]; exact fun e => (lsOff_mem.1 e).2 rfl
theorem SOk.commits {s : PS} {ps : Nat → Pd} {vals : Nat → Int} (h : SOk s ps vals) {q n : Nat} (hq : q < 32) (hn : n < 4) (hb : n ∈ (s.t q).begun) :
  SOk ((s.setI q (((s.t q).ses n).wr.over (s.t q).items)).setT q (((s.setI q (((s.t q).ses n).wr.over (s.t q).items)).t q).endT n)) (updP ps (4 * q + n) pd0) (ovl vals q ((s.t q).ses n).wr) := by
 have hin := (h.ses q n hq hn).beg hb
 have F1 : (s.setI q (((s.t q).ses n).wr.over (s.t q).items)).Fit := h.fit.setT ((h.fit.tr q hq).same rfl rfl (fun _ _ => rfl) (fun _ _ => rfl))
 have D1 := h.dm.setI hq (((s.t q).ses n).wr.over (s.t q).items)
 have K1 : ∀ q' n', Kept s (s.setI q (((s.t q).ses n).wr.over (s.t q).items)) q' n' := fun q' n' => by
  by_cases e : q' = q
  ·subst e
   unfold Kept PS.setI
   rw [setT_t]; exact ⟨Iff.rfl, Iff.rfl, rfl⟩
  ·exact Kept.of_tier (setT_ne s _ e) n'
 have hI : ((s.setI q (((s.t q).ses n).wr.over (s.t q).items)).t q).items = ((s.t q).ses n).wr.over (s.t q).items := by unfold PS.setI; rw [setT_t]
 have hI2 : ∀ q', q' ≠ q → ((s.setI q (((s.t q).ses n).wr.over (s.t q).items)).t q').items = (s.t q').items := fun q' e => by unfold PS.setI; rw [setT_ne _ _ e]
 generalize s.setI q (((s.t q).ses n).wr.over (s.t q).items) = s1 at *
 have hs : ((s1.setT q ((s1.t q).endT n)).t q).ses n = ses0 := by rw [setT_t]; exact endT_ses _ _
 have K2 : ∀ q' n', (q' ≠ q ∨ n' ≠ n) → Kept s (s1.setT q ((s1.t q).endT n)) q' n' := fun q' n' e => (K1 q' n').trans (end_kept s1 e)
 have hit : ∀ q', ((s1.setT q ((s1.t q).endT n)).t q').items = (s1.t q').items := fun q' => by
  by_cases e : q' = q
  ·subst e; rw [setT_t]; rfl
  ·rw [setT_ne _ _ e]
 refine ⟨F1.setT ((F1.tr q hq).endT n), D1.setT ((D1 q hq).endT hq n), fun q' k hq' hk => ?_, fun q' k v hq' hk e => ?_, fun q' n' hq' hn' => ?_, fun a b c d ha' hb' hc' hd' hne l hl m hm => ?_⟩
 ·rw [hit]
  have d1 : (16 * q' + k) / 16 = q' := by omega
  have d2 : (16 * q' + k) % 16 = k := by omega
  unfold ovl
  rw [d1, d2]
  by_cases e : q' = q
  ·subst e
   rw [hI]
   unfold Wrt.over
   by_cases ht : ((s.t q').ses n).wr.touched k = true
   ·rw [if_pos ⟨rfl, ht⟩, if_pos ht]
   ·rw [if_neg (fun g => ht g.2), if_neg ht]; exact h.val q' k hq' hk
  ·rw [if_neg (fun g => e g.1), hI2 q' e]; exact h.val q' k hq' hk
 ·rw [hit] at e
  by_cases e2 : q' = q
  ·subst e2
   rw [hI] at e
   unfold Wrt.over at e
   by_cases ht : ((s.t q').ses n).wr.touched k = true
   ·rw [if_pos ht] at e; exact hin.left k v e
   ·rw [if_neg ht] at e; exact h.nn q' k v hq' hk e
  ·rw [hI2 q' e2] at e; exact h.nn q' k v hq' hk e
 ·by_cases e : q' ≠ q ∨ n' ≠ n
  ·rw [updP_ne _ _ (by omega)]
   refine (K2 q' n' e).ok ?_
   obtain ⟨g1, g2, g3, g4, g5, g6⟩ := h.ses q' n' hq' hn'
   refine ⟨fun b => ?_, g2, g3, g4, g5, g6⟩
   have G := g1 b
   refine ⟨G.ended, G.live, G.opn, good_frame _ _ _ (fun ev hev h4 h5 i hi => ?_) G.good, G.rd, G.wrt, G.left⟩
   obtain ⟨A, l, hl, e1, e2, e3⟩ := G.rd ev hev h4 h5
   obtain ⟨b1, b2, b3, b4⟩ := A.hi ev.2
   have b4' : (lkOf ev.1).hi = (plHi ev : Int) := b4
   have b2' : plHi ev < 16 := b2
   have hpp := plP_at (e := ev) A.lab
   have hky := A.key
   unfold ovl
   by_cases hc : (16 * plP ev + (ev.1.key.toNat + i)) / 16 = q ∧ ((s.t q).ses n).wr.touched ((16 * plP ev + (ev.1.key.toNat + i)) % 16) = true
   ·exfalso
    have d1 : (16 * plP ev + (ev.1.key.toNat + i)) / 16 = plP ev := by omega
    have d2 : (16 * plP ev + (ev.1.key.toNat + i)) % 16 = ev.1.key.toNat + i := by omega
    rw [d1, d2] at hc
    obtain ⟨m, hm, m1, m2, m3, m4⟩ := hin.wrt _ hc.2
    have hat : ev.1.at_ = labOf q := by rw [← labOf_plOf A.lab, ← hpp, hc.1]
    have hno := h.apart q n q' n' hq hn hq' hn' e m hm l hl
    have hyes : m.meetB l = true := by
     unfold Lk.meetB sameL
     rw [m1, m2, e1, hat]
     simp only [Bool.true_or, Bool.and_true, Bool.and_eq_true, decide_eq_true_eq]
     refine ⟨⟨trivial, trivial⟩, ?_, ?_⟩
     ·omega
     ·omega
    rw [hyes] at hno; cases hno
   ·rw [if_neg hc]
  ·obtain ⟨rfl, rfl⟩ : q' = q ∧ n' = n := by omega
   rw [updP_at, hs]
   refine none_ok ?_ ?_ rfl rfl rfl rfl ⟨rfl, rfl⟩
   ·rw [setT_t]; exact fun e => (lsOff_mem.1 e).2 rfl
   ·rw [setT_t]; exact fun e => (lsOff_mem.1 e).2 rfl
 ·by_cases e1 : a ≠ q ∨ b ≠ n
  ·by_cases e2 : c ≠ q ∨ d ≠ n
   ·exact h.apart a b c d ha' hb' hc' hd' hne l (locks_of (.inl (K2 a b e1)) hl) m (locks_of (.inl (K2 c d e2)) hm)
   ·obtain ⟨rfl, rfl⟩ : c = q ∧ d = n := by omega
    rw [hs] at hm; cases hm
  ·obtain ⟨rfl, rfl⟩ : a = q ∧ b = n := by omega
   rw [hs] at hl; cases hl
theorem SOk.untold {s : PS} {ps : Nat → Pd} {vals : Nat → Int} (h : SOk s ps vals) {q n : Nat} (hq : q < 32) (hn : n < 4) (he : ((s.t q).ses n).ended ≠ 0) : SOk (s.untold q n) (updP ps (4 * q + n) pd0) vals := by
 have hb : ¬ n ∈ (s.t q).begun := fun b => he ((h.ses q n hq hn).beg b).ended
 have hw : ¬ n ∈ (s.t q).queue := fun w => hb ((h.ses q n hq hn).que w).1
 obtain ⟨b1, b2, b3⟩ := (h.ses q n hq hn).bare hb
 unfold PS.untold
 have hs := setS_ses s q n { (s.t q).ses n with ended := 0 }
 refine h.turn (s' := s.setS q n { (s.t q).ses n with ended := 0 }) hq hn (h.fit.setS hq rfl rfl) (h.dm.setS hq rfl rfl) (fun q' _ => setS_items _ _ _ _ _) (fun q' n' _ _ h3 => .inl (setS_kept s _ h3)) ?_ (fun q' n' _ _ _ l hl => by
  rw [hs] at hl
  have hl' : l ∈ ((s.t q).ses n).locks := hl
  rw [b1] at hl'; cases hl')
 rw [hs, setS_begun, setS_queue]
 exact none_ok hb hw b1 b2 b3 rfl ⟨rfl, rfl⟩
theorem join_kept (s : PS) {q n : Nat} (x : Stp) {q' n' : Nat} (h : q' ≠ q ∨ n' ≠ n) : Kept s (s.setT q ((s.t q).joinT n x)) q' n' := by
 by_cases e : q' = q
 ·subst e
  have hn : n' ≠ n := by omega
  unfold Kept
  rw [setT_t]
  refine ⟨Iff.rfl, ⟨fun h => ?_, fun h => List.mem_append.2 (.inl h)⟩, upd_ne _ _ hn⟩
  rcases List.mem_append.1 h with h | h
  ·exact h
  ·exact absurd (List.mem_singleton.1 h) hn
 ·exact Kept.of_tier (setT_ne s _ e) n'
theorem join_ses (s : PS) (q n : Nat) (x : Stp) : ((s.setT q ((s.t q).joinT n x)).t q).ses n = { (s.t q).ses n with req := x } := by
 rw [setT_t]; exact upd_same _ _ _
theorem SOk.joins {s : PS} {ps : Nat → Pd} {vals : Nat → Int} (h : SOk s ps vals) {q n : Nat} (hq : q < 32) (hn : n < 4) {x : Stp} (hx : Asked x) (hr : ReqOk q n x) (hg : lkGood q (lkOf x)) (hb : n ∈ (s.t q).begun) (hw : ¬ n ∈ (s.t q).queue) (hc : ((s.t q).ses n).came = false) (hl : (s.t q).lockTo 4 + 1 ≤ 32) :
  SOk (s.setT q ((s.t q).joinT n x)) (updP ps (4 * q + n) { ps (4 * q + n) with open_ := true, x := x }) vals := by
 have hin := (h.ses q n hq hn).beg hb
 have hs := join_ses s q n x
 refine h.turn hq hn (h.fit.setT ((h.fit.tr q hq).joinT hn (hasB_not hw) hl ⟨hr, hg.2.2⟩)) (h.dm.setT ((h.dm q hq).joinT n hg)) (fun q' _ => ?_) (fun q' n' _ _ h3 => .inl (join_kept s x h3)) ?_ (fun q' n' h1 h2 h3 l hl' m hm => ?_)
 ·by_cases e : q' = q
  ·subst e; rw [setT_t]; rfl
  ·rw [setT_ne _ _ e]
 ·rw [hs]
  have hbb : n ∈ ((s.setT q ((s.t q).joinT n x)).t q).begun := by rw [setT_t]; exact hb
  have hww : n ∈ ((s.setT q ((s.t q).joinT n x)).t q).queue := by rw [setT_t]; exact List.mem_append.2 (.inr (List.mem_singleton.2 rfl))
  have hpe : pend { (s.t q).ses n with req := x } { ps (4 * q + n) with open_ := true, x := x } = [] := pend_no _ hc
  have hpo : pend ((s.t q).ses n) (ps (4 * q + n)) = [] := pend_no _ hc
  have hgood := hin.good
  have hrd := hin.rd
  rw [hpo] at hgood hrd
  refine ⟨fun _ => ⟨hin.ended, hin.live, ⟨fun _ => .inl hww, fun _ => rfl⟩, by rw [hpe]; exact hgood, by rw [hpe]; exact hrd, hin.wrt, hin.left⟩, fun _ => ⟨hbb, rfl, hc, hx⟩, fun e => absurd hbb e, fun e => absurd hbb e, fun e => ?_, .inl hin.ended⟩
  have e' : ((s.t q).ses n).came = true := e
  rw [hc] at e'; cases e'
 ·rw [hs] at hl'
  rw [(join_kept s x h3).2.2] at hm
  exact h.apart q n q' n' hq hn h1 h2 h3 l hl' m hm
theorem SOk.admitD {s : PS} {ps : Nat → Pd} {vals : Nat → Int} (h : SOk s ps vals) {q n : Nat} (hq : q < 32) (hn : n < 4) (hw : n ∈ (s.t q).queue) (hh : s.hindB q n = false) {P : Pd} (hP : P.live = true) (hO : P.open_ = false)
  (hd : P.done = (ps (4 * q + n)).done ++ (if (s.admitT q n).2.code = 0 then [(((s.t q).ses n).req, (s.admitT q n).2.items)] else [])) : SOk (s.admitT q n).1 (updP ps (4 * q + n) P) vals := by
 obtain ⟨hb, _, hcm, hask⟩ := (h.ses q n hq hn).que hw
 have hin := (h.ses q n hq hn).beg hb
 have A := admit_core h hq hn hw hh
 have hF := h.fit.admitT hq hw
 have hD := h.dm.admitT hq n
 obtain ⟨m1, m2, m3⟩ := A.more hask (h.dm q hq n).2 hin hcm
 rw [← hd] at m1 m2
 generalize (s.admitT q n).2 = an at *
 generalize (s.admitT q n).1 = s2 at *
 have hcm2 : ((s2.t q).ses n).came = false := by rw [A.came]; exact hcm
 have hpe : pend ((s2.t q).ses n) P = [] := pend_no _ hcm2
 refine h.turn hq hn hF hD (fun q' _ => A.items q') A.kept ?_ (A.apart h hq hn)
 rw [A.beg]
 refine ⟨fun _ => ⟨by rw [A.ended]; exact hin.ended, hP, ⟨fun e => ?_, fun e => ?_⟩, by rw [hpe, List.append_nil]; exact m1, by rw [hpe, List.append_nil]; exact m2, m3, A.left⟩, fun e => absurd e A.que, fun e => absurd hb e, fun e => absurd hb e, fun e => ?_, by rw [A.ended]; exact .inl hin.ended⟩
 ·rw [hO] at e; cases e
 ·rcases e with e | e
  ·exact absurd e A.que
  ·rw [hcm2] at e; cases e
 ·rw [hcm2] at e; cases e
theorem SOk.grantD {s : PS} {ps : Nat → Pd} {vals : Nat → Int} (h : SOk s ps vals) {q n : Nat} (hq : q < 32) (hn : n < 4) {x : Stp} (hx : Asked x) (hg : lkGood q (lkOf x)) (hb : n ∈ (s.t q).begun) (hw : ¬ n ∈ (s.t q).queue) (hc : ((s.t q).ses n).came = false)
  (hcov : ((s.t q).ses n).covB (lkOf x) = true) :
  (s.grantT q n x).2.why = 0 ∧ ((s.grantT q n x).2.code = 0 ∨ ((s.grantT q n x).2.code = 4 ∧ (s.grantT q n x).2.items = [])) ∧
  SOk (s.grantT q n x).1 (updP ps (4 * q + n) { ps (4 * q + n) with done := (ps (4 * q + n)).done ++ (if (s.grantT q n x).2.code = 0 then [(x, (s.grantT q n x).2.items)] else []) }) vals := by
 have hin := (h.ses q n hq hn).beg hb
 obtain ⟨W, e1, e2, e3, e4, e5⟩ := grant_core (s := s) (q := q) (n := n) (x := x) (vals := vals) hq hx hg h.val h.nn hin.left
 have hF := h.fit.grantT (n := n) hq x
 have hD := h.dm.grantT hq n x
 obtain ⟨lc, hlc, hcv⟩ := List.any_eq_true.1 hcov
 unfold Lk.covB sameL at hcv
 simp only [Bool.and_eq_true, Bool.or_eq_true, decide_eq_true_eq, Bool.not_eq_true'] at hcv
 obtain ⟨⟨c1, c2⟩, c3, c4, c5⟩ := hcv
 have cat : lc.at_ = x.at_ := Prod.ext c1 c2
 generalize (s.grantT q n x).2 = an at *
 rw [e1] at hF hD ⊢
 have hs := setS_ses s q n { (s.t q).ses n with wr := W }
 have hgood := hin.good
 have hrd := hin.rd
 have hopn := hin.opn
 rw [pend_no _ hc, List.append_nil] at hgood hrd
 have hcm2 : (Ses.mk ((s.t q).ses n).locks W ((s.t q).ses n).req ((s.t q).ses n).came ((s.t q).ses n).out ((s.t q).ses n).ended).came = false := hc
 refine ⟨e2, ?_, h.turn hq hn hF hD (fun q' _ => setS_items _ _ _ _ _) (fun q' n' _ _ h3 => .inl (setS_kept s _ h3)) ?_ (fun q' n' h1 h2 h3 l hl m hm => ?_)⟩
 ·rcases e3 with ⟨c, _⟩ | ⟨c, i, _⟩
  ·exact .inl c
  ·exact .inr ⟨c, i⟩
 ·rw [hs, setS_begun, setS_queue]
  refine ⟨fun _ => ⟨hin.ended, hin.live, hopn, ?_, fun e he h4 h5 => ?_, fun k hk => ?_, e5⟩, fun e => absurd e hw, fun e => absurd hb e, fun e => absurd hb e, fun e => ?_, .inl hin.ended⟩
  ·rw [pend_no _ hcm2, List.append_nil]
   rcases e3 with ⟨c, g⟩ | ⟨c, _, g⟩
   ·rw [if_pos c]; exact good_snoc _ _ _ hgood g
   ·rw [if_neg (by omega), List.append_nil, g]; exact hgood
  ·rw [pend_no _ hcm2, List.append_nil] at he
   rcases List.mem_append.1 he with he | he
   ·exact hrd e he h4 h5
   ·split at he
    ·simp only [List.mem_singleton] at he
     subst he
     exact ⟨hx.facts, lc, hlc, cat, c3, c4⟩
    ·cases he
  ·rcases e4 k hk with ht | ⟨ho, rfl⟩
   ·exact hin.wrt k ht
   ·have hwr : (lkOf x).wr = true := by unfold lkOf; exact decide_eq_true ho
    have hk := hx.facts.key
    have hh : (lkOf x).hi = x.key := by unfold lkOf; simp only; rw [if_neg (by omega)]
    have hlo : (lkOf x).lo = x.key := rfl
    have hlw : lc.wr = true := by
     rcases c5 with c5 | c5
     ·exact c5
     ·rw [hwr] at c5; cases c5
    exact ⟨lc, hlc, hlw, by rw [cat]; exact hg.2.2 hwr, by omega, by omega⟩
  ·have e' : ((s.t q).ses n).came = true := e
   rw [hc] at e'; cases e'
 ·rw [hs] at hl
  rw [(setS_kept s { (s.t q).ses n with wr := W } h3).2.2] at hm
  exact h.apart q n q' n' hq hn h1 h2 h3 l hl m hm
theorem tell_poll {ps : Nat → Pd} {vals : Nat → Int} {x : Stp} {c : Int} {k : Nat} (hp : properB x = true) (hk : (sessZ' x.who).toNat = k) (h8 : x.op = 8) (h2 : c ≠ 2) (ho : (ps k).open_ = false ∨ c = 1) : tellP ps vals x ⟨c, 0, []⟩ = (true, ps, vals) := by
 rw [tell_proper hp hk, if_neg h2, if_neg (by simp), if_neg (fun h => by have := h.1; omega), if_neg (fun h => by have := h.1; omega), if_neg (fun h => by have := h.1; omega), if_neg ?_, if_neg (fun h => by have := h.1.2; omega), if_neg (fun h => by have := h.2; omega)]
 rintro ⟨_, a, b⟩
 rcases ho with h | h
 ·rw [h] at a; cases a
 ·exact b h
theorem tell_note {ps : Nat → Pd} {vals : Nat → Int} {x : Stp} {a : Ans} {k : Nat} (hp : properB x = true) (hk : (sessZ' x.who).toNat = k) (ho : x.op = 2 ∨ x.op = 3 ∨ x.op = 4 ∨ x.op = 5) (hw : a.why = 0) (hc : a.code = 0 ∨ (a.code = 4 ∧ a.items = [])) (hl : (ps k).live = true) :
  tellP ps vals x a = (true, updP ps k { ps k with done := (ps k).done ++ (if a.code = 0 then [(x, a.items)] else []) }, vals) := by
 rw [tell_proper hp hk, if_neg (by omega), if_neg (by simp [hw]), if_neg (fun h => by have := h.1; omega), if_neg (fun h => by have := h.1; omega), if_neg (fun h => by have := h.1; omega), if_neg (fun h => by have := h.1; omega), if_neg (fun h => by have := h.2; omega), if_pos (by omega)]
 unfold noteP
 rcases hc with hc | ⟨hc, hi⟩
 ·rw [if_pos hc, if_pos hc, hl]
 ·rw [if_neg (by omega), if_neg (by omega), hi, List.append_nil, updP_same]; rfl
theorem ser_act {s : PS} {ps : Nat → Pd} {vals : Nat → Int} (h : SOk s ps vals) {x : Stp} (hp : properB x = true) {q n : Nat} (hq : q < 32) (hn : n < 4) (hw : x.who = whoOf q n) (hk : (sessZ' x.who).toNat = 4 * q + n) : Told (s.actT q n x).1 ps vals x (s.actT q n x).2 := by
 have H := h.ses q n hq hn
 have hop := (proper_of hp).op
 unfold PS.actT
 by_cases he : ((s.t q).ses n).ended ≠ 0
 ·rw [if_pos he]
  dsimp only
  refine told_of (ps' := updP ps (4 * q + n) pd0) (vals' := vals) ?_ (h.untold hq hn he)
  rw [tell_proper hp hk, if_pos rfl]
  have hy := H.why
  have : (decide (((s.t q).ses n).ended = 1) || decide (((s.t q).ses n).ended = 2)) = true := by
   rw [Bool.or_eq_true, decide_eq_true_eq, decide_eq_true_eq]
   omega
  show (decide (((s.t q).ses n).ended = 1) || decide (((s.t q).ses n).ended = 2), updP ps (4 * q + n) pd0, vals) = _
  rw [this]
 rw [if_neg he]
 have he0 : ((s.t q).ses n).ended = 0 := Decidable.not_not.1 he
 by_cases h8 : x.op = 8
 ·rw [if_pos h8]
  unfold PS.pollT
  by_cases hqu : hasB (s.t q).queue n = true
  ·rw [if_pos hqu]
   dsimp only
   exact told_of (tell_poll hp hk h8 (by omega) (.inr rfl)) h
  ·rw [if_neg hqu]
   have hnq : ¬ n ∈ (s.t q).queue := fun e => hqu (hasB_iff.2 e)
   cases hcm : ((s.t q).ses n).came with
   | false =>
    rw [if_neg (by simp)]
    dsimp only
    refine told_of (tell_poll hp hk h8 (by omega) (.inl ?_)) h
    by_cases hb : n ∈ (s.t q).begun
    ·cases ho : (ps (4 * q + n)).open_ with
     | false => rfl
     | true =>
      rcases (H.beg hb).opn.1 ho with e | e
      ·exact absurd e hnq
      ·rw [hcm] at e; cases e
    ·exact (H.gone hb he0).2
   | true =>
    rw [if_pos rfl]
    have hb : n ∈ (s.t q).begun := Decidable.byContradiction fun e => by
     have := (H.bare e).2.1
     rw [hcm] at this; cases this
    have hin := H.beg hb
    obtain ⟨hy, hcd⟩ := H.out hcm
    have ho := hin.opn.2 (.inr hcm)
    dsimp only
    refine told_of (ps' := updP ps (4 * q + n) { ps (4 * q + n) with open_ := false, done := (ps (4 * q + n)).done ++ pend ((s.t q).ses n) (ps (4 * q + n)) }) (vals' := vals) ?_ ?_
    ·rw [tell_proper hp hk, if_neg (by omega), if_neg (by simp [hy]), if_neg (fun g => by have := g.1; omega), if_neg (fun g => by have := g.1; omega), if_neg (fun g => by have := g.1; omega), if_pos ⟨h8, ho, by omega⟩]
     unfold noteP pend
     rcases hcd with hc | ⟨hc, hi⟩
     ·rw [if_pos hc, if_pos ⟨hcm, hc⟩, updP_updP, updP_at]
      simp only [hin.live]
     ·rw [if_neg (by omega), if_neg (by omega), hi, List.append_nil]; rfl
    ·unfold PS.heard
     have hs := setS_ses s q n { (s.t q).ses n with out := ⟨0, 0, []⟩, came := false }
     have hpe : pend { (s.t q).ses n with out := ⟨0, 0, []⟩, came := false } { ps (4 * q + n) with open_ := false, done := (ps (4 * q + n)).done ++ pend ((s.t q).ses n) (ps (4 * q + n)) } = [] := pend_no _ rfl
     refine h.turn (s' := s.setS q n { (s.t q).ses n with out := ⟨0, 0, []⟩, came := false }) hq hn (h.fit.setS hq rfl rfl) (h.dm.setS hq rfl rfl) (fun q' _ => setS_items _ _ _ _ _) (fun q' n' _ _ h3 => .inl (setS_kept s _ h3)) ?_ (fun q' n' h1 h2 h3 l hl m hm => ?_)
     ·rw [hs, setS_begun, setS_queue]
      refine ⟨fun _ => ⟨hin.ended, hin.live, ⟨fun e => (by cases e), fun e => ?_⟩, by rw [hpe, List.append_nil]; exact hin.good, by rw [hpe, List.append_nil]; exact hin.rd, hin.wrt, hin.left⟩, fun e => absurd e hnq, fun e => absurd hb e, fun e => absurd hb e, fun e => (by cases e), .inl hin.ended⟩
      rcases e with e | e
      ·exact absurd e hnq
      ·cases e
     ·rw [hs] at hl
      rw [(setS_kept s { (s.t q).ses n with out := ⟨0, 0, []⟩, came := false } h3).2.2] at hm
      exact h.apart q n q' n' hq hn h1 h2 h3 l hl m hm
 rw [if_neg h8]
 by_cases h7 : x.op = 7
 ·rw [if_pos h7]
  unfold PS.abortT
  cases hb : hasB (s.t q).begun n with
  | false =>
   rw [if_neg (by simp)]
   dsimp only
   exact told_of (tell_quiet hp h8 (by omega) (by omega) (by omega)) h
  | true =>
   rw [if_pos rfl]
   dsimp only
   refine told_of (ps' := updP ps (4 * q + n) pd0) (vals' := vals) ?_ ?_
   ·rw [tell_proper hp hk, if_neg (by decide), if_neg (by simp), if_neg (fun g => by have := g.1; omega), if_pos ⟨h7, rfl⟩]
   ·unfold PS.finishT
    exact (h.ends hq hn).settleT
 rw [if_neg h7]
 cases hbz : (s.t q).busyB n with
 | true =>
  rw [if_pos rfl]
  dsimp only
  exact told_of (tell_quiet hp h8 (by omega) (by omega) (by omega)) h
 | false =>
 rw [if_neg (by simp)]
 have hcm : ((s.t q).ses n).came = false := by
  unfold Tr.busyB at hbz
  simp at hbz; exact hbz.1
 have hnq : ¬ n ∈ (s.t q).queue := by
  unfold Tr.busyB at hbz
  simp at hbz; exact hasB_mem hbz.2
 by_cases h1 : x.op = 1
 ·rw [if_pos h1]
  have hF := h.fit.beginT hq hn
  unfold PS.beginT at hF ⊢
  cases hb : hasB (s.t q).begun n with
  | true =>
   rw [if_pos rfl]
   dsimp only
   exact told_of (tell_quiet hp h8 (by omega) (by omega) (by omega)) h
  | false =>
   rw [hb, if_neg (by simp)] at hF
   rw [if_neg (by simp)]
   have hnb := hasB_mem hb
   by_cases hv : s.v ≤ ((s.t q).begun.length : Int)
   ·rw [if_pos hv]
    dsimp only
    exact told_of (tell_quiet hp h8 (by omega) (by omega) (by omega)) h
   ·rw [if_neg hv] at hF ⊢
    obtain ⟨b1, b2, b3⟩ := H.bare hnb
    dsimp only
    refine told_of (ps' := updP ps (4 * q + n) { pd0 with live := true }) (vals' := vals) ?_ ?_
    ·rw [tell_proper hp hk, if_neg (by decide), if_neg (by simp), if_pos ⟨h1, rfl⟩]
    ·have hs : ((s.setB q ((s.t q).begun ++ [n])).t q).ses n = (s.t q).ses n := by unfold PS.setB; rw [setT_t]
     have hqe : ((s.setB q ((s.t q).begun ++ [n])).t q).queue = (s.t q).queue := by unfold PS.setB; rw [setT_t]
     have hbe : n ∈ ((s.setB q ((s.t q).begun ++ [n])).t q).begun := by unfold PS.setB; rw [setT_t]; exact List.mem_append.2 (.inr (List.mem_singleton.2 rfl))
     have hpe : pend ((s.t q).ses n) { pd0 with live := true } = [] := pend_no _ hcm
     refine h.turn hq hn hF (h.dm.setT (fun m => h.dm q hq m)) (fun q' _ => ?_) (fun q' n' _ _ h3 => .inl ?_) ?_ (fun q' n' _ _ _ l hl => by rw [hs, b1] at hl; cases hl)
     ·unfold PS.setB
      by_cases e : q' = q
      ·subst e; rw [setT_t]
      ·rw [setT_ne _ _ e]
     ·unfold PS.setB
      by_cases e : q' = q
      ·subst e
       unfold Kept
       rw [setT_t]
       refine ⟨⟨fun g => ?_, fun g => List.mem_append.2 (.inl g)⟩, Iff.rfl, rfl⟩
       rcases List.mem_append.1 g with g | g
       ·exact g
       ·exact absurd (List.mem_singleton.1 g) (by omega)
      ·exact Kept.of_tier (setT_ne s _ e) n'
     ·rw [hs, hqe]
      refine ⟨fun _ => ⟨he0, rfl, ⟨fun e => (by cases e), fun e => ?_⟩, ?_, ?_, fun k hk => ?_, fun k v hv => ?_⟩, fun e => absurd e hnq, fun e => absurd hbe e, fun e => absurd hbe e, H.out, .inl he0⟩
      ·rcases e with e | e
       ·exact absurd e hnq
       ·rw [hcm] at e; cases e
      ·rw [hpe, b3]; exact rfl
      ·rw [hpe]; intro e he; cases he
      ·rw [b3] at hk; cases hk
      ·rw [b3] at hv; cases hv
 rw [if_neg h1]
 cases hbb : hasB (s.t q).begun n with
 | false =>
  rw [if_pos rfl]
  dsimp only
  exact told_of (tell_quiet hp h8 (by omega) (by omega) (by omega)) h
 | true =>
 rw [if_neg (by simp)]
 have hb := hasB_iff.1 hbb
 have hin := H.beg hb
 have hopf : (ps (4 * q + n)).open_ = false := by
  cases ho : (ps (4 * q + n)).open_ with
  | false => rfl
  | true =>
   rcases hin.opn.1 ho with e | e
   ·exact absurd e hnq
   ·rw [hcm] at e; cases e
 by_cases h6 : x.op = 6
 ·rw [if_pos h6]
  unfold PS.commitT
  have hgood := hin.good
  rw [pend_no _ hcm, List.append_nil] at hgood
  have hrp := good_replay _ _ _ hgood
  rw [ovl_zero] at hrp
  dsimp only
  refine told_of (ps' := updP ps (4 * q + n) pd0) (vals' := ovl vals q ((s.t q).ses n).wr) ?_ ?_
  ·rw [tell_proper hp hk, if_neg (by decide), if_neg (by simp), if_neg (fun g => h1 g.1), if_neg (fun g => h7 g.1), if_pos ⟨h6, rfl⟩, hrp]
  ·unfold PS.finishT
   exact (h.commits hq hn hb).settleT
 rw [if_neg h6]
 have hasks : x.op = 2 ∨ x.op = 3 ∨ x.op = 4 ∨ x.op = 5 := by omega
 have hx : Asked x := ⟨hp, hasks⟩
 unfold PS.askT
 cases hm : x.may with
 | false =>
  rw [if_pos rfl]
  dsimp only
  exact told_of (tell_quiet hp h8 (by omega) (by omega) (by omega)) h
 | true =>
 rw [if_neg (by simp)]
 have hg := good_of hp hw h8 h7 h1 h6 hm
 cases hcov : ((s.t q).ses n).covB (lkOf x) with
 | true =>
  rw [if_pos rfl]
  obtain ⟨g1, g2, g3⟩ := h.grantD hq hn hx hg hb hnq hcm hcov
  exact told_of (tell_note hp hk hasks g1 g2 hin.live) g3
 | false =>
 rw [if_neg (by simp)]
 by_cases hlk : s.c ≤ ((s.t q).lockTo 4 : Int)
 ·rw [if_pos hlk]
  dsimp only
  exact told_of (tell_quiet hp h8 (by omega) (by omega) (by omega)) h
 rw [if_neg hlk]
 have hJ := h.joins hq hn hx (req_of hp hw hasks) hg hb hnq hcm (by have := h.fit.c; omega)
 have hjq : n ∈ ((s.setT q ((s.t q).joinT n x)).t q).queue := by rw [setT_t]; exact List.mem_append.2 (.inr (List.mem_singleton.2 rfl))
 have hjs := join_ses s q n x
 generalize s.setT q ((s.t q).joinT n x) = s1 at *
 cases hh : s1.hindB q n with
 | true =>
  rw [if_pos rfl]
  unfold PS.ringsT
  have hR := SOk.ringsN (n := n) hq 4 s1 hJ
  generalize PS.ringsN q n 4 s1 = s3 at *
  by_cases hz : ((s3.t q).ses n).ended = 0
  ·rw [if_pos hz]
   dsimp only
   refine told_of ?_ hR
   rw [tell_proper hp hk, if_neg (by decide), if_neg (by simp), if_neg (fun g => h1 g.1), if_neg (fun g => h7 g.1), if_neg (fun g => h6 g.1), if_neg (fun g => h8 g.1), if_pos ⟨by omega, rfl⟩]
  ·rw [if_neg hz]
   dsimp only
   refine told_of (ps' := updP ps (4 * q + n) pd0) (vals' := vals) ?_ ?_
   ·rw [tell_proper hp hk, if_pos rfl]
    have hy := (hR.ses q n hq hn).why
    have : (decide (((s3.t q).ses n).ended = 1) || decide (((s3.t q).ses n).ended = 2)) = true := by
     rw [Bool.or_eq_true, decide_eq_true_eq, decide_eq_true_eq]
     omega
    show (decide (((s3.t q).ses n).ended = 1) || decide (((s3.t q).ses n).ended = 2), updP ps (4 * q + n) pd0, vals) = _
    rw [this]
   ·have := hR.untold hq hn hz
    rw [updP_updP] at this
    exact this
 | false =>
  rw [if_neg (by simp)]
  have A := admit_core hJ hq hn hjq hh
  have hreq : ((s1.t q).ses n).req = x := by rw [hjs]
  have hcd : (s1.admitT q n).2.code = 0 ∨ ((s1.admitT q n).2.code = 4 ∧ (s1.admitT q n).2.items = []) := by
   rcases A.res with ⟨c, _⟩ | ⟨c, i, _⟩
   ·exact .inl c
   ·exact .inr ⟨c, i⟩
  dsimp only
  refine told_of (tell_note hp hk hasks A.why hcd hin.live) ?_
  have := hJ.admitD hq hn hjq hh (P := { ps (4 * q + n) with done := (ps (4 * q + n)).done ++ (if (s1.admitT q n).2.code = 0 then [(x, (s1.admitT q n).2.items)] else []) }) hin.live hopf (by rw [hreq, updP_at])
  rw [updP_updP] at this
  exact this.settleT
theorem ser_do {s : PS} {ps : Nat → Pd} {vals : Nat → Int} (h : SOk s ps vals) (x : Stp) : Told (s.doT x).1 ps vals x (s.doT x).2 := by
 unfold PS.doT
 cases hp : properB x with
 | false =>
  rw [if_pos rfl]
  dsimp only
  refine told_of ?_ h
  unfold tellP
  rw [if_pos hp]; rfl
 | true =>
  rw [if_neg (by simp)]
  obtain ⟨h1, h2, h3⟩ := proper_q hp
  exact ser_act h hp h1 h2 h3 (sess_idx hp)
theorem codes_do {s : PS} {ps : Nat → Pd} {vals : Nat → Int} (h : SOk s ps vals) (x : Stp) : ((s.doT x).2.code = 9 ↔ properB x = false) ∧ ((s.doT x).2.code = 3 → (x.op = 2 ∨ x.op = 3 ∨ x.op = 4 ∨ x.op = 5) ∧ x.may = false) ∧
  (properB x = true → (x.op = 2 ∨ x.op = 3 ∨ x.op = 4 ∨ x.op = 5) → x.may = false → (ps (sessZ' x.who).toNat).live = true → (ps (sessZ' x.who).toNat).open_ = false → (s.doT x).2.code = 3 ∨ (s.doT x).2.code = 2) := by
 unfold PS.doT
 cases hp : properB x with
 | false =>
  rw [if_pos rfl]
  dsimp only
  exact ⟨⟨fun _ => rfl, fun _ => rfl⟩, fun e => absurd e (by decide), fun e => by cases e⟩
 | true =>
  rw [if_neg (by simp)]
  obtain ⟨hq, hn, hw⟩ := proper_q hp
  have hk := sess_idx hp
  rw [hk]
  generalize plOf x.who.lab = q at *
  generalize numOf x.who = n at *
  have H := h.ses q n hq hn
  have hop := (proper_of hp).op
  have nine : ∀ {c : Int}, c ≠ 9 → (c = 9 ↔ true = false) := fun h => ⟨fun e => absurd e h, fun e => by cases e⟩
  unfold PS.actT
  by_cases he : ((s.t q).ses n).ended ≠ 0
  ·rw [if_pos he]
   dsimp only
   exact ⟨nine (by decide), fun e => absurd e (by decide), fun _ _ _ _ _ => .inr rfl⟩
  rw [if_neg he]
  have he0 : ((s.t q).ses n).ended = 0 := Decidable.not_not.1 he
  by_cases h8 : x.op = 8
  ·rw [if_pos h8]
   unfold PS.pollT
   by_cases hqu : hasB (s.t q).queue n = true
   ·rw [if_pos hqu]; dsimp only; exact ⟨nine (by decide), fun e => absurd e (by decide), fun _ g => by omega⟩
   ·rw [if_neg hqu]
    cases hcm : ((s.t q).ses n).came with
    | false => rw [if_neg (by simp)]; dsimp only; exact ⟨nine (by decide), fun e => absurd e (by decide), fun _ g => by omega⟩
    | true =>
     rw [if_pos rfl]
     obtain ⟨_, hcd⟩ := H.out hcm
     dsimp only
     exact ⟨nine (by omega), fun e => by omega, fun _ g => by omega⟩
  rw [if_neg h8]
  by_cases h7 : x.op = 7
  ·rw [if_pos h7]
   unfold PS.abortT
   split
   ·dsimp only
    exact ⟨nine (by decide), fun e => absurd e (by decide), fun _ g => by omega⟩
   ·dsimp only
    exact ⟨nine (by decide), fun e => absurd e (by decide), fun _ g => by omega⟩
  rw [if_neg h7]
  cases hbz : (s.t q).busyB n with
  | true =>
   rw [if_pos rfl]
   dsimp only
   refine ⟨nine (by decide), fun e => absurd e (by decide), fun _ _ _ hl ho => ?_⟩
   exfalso
   by_cases hb : n ∈ (s.t q).begun
   ·have : (ps (4 * q + n)).open_ = true := (H.beg hb).opn.2 (by
     unfold Tr.busyB at hbz
     rcases Bool.or_eq_true _ _ ▸ hbz with e | e
     ·exact .inr e
     ·exact .inl (hasB_iff.1 e))
    rw [this] at ho; cases ho
   ·have := (H.gone hb he0).1
    rw [this] at hl; cases hl
  | false =>
  rw [if_neg (by simp)]
  by_cases h1 : x.op = 1
  ·rw [if_pos h1]
   unfold PS.beginT
   split
   ·dsimp only
    exact ⟨nine (by decide), fun e => absurd e (by decide), fun _ g => by omega⟩
   ·split
    ·dsimp only
     exact ⟨nine (by decide), fun e => absurd e (by decide), fun _ g => by omega⟩
    ·dsimp only
     exact ⟨nine (by decide), fun e => absurd e (by decide), fun _ g => by omega⟩
  rw [if_neg h1]
  cases hbb : hasB (s.t q).begun n with
  | false =>
   rw [if_pos rfl]
   dsimp only
   refine ⟨nine (by decide), fun e => absurd e (by decide), fun _ _ _ hl _ => ?_⟩
   have := (H.gone (hasB_mem hbb) he0).1
   rw [this] at hl; cases hl
  | true =>
  rw [if_neg (by simp)]
  by_cases h6 : x.op = 6
  ·rw [if_pos h6]
   unfold PS.commitT
   dsimp only
   exact ⟨nine (by decide), fun e => absurd e (by decide), fun _ g => by omega⟩
  rw [if_neg h6]
  have hasks : x.op = 2 ∨ x.op = 3 ∨ x.op = 4 ∨ x.op = 5 := by omega
  unfold PS.askT
  cases hm : x.may with
  | false =>
   rw [if_pos rfl]
   dsimp only
   exact ⟨nine (by decide), fun _ => ⟨hasks, rfl⟩, fun _ _ _ _ _ => .inl rfl⟩
  | true =>
  rw [if_neg (by simp)]
  have no3 : ∀ {c : Int}, c ≠ 3 → (c = 3 → (x.op = 2 ∨ x.op = 3 ∨ x.op = 4 ∨ x.op = 5) ∧ true = false) := fun h e => absurd e h
  have gr : ∀ (s : PS), (s.grantT q n x).2.code = 0 ∨ (s.grantT q n x).2.code = 4 := fun s => by
   unfold PS.grantT PS.putT
   split
   ·split
    ·exact .inr rfl
    ·exact .inl rfl
   ·split
    ·exact .inl rfl
    ·exact .inl rfl
  split
  ·have := gr s
   exact ⟨nine (by omega), no3 (by omega), fun _ _ e => by cases e⟩
  ·split
   ·dsimp only
    exact ⟨nine (by decide), no3 (by decide), fun _ _ e => by cases e⟩
   ·split
    ·unfold PS.ringsT
     split
     ·dsimp only
      exact ⟨nine (by decide), no3 (by decide), fun _ _ e => by cases e⟩
     ·dsimp only
      exact ⟨nine (by decide), no3 (by decide), fun _ _ e => by cases e⟩
    ·have hreq : (((s.setT q ((s.t q).joinT n x)).t q).ses n).req = x := by rw [join_ses]
     have e : ((s.setT q ((s.t q).joinT n x)).admitT q n).2 = (((s.setT q ((s.t q).joinT n x)).lockT q n x).grantT q n x).2 := by unfold PS.admitT; rw [hreq]
     have := gr ((s.setT q ((s.t q).joinT n x)).lockT q n x)
     dsimp only
     rw [e]
     exact ⟨nine (by omega), no3 (by omega), fun _ _ e => by cases e⟩
theorem sok0 {k v c : Int} (h : mayB k v c = true) : SOk (ps0 k v c) (fun _ => pd0) (fun _ => -1) where
 fit := fit0 (mayB_t h).2.2.2.2.2
 dm := dm0 k v c
 val := fun _ _ _ _ => rfl
 nn := fun _ _ _ _ _ e => by cases e
 ses := fun _ _ _ _ => none_ok (fun e => by cases e) (fun e => by cases e) rfl rfl rfl rfl ⟨rfl, rfl⟩
 apart := fun _ _ _ _ _ _ _ _ _ l hl => by cases hl
theorem first_ok : Wh.ok (0, 0, 0) := by unfold Wh.ok Lab.ok Wh.lab; decide
theorem tell_1 : tellP (fun _ => pd0) (fun _ => -1) (op1 (0, 0, 0)) ⟨0, 0, []⟩ = (true, updP (fun _ => pd0) 0 { pd0 with live := true }, fun _ => -1) := by
 rw [tell_proper (k := 0) (by decide) (by decide), if_neg (by decide), if_neg (by decide), if_pos (by decide)]
theorem tell_2 : tellP (updP (fun _ => pd0) 0 { pd0 with live := true }) (fun _ => -1) (op2 (0, 0, 0)) ⟨0, 0, []⟩ = (true, updP (fun _ => pd0) 0 { pd0 with live := true, done := [(op2 (0, 0, 0), [])] }, fun _ => -1) := by
 rw [tell_note (k := 0) (by decide) (by decide) (by decide) rfl (.inl rfl) (by rw [updP_at]), updP_at, updP_updP]
 rfl
theorem tell_3 : tellP (updP (fun _ => pd0) 0 { pd0 with live := true, done := [(op2 (0, 0, 0), [])] }) (fun _ => -1) (op3 (0, 0, 0)) ⟨0, 0, []⟩ = (true, fun _ => pd0, updV (fun _ => -1) 7 77) := by
 rw [tell_proper (k := 0) (by decide) (by decide), if_neg (by decide), if_neg (by decide), if_neg (by decide), if_neg (by decide), if_pos (by decide), updP_at, updP_updP, updP_same (fun _ => pd0) 0]
 rfl
theorem sok_open {k v c : Int} (hm : mayB k v c = true) : SOk ((thePgm.pair theDoc).open3 ((thePgm.pair theDoc).start k v c) (0, 0, 0)).1 (fun _ => pd0) (updV (fun _ => -1) 7 77) := by
 have ok0 := (thePgm.pair theDoc).okStart hm
 have ok1 := (thePgm.pair theDoc).okAct (op1 (0, 0, 0)) ok0
 have ok2 := (thePgm.pair theDoc).okAct (op2 (0, 0, 0)) ok1
 have ha := open_a hm first_ok
 have hb := open_b hm first_ok
 have hc := open_c (k := k) (v := v) (c := c) first_ok
 have a0 := pair_ans ok0 (op1 (0, 0, 0))
 have a1 := pair_ans ok1 (op2 (0, 0, 0))
 have a2 := pair_ans ok2 (op3 (0, 0, 0))
 have b0 : ((thePgm.pair theDoc).act ((thePgm.pair theDoc).start k v c) (op1 (0, 0, 0))).2 = ⟨0, 0, []⟩ := by
  show ((st0 k v c).doT (op1 (0, 0, 0))).2 = _
  rw [ha]
 have e1 : ((st0 k v c).doT (op1 (0, 0, 0))).1 = stA k v c (0, 0, 0) := by rw [ha]
 have e2 : ((stA k v c (0, 0, 0)).doT (op2 (0, 0, 0))).1 = stB k v c (0, 0, 0) := by rw [hb]
 have b1 : ((thePgm.pair theDoc).act ((thePgm.pair theDoc).act ((thePgm.pair theDoc).start k v c) (op1 (0, 0, 0))).1 (op2 (0, 0, 0))).2 = ⟨0, 0, []⟩ := by
  show (((st0 k v c).doT (op1 (0, 0, 0))).1.doT (op2 (0, 0, 0))).2 = _
  rw [e1, hb]
 have b2 : ((thePgm.pair theDoc).act ((thePgm.pair theDoc).act ((thePgm.pair theDoc).act ((thePgm.pair theDoc).start k v c) (op1 (0, 0, 0))).1 (op2 (0, 0, 0))).1 (op3 (0, 0, 0))).2 = ⟨0, 0, []⟩ := by
  show ((((st0 k v c).doT (op1 (0, 0, 0))).1.doT (op2 (0, 0, 0))).1.doT (op3 (0, 0, 0))).2 = _
  rw [e1, e2, hc]
 have t1 := (ser_do (sok0 hm) (op1 (0, 0, 0))).2
 rw [show ((ps0 k v c).doT (op1 (0, 0, 0))).2 = ⟨0, 0, []⟩ from a0.symm.trans b0, tell_1] at t1
 have t2 := (ser_do t1 (op2 (0, 0, 0))).2
 rw [show (((ps0 k v c).doT (op1 (0, 0, 0))).1.doT (op2 (0, 0, 0))).2 = ⟨0, 0, []⟩ from a1.symm.trans b1, tell_2] at t2
 have t3 := (ser_do t2 (op3 (0, 0, 0))).2
 rw [show ((((ps0 k v c).doT (op1 (0, 0, 0))).1.doT (op2 (0, 0, 0))).1.doT (op3 (0, 0, 0))).2 = ⟨0, 0, []⟩ from a2.symm.trans b2, tell_3] at t3
 exact t3
theorem tellP_ps (ps : Nat → Pd) (vals vals' : Nat → Int) (x : Stp) (a : Ans) : (tellP ps vals x a).2.1 = (tellP ps vals' x a).2.1 := by
 unfold tellP
 split
 ·rfl
 ·dsimp only
  split
  ·rfl
  ·split
   ·rfl
   ·split
    ·rfl
    ·split
     ·rfl
     ·split
      ·rfl
      ·split
       ·rfl
       ·split
        ·rfl
        ·split
         ·rfl
         ·rfl
end Go.Proofs.Ytpbcplfpjcacfaa
namespace Go.Proofs.Ytpbcplfpjcacfaa
open Go.RowKit
attribute [local go_sem ↓] Go.wp_at_zero Go.wp_at_succ
set_option maxRecDepth 100000
set_option maxHeartbeats 8000000
theorem sizeHand : (Try.prog.info? 80).map (·.size) = some 12 := by kernel_rfl
theorem properB_sess {x : Stp} (h : properB x = true) : ∃ k : Nat, k < 128 ∧ sessZ' x.who = (k : Int) := by
 have hp := proper_of h
 have h1 : labB x.who.1 x.who.2.1 = true ∧ 0 ≤ x.who.2.2 ∧ x.who.2.2 < 4 := ⟨labB_mk hp.who.1, hp.who.2.1, by have := hp.who.2.2; omega⟩
 obtain ⟨a, b⟩ := sessZ_pos h1
 exact ⟨(sessZ' x.who).toNat, by omega, by omega⟩
structure TellIn (w : World) (b : Nat) (ps : Nat → Pd) (vals : Nat → Int) (own : Own) (a : Ans) (aq : Option Addr) (cq : Nat) : Prop where
 at_ : BkAt w b ps vals own
 row : w.ownsRow 0 94 2 (.slice aq a.items.length cq) a.items.length (itemsV a.items)
 tag : ∀ q, (Value.slice aq a.items.length cq).ownBlock = some q → own q = some (9, 0, 0, 0)
 len : ∀ k, k < 128 → (ps k).done.length < 1000000000000
 good : ∀ k, k < 128 → ∀ e ∈ (ps k).done, ∃ p kn hn, Good0 e.1 p kn hn
def ToldPost (own : Own) (w : World) (b : Nat) (ps : Nat → Pd) (vals : Nat → Int) (x : Stp) (a : Ans) (e : Ending) (w' : World) : Prop := e = .returned (.bool (tellP ps vals x a).1) ∧ BkOut own w b (tellP ps vals x a).2.1 (tellP ps vals x a).2.2 w'
theorem told_bad (b : Nat) (ps : Nat → Pd) (vals : Nat → Int) (own : Own) (x : Stp) (a : Ans) (aq : Option Addr) (cq : Nat) (w : World) (TI : TellIn w b ps vals own a aq cq) (hp : properB x = false) :
  Calls Try.prog 34 #[.pointer (some ⟨b, 0, none⟩), .agg #[.int .i64 x.who.1, .int .i64 x.who.2.1, .int .i64 x.who.2.2, .int .i64 x.op, .int .i64 x.at_.1, .int .i64 x.at_.2, .int .i64 x.key, .int .i64 x.to_, .int .i64 x.value], .agg #[.int .i64 a.code, .int .i64 a.why, .slice aq a.items.length cq]] w (ToldPost own w b ps vals x a) := by
 obtain ⟨⟨hs, m, hpl⟩, hrowa, hva, hlen, hgood⟩ := TI
 have HM : Hid (BkMem w b hs vals own) := m
 have HPL : Hid (∀ k, k < 128 → (hs k).pl = ps k) := hpl
 have HRA : Hid (type_of% hrowa) := hrowa
 have HVA : Hid (type_of% hva) := hva
 have HLN : Hid (type_of% hlen) := hlen
 have HGD : Hid (type_of% hgood) := hgood
 have hbl := m.old b (by rw [m.tag]; simp)
 have hA : Below w.heap.size w ((w.alloc (.cells #[.int .i64 x.who.1, .int .i64 x.who.2.1, .int .i64 x.who.2.2, .int .i64 x.op, .int .i64 x.at_.1, .int .i64 x.at_.2, .int .i64 x.key, .int .i64 x.to_, .int .i64 x.value] 30)).alloc (.cells #[.int .i64 a.code, .int .i64 a.why, .slice aq a.items.length cq] 66)) := below2r
 have hX : ((w.alloc (.cells #[.int .i64 x.who.1, .int .i64 x.who.2.1, .int .i64 x.who.2.2, .int .i64 x.op, .int .i64 x.at_.1, .int .i64 x.at_.2, .int .i64 x.key, .int .i64 x.to_, .int .i64 x.value] 30)).alloc (.cells #[.int .i64 a.code, .int .i64 a.why, .slice aq a.items.length cq] 66)).heap[w.heap.size]? = some (.cells (stepC x).toArray 30 (0, 0)) := by
  rw [Below.heap_alloc _ _ _ (by simp)]; exact heap_alloc_new w _
 have hY : ((w.alloc (.cells #[.int .i64 x.who.1, .int .i64 x.who.2.1, .int .i64 x.who.2.2, .int .i64 x.op, .int .i64 x.at_.1, .int .i64 x.at_.2, .int .i64 x.key, .int .i64 x.to_, .int .i64 x.value] 30)).alloc (.cells #[.int .i64 a.code, .int .i64 a.why, .slice aq a.items.length cq] 66)).heap[w.heap.size + 1]? = some (.cells #[.int .i64 a.code, .int .i64 a.why, .slice aq a.items.length cq] 66 (0, 0)) := by
  have := heap_alloc_new (w.alloc (.cells #[.int .i64 x.who.1, .int .i64 x.who.2.1, .int .i64 x.who.2.2, .int .i64 x.op, .int .i64 x.at_.1, .int .i64 x.at_.2, .int .i64 x.key, .int .i64 x.to_, .int .i64 x.value] 30)) (.cells #[.int .i64 a.code, .int .i64 a.why, .slice aq a.items.length cq] 66 (0, 0))
  simpa using this
 have hpr := properK_any x
 rw [hp] at hpr
 unfold stepV at hpr
 clear m hpl hrowa hva hlen hgood
 go_enter Try.func34, Try.ntmps34
 go_wp2_with fail
 refine (hpr _).mono ?_
 rintro e w1 ⟨rfl, hb1⟩
 have hB1 : Below w.heap.size w w1 := hA.trans (hb1.mono hA.size)
 have hX1 : w1.heap[w.heap.size]? = _ := (hb1.block w.heap.size (by simp; omega)).trans hX
 have hY1 : w1.heap[w.heap.size + 1]? = _ := (hb1.block (w.heap.size + 1) (by simp)).trans hY
 have HX1 : Hid (type_of% hX1) := hX1
 have HY1 : Hid (type_of% hY1) := hY1
 have HB1 : Hid (Below w.heap.size w w1) := hB1
 have M1 : Hid (BkMem w1 b hs vals own) := HM.out.below hB1
 obtain ⟨d0, d1, d2, _, _, _⟩ := ans_cells hY1
 obtain ⟨c0, c1, c2, c3, c4, c5, c6, c7, c8, _⟩ := step9_cells hX1
 have zx : w.heap.size < w1.heap.size := (Array.getElem?_eq_some_iff.1 hX1).1
 have zy : w.heap.size + 1 < w1.heap.size := (Array.getElem?_eq_some_iff.1 hY1).1
 have zb : b < w1.heap.size := by omega
 clear hA hX hY hb1 hB1 hX1 hY1 hpr
 have HT : Hid (tellP ps vals x a = (((a.code == 9) && ((a.items.length : Int) == 0)), ps, vals)) := by unfold Hid tellP; rw [if_pos hp]; rfl
 have HF : Hid (BkOut own w b ps vals w1) := ⟨own, ⟨hs, M1.out, HPL.out⟩, ChgD.of_below HB1.out, fun _ _ h => h⟩
 cases h9 : (a.code == 9) with
 | false =>
  rw [h9] at HT
  go_wp2
  go_ret
  unfold ToldPost
  rw [HT.out]
  exact ⟨rfl, HF.out⟩
 | true =>
  rw [h9] at HT
  cases h0 : ((a.items.length : Int) == 0) with
  | false =>
   rw [h0] at HT
   go_wp2
   go_ret
   unfold ToldPost
   rw [HT.out]
   exact ⟨rfl, HF.out⟩
  | true =>
   rw [h0] at HT
   go_wp2
   go_ret
   unfold ToldPost
   rw [HT.out]
   exact ⟨rfl, HF.out⟩
theorem told_aborted (b : Nat) (ps : Nat → Pd) (vals : Nat → Int) (own : Own) (x : Stp) (a : Ans) (aq : Option Addr) (cq : Nat) (w : World) (TI : TellIn w b ps vals own a aq cq) (hp : properB x = true) (hc2 : a.code = 2) :
  Calls Try.prog 34 #[.pointer (some ⟨b, 0, none⟩), .agg #[.int .i64 x.who.1, .int .i64 x.who.2.1, .int .i64 x.who.2.2, .int .i64 x.op, .int .i64 x.at_.1, .int .i64 x.at_.2, .int .i64 x.key, .int .i64 x.to_, .int .i64 x.value], .agg #[.int .i64 a.code, .int .i64 a.why, .slice aq a.items.length cq]] w (ToldPost own w b ps vals x a) := by
 have Khc2 : Hid (a.code = 2) := hc2
 clear hc2
 obtain ⟨⟨hs, m, hpl⟩, hrowa, hva, hlen, hgood⟩ := TI
 have HM : Hid (BkMem w b hs vals own) := m
 have HPL : Hid (∀ k, k < 128 → (hs k).pl = ps k) := hpl
 have HRA : Hid (type_of% hrowa) := hrowa
 have HVA : Hid (type_of% hva) := hva
 have HLN : Hid (type_of% hlen) := hlen
 have HGD : Hid (type_of% hgood) := hgood
 have hbl := m.old b (by rw [m.tag]; simp)
 have hA : Below w.heap.size w ((w.alloc (.cells #[.int .i64 x.who.1, .int .i64 x.who.2.1, .int .i64 x.who.2.2, .int .i64 x.op, .int .i64 x.at_.1, .int .i64 x.at_.2, .int .i64 x.key, .int .i64 x.to_, .int .i64 x.value] 30)).alloc (.cells #[.int .i64 a.code, .int .i64 a.why, .slice aq a.items.length cq] 66)) := below2r
 have hX : ((w.alloc (.cells #[.int .i64 x.who.1, .int .i64 x.who.2.1, .int .i64 x.who.2.2, .int .i64 x.op, .int .i64 x.at_.1, .int .i64 x.at_.2, .int .i64 x.key, .int .i64 x.to_, .int .i64 x.value] 30)).alloc (.cells #[.int .i64 a.code, .int .i64 a.why, .slice aq a.items.length cq] 66)).heap[w.heap.size]? = some (.cells (stepC x).toArray 30 (0, 0)) := by
  rw [Below.heap_alloc _ _ _ (by simp)]; exact heap_alloc_new w _
 have hY : ((w.alloc (.cells #[.int .i64 x.who.1, .int .i64 x.who.2.1, .int .i64 x.who.2.2, .int .i64 x.op, .int .i64 x.at_.1, .int .i64 x.at_.2, .int .i64 x.key, .int .i64 x.to_, .int .i64 x.value] 30)).alloc (.cells #[.int .i64 a.code, .int .i64 a.why, .slice aq a.items.length cq] 66)).heap[w.heap.size + 1]? = some (.cells #[.int .i64 a.code, .int .i64 a.why, .slice aq a.items.length cq] 66 (0, 0)) := by
  have := heap_alloc_new (w.alloc (.cells #[.int .i64 x.who.1, .int .i64 x.who.2.1, .int .i64 x.who.2.2, .int .i64 x.op, .int .i64 x.at_.1, .int .i64 x.at_.2, .int .i64 x.key, .int .i64 x.to_, .int .i64 x.value] 30)) (.cells #[.int .i64 a.code, .int .i64 a.why, .slice aq a.items.length cq] 66 (0, 0))
  simpa using this
 have hpr := properK_any x
 rw [hp] at hpr
 unfold stepV at hpr
 clear m hpl hrowa hva hlen hgood
 go_enter Try.func34, Try.ntmps34
 go_wp2_with fail
 refine (hpr _).mono ?_
 rintro e w1 ⟨rfl, hb1⟩
 have hB1 : Below w.heap.size w w1 := hA.trans (hb1.mono hA.size)
 have hX1 : w1.heap[w.heap.size]? = _ := (hb1.block w.heap.size (by simp; omega)).trans hX
 have hY1 : w1.heap[w.heap.size + 1]? = _ := (hb1.block (w.heap.size + 1) (by simp)).trans hY
 have HX1 : Hid (type_of% hX1) := hX1
 have HY1 : Hid (type_of% hY1) := hY1
 have HB1 : Hid (Below w.heap.size w w1) := hB1
 have M1 : Hid (BkMem w1 b hs vals own) := HM.out.below hB1
 obtain ⟨d0, d1, d2, _, _, _⟩ := ans_cells hY1
 obtain ⟨c0, c1, c2, c3, c4, c5, c6, c7, c8, _⟩ := step9_cells hX1
 have zx : w.heap.size < w1.heap.size := (Array.getElem?_eq_some_iff.1 hX1).1
 have zy : w.heap.size + 1 < w1.heap.size := (Array.getElem?_eq_some_iff.1 hY1).1
 have zb : b < w1.heap.size := by omega
 clear hA hX hY hb1 hB1 hX1 hY1 hpr
 obtain ⟨k, hk, hsz⟩ := properB_sess hp
 have hses := session_any x.who
 rw [hsz] at hses
 have hkt : (sessZ' x.who).toNat = k := by rw [hsz]; simp
 have zk : (k : Int) < 128 := by omega
 go_upto_region 4 with fail
 have kc0 := kin_cell c0
 have kc1 := kin_cell c1
 have kc2 := kin_cell c2
 have hki := kin_some w1
 refine wp_region_kin (by kernel_rfl) (by kernel_rfl) ?_
 repeat (first | go_big_quiet_step ((go_at_call 37; exact Calls.kin (hses _))) | quiet_step ((go_at_call 37; exact Calls.kin (hses _))))
 refine wpQuiet_nil ?_
 intro _ hw'
 obtain ⟨xq, hw''⟩ := hw'
 subst hw''
 have HBq : Hid (Below w1.heap.size w1 xq.w) := xq.h
 generalize xq.w = wq at *
 have hC0 : ChgD own w wq own := ChgD.of_below (HB1.out.trans (HBq.out.mono HB1.out.size))
 have HC0 : Hid (ChgD own w wq own) := hC0
 have Mq : Hid (BkMem wq b hs vals own) := M1.out.below HBq.out
 have e0 := cell_later HBq.out d0
 have e1 := cell_later HBq.out d1
 have e2 := cell_later HBq.out d2
 have f3 := cell_later HBq.out c3
 have HXq : Hid (wq.heap[w.heap.size]? = _) := (HBq.out.block w.heap.size zx).trans HX1.out
 have HYq : Hid (wq.heap[w.heap.size + 1]? = _) := (HBq.out.block (w.heap.size + 1) zy).trans HY1.out
 have zxq : w.heap.size < wq.heap.size := by have := HBq.out.size; omega
 have zyq : w.heap.size + 1 < wq.heap.size := by have := HBq.out.size; omega
 have zbq : b < wq.heap.size := by have := HBq.out.size; omega
 have HPS : Hid ((hs k).pl = ps k) := HPL.out k hk
 have hth := Mq.out.there (o := k * 12) (n := 12) (by omega)
 have HTH : Hid (type_of% hth) := hth
 have hbx : b ≠ w.heap.size := by omega
 have hby : b ≠ w.heap.size + 1 := by omega
 have HTP : Hid (tellP ps vals x a = (
  if a.code = 2 then (decide (a.why = 1) || decide (a.why = 2), updP ps k pd0, vals)
  else if a.why ≠ 0 then (false, ps, vals)
  else if x.op = 1 ∧ a.code = 0 then (true, updP ps k { pd0 with live := true }, vals)
  else if x.op = 7 ∧ a.code = 0 then (true, updP ps k pd0, vals)
  else if x.op = 6 ∧ a.code = 0 then ((replayP vals (ps k).done).1, updP ps k pd0, (replayP vals (ps k).done).2)
  else if x.op = 8 ∧ (ps k).open_ = true ∧ a.code ≠ 1 then ((noteP (updP ps k { ps k with open_ := false }) k (ps k).x a).1, (noteP (updP ps k { ps k with open_ := false }) k (ps k).x a).2, vals)
  else if (2 ≤ x.op ∧ x.op ≤ 5) ∧ a.code = 1 then (true, updP ps k { ps k with open_ := true, x := x }, vals)
  else if 2 ≤ x.op ∧ x.op ≤ 5 then ((noteP ps k x a).1, (noteP ps k x a).2, vals)
  else (true, ps, vals))) := by
  unfold Hid tellP
  rw [if_neg (by rw [hp]; simp)]
  simp only [hkt]
 have hpo := (proper_of hp).op
 clear hth kc0 kc1 kc2 hki c0 c1 c2 c3 c4 c5 c6 c7 c8 d0 d1 d2 hses hC0 xq
 have hc2 := Khc2.out
 have HS0 : Hid (∀ h' : Hd, h'.dv = .slice none 0 0 → h'.done = [] → BkOut own w b (updP ps k h'.pl) vals (wq.setCells b (k * 12) (handC h'))) := fun h' g1 g2 => by
  obtain ⟨m1, m2⟩ := Mq.out.setBare hk h' g1 g2
  exact ⟨own, ⟨_, m1, upd_pl HPL.out⟩, HC0.out.trans m2, fun _ _ h => h⟩
 have H0 : Hid ((#[.bool false, .slice none 0 0, .bool false, .int .i64 0, .int .i64 0, .int .i64 0, .int .i64 0, .int .i64 0, .int .i64 0, .int .i64 0, .int .i64 0, .int .i64 0] : Array Value).all (·.oneCell') = true) := all_oneCell_toArray (cs := [.bool false, .slice none 0 0, .bool false, .int .i64 0, .int .i64 0, .int .i64 0, .int .i64 0, .int .i64 0, .int .i64 0, .int .i64 0, .int .i64 0, .int .i64 0]) (by simp [Value.oneCell'])
 have HZ0 : Hid (([.bool false, .slice none 0 0, .bool false, .int .i64 0, .int .i64 0, .int .i64 0, .int .i64 0, .int .i64 0, .int .i64 0, .int .i64 0, .int .i64 0, .int .i64 0] : List Value) = handC hd0) := rfl
 rw [hc2] at e0
 have HF : Hid (BkOut own w b (updP ps k pd0) vals (wq.setCells b (k * 12) (handC hd0))) := HS0.out hd0 rfl rfl
 have e1' : (wq.setCells b (k * 12) (handC hd0)).cell? ⟨w.heap.size + 1, 1, none⟩ = some (.int .i64 a.why) := (World.cell?_setCells_out b (handC hd0) (k * 12) wq ⟨w.heap.size + 1, 1, none⟩ (fun e _ => absurd e.symm hby)).trans e1
 have HT : Hid (tellP ps vals x a = (((a.why == 1) || (a.why == 2)), updP ps k pd0, vals)) := by unfold Hid; rw [HTP.out, if_pos hc2]; rfl
 clear hc2
 cases hw1 : (a.why == 1) with
 | true =>
  rw [hw1] at HT
  go_upto_region 7 with (refine wpList_store_mid rfl 80 _ _ rfl b (k * 12) #[.bool false, .slice none 0 0, .bool false, .int .i64 0, .int .i64 0, .int .i64 0, .int .i64 0, .int .i64 0, .int .i64 0, .int .i64 0, .int .i64 0, .int .i64 0] rfl rfl HTH.out sizeHand H0.out ?_)
  rw [HZ0.out]
  go_wp2
  go_ret
  unfold ToldPost
  rw [HT.out]
  exact ⟨rfl, HF.out⟩
 | false =>
  rw [hw1] at HT
  cases hw2 : (a.why == 2) with
  | true =>
   rw [hw2] at HT
   go_upto_region 7 with (refine wpList_store_mid rfl 80 _ _ rfl b (k * 12) #[.bool false, .slice none 0 0, .bool false, .int .i64 0, .int .i64 0, .int .i64 0, .int .i64 0, .int .i64 0, .int .i64 0, .int .i64 0, .int .i64 0, .int .i64 0] rfl rfl HTH.out sizeHand H0.out ?_)
   rw [HZ0.out]
   go_wp2
   go_ret
   unfold ToldPost
   rw [HT.out]
   exact ⟨rfl, HF.out⟩
  | false =>
   rw [hw2] at HT
   go_upto_region 7 with (refine wpList_store_mid rfl 80 _ _ rfl b (k * 12) #[.bool false, .slice none 0 0, .bool false, .int .i64 0, .int .i64 0, .int .i64 0, .int .i64 0, .int .i64 0, .int .i64 0, .int .i64 0, .int .i64 0, .int .i64 0] rfl rfl HTH.out sizeHand H0.out ?_)
   rw [HZ0.out]
   go_wp2
   go_ret
   unfold ToldPost
   rw [HT.out]
   exact ⟨rfl, HF.out⟩
theorem told_why (b : Nat) (ps : Nat → Pd) (vals : Nat → Int) (own : Own) (x : Stp) (a : Ans) (aq : Option Addr) (cq : Nat) (w : World) (TI : TellIn w b ps vals own a aq cq) (hp : properB x = true) (hc2 : ¬ a.code = 2) (hw0 : ¬ a.why = 0) :
  Calls Try.prog 34 #[.pointer (some ⟨b, 0, none⟩), .agg #[.int .i64 x.who.1, .int .i64 x.who.2.1, .int .i64 x.who.2.2, .int .i64 x.op, .int .i64 x.at_.1, .int .i64 x.at_.2, .int .i64 x.key, .int .i64 x.to_, .int .i64 x.value], .agg #[.int .i64 a.code, .int .i64 a.why, .slice aq a.items.length cq]] w (ToldPost own w b ps vals x a) := by
 have Khc2 : Hid (¬ a.code = 2) := hc2
 have Khw0 : Hid (¬ a.why = 0) := hw0
 clear hc2 hw0
 obtain ⟨⟨hs, m, hpl⟩, hrowa, hva, hlen, hgood⟩ := TI
 have HM : Hid (BkMem w b hs vals own) := m
 have HPL : Hid (∀ k, k < 128 → (hs k).pl = ps k) := hpl
 have HRA : Hid (type_of% hrowa) := hrowa
 have HVA : Hid (type_of% hva) := hva
 have HLN : Hid (type_of% hlen) := hlen
 have HGD : Hid (type_of% hgood) := hgood
 have hbl := m.old b (by rw [m.tag]; simp)
 have hA : Below w.heap.size w ((w.alloc (.cells #[.int .i64 x.who.1, .int .i64 x.who.2.1, .int .i64 x.who.2.2, .int .i64 x.op, .int .i64 x.at_.1, .int .i64 x.at_.2, .int .i64 x.key, .int .i64 x.to_, .int .i64 x.value] 30)).alloc (.cells #[.int .i64 a.code, .int .i64 a.why, .slice aq a.items.length cq] 66)) := below2r
 have hX : ((w.alloc (.cells #[.int .i64 x.who.1, .int .i64 x.who.2.1, .int .i64 x.who.2.2, .int .i64 x.op, .int .i64 x.at_.1, .int .i64 x.at_.2, .int .i64 x.key, .int .i64 x.to_, .int .i64 x.value] 30)).alloc (.cells #[.int .i64 a.code, .int .i64 a.why, .slice aq a.items.length cq] 66)).heap[w.heap.size]? = some (.cells (stepC x).toArray 30 (0, 0)) := by
  rw [Below.heap_alloc _ _ _ (by simp)]; exact heap_alloc_new w _
 have hY : ((w.alloc (.cells #[.int .i64 x.who.1, .int .i64 x.who.2.1, .int .i64 x.who.2.2, .int .i64 x.op, .int .i64 x.at_.1, .int .i64 x.at_.2, .int .i64 x.key, .int .i64 x.to_, .int .i64 x.value] 30)).alloc (.cells #[.int .i64 a.code, .int .i64 a.why, .slice aq a.items.length cq] 66)).heap[w.heap.size + 1]? = some (.cells #[.int .i64 a.code, .int .i64 a.why, .slice aq a.items.length cq] 66 (0, 0)) := by
  have := heap_alloc_new (w.alloc (.cells #[.int .i64 x.who.1, .int .i64 x.who.2.1, .int .i64 x.who.2.2, .int .i64 x.op, .int .i64 x.at_.1, .int .i64 x.at_.2, .int .i64 x.key, .int .i64 x.to_, .int .i64 x.value] 30)) (.cells #[.int .i64 a.code, .int .i64 a.why, .slice aq a.items.length cq] 66 (0, 0))
  simpa using this
 have hpr := properK_any x
 rw [hp] at hpr
 unfold stepV at hpr
 clear m hpl hrowa hva hlen hgood
 go_enter Try.func34, Try.ntmps34
 go_wp2_with fail
 refine (hpr _).mono ?_
 rintro e w1 ⟨rfl, hb1⟩
 have hB1 : Below w.heap.size w w1 := hA.trans (hb1.mono hA.size)
 have hX1 : w1.heap[w.heap.size]? = _ := (hb1.block w.heap.size (by simp; omega)).trans hX
 have hY1 : w1.heap[w.heap.size + 1]? = _ := (hb1.block (w.heap.size + 1) (by simp)).trans hY
 have HX1 : Hid (type_of% hX1) := hX1
 have HY1 : Hid (type_of% hY1) := hY1
 have HB1 : Hid (Below w.heap.size w w1) := hB1
 have M1 : Hid (BkMem w1 b hs vals own) := HM.out.below hB1
 obtain ⟨d0, d1, d2, _, _, _⟩ := ans_cells hY1
 obtain ⟨c0, c1, c2, c3, c4, c5, c6, c7, c8, _⟩ := step9_cells hX1
 have zx : w.heap.size < w1.heap.size := (Array.getElem?_eq_some_iff.1 hX1).1
 have zy : w.heap.size + 1 < w1.heap.size := (Array.getElem?_eq_some_iff.1 hY1).1
 have zb : b < w1.heap.size := by omega
 clear hA hX hY hb1 hB1 hX1 hY1 hpr
 obtain ⟨k, hk, hsz⟩ := properB_sess hp
 have hses := session_any x.who
 rw [hsz] at hses
 have hkt : (sessZ' x.who).toNat = k := by rw [hsz]; simp
 have zk : (k : Int) < 128 := by omega
 go_upto_region 4 with fail
 have kc0 := kin_cell c0
 have kc1 := kin_cell c1
 have kc2 := kin_cell c2
 have hki := kin_some w1
 refine wp_region_kin (by kernel_rfl) (by kernel_rfl) ?_
 repeat (first | go_big_quiet_step ((go_at_call 37; exact Calls.kin (hses _))) | quiet_step ((go_at_call 37; exact Calls.kin (hses _))))
 refine wpQuiet_nil ?_
 intro _ hw'
 obtain ⟨xq, hw''⟩ := hw'
 subst hw''
 have HBq : Hid (Below w1.heap.size w1 xq.w) := xq.h
 generalize xq.w = wq at *
 have hC0 : ChgD own w wq own := ChgD.of_below (HB1.out.trans (HBq.out.mono HB1.out.size))
 have HC0 : Hid (ChgD own w wq own) := hC0
 have Mq : Hid (BkMem wq b hs vals own) := M1.out.below HBq.out
 have e0 := cell_later HBq.out d0
 have e1 := cell_later HBq.out d1
 have e2 := cell_later HBq.out d2
 have f3 := cell_later HBq.out c3
 have HXq : Hid (wq.heap[w.heap.size]? = _) := (HBq.out.block w.heap.size zx).trans HX1.out
 have HYq : Hid (wq.heap[w.heap.size + 1]? = _) := (HBq.out.block (w.heap.size + 1) zy).trans HY1.out
 have zxq : w.heap.size < wq.heap.size := by have := HBq.out.size; omega
 have zyq : w.heap.size + 1 < wq.heap.size := by have := HBq.out.size; omega
 have zbq : b < wq.heap.size := by have := HBq.out.size; omega
 have HPS : Hid ((hs k).pl = ps k) := HPL.out k hk
 have hth := Mq.out.there (o := k * 12) (n := 12) (by omega)
 have HTH : Hid (type_of% hth) := hth
 have hbx : b ≠ w.heap.size := by omega
 have hby : b ≠ w.heap.size + 1 := by omega
 have HTP : Hid (tellP ps vals x a = (
  if a.code = 2 then (decide (a.why = 1) || decide (a.why = 2), updP ps k pd0, vals)
  else if a.why ≠ 0 then (false, ps, vals)
  else if x.op = 1 ∧ a.code = 0 then (true, updP ps k { pd0 with live := true }, vals)
  else if x.op = 7 ∧ a.code = 0 then (true, updP ps k pd0, vals)
  else if x.op = 6 ∧ a.code = 0 then ((replayP vals (ps k).done).1, updP ps k pd0, (replayP vals (ps k).done).2)
  else if x.op = 8 ∧ (ps k).open_ = true ∧ a.code ≠ 1 then ((noteP (updP ps k { ps k with open_ := false }) k (ps k).x a).1, (noteP (updP ps k { ps k with open_ := false }) k (ps k).x a).2, vals)
  else if (2 ≤ x.op ∧ x.op ≤ 5) ∧ a.code = 1 then (true, updP ps k { ps k with open_ := true, x := x }, vals)
  else if 2 ≤ x.op ∧ x.op ≤ 5 then ((noteP ps k x a).1, (noteP ps k x a).2, vals)
  else (true, ps, vals))) := by
  unfold Hid tellP
  rw [if_neg (by rw [hp]; simp)]
  simp only [hkt]
 have hpo := (proper_of hp).op
 clear hth kc0 kc1 kc2 hki c0 c1 c2 c3 c4 c5 c6 c7 c8 d0 d1 d2 hses hC0 xq
 have hc2 := Khc2.out
 have hw0 := Khw0.out
 have hc2b : (a.code == 2) = false := by simpa using hc2
 have hwb : (a.why == 0) = false := by simpa using hw0
 have HT : Hid (tellP ps vals x a = (false, ps, vals)) := by unfold Hid; rw [HTP.out, if_neg hc2, if_pos hw0]
 have HF : Hid (BkOut own w b ps vals wq) := ⟨own, ⟨hs, Mq.out, HPL.out⟩, HC0.out, fun _ _ h => h⟩
 clear hc2 hw0
 go_wp2
 go_ret
 unfold ToldPost
 rw [HT.out]
 exact ⟨rfl, HF.out⟩
end Go.Proofs.Ytpbcplfpjcacfaa
