import Derived.Test.YtpbcplfpjcacfaaB25
namespace Go.Proofs.Ytpbcplfpjcacfaa
open Go.RowKit
set_option maxRecDepth 100000
set_option maxHeartbeats 8000000
structure GoneW (y : Wh) (st : RS) : Prop where
 txns : ∀ t ∈ st.txns, t.who ≠ y
 ended : ∀ e ∈ st.ended, e.1 ≠ y
theorem ends_some {st : RS} {x : Wh} {b : Bool} {w : Int} : st.ends x b w = st ∨ (∃ t ∈ st.txns, t.who = x) ∧ ∃ p, st.ends x b w = { st with places := p, txns := st.txns.filter (fun t => t.who != x), recs := st.recs.filter (fun c => c.who != x), ended := if 0 < w then st.ended ++ [(x, w)] else st.ended } := by
 rcases txOf_cases st x with ⟨h1, _⟩ | ⟨m, t, h1, _, h3, h4⟩
 ·left; unfold RS.ends; rw [h1]
 ·rcases ends_rest st x b w with e | ⟨p, e⟩
  ·exact .inl e
  ·exact .inr ⟨⟨t, List.mem_of_getElem? h3, h4⟩, p, e⟩
theorem GoneW.ends {y : Wh} {st : RS} (h : GoneW y st) (x : Wh) (b : Bool) (w : Int) : GoneW y (st.ends x b w) := by
 rcases ends_some (st := st) (x := x) (b := b) (w := w) with e | ⟨⟨t, ht, hx⟩, p, e⟩ <;> rw [e]
 ·exact h
 ·have hne : x ≠ y := by rw [← hx]; exact h.txns t ht
  refine ⟨fun t ht => h.txns t (List.mem_filter.1 ht).1, fun e he => ?_⟩
  simp only at he
  split at he
  ·rcases List.mem_append.1 he with he | he
   ·exact h.ended e he
   ·simp only [List.mem_singleton] at he; subst he; exact hne
  ·exact h.ended e he
theorem does_who {st : RS} (x : Stp) {t : Tx} (ht : t ∈ (st.does x).1.txns) : ∃ u ∈ st.txns, u.who = t.who := by
 rcases txOf_cases st x.who with ⟨h1, _⟩ | ⟨m, u, h1, h2, h3, h4⟩
 ·unfold RS.does at ht; rw [h1] at ht; exact ⟨t, ht, rfl⟩
 ·unfold RS.does at ht
  rw [h1] at ht
  simp only at ht
  rw [h2, Int.toNat_natCast] at ht
  obtain ⟨u', e1, e2, _⟩ := job_at (x := x) h3
  rw [e1] at ht
  rcases List.mem_or_eq_of_mem_set ht with ht | ht
  ·exact ⟨t, ht, rfl⟩
  ·exact ⟨u, List.mem_of_getElem? h3, by rw [ht, e2]⟩
theorem does_recs (st : RS) (x : Stp) : (st.does x).1.recs = st.recs ∧ (st.does x).1.ended = st.ended := by
 obtain ⟨p, t, e⟩ := does_rest st x
 rw [e]; exact ⟨rfl, rfl⟩
def Settled (st : RS) : Prop := ∀ c ∈ st.recs, c.waits = true → st.hindered c = true
theorem bestTo_none {st : RS} : ∀ {k : Nat}, st.bestTo k = none → ∀ j c, j < k → st.recs[j]? = some c → st.free c = false
 | 0, _, j, c, h, _ => by omega
 | k + 1, hb, j, c, hj, hc => by
  rw [RS.bestTo] at hb
  cases hk : st.recs[k]? with
  | none =>
   rw [hk] at hb
   have : j < st.recs.length := (List.getElem?_eq_some_iff.1 hc).1
   have h2 : st.recs.length ≤ k := by
    rcases Nat.lt_or_ge k st.recs.length with h | h
    ·rw [List.getElem?_eq_getElem h] at hk; cases hk
    ·exact h
   exact bestTo_none hb j c (by omega) hc
  | some d =>
   rw [hk] at hb
   simp only at hb
   split at hb
   ·cases hb
   ·rename_i hn
    have hb' := hb
    rcases Nat.lt_or_ge j k with h | h
    ·exact bestTo_none hb' j c h hc
    ·have e : j = k := by omega
     subst e
     rw [hk] at hc
     obtain rfl := Option.some.inj hc
     rw [hb'] at hn
     cases hf : st.free d with
     | false => rfl
     | true => rw [hf] at hn; simp [RS.better] at hn
theorem settled_of_none {st : RS} (h : st.bestTo st.recs.length = none) : Settled st := by
 intro c hc hw
 obtain ⟨j, hj⟩ := List.mem_iff_getElem?.1 hc
 have := bestTo_none h j c (List.getElem?_eq_some_iff.1 hj).1 hj
 unfold RS.free at this
 rw [hw] at this
 simpa using this
theorem againN_settled {N : Nat} : ∀ (f : Nat) (st : RS), st.Fit N → st.waitN ≤ f → Settled (RS.againN f st)
 | 0, st, F, hf => by
  rcases best_cases st with h | ⟨j, c, h, hj, hfr⟩
  ·exact settled_of_none h
  ·have := waitN_pos hj (free_waits hfr); omega
 | f + 1, st, F, hf => by
  rcases best_cases st with h | ⟨j, c, h, hj, hfr⟩
  ·rw [againN_none h]; exact settled_of_none h
  ·rw [againN_step h hj]
   exact againN_settled f _ (F.grant hj (free_waits hfr)) (by have := grant_waitN F hj (free_waits hfr); omega)
theorem againT_settled {N : Nat} {st : RS} (F : st.Fit N) : Settled st.againT := againN_settled _ _ F (Nat.le_refl _)
theorem Settled.same {st st' : RS} (h : Settled st) (e : st'.recs = st.recs) : Settled st' := by
 intro c hc hw
 rw [e] at hc
 have := h c hc hw
 unfold RS.hindered at this ⊢
 rw [e]; exact this
theorem ringsN_settled {N : Nat} : ∀ (f : Nat) (st : RS) (x : Wh), st.Fit N → Settled st → Settled (RS.ringsN f st x).1
 | 0, _, _, _, h => h
 | f + 1, st, x, F, h => by
  cases hr : st.ringTo x 4 with
  | none => rw [ringsN_none hr]; exact h
  | some b =>
   obtain ⟨t, hb, _⟩ := ringTo_at hr
   rw [ringsN_some hr hb]
   split
   ·exact againT_settled (F.ends _ _ _)
   ·exact ringsN_settled f _ x ((F.ends _ _ _).againT) (againT_settled (F.ends _ _ _))
theorem Settled.askT {N : Nat} {st : RS} {x : Stp} (h : Settled st) (A : Asking N st x) : Settled (st.askT x).1 := by
 unfold RS.askT
 split
 ·exact h
 ·rename_i hb
  have hb' : x.barred = false := by simpa using hb
  split
  ·exact h.same (does_recs st x).1
  ·split
   ·exact h
   ·rename_i hc
    split
    ·rename_i hh
     refine ringsN_settled _ _ _ (A.parked hb' hc) ?_
     intro c hcm hw
     change c ∈ st.recs ++ [(st.askR x).on] at hcm
     show (st.recs ++ [(st.askR x).on]).any (fun a => hindB a c) = true
     rw [List.any_append]
     rcases List.mem_append.1 hcm with hcm | hcm
     ·have := h c hcm hw
      unfold RS.hindered at this
      rw [this]; rfl
     ·simp only [List.mem_singleton] at hcm
      subst hcm
      unfold RS.hindered at hh
      have : st.recs.any (fun a => hindB a (st.askR x).on) = true := hh
      rw [this]; rfl
    ·exact againT_settled (A.doesTook hb' hc)
theorem Settled.actT {N : Nat} {st : RS} {x : Stp} (h : Settled st) (F : st.Fit N) (hp : Proper x) (hc : st.c ≤ 32) : Settled (st.actT x).1 := by
 unfold RS.actT
 split
 ·unfold RS.pollT
  split
  ·exact h
  ·split
   ·exact h.same rfl
   ·exact h
 ·rename_i h8
  split
  ·exact h
  ·split
   ·exact againT_settled (F.ends _ _ _)
   ·rename_i h7
    split
    ·exact h
    ·rename_i hb
     split
     ·unfold RS.startT
      split
      ·exact h
      ·split
       ·exact h
       ·exact h.same rfl
     ·rename_i h1
      split
      ·exact h
      ·rename_i hl
       split
       ·exact againT_settled (F.ends _ _ _)
       ·rename_i h6
        exact h.askT (actT_asking F hp hc h8 h7 h6 h1 (by
         cases hw : (st.waitRec x.who).isSome
         ·rfl
         ·exact absurd (.inl hw) hb) (txOf_some hl))
theorem Settled.doT {N : Nat} {st : RS} {x : Stp} (h : Settled st) (F : st.Fit N) (hc : st.c ≤ 32) : Settled (st.doT x).1 := by
 unfold RS.doT
 split
 ·exact h
 ·rename_i hp
  split
  ·exact h.same rfl
  ·exact (h.same (st' := st.toldT x.who) rfl).actT (F.toldT _) (proper_of (by simpa using hp)) hc
theorem meet_low {st : RS} (I : st.Inv) {a c : Rc} (ha : a ∈ st.recs) (hc : c ∈ st.recs) {q : Nat} (hal : a.who.lab = labOf q) (hcl : c.who.lab = labOf q) (hno : c.at_ ≠ labOf q) : meetB a c = false := by
 cases h : meetB a c with
 | false => rfl
 | true =>
  exfalso
  unfold meetB at h
  rw [show sameL a.at_.1 a.at_.2 c.at_.1 c.at_.2 = (a.at_ == c.at_) from sameL_eq _ _] at h
  simp only [Bool.and_eq_true, Bool.or_eq_true, beq_iff_eq] at h
  obtain ⟨⟨⟨h1, _⟩, _⟩, h2⟩ := h
  rcases h2 with h2 | h2
  ·exact hno (by rw [← h1, (I.low a ha).2 h2, hal])
  ·exact hno (by rw [(I.low c hc).2 h2, hcl])
theorem hind_o {N : Nat} {st : RS} (F : st.Fit N) (I : st.Inv) {c : Rc} (hc : c ∈ st.recs) (hw : c.waits = true) {q n : Nat} (o : Nat) (hx : c.who = whoOf q n) :
  (st.trOf q).hindB o n = (sameL c.at_.1 c.at_.2 (whoOf q n).1 (whoOf q n).2.1 && st.recs.any (forP (whoOf q o) c)) := by
 obtain ⟨t, ht, hwho, htx, hreq, hask⟩ := req_wait F hc hw
 have hlk := asks_lk hask
 have hr : ((st.trOf q).ses n).req = t.step := by show (st.sesOf (whoOf q n)).req = _; rw [← hx]; exact hreq
 have hlab : c.who.lab = labOf q := by rw [hx]; rfl
 have hcW : c ∈ st.recs.filter (fun c => c.waits && c.who.lab == labOf q) := List.mem_filter.2 ⟨hc, by rw [hw, hlab]; simp⟩
 have hcn : numOf c.who = n := by rw [hx, numOf_whoOf]
 have huniq : ∀ a ∈ st.recs.filter (fun c => c.waits && c.who.lab == labOf q), numOf a.who = n → a = c := fun a ha hn => by
  obtain ⟨h1, h2⟩ := List.mem_filter.1 ha
  simp only [Bool.and_eq_true, beq_iff_eq] at h2
  exact wait_one F h1 hc h2.1 hw (by rw [who_num (F.recW h1) h2.2 hn, hx])
 have hh : c.at_ = labOf q → ∀ a ∈ st.recs, (hindB a c = true ↔ a.who ≠ c.who ∧ a.who.lab = labOf q ∧ meetB a c = true ∧ (a.waits = false ∨ a.came < c.came)) := fun hown a ha => by
  unfold hindB
  rw [sameW_eq, show sameL a.who.1 a.who.2.1 c.at_.1 c.at_.2 = (a.who.lab == c.at_) from sameL_eq a.who.lab c.at_, show sameL c.who.1 c.who.2.1 c.at_.1 c.at_.2 = (c.who.lab == c.at_) from sameL_eq c.who.lab c.at_, hlab, hown]
  by_cases h1 : a.who = c.who
  ·simp [h1]
  ·by_cases h2 : a.who.lab = labOf q
   ·by_cases h3 : meetB a c = true
    ·cases hwa : a.waits <;> simp [h1, h2, h3]
    ·have h3' : meetB a c = false := by simpa using h3
     simp [h1, h2, h3']
   ·simp [h1, h2]
 have e0 : sameL c.at_.1 c.at_.2 (whoOf q n).1 (whoOf q n).2.1 = (c.at_ == labOf q) := sameL_eq c.at_ (labOf q)
 rw [e0, Bool.eq_iff_iff, Bool.and_eq_true, beq_iff_eq, List.any_eq_true]
 constructor
 ·intro h
  unfold Tr.hindB at h
  rw [hr, hlk] at h
  simp only [Bool.and_eq_true, Bool.not_eq_true', Bool.or_eq_true] at h
  obtain ⟨hne, h⟩ := h
  have hon : o ≠ n := by simpa using hne
  have key : ∃ a ∈ st.recs, a.who = whoOf q o ∧ meetB a c = true ∧ (a.waits = false ∨ a.came < c.came) := by
   rcases h with h | ⟨h1, h2⟩
   ·have h' : (st.sesOf (whoOf q o)).metB (rcLk c) = true := h
    rw [ses_met, List.any_eq_true] at h'
    obtain ⟨a, ha, hb⟩ := h'
    simp only [Bool.and_eq_true, beq_iff_eq, Bool.not_eq_true'] at hb
    exact ⟨a, ha, hb.1.1, hb.2, .inl hb.1.2⟩
   ·have h1' := (ahead_came hon (I.came.sublist List.filter_sublist) huniq hcW hcn).1 h1
    obtain ⟨a, haW, hao, hac⟩ := h1'
    obtain ⟨ha, ha2⟩ := List.mem_filter.1 haW
    simp only [Bool.and_eq_true, beq_iff_eq] at ha2
    have haw : a.who = whoOf q o := who_num (F.recW ha) ha2.2 hao
    obtain ⟨t', _, _, _, hreq', hask'⟩ := req_wait F ha ha2.1
    have hr' : ((st.trOf q).ses o).req = t'.step := by show (st.sesOf (whoOf q o)).req = _; rw [← haw]; exact hreq'
    rw [hr', asks_lk hask', lk_meet] at h2
    exact ⟨a, ha, haw, h2, .inr hac⟩
  obtain ⟨a, ha, h1, h2, h3⟩ := key
  have hown : c.at_ = labOf q := Classical.byContradiction fun hno => by
   have := meet_low I ha hc (by rw [h1]; rfl) hlab hno
   rw [h2] at this; cases this
  refine ⟨hown, a, ha, ?_⟩
  unfold forP
  rw [sameW_eq, (hh hown a ha).2 ⟨by rw [h1, hx]; exact fun e => hon (whoOf_inj e).2, by rw [h1]; rfl, h2, h3⟩, h1]
  simp
 ·rintro ⟨hown, a, ha, h⟩
  unfold forP at h
  rw [sameW_eq, Bool.and_eq_true, beq_iff_eq] at h
  obtain ⟨hao, h⟩ := h
  obtain ⟨h1, h2, h3, h4⟩ := (hh hown a ha).1 h
  have hon : o ≠ n := fun e => h1 (by rw [hao, hx, e])
  unfold Tr.hindB
  rw [hr, hlk]
  have e1 : (!(o == n)) = true := by simpa using hon
  rw [e1, Bool.true_and]
  cases hwa : a.waits with
  | false =>
   have : ((st.trOf q).ses o).metB (rcLk c) = true := by
    show (st.sesOf (whoOf q o)).metB (rcLk c) = true
    rw [ses_met, List.any_eq_true]
    exact ⟨a, ha, by rw [hao, hwa, h3]; simp⟩
   rw [this]; rfl
  | true =>
   have hac : a.came < c.came := by
    rcases h4 with h4 | h4
    ·rw [hwa] at h4; cases h4
    ·exact h4
   have hah : aheadIn (st.trOf q).queue o n = true := (ahead_came hon (I.came.sublist List.filter_sublist) huniq hcW hcn).2 ⟨a, List.mem_filter.2 ⟨ha, by rw [hwa, h2]; simp⟩, by rw [hao, numOf_whoOf], hac⟩
   obtain ⟨t', _, _, _, hreq', hask'⟩ := req_wait F ha hwa
   have hr' : ((st.trOf q).ses o).req = t'.step := by show (st.sesOf (whoOf q o)).req = _; rw [← hao]; exact hreq'
   rw [hah, hr', asks_lk hask', lk_meet, h3]
   simp
theorem wait_que {N : Nat} {st : RS} (F : st.Fit N) {q n : Nat} : n ∈ st.queOf q ↔ ∃ c ∈ st.recs, c.waits = true ∧ c.who = whoOf q n :=
 ⟨que_has F, fun ⟨c, h1, h2, h3⟩ => by have := que_mem (q := q) h1 h2 (by rw [h3]; rfl); rw [h3, numOf_whoOf] at this; exact this⟩
theorem rec_some {st : RS} {x : Wh} {c : Rc} (h : st.waitRec x = some c) : c ∈ st.recs ∧ c.waits = true ∧ c.who = x := by
 have h1 := List.mem_of_find?_eq_some h
 have h2 := List.find?_some h
 rw [isWt_eq, Bool.and_eq_true, beq_iff_eq] at h2
 exact ⟨h1, h2.2, h2.1⟩
theorem rec_none {st : RS} {x : Wh} (h : st.waitRec x = none) {c : Rc} (hc : c ∈ st.recs) (hx : c.who = x) : c.waits = false := by
 have := List.find?_eq_none.1 h c hc
 rw [isWt_eq, hx] at this
 simpa using this
theorem first_wait {N : Nat} {st : RS} (F : st.Fit N) (I : st.Inv) {q n o : Nat} (ho : o < 4) : (st.trOf q).firstHand n o = st.waitsFor (whoOf q n) (whoOf q o) := by
 rw [first_at _ _ _ ho]
 unfold RS.waitsFor
 cases h : st.waitRec (whoOf q n) with
 | none =>
  have : ¬ n ∈ (st.trOf q).queue := fun hm => by
   obtain ⟨c, h1, h2, h3⟩ := (wait_que F).1 hm
   rw [rec_none h h1 h3] at h2; cases h2
  rw [if_neg this]
 | some c =>
  obtain ⟨h1, h2, h3⟩ := rec_some h
  rw [if_pos (show n ∈ (st.trOf q).queue from (wait_que F).2 ⟨c, h1, h2, h3⟩), hind_o F I h1 h2 o h3]
theorem leads_way {N : Nat} {st : RS} (F : st.Fit N) (I : st.Inv) {q : Nat} : ∀ k a b, b < 4 → st.leads k (whoOf q a) (whoOf q b) = leadW (st.trOf q).firstHand k a b
 | 0, _, _, _ => rfl
 | k + 1, a, b, hb => by
  rw [leads_succ, leadW, first_wait F I hb]
  congr 1
  have e : ∀ j, j < 4 → ledP st k (whoOf q a) (whoOf q b) j = ((st.trOf q).firstHand a j && leadW (st.trOf q).firstHand k j b) := fun j hj => by
   rw [first_wait F I hj, ← leads_way F I k j b hb]; rfl
  rw [Bool.eq_iff_iff, List.any_eq_true, List.any_eq_true]
  constructor
  ·rintro ⟨j, hj, h⟩; exact ⟨j, hj, by rw [← e j (List.mem_range.1 hj)]; exact h⟩
  ·rintro ⟨j, hj, h⟩; exact ⟨j, hj, by rw [e j (List.mem_range.1 hj)]; exact h⟩
theorem closed_leads {N : Nat} {st : RS} (F : st.Fit N) (I : st.Inv) {q a b : Nat} (ha : a < 4) (hb : b < 4) : (st.trOf q).firstHand.closed a b = st.leads 4 (whoOf q a) (whoOf q b) := by
 rw [closed_lead _ ha hb, leads_way F I 4 a b hb]
theorem live_some {st : RS} {x : Wh} : 0 ≤ st.live x ↔ ∃ t ∈ st.txns, t.who = x := by
 rcases live_cases st x with ⟨h1, h2⟩ | ⟨m, t, h1, h2, h3⟩
 ·rw [h1]
  exact ⟨fun h => by omega, fun ⟨t, ht, e⟩ => absurd e (h2 t ht)⟩
 ·rw [h1]
  exact ⟨fun _ => ⟨t, List.mem_of_getElem? h2, h3⟩, fun _ => by omega⟩
theorem ring_in {N : Nat} {st : RS} (F : st.Fit N) (I : st.Inv) {q n m : Nat} (hn : n < 4) (hm : m < 4) : st.inRing (whoOf q n) (whoOf q m) = true ↔ (∃ t ∈ st.txns, t.who = whoOf q m) ∧ ((st.trOf q).firstHand.closed n m && (st.trOf q).firstHand.closed m n) = true := by
 unfold RS.inRing
 rw [closed_leads F I hn hm, closed_leads F I hm hn, Bool.and_eq_true, decide_eq_true_eq, live_some]
def RingBest (st : RS) (x : Wh) (k : Nat) : Prop := match st.ringTo x k with
 | none => ∀ m : Nat, m < k → st.inRing x (x.1, x.2.1, (m : Int)) = false
 | some b => ∃ t, ∃ m : Nat, m < k ∧ st.txns[b]? = some t ∧ t.who = (x.1, x.2.1, (m : Int)) ∧ st.inRing x t.who = true ∧ ∀ m' : Nat, m' < k → st.inRing x (x.1, x.2.1, (m' : Int)) = true → ∀ u ∈ st.txns, u.who = (x.1, x.2.1, (m' : Int)) → u.nth ≤ t.nth
theorem ring_best {N : Nat} {st : RS} (F : st.Fit N) (x : Wh) : ∀ k, RingBest st x k
 | 0 => fun m h => by omega
 | k + 1 => by
  have ih := ring_best F x k
  unfold RingBest at ih ⊢
  rw [RS.ringTo]
  cases hin : st.inRing x (x.1, x.2.1, (k : Int)) with
  | false =>
   rw [Bool.false_and, if_neg (by simp)]
   cases hr : st.ringTo x k with
   | none =>
    rw [hr] at ih
    intro m hm
    rcases Nat.lt_or_ge m k with h | h
    ·exact ih m h
    ·rw [show m = k by omega]; exact hin
   | some b =>
    rw [hr] at ih
    obtain ⟨t, m, h1, h2, h3, h4, h5⟩ := ih
    refine ⟨t, m, by omega, h2, h3, h4, fun m' hm' hi u hu huw => ?_⟩
    rcases Nat.lt_or_ge m' k with h | h
    ·exact h5 m' h hi u hu huw
    ·rw [show m' = k by omega, hin] at hi; cases hi
  | true =>
   rw [Bool.true_and]
   have hl : 0 ≤ st.live (x.1, x.2.1, (k : Int)) := by
    unfold RS.inRing at hin
    simp only [Bool.and_eq_true, decide_eq_true_eq] at hin
    exact hin.1
   rcases live_cases st (x.1, x.2.1, (k : Int)) with ⟨h1, _⟩ | ⟨i, t, h1, h2, h3⟩
   ·omega
   ·rw [h1, Int.toNat_natCast]
    have hmem := List.mem_of_getElem? h2
    cases hr : st.ringTo x k with
    | none =>
     rw [hr] at ih
     have hy : st.younger none i = true := rfl
     rw [hy, if_pos rfl]
     refine ⟨t, k, by omega, h2, h3, by rw [h3]; exact hin, fun m' hm' hi u hu huw => ?_⟩
     rcases Nat.lt_or_ge m' k with h | h
     ·rw [ih m' h] at hi; cases hi
     ·have : u = t := uniq_eq F hmem hu (by rw [huw, h3, show m' = k by omega])
      rw [this]; exact Int.le_refl _
    | some b =>
     rw [hr] at ih
     obtain ⟨tb, m, g1, g2, g3, g4, g5⟩ := ih
     have hy : st.younger (some b) i = decide (tb.nth < t.nth) := by
      unfold RS.younger RS.nthAt
      simp only [g2, h2]
     rw [hy]
     by_cases hlt : tb.nth < t.nth
     ·rw [decide_eq_true hlt, if_pos rfl]
      refine ⟨t, k, by omega, h2, h3, by rw [h3]; exact hin, fun m' hm' hi u hu huw => ?_⟩
      rcases Nat.lt_or_ge m' k with h | h
      ·have := g5 m' h hi u hu huw; omega
      ·have : u = t := uniq_eq F hmem hu (by rw [huw, h3, show m' = k by omega])
       rw [this]; exact Int.le_refl _
     ·rw [decide_eq_false hlt, if_neg (by simp)]
      refine ⟨tb, m, by omega, g2, g3, g4, fun m' hm' hi u hu huw => ?_⟩
      rcases Nat.lt_or_ge m' k with h | h
      ·exact g5 m' h hi u hu huw
      ·have : u = t := uniq_eq F hmem hu (by rw [huw, h3, show m' = k by omega])
       rw [this]; omega
theorem nth_eq {st : RS} (I : st.Inv) {t u : Tx} (ht : t ∈ st.txns) (hu : u ∈ st.txns) (h : t.nth = u.nth) : t = u := by
 obtain ⟨i, hi⟩ := List.mem_iff_getElem?.1 ht
 obtain ⟨j, hj⟩ := List.mem_iff_getElem?.1 hu
 obtain ⟨h1, e1⟩ := List.getElem?_eq_some_iff.1 hi
 obtain ⟨h2, e2⟩ := List.getElem?_eq_some_iff.1 hj
 have hp := List.pairwise_iff_getElem.1 I.nth
 rcases Nat.lt_trichotomy i j with h3 | h3 | h3
 ·have := hp i j h1 h2 h3
  rw [e1, e2] at this; omega
 ·subst h3; rw [← e1, ← e2]
 ·have := hp j i h2 h1 h3
  rw [e1, e2] at this; omega
theorem last_best {L : List Tx} (hp : L.Pairwise (fun t u => t.nth < u.nth)) {Q : Tx → Bool} {t : Tx} (h : L.reverse.find? Q = some t) : ∀ u ∈ L, Q u = true → u.nth ≤ t.nth := fun u hu hq => by
 obtain ⟨_, l1, l2, e, hn⟩ := List.find?_eq_some_iff_append.1 h
 have hp' : L.reverse.Pairwise (fun t u => u.nth < t.nth) := List.pairwise_reverse.2 hp
 have hu' : u ∈ L.reverse := List.mem_reverse.2 hu
 rw [e] at hp' hu'
 rcases List.mem_append.1 hu' with h1 | h1
 ·have := hn u h1; rw [hq] at this; cases this
 ·rcases List.mem_cons.1 h1 with h1 | h1
  ·rw [h1]; exact Int.le_refl _
  ·have := (List.pairwise_cons.1 (List.pairwise_append.1 hp').2.1).1 u h1
   omega
theorem sim_young {N : Nat} {st : RS} (F : st.Fit N) (I : st.Inv) {q n : Nat} (hn : n < 4) :
  ((st.trOf q).youngest n = none ∧ st.ringTo (whoOf q n) 4 = none) ∨ ∃ y b t, (st.trOf q).youngest n = some y ∧ y < 4 ∧ y ∈ st.begOf q ∧ st.ringTo (whoOf q n) 4 = some b ∧ st.txns[b]? = some t ∧ t.who = whoOf q y := by
 have hb := ring_best F (whoOf q n) 4
 unfold RingBest at hb
 have hL : ∀ t ∈ st.txns.filter (fun t => t.who.lab == labOf q), t ∈ st.txns ∧ ∃ m, m < 4 ∧ t.who = whoOf q m := fun t ht => by
  obtain ⟨h1, h2⟩ := List.mem_filter.1 ht
  rw [beq_iff_eq] at h2
  obtain ⟨q', m, _, hm, e⟩ := ok_who (F.who t h1)
  have : q' = q := labOf_inj (by rw [← whoOf_lab q' m, ← e, h2])
  exact ⟨h1, m, hm, by rw [e, this]⟩
 have hp := I.nth.sublist (List.filter_sublist (p := fun t : Tx => t.who.lab == labOf q))
 have hy : (st.trOf q).youngest n = ((st.txns.filter (fun t => t.who.lab == labOf q)).reverse.find? ((fun o => (st.trOf q).firstHand.closed n o && (st.trOf q).firstHand.closed o n) ∘ (fun t => numOf t.who))).map (fun t => numOf t.who) := by
  unfold Tr.youngest
  show (st.begOf q).reverse.find? _ = _
  unfold RS.begOf
  rw [← List.map_reverse, List.find?_map]
 rw [hy]
 cases hf : (st.txns.filter (fun t => t.who.lab == labOf q)).reverse.find? ((fun o => (st.trOf q).firstHand.closed n o && (st.trOf q).firstHand.closed o n) ∘ (fun t => numOf t.who)) with
 | none =>
  left
  refine ⟨rfl, ?_⟩
  cases hr : st.ringTo (whoOf q n) 4 with
  | none => rfl
  | some b =>
   exfalso
   rw [hr] at hb
   obtain ⟨t, m, h1, h2, h3, h4, _⟩ := hb
   have h3' : t.who = whoOf q m := h3
   have ht := List.mem_of_getElem? h2
   rw [h3', ring_in F I hn h1] at h4
   have := List.find?_eq_none.1 hf t (List.mem_reverse.2 (List.mem_filter.2 ⟨ht, by rw [h3']; simp [whoOf_lab]⟩))
   rw [Function.comp, h3', numOf_whoOf] at this
   exact this h4.2
 | some ty =>
  right
  have hmem := List.mem_reverse.1 (List.mem_of_find?_eq_some hf)
  obtain ⟨hty, y, hy4, hyw⟩ := hL ty hmem
  have hP := List.find?_some hf
  rw [Function.comp, hyw, numOf_whoOf] at hP
  have hin : st.inRing (whoOf q n) (whoOf q y) = true := (ring_in F I hn hy4).2 ⟨⟨ty, hty, hyw⟩, hP⟩
  cases hr : st.ringTo (whoOf q n) 4 with
  | none =>
   exfalso
   rw [hr] at hb
   have := hb y hy4
   rw [show ((whoOf q n).1, (whoOf q n).2.1, (y : Int)) = whoOf q y from rfl, hin] at this
   cases this
  | some b =>
   rw [hr] at hb
   obtain ⟨t, m, h1, h2, h3, h4, h5⟩ := hb
   have h3' : t.who = whoOf q m := h3
   have ht := List.mem_of_getElem? h2
   rw [h3', ring_in F I hn h1] at h4
   have g1 := h5 y hy4 hin ty hty hyw
   have g2 := last_best hp hf t (List.mem_filter.2 ⟨ht, by rw [h3']; simp [whoOf_lab]⟩) (by rw [Function.comp, h3', numOf_whoOf]; exact h4.2)
   have e := nth_eq I ht hty (by omega)
   subst e
   refine ⟨y, b, t, by rw [Option.map_some, hyw, numOf_whoOf], hy4, ?_, rfl, h2, hyw⟩
   unfold RS.begOf
   exact List.mem_map.2 ⟨t, hmem, by rw [hyw, numOf_whoOf]⟩
end Go.Proofs.Ytpbcplfpjcacfaa
