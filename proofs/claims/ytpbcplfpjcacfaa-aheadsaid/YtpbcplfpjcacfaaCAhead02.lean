import Derived.Test.YtpbcplfpjcacfaaB34
import Derived.Test.YtpbcplfpjcacfaaCAhead01
namespace Go.Proofs.Ytpbcplfpjcacfaa
open Go.RowKit
set_option maxRecDepth 100000
set_option maxHeartbeats 8000000
def y0 : Wh := (0, 0, 0)
theorem z0_y0 : z0 y0.lab = true := by decide
theorem y0_ok : y0.ok := by unfold Wh.ok Lab.ok Wh.lab y0; decide
def f77 (_ : Lab) (q : Int) : Int := if q = 7 then 77 else -1
section
variable {T : List Tx} {R : List Rc} {f : Lab → Int → Int} {st : RS}
theorem Lo.noEnd (h : Lo z0 T R f st) : st.ended.find? (isW y0) = none := by
 refine List.find?_eq_none.2 fun e he hw => ?_
 have h1 := (isW_iff y0 e).1 hw
 have := h.ended e he
 rw [h1, z0_y0] at this; cases this
theorem Lo.memR (h : Lo z0 T R f st) {c : Rc} (hc : c ∈ st.recs) (hw : c.who.lab = (0, 0)) : c ∈ R := by
 rw [← h.recs]; exact List.mem_filter.2 ⟨hc, by simp [z0, hw]⟩
theorem Lo.txNone (h : Lo z0 [] R f st) : st.txOf y0 = none := by
 rcases txOf_cases st y0 with ⟨h1, _⟩ | ⟨m, t, _, _, h3, h4⟩
 ·exact h1
 ·have := h.memT (List.mem_of_getElem? h3) (by rw [h4]; rfl)
  cases this
theorem Lo.txOne {t : Tx} (h : Lo z0 [t] R f st) (ht : t.who = y0) : ∃ m : Nat, st.txOf y0 = some t ∧ st.live y0 = (m : Int) ∧ st.txns[m]? = some t := by
 have hm : t ∈ st.txns := by
  have : t ∈ st.txns.filter (fun t => z0 t.who.lab) := by rw [h.txns]; simp
  exact (List.mem_filter.1 this).1
 rcases txOf_cases st y0 with ⟨_, _, h3⟩ | ⟨m, u, h1, h2, h3, h4⟩
 ·exact absurd ht (h3 t hm)
 ·have := h.memT (List.mem_of_getElem? h3) (by rw [h4]; rfl)
  simp only [List.mem_singleton] at this
  subst this
  exact ⟨m, h1, h2, h3⟩
theorem Lo.noWait (h : Lo z0 T R f st) (hR : Quiet R) : st.waitRec y0 = none := by
 refine List.find?_eq_none.2 fun c hc hw => ?_
 unfold isWt at hw
 simp only [Bool.and_eq_true] at hw
 have h1 : c.who = y0 := by
  have := hw.2
  unfold sameW at this
  simp only [decide_eq_true_eq] at this
  exact Prod.ext this.1 (Prod.ext this.2.1 this.2.2)
 have := (hR c (h.memR hc (by rw [h1]; rfl))).2
 rw [hw.1] at this; cases this
theorem Lo.takenB (h : Lo z0 T R f st) (hT : ∀ t ∈ T, t.olds = [] ∧ t.puts = []) (key : Int) : st.taken (0, 0) key = decide (0 ≤ f (0, 0) key) := by
 unfold RS.taken
 rw [h.comm (fun t ht => (hT t ht).1)]
 have : takIx (0, 0) key st.txns = false := by
  unfold takIx
  rw [List.any_eq_false]
  intro t ht
  simp only [Bool.and_eq_true, not_and, Bool.not_eq_true]
  intro hs
  have hl : t.who.lab = (0, 0) := by
   have := sameL_iff.1 hs
   exact Prod.ext this.1 this.2
  rw [(hT t (h.memT ht hl)).2]; rfl
 rw [this]; simp
end
theorem filter_set_one {α : Type} (p : α → Bool) : ∀ {l : List α} {n : Nat} {t u : α}, l.filter p = [t] → l[n]? = some t → p u = true → (l.set n u).filter p = [u]
 | [], _, _, _, h, _, _ => by simp at h
 | a :: l, 0, t, u, h, hn, hu => by
  simp at hn; subst hn
  have ha : p a = true := by
   have : a ∈ (a :: l).filter p := by rw [h]; simp
   exact (List.mem_filter.1 this).2
  rw [List.filter_cons_of_pos ha] at h
  rw [List.set_cons_zero, List.filter_cons_of_pos hu]
  simp at h
  rw [List.filter_eq_nil_iff.2 (by simpa using h)]
 | a :: l, n + 1, t, u, h, hn, hu => by
  have hn' : l[n]? = some t := by simpa using hn
  have ht : p t = true := by
   have : t ∈ (a :: l).filter p := by rw [h]; simp
   exact (List.mem_filter.1 this).2
  rw [List.set_cons_succ]
  cases ha : p a with
  | true =>
   rw [List.filter_cons_of_pos ha] at h
   have hl : l.filter p = [] := by simpa using (List.cons.inj h).2
   have : t ∈ l.filter p := List.mem_filter.2 ⟨List.mem_of_getElem? hn', ht⟩
   rw [hl] at this; cases this
  | false =>
   rw [List.filter_cons_of_neg (by simp [ha])] at h ⊢
   exact filter_set_one p h hn' hu
theorem find_false {α : Type} {p : α → Bool} {l : List α} (h : ∀ x ∈ l, p x = false) : l.any p = false := by
 rw [List.any_eq_false]; intro x hx; rw [h x hx]; simp
theorem ahead_steps {N : Nat} {st : RS} {k : Nat} (hk : k < 16) (h : Lo z0 [] [] f77 st) (F : st.Fit N) (hK : st.k = 16) (hv : 1 ≤ st.v) (hc : 1 ≤ st.c) (hc' : st.c ≤ 32) :
  ∃ s1 s2 s3 s4, st.doT ah1 = (s1, ⟨0, 0, []⟩) ∧ s1.doT (ah2 k) = (s2, ⟨0, 0, []⟩) ∧ s2.doT (ah3 k) = (s3, ⟨0, 0, [((k : Int), 5)]⟩) ∧ s3.doT ah4 = (s4, ⟨0, 0, []⟩) ∧ s4.lookTo (0, 0) 16 = wantL k := by
 have q0 : Quiet [] := fun c hc => by cases hc
 -- Begin
 have e1 : st.doT ah1 = (st.beginT y0, ⟨0, 0, []⟩) := by
  rw [doT_live (x := ah1) (by decide) h.noEnd]
  have h1 : st.txOf ah1.who = none := h.txNone
  have h2 : st.waitRec ah1.who = none := h.noWait q0
  have h3 : st.isReady ah1.who = false := by unfold RS.isReady; rw [h1]
  have h4 : cntIx ah1.who.lab st.txns = 0 := by
   unfold cntIx
   rw [List.length_eq_zero_iff, List.filter_eq_nil_iff]
   intro t ht hs
   have := sameL_iff.1 hs
   have := h.memT ht (Prod.ext this.1 this.2)
   cases this
  have h5 : ¬ st.v ≤ 0 := by omega
  unfold RS.actT
  rw [if_neg (by decide), if_neg (by simp [ah1]), if_neg (by decide), if_neg (by rw [h2, h3]; simp), if_pos (by decide)]
  unfold RS.startT
  rw [h1, h4]
  simp [h5]
  rfl
 have l1 : Lo z0 [newTx y0 (st.begun + 1)] [] f77 (st.beginT y0) := by
  refine ⟨?_, h.recs, h.ended, h.val⟩
  show (st.txns ++ [newTx y0 (st.begun + 1)]).filter _ = _
  rw [List.filter_append, h.txns]; rfl
 have F1 : (st.beginT y0).Fit (N + 1) := by
  have := F.doT ah1 hc'
  rw [e1] at this; exact this
 have c1 : (st.beginT y0).c = st.c := rfl
 have k1 : (st.beginT y0).k = 16 := hK
 generalize st.beginT y0 = s1 at e1 l1 F1 c1 k1
 generalize hu : newTx y0 (st.begun + 1) = u at l1
 have uw : u.who = y0 := by rw [← hu]; rfl
 have uo : u.olds = [] := by rw [← hu]; rfl
 have up : u.puts = [] := by rw [← hu]; rfl
 have ur : u.ready = false := by rw [← hu]; rfl
 -- Put
 obtain ⟨r, hr⟩ : ∃ r, r = s1.askR (ah2 k) := ⟨_, rfl⟩
 have rw0 : r.who = y0 ∧ r.at_ = (0, 0) ∧ r.lo = (k : Int) ∧ r.hi = (k : Int) ∧ r.write = true ∧ r.waits = false := by
  rw [hr]; exact ⟨rfl, rfl, rfl, by simp [RS.askR, ah2, Stp.hi], by simp [RS.askR, ah2, Stp.wr], rfl⟩
 have q1 : Quiet [r] := fun c hc => by
  simp only [List.mem_singleton] at hc; subst hc
  exact ⟨by rw [rw0.1, rw0.2.1]; rfl, rw0.2.2.2.2.2⟩
 have p2 : properB (ah2 k) = true := properB_ask (x := ah2 k) y0_ok (by simp [ah2]) (fun _ => ⟨by unfold Lab.ok; simp [ah2], by simp [ah2]; omega⟩) (by simp [ah2]) (by simp [ah2])
 have b2 : (ah2 k).barred = false := by
  unfold Stp.barred
  simp [ah2, domB_self, sameL_self]
 have nolow : ∀ c ∈ s1.recs, c.who.lab ≠ (0, 0) := fun c hc e => by have := l1.memR hc e; cases this
 have a2 : s1.doT (ah2 k) = s1.took (ah2 k) := by
  rw [doT_live p2 l1.noEnd]
  obtain ⟨m, t1, t2, t3⟩ := l1.txOne uw
  have h2 : s1.waitRec (ah2 k).who = none := l1.noWait q0
  have h3 : s1.isReady (ah2 k).who = false := by
   unfold RS.isReady; rw [show s1.txOf (ah2 k).who = some u from t1]; exact ur
  unfold RS.actT
  rw [if_neg (by simp [ah2]), if_neg (by simp [ah2]), if_neg (by simp [ah2]), if_neg (by rw [h2, h3]; simp), if_neg (by simp [ah2]), if_neg (by rw [show s1.txOf (ah2 k).who = some u from t1]; simp), if_neg (by simp [ah2])]
  unfold RS.askT
  rw [b2, if_neg (by simp), if_neg, if_neg, if_neg]
  ·rw [show s1.hindered (s1.askR (ah2 k)) = false from find_false (fun c hc => by
    unfold hindB
    have : sameL c.who.1 c.who.2.1 (s1.askR (ah2 k)).at_.1 (s1.askR (ah2 k)).at_.2 = false := by
     cases hs : sameL c.who.1 c.who.2.1 (s1.askR (ah2 k)).at_.1 (s1.askR (ah2 k)).at_.2 with
     | false => rfl
     | true => have := sameL_iff.1 hs; exact absurd (Prod.ext this.1 this.2) (nolow c hc)
    rw [this]; simp)]
   simp
  ·have : labN (ah2 k).who s1.recs = 0 := by
    unfold labN
    rw [List.length_eq_zero_iff, List.filter_eq_nil_iff]
    intro c hc hs
    have := sameL_iff.1 hs
    exact nolow c hc (Prod.ext this.1 this.2)
   rw [this, c1]; omega
  ·rw [show s1.recs.any (covP (ah2 k).who (s1.askR (ah2 k))) = false from find_false (fun c hc => by
    unfold covP
    cases hs : sameW c.who.1 c.who.2.1 c.who.2.2 (ah2 k).who.1 (ah2 k).who.2.1 (ah2 k).who.2.2 with
    | false => rfl
    | true =>
     unfold sameW at hs
     simp only [decide_eq_true_eq] at hs
     exact absurd (show c.who.lab = (0, 0) from Prod.ext hs.1 hs.2.1) (nolow c hc))]
   simp
 have A2 : Asking (N + 1) s1 (ah2 k) := by
  obtain ⟨m, t1, t2, t3⟩ := l1.txOne uw
  exact actT_asking F1 (proper_of p2) (by rw [c1]; exact hc') (by simp [ah2]) (by simp [ah2]) (by simp [ah2]) (by simp [ah2]) (by rw [show s1.waitRec (ah2 k).who = none from l1.noWait q0]; rfl) ⟨u, List.mem_of_getElem? t3, uw⟩
 have hcN : ¬ s1.c ≤ (labN (ah2 k).who s1.recs : Int) := by
  have : labN (ah2 k).who s1.recs = 0 := by
   unfold labN
   rw [List.length_eq_zero_iff, List.filter_eq_nil_iff]
   intro c hc hs
   have := sameL_iff.1 hs
   exact nolow c hc (Prod.ext this.1 this.2)
  rw [this, c1]; omega
 have l2a : Lo z0 [u] [r] f77 (s1.addRec r) := by
  refine ⟨l1.txns, ?_, l1.ended, l1.val⟩
  show (s1.recs ++ [r]).filter _ = _
  rw [List.filter_append, l1.recs, List.filter_cons_of_pos (by rw [rw0.1]; rfl)]; rfl
 have l2b : Lo z0 [u] [r] f77 ((s1.addRec r).clearT r) := l2a.clearT q1 r
 have k2b : ((s1.addRec r).clearT r).k = 16 := by
  have := (closed_cfg (fun k v c => k = 16) (ah2 k)).clearT (s1.addRec r) r k1
  exact this
 have F2 : (((s1.addRec r).clearT r).does (ah2 k)).1.Fit (N + 1 + 1) := by rw [hr]; exact A2.doesTook b2 hcN
 have a2' : s1.doT (ah2 k) = ((((s1.addRec r).clearT r).does (ah2 k)).1.againT, (((s1.addRec r).clearT r).does (ah2 k)).2) := by rw [a2, hr]; rfl
 clear a2
 generalize (s1.addRec r).clearT r = s2b at l2b F2 k2b a2'
 obtain ⟨m, t1, t2, t3⟩ := l2b.txOne uw
 have hT : ∀ t ∈ [u], t.olds = [] ∧ t.puts = [] := fun t ht => by simp only [List.mem_singleton] at ht; subst ht; exact ⟨uo, up⟩
 have hfull : s2b.full (ah2 k) = false := by
  unfold RS.full
  have h1 : s2b.takenTo (ah2 k).at_ 16 = 1 := by
   unfold RS.takenTo
   rw [show (fun q : Nat => s2b.taken (ah2 k).at_ (q : Int)) = fun q : Nat => decide (0 ≤ f77 (0, 0) (q : Int)) from funext fun q => l2b.takenB hT q]
   decide
  rw [h1, k2b]; simp
 obtain ⟨u', hu'⟩ : ∃ u', u' = { u.wrote s2b (k : Int) with puts := u.puts ++ [(k : Int)] } := ⟨_, rfl⟩
 have uw' : u'.who = y0 := by rw [hu']; unfold Tx.wrote; split <;> exact uw
 have ur' : u'.ready = false := by rw [hu']; unfold Tx.wrote; split <;> exact ur
 have hd : s2b.does (ah2 k) = (s2b.putT m u k 5, ⟨0, 0, []⟩) := by
  unfold RS.does
  rw [show s2b.txOf (ah2 k).who = some u from t1]
  simp only
  rw [show s2b.live (ah2 k).who = (m : Int) from t2, Int.toNat_natCast]
  unfold RS.job
  rw [if_neg (by simp [ah2]), if_pos (by simp [ah2]), hfull]
  rfl
 have hx0 : ∀ (b : Lab) (q : Int), (s2b.putT m u k 5).val b q = valIx b q (setIx (0, 0) k 5 s2b.places) := fun b q => by
  unfold RS.putT RS.writeT RS.keepOld RS.setP RS.val
  split <;> (rw [uw]; rfl)
 have l2c : Lo z0 [u'] [r] (fun b q => if q = (k : Int) then 5 else f77 b q) (s2b.putT m u k 5) := by
  refine ⟨?_, ?_, ?_, ?_⟩
  ·have hs : (s2b.putT m u k 5).txns = s2b.txns.set m u' := by
    rw [hu']
    unfold RS.putT RS.writeT RS.keepOld RS.setP
    split
    ·rfl
    ·exact List.set_set _
   rw [hs]
   exact filter_set_one (fun t : Tx => z0 t.who.lab) l2b.txns t3 (by rw [uw']; rfl)
  ·have : (s2b.putT m u k 5).recs = s2b.recs := by unfold RS.putT RS.writeT RS.keepOld RS.setP; split <;> rfl
   rw [this]; exact l2b.recs
  ·have : (s2b.putT m u k 5).ended = s2b.ended := by unfold RS.putT RS.writeT RS.keepOld RS.setP; split <;> rfl
   rw [this]; exact l2b.ended
  ·intro b q hb
   have hb' : b = (0, 0) := by simpa [z0] using hb
   rw [hx0]
   subst hb'
   by_cases hq : q = (k : Int)
   ·subst hq; rw [valIx_set_same]; simp
   ·rw [valIx_set_key _ hq, if_neg hq]; exact l2b.val (0, 0) q rfl
 rw [hd] at F2 a2'
 have l2 := l2c.againT F2 q1
 have F2' := F2.againT
 simp only at a2' l2 F2'
 generalize (s2b.putT m u k 5).againT = s2 at a2' l2 F2'
 -- Get
 have p3 : properB (ah3 k) = true := properB_ask (x := ah3 k) y0_ok (by simp [ah3]) (fun _ => ⟨by unfold Lab.ok; simp [ah3], by simp [ah3]; omega⟩) (by simp [ah3]) (by simp [ah3])
 have b3 : (ah3 k).barred = false := by
  unfold Stp.barred
  simp [ah3, domB_self, Stp.wr]
 obtain ⟨m', t1', t2', t3'⟩ := l2.txOne uw'
 have a3 : s2.doT (ah3 k) = (s2, ⟨0, 0, [((k : Int), 5)]⟩) := by
  rw [doT_live p3 l2.noEnd]
  have h2 : s2.waitRec (ah3 k).who = none := l2.noWait q1
  have h3 : s2.isReady (ah3 k).who = false := by
   unfold RS.isReady; rw [show s2.txOf (ah3 k).who = some u' from t1']; exact ur'
  unfold RS.actT
  rw [if_neg (by simp [ah3]), if_neg (by simp [ah3]), if_neg (by simp [ah3]), if_neg (by rw [h2, h3]; simp), if_neg (by simp [ah3]), if_neg (by rw [show s2.txOf (ah3 k).who = some u' from t1']; simp), if_neg (by simp [ah3])]
  unfold RS.askT
  have hcov : s2.recs.any (covP (ah3 k).who (s2.askR (ah3 k))) = true := by
   rw [List.any_eq_true]
   have hm : r ∈ s2.recs := by
    have : r ∈ s2.recs.filter (fun c => z0 c.who.lab) := by rw [l2.recs]; simp
    exact (List.mem_filter.1 this).1
   refine ⟨r, hm, ?_⟩
   unfold covP coverB
   rw [rw0.1, rw0.2.1, rw0.2.2.1, rw0.2.2.2.1, rw0.2.2.2.2.1, rw0.2.2.2.2.2]
   simp [ah3, y0, RS.askR, sameW, sameL, Stp.hi]
  rw [b3, if_neg (by simp), if_pos hcov]
  unfold RS.does
  rw [show s2.txOf (ah3 k).who = some u' from t1']
  unfold RS.job
  simp only
  rw [if_neg (by simp [ah3]), if_neg (by simp [ah3])]
  have hrd : s2.reads ⟨(0, 0, 0), 2, (0, 0), (k : Int), 0, 0⟩ = [((k : Int), 5)] := by
   unfold RS.reads RS.readTo Stp.top
   simp only
   rw [if_neg (by decide), Int.toNat_natCast, show k + 1 - k = 1 by omega]
   have hval : s2.val (0, 0) (k : Int) = 5 := by rw [l2.val (0, 0) k rfl]; simp
   simp [seePick, RS.sees, sameL, hval]
  rw [show s2.reads (ah3 k) = [((k : Int), 5)] from hrd]
 -- Commit
 have p4 : properB ah4 = true := by decide
 have a4 : s2.doT ah4 = ((s2.ends y0 false 0).againT, ⟨0, 0, []⟩) := by
  rw [doT_live p4 l2.noEnd]
  have h2 : s2.waitRec ah4.who = none := l2.noWait q1
  have h3 : s2.isReady ah4.who = false := by
   unfold RS.isReady; rw [show s2.txOf ah4.who = some u' from t1']; exact ur'
  unfold RS.actT
  rw [if_neg (by decide), if_neg (by rw [show s2.txOf ah4.who = some u' from t1']; simp), if_neg (by decide), if_neg (by rw [h2, h3]; simp), if_neg (by decide), if_neg (by rw [show s2.txOf ah4.who = some u' from t1']; simp), if_pos (by decide)]
  rfl
 have l4 : Lo z0 [] [] (fun b q => if q = (k : Int) then 5 else f77 b q) (s2.ends y0 false 0) := by
  unfold RS.ends
  rw [t1']
  refine ⟨?_, ?_, ?_, l2.val⟩
  ·show (s2.txns.filter (fun t => t.who != y0)).filter (fun t => z0 t.who.lab) = []
   rw [List.filter_filter, List.filter_eq_nil_iff]
   intro t ht hq
   simp only [Bool.and_eq_true, bne_iff_ne, ne_eq] at hq
   have := l2.memT ht (by simpa [z0] using hq.1)
   simp only [List.mem_singleton] at this
   exact hq.2 (by rw [this, uw'])
  ·show (s2.recs.filter (fun c => c.who != y0)).filter (fun c => z0 c.who.lab) = []
   rw [List.filter_filter, List.filter_eq_nil_iff]
   intro c hc hq
   simp only [Bool.and_eq_true, bne_iff_ne, ne_eq] at hq
   have := l2.memR hc (by simpa [z0] using hq.1)
   simp only [List.mem_singleton] at this
   exact hq.2 (by rw [this, rw0.1])
  ·intro e he
   exact l2.ended e (by simpa using he)
 have l5 := l4.againT (F2'.ends y0 false 0) q0
 refine ⟨s1, s2, s2, _, e1, a2', a3, a4, ?_⟩
 have hco : ∀ q : Int, (s2.ends y0 false 0).againT.comm (0, 0) q = if q = (k : Int) then 5 else f77 (0, 0) q := fun q => l5.comm (fun t ht => by cases ht) q
 unfold RS.lookTo
 rw [show lookPick (s2.ends y0 false 0).againT (0, 0) = fun q : Nat => if 0 ≤ (if (q : Int) = (k : Int) then 5 else f77 (0, 0) q) then some ((q : Int), (if (q : Int) = (k : Int) then 5 else f77 (0, 0) q)) else none from funext fun q => by unfold lookPick; rw [hco]]
 have hall : ∀ k : Fin 16, (List.range 16).filterMap (fun q : Nat => if 0 ≤ (if (q : Int) = ((k.val : Nat) : Int) then (5 : Int) else f77 (0, 0) q) then some ((q : Int), (if (q : Int) = ((k.val : Nat) : Int) then (5 : Int) else f77 (0, 0) q)) else none) = wantL ((k.val : Nat) : Int) := by decide
 exact hall ⟨k, hk⟩
end Go.Proofs.Ytpbcplfpjcacfaa
namespace Go.Proofs.Ytpbcplfpjcacfaa
open Go.ChangeShapes Go.WideShapes Go.ChangeAt Go.RowKit Go.Joins Go.Deep
set_option maxRecDepth 100000
set_option maxHeartbeats 8000000
theorem bytesStep : Try.prog.bytesOf 30 = 72 := by kernel_rfl
end Go.Proofs.Ytpbcplfpjcacfaa
namespace Go.Proofs.Ytpbcplfpjcacfaa
open Go.RowKit
set_option maxRecDepth 100000
set_option maxHeartbeats 8000000
def Pgm.pair (P : Pgm) (D : P.Doc) : Pgm where
 S := P.S × RS
 Rep := fun w p s own => P.Rep w p s.1 own
 act := fun s x => (((P.act s.1 x).1, (s.2.doT x).1), (s.2.doT x).2)
 look := fun s l => s.2.lookTo l 16
 start := fun k v c => (P.start k v c, st0 k v c)
 Ok := fun N s => P.Ok N s.1 ∧ D.Sim N s.1 s.2 ∧ s.2.Fit N ∧ s.2.c ≤ 32
 old := fun h => P.old h
 frame := fun h => P.frame h
 okStart := fun {k v c} h => ⟨P.okStart h, D.start h, Fit0 k v c, (mayB_t h).2.2.2.2.2⟩
 okAct := fun {N s} x h => ⟨P.okAct x h.1, D.step x h.2.1 h.1, h.2.2.1.doT x h.2.2.2, by rw [(doT_cfg s.2 x).2.2]; exact h.2.2.2⟩
 okMono := fun {N s} h => ⟨P.okMono h.1, D.mono h.2.1, h.2.2.1.mono (Nat.le_succ N), h.2.2.2⟩
 newYes := P.newYes
 newNo := P.newNo
 lookYes := fun {w p s own N} l c hr ho hl => by
  have := P.lookYes l c hr ho.1 hl
  rw [D.look ho.2.1 ho.1 hl] at this
  exact this
 lookNo := fun l c hr ho hl => P.lookNo l c hr ho.1 hl
 doAny := fun {w p s own N} x hr ho hN => by
  have := P.doAny x hr ho.1 hN
  rw [D.ans x ho.2.1 ho.1] at this
  exact this
theorem pair_runs (P : Pgm) (D : P.Doc) : ∀ (l : List Stp) (s : P.S × RS), ((P.pair D).runs s l).2 = s.2.runs l
 | [], _ => rfl
 | x :: l, s => pair_runs P D l ((P.pair D).act s x).1
theorem pair_opens (P : Pgm) (D : P.Doc) {k v c : Int} {y : Wh} (hm : mayB k v c = true) (hy : y.ok) : (P.pair D).Opens ((P.pair D).start k v c) y ∧ ((P.pair D).open3 ((P.pair D).start k v c) y).2 = stC k v c y := by
 have ha : (st0 k v c).doT (op1 y) = _ := open_a hm hy
 have hb : (stA k v c y).doT (op2 y) = _ := open_b hm hy
 have hc : (stB k v c y).doT (op3 y) = _ := open_c hy
 have e1 : ((st0 k v c).doT (op1 y)).1 = stA k v c y := by rw [ha]
 have e2 : ((stA k v c y).doT (op2 y)).1 = stB k v c y := by rw [hb]
 have e3 : ((P.pair D).open3 ((P.pair D).start k v c) y).2 = stC k v c y := by
  show (((((st0 k v c).doT (op1 y)).1).doT (op2 y)).1.doT (op3 y)).1 = _
  rw [e1, e2, hc]
 refine ⟨⟨?_, ?_, ?_, ?_⟩, e3⟩
 ·show ((st0 k v c).doT (op1 y)).2.code = 0
  rw [ha]
 ·show ((((st0 k v c).doT (op1 y)).1).doT (op2 y)).2.code = 0
  rw [e1, hb]
 ·show (((((st0 k v c).doT (op1 y)).1).doT (op2 y)).1.doT (op3 y)).2.code = 0
  rw [e1, e2, hc]
 ·show ((P.pair D).open3 ((P.pair D).start k v c) y).2.lookTo y.lab 16 = [(7, 77)]
  rw [e3]; exact open_l k v c y
end Go.Proofs.Ytpbcplfpjcacfaa
namespace Go.Proofs.Ytpbcplfpjcacfaa
open Go.ChangeShapes Go.WideShapes Go.ChangeAt Go.RowKit Go.Joins Go.Deep
set_option maxRecDepth 100000
set_option maxHeartbeats 8000000
theorem i64B_of {n : Int} (h : (Lit.int .i64 n).wf = true) : i64B n := by
 unfold Lit.wf at h
 simp only [Bool.and_eq_true, decide_eq_true_eq] at h
 exact h
section
variable {H : Type} {enc : TypeId × Value → H} {w : World} {base b0 : Nat} {spare : Nat → Bool} {held : Bool} {r : Reach} {v : Value} {d : DataW H} {p : List MemPlace}
theorem open_configB (hv : Value.okWide Try.prog w r b0 23 v) (h : DataW.Trod enc Try.prog w base spare held 23 v d p) :
  ∃ a b c : Int, v = .agg #[.int .i64 a, .int .i64 b, .int .i64 c] ∧ i64B a ∧ i64B b ∧ i64B c := by
 obtain ⟨c0, c1, c2, y0, y1, y2, m, rfl, rfl, rfl, hy0, hy1, hy2⟩ := open_agg3 Try.underlying23 (by kernel_rfl) cellsConfig hv h
 obtain ⟨a, e0, rfl, wa⟩ := DataW.trod_int Try.underlying3 hy0
 obtain ⟨b, e1, rfl, wb⟩ := DataW.trod_int Try.underlying3 hy1
 obtain ⟨c, e2, rfl, wc⟩ := DataW.trod_int Try.underlying3 hy2
 simp at e0 e1 e2
 exact ⟨a, b, c, by rw [e0, e1, e2], i64B_of wa, i64B_of wb, i64B_of wc⟩
theorem open_steps (hv : Value.okWide Try.prog w r b0 59 v) (h : DataW.Trod enc Try.prog w base spare held 59 v d p) :
  ∃ l : List Stp, isSteps w v l ∧ (d = .nil ∧ l = [] ∨ ∃ es s, d = .slice es s ∧ es.length = l.length) := by
 obtain ⟨a0, len, cap, rfl⟩ := okWide_slice Try.underlying59 hv
 obtain ⟨fuel, hf⟩ := h
 have : Inhabited Stp := ⟨zeroStp⟩
 obtain ⟨ao, cp, l, h1, h2, h3, h4⟩ := open_rows stepC Try.underlying59 cellsStep (by decide) (fun _ _ _ h => trod_step h) hf
 exact ⟨l, ⟨ao, cp, h1, h2, h3⟩, h4⟩
theorem open_intB (hv : Value.okWide Try.prog w r b0 3 v) (h : DataW.Trod enc Try.prog w base spare held 3 v d p) : ∃ a : Int, v = .int .i64 a ∧ i64B a := by
 obtain ⟨n, rfl, _, _, hw⟩ := Go.ChangeShapes.open_int Try.underlying3 hv h
 exact ⟨n, rfl, i64B_of hw⟩
end
end Go.Proofs.Ytpbcplfpjcacfaa
namespace Go.Proofs.Ytpbcplfpjcacfaa
open Go.ChangeShapes Go.WideShapes Go.ChangeAt Go.RowKit Go.Joins Go.Deep
set_option linter.unusedVariables false
set_option maxRecDepth 100000
set_option maxHeartbeats 8000000
theorem lo_runs {N : Nat} {T : List Tx} {R : List Rc} {f : Lab → Int → Int} (hR : Quiet R) : ∀ (l : List Stp) (st : RS) (M : Nat), st.Fit M → st.c ≤ 32 → Lo z0 T R f st → (∀ x ∈ l, z0 x.who.lab = false) → Lo z0 T R f (st.runs l)
 | [], _, _, _, _, h, _ => h
 | x :: l, st, M, F, hc, h, hx => lo_runs (N := N) hR l _ (M + 1) (F.doT x hc) (by rw [(doT_cfg st x).2.2]; exact hc) (h.doT F hc hR (hx x (by simp))) (fun y hy => hx y (List.mem_cons_of_mem _ hy))
theorem runs_cfg : ∀ (l : List Stp) (st : RS), (st.runs l).k = st.k ∧ (st.runs l).v = st.v ∧ (st.runs l).c = st.c
 | [], _ => ⟨rfl, rfl, rfl⟩
 | x :: l, st => by
  obtain ⟨h1, h2, h3⟩ := runs_cfg l (st.doT x).1
  obtain ⟨g1, g2, g3⟩ := doT_cfg st x
  exact ⟨h1.trans g1, h2.trans g2, h3.trans g3⟩
theorem ahead_true (P : Pgm) (D : P.Doc) {k v c key : Int} (hk : i64B k) (hv : i64B v) (hc : i64B c) (hkey : i64B key) {sv : Value} {script : List Stp} {w : World} (hsc : isSteps w sv script) (hlen : script.length + 20 < 4398046511104) :
  Calls Try.prog 14 #[.agg #[.int .i64 k, .int .i64 v, .int .i64 c], sv, .int .i64 key] w fun e w' => e = .returned (.bool true) ∧ Below w.heap.size w w' := by
 obtain ⟨v1, v2⟩ := pickZ_range (c := v) (n := 4) (by decide)
 obtain ⟨c1, c2⟩ := pickZ_range (c := c) (n := 32) (by decide)
 have hmay : mayB 16 (1 + pickZ v 4) (1 + pickZ c 32) = true := by
  unfold mayB
  exact decide_eq_true (by omega)
 obtain ⟨ho, he⟩ := pair_opens P D hmay y0_ok
 refine ahead_walk (P.pair D) k v c key sv script w hk hv hc hkey hsc hlen _ rfl ho ?_
 have hO := (P.pair D).open3_ok (0, 0, 0) ((P.pair D).okStart hmay)
 have hOr := (P.pair D).runs_ok (script.filter hiB) hO
 have hp := pair_runs P D (script.filter hiB) ((P.pair D).open3 ((P.pair D).start 16 (1 + pickZ v 4) (1 + pickZ c 32)) (0, 0, 0))
 have he' : ((P.pair D).open3 ((P.pair D).start 16 (1 + pickZ v 4) (1 + pickZ c 32)) (0, 0, 0)).2 = stC 16 (1 + pickZ v 4) (1 + pickZ c 32) y0 := he
 have hF := hO.2.2.1
 rw [he'] at hp hF
 have hL0 : Lo z0 [] [] f77 (stC 16 (1 + pickZ v 4) (1 + pickZ c 32) y0) := by
  refine ⟨by simp [stC], by simp [stC], by simp [stC], fun a q ha => ?_⟩
  have ha' : a = (0, 0) := by simpa [z0] using ha
  subst ha'
  unfold RS.val f77
  by_cases hq : q = 7
  ·subst hq; simp [stC, valIx, y0, Wh.lab]
  ·have : ¬ (7 : Int) = q := fun e => hq e.symm
   simp [stC, valIx, hq, this]
 have hL := lo_runs (N := 0) (fun c hc => by cases hc) (script.filter hiB) _ _ hF (show (1 + pickZ c 32 : Int) ≤ 32 by omega) hL0 (fun x hx => by
  have := (List.mem_filter.1 hx).2
  unfold hiB at this
  unfold z0 Wh.lab
  simp at this ⊢
  omega)
 have hFr := hOr.2.2.1
 have hcf := runs_cfg (script.filter hiB) (stC 16 (1 + pickZ v 4) (1 + pickZ c 32) y0)
 generalize (P.pair D).runs ((P.pair D).open3 ((P.pair D).start 16 (1 + pickZ v 4) (1 + pickZ c 32)) (0, 0, 0)) (script.filter hiB) = sL at *
 rw [← hp] at hL hcf
 obtain ⟨y1, y2⟩ := pickZ_range (c := key) (n := 16) (by decide)
 obtain ⟨q, hq⟩ : ∃ q : Nat, pickZ key 16 = (q : Int) := ⟨(pickZ key 16).toNat, by omega⟩
 rw [hq]
 obtain ⟨s1, s2, s3, s4, a1, a2, a3, a4, a5⟩ := ahead_steps (k := q) (by omega) hL hFr hcf.1 (by rw [hcf.2.1]; show 1 ≤ 1 + pickZ v 4; omega) (by rw [hcf.2.2]; show 1 ≤ 1 + pickZ c 32; omega) (by rw [hcf.2.2]; show 1 + pickZ c 32 ≤ 32; omega)
 have e1 : (sL.2.doT ah1).1 = s1 := by rw [a1]
 have e2 : (s1.doT (ah2 q)).1 = s2 := by rw [a2]
 have e3 : (s2.doT (ah3 q)).1 = s3 := by rw [a3]
 have e4 : (s3.doT ah4).1 = s4 := by rw [a4]
 refine ⟨?_, ?_, ?_, ?_, ?_, ?_⟩
 ·show (sL.2.doT ah1).2.code = 0
  rw [a1]
 ·show ((sL.2.doT ah1).1.doT (ah2 q)).2.code = 0
  rw [e1, a2]
 ·show (((sL.2.doT ah1).1.doT (ah2 q)).1.doT (ah3 q)).2.code = 0
  rw [e1, e2, a3]
 ·show ((((sL.2.doT ah1).1.doT (ah2 q)).1.doT (ah3 q)).1.doT ah4).2.code = 0
  rw [e1, e2, e3, a4]
 ·show (((sL.2.doT ah1).1.doT (ah2 q)).1.doT (ah3 q)).2.items = _
  rw [e1, e2, a3]
 ·show ((((sL.2.doT ah1).1.doT (ah2 q)).1.doT (ah3 q)).1.doT ah4).1.lookTo (0, 0) 16 = _
  rw [e1, e2, e3, e4]; exact a5
theorem ahead_lifted (P : Pgm) (D : P.Doc) (os : Os) (started : os.Started) (H : Type) (enc : TypeId × Value → H) :
  ReturnsInHanded {} Try.checked os 14 .any (Rows.aheadSpec.pre6 enc Try.prog Try.f14 Rows.aheadRow.domain false) (Rows.aheadSpec.post enc Try.prog Try.f14 false true false false) := by
 refine returnsInHanded_of_change_sized (C := Try.checked) tryOwn started (by kernel_rfl) Try.func14
  (ChangeSpec.witness6 (enc := enc) (C := Try.checked) false ⟨#[], #[.agg #[.int .i64 0, .int .i64 0, .int .i64 0], .slice none 0 0, .int .i64 0], []⟩ 8 (by kernel_rfl) (by kernel_rfl) (by kernel_rfl) (by kernel_rfl)) ?_
 intro W base args ds gs before hval0 hW hcnd hsz0 _
 have hsz : (DataW.weightsEach Try.prog (Try.f14.params.toList ++ Rows.aheadSpec.plain.varTypes Try.prog) (ds ++ gs)).all (· ≤ reachBytes) = true := hsz0
 have hval : ∀ (j : Nat) t v, Try.f14.params[j]? = some t → args[j]? = some v → Value.okWide Try.prog W .any base t v := hval0
 have hW' := hW
 obtain ⟨p, q, hA0, hV, rfl, hfz, hnd⟩ := hW
 have hA : DataW.TrodAll enc Try.prog W 0 (fun _ => true) true Try.f14.params.toList args.toList ds p := hA0
 rw [Try.params14] at hA hval hsz
 obtain ⟨v0, vs0, d0, ds0, p0, q0, hargs, rfl, rfl, h0, r0⟩ := trodAll_cons hA
 obtain ⟨v1, vs1, d1, ds1, p1, q1, rfl, rfl, rfl, h1, r1⟩ := trodAll_cons r0
 obtain ⟨v2, vs2, d2, ds2, p2, q2, rfl, rfl, rfl, h2, r2⟩ := trodAll_cons r1
 obtain ⟨rfl, rfl, rfl⟩ := trodAll_nil r2
 obtain rfl : args = #[v0, v1, v2] := by cases args; simp_all
 obtain ⟨rfl, rfl⟩ := trodVars_none hV
 have lt0 : ∀ x ∈ p0, x.block < W.heap.size := by obtain ⟨m, hm⟩ := h0; exact DataW.trod_lt m _ _ _ hm
 have lt1 : ∀ x ∈ p1, x.block < W.heap.size := by obtain ⟨m, hm⟩ := h1; exact DataW.trod_lt m _ _ _ hm
 have lt2 : ∀ x ∈ p2, x.block < W.heap.size := by obtain ⟨m, hm⟩ := h2; exact DataW.trod_lt m _ _ _ hm
 obtain ⟨a, b, c, rfl, ia, ib, ic⟩ := open_configB (hval 0 23 v0 rfl rfl) h0
 obtain ⟨script, hsc, hd1⟩ := open_steps (hval 1 59 v1 rfl rfl) h1
 obtain ⟨key, rfl, iky⟩ := open_intB (hval 2 3 v2 rfl rfl) h2
 have hlen : script.length * 72 ≤ 140737488351232 := by
  rcases hd1 with ⟨rfl, rfl⟩ | ⟨es, s, rfl, e⟩
  ·simp
  ·have := sized_slice hsz (j := 1) (t := 59) (e := 30) rfl rfl Try.underlying59
   rw [bytesStep, e] at this
   simp only [reachBytes] at this
   have h2 : script.length * 72 ≤ (script.length + s.length) * 72 := Nat.mul_le_mul_right _ (Nat.le_add_right _ _)
   omega
 clear hA0 hval0
 refine (ahead_true P D ia ib ic iky hsc (by omega)).mono fun e W' ⟨he, bel⟩ => ?_
 subst he
 exact ⟨_, rfl, _, _, _, [], _, [], hW', trodAll_mk1 (shut_bool Try.underlying4 _), (trodAll_cons_mk (Below.trod tryLaid (by kernel_rfl) (of_decide_eq_true (by kernel_rfl)) h0 bel lt0) (trodAll_cons_mk (Below.trod tryLaid (by kernel_rfl) (of_decide_eq_true (by kernel_rfl)) h1 bel lt1) (trodAll_cons_mk (Below.trod tryLaid (by kernel_rfl) (of_decide_eq_true (by kernel_rfl)) h2 bel lt2) trodAll_mk0))), rfl, bel.frame _, fun h => by cases h⟩
theorem ahead_over (P : Pgm) (D : P.Doc) : Rows.aheadRow.holds Try.pinned (OpenSpec.ofChange Rows.aheadSpec) :=
 OpenClaim.holds_of_wide 14 Try.f14 rfl rfl rfl rfl rfl rfl rfl ⟨rfl, rfl, rfl, rfl, rfl⟩ rfl rfl rfl rfl rfl (by kernel_rfl) Try.func14 (by kernel_rfl)
  (of_decide_eq_true (by kernel_rfl)) (by unfold Func.isWrapper; first | (rw [if_pos (by decide +kernel)]; kernel_rfl) | (rw [if_neg (by decide +kernel)]; exact ⟨rfl, rfl⟩))
  (fun os started H enc _ => ahead_lifted P D os started H enc)
theorem ahead_said (P : Pgm) (D : P.Doc) : Rows.AheadSaid := ahead_over P D
theorem ahead_holds : Rows.AheadSaid := ahead_said thePgm theDoc
#print axioms ahead_holds
end Go.Proofs.Ytpbcplfpjcacfaa
