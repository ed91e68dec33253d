import Derived.Test.YtpbcplfpjcacfaaB04
namespace Go.Proofs.Ytpbcplfpjcacfaa
open Go.RowKit
set_option maxRecDepth 100000
set_option maxHeartbeats 8000000
def RS.free (st : RS) (c : Rc) : Bool := c.waits && !st.hindered c
def RS.better (st : RS) (b : Option Nat) (c : Rc) : Bool := match b with
 | none => true
 | some j => match st.recs[j]? with
  | none => true
  | some d => aheadB c d
def RS.bestTo (st : RS) : Nat → Option Nat
 | 0 => none
 | k + 1 => match st.recs[k]? with
  | none => st.bestTo k
  | some c => if st.free c && st.better (st.bestTo k) c then some k else st.bestTo k
theorem bestTo_succ {st : RS} {k : Nat} {c : Rc} (h : st.recs[k]? = some c) : st.bestTo (k + 1) = if st.free c && st.better (st.bestTo k) c then some k else st.bestTo k := by
 rw [RS.bestTo, h]
theorem bestTo_at {st : RS} : ∀ {k j : Nat}, st.bestTo k = some j → j < k ∧ ∃ c, st.recs[j]? = some c ∧ st.free c = true
 | 0, j, h => by cases h
 | k + 1, j, h => by
  rw [RS.bestTo] at h
  cases hc : st.recs[k]? with
  | none => rw [hc] at h; obtain ⟨a, b⟩ := bestTo_at h; exact ⟨by omega, b⟩
  | some c =>
   rw [hc] at h
   simp only at h
   split at h
   ·rename_i hb
    cases h
    simp only [Bool.and_eq_true] at hb
    exact ⟨by omega, c, hc, hb.1⟩
   ·obtain ⟨a, b⟩ := bestTo_at h; exact ⟨by omega, b⟩
def Rc.off (c : Rc) : Rc := { c with waits := false }
def RS.offAt (st : RS) (j : Nat) (c : Rc) : RS := { st with recs := st.recs.set j c.off }
def RS.does (st : RS) (x : Stp) : RS × Ans := match st.txOf x.who with
 | none => (st, ⟨0, 0, []⟩)
 | some t => st.job (st.live x.who).toNat t x
def RS.tell (st : RS) (x : Wh) (a : Ans) : RS := { st with txns := st.txns.map (fun t => if t.who == x then { t with ready := true, told := a } else t) }
def RS.stepOf (st : RS) (x : Wh) : Stp := match st.txOf x with
 | none => zeroStp
 | some t => t.step
def RS.granted (st : RS) (j : Nat) (c : Rc) : RS := (st.offAt j c).clearT c.off
def RS.grant (st : RS) (j : Nat) (c : Rc) : RS :=
 ((st.granted j c).does ((st.granted j c).stepOf c.who)).1.tell c.who ((st.granted j c).does ((st.granted j c).stepOf c.who)).2
def RS.waitN (st : RS) : Nat := (st.recs.filter (·.waits)).length
def RS.againN : Nat → RS → RS
 | 0, st => st
 | f + 1, st => match st.bestTo st.recs.length with
  | none => st
  | some j => match st.recs[j]? with
   | none => st
   | some c => RS.againN f (st.grant j c)
def RS.againT (st : RS) : RS := RS.againN st.waitN st
theorem does_at {st : RS} {x : Stp} {n : Nat} {t : Tx} (hu : st.uniq) (hn : st.txns[n]? = some t) (ht : t.who = x.who) : st.does x = st.job n t x := by
 unfold RS.does
 rw [txOf_at hu hn ht]
 simp only
 rw [live_at hn ht hu]; rfl
theorem tell_at {st : RS} {x : Wh} {n : Nat} {t : Tx} (a : Ans) (hu : st.uniq) (hn : st.txns[n]? = some t) (ht : t.who = x) : st.tell x a = { st with txns := st.txns.set n { t with ready := true, told := a } } := by
 unfold RS.tell
 congr 1
 refine List.ext_getElem? fun m => ?_
 rw [List.getElem?_map]
 by_cases hmn : n = m
 ·subst hmn
  rw [List.getElem?_set_self (List.getElem?_eq_some_iff.1 hn).1, hn]; simp [ht]
 ·rw [List.getElem?_set_ne hmn]
  cases hq : st.txns[m]? with
  | none => rfl
  | some u =>
   have hw : u.who ≠ x := fun e => hmn (hu n m t u hn hq (by rw [ht, e]))
   simp [hw]
theorem stepOf_at {st : RS} {x : Wh} {n : Nat} {t : Tx} (hu : st.uniq) (hn : st.txns[n]? = some t) (ht : t.who = x) : st.stepOf x = t.step := by
 unfold RS.stepOf; rw [txOf_at hu hn ht]
theorem off_mem {l : List Rc} {j : Nat} {c y : Rc} (h : y ∈ l.set j c.off) : y = c.off ∨ y ∈ l := (List.mem_or_eq_of_mem_set h).symm
theorem off_who {l : List Rc} {j : Nat} {c : Rc} (hj : l[j]? = some c) : (l.set j c.off).map (·.who) = l.map (·.who) := by
 rw [List.map_set]
 refine List.ext_getElem? fun m => ?_
 by_cases hmj : j = m
 ·subst hmj
  rw [List.getElem?_set_self (by simpa using (List.getElem?_eq_some_iff.1 hj).1), List.getElem?_map, hj]; rfl
 ·rw [List.getElem?_set_ne hmj]
theorem off_sub {c : Rc} : ∀ {l : List Rc} {j : Nat}, ((l.set j c.off).filter (·.waits)).Sublist (l.filter (·.waits))
 | [], j => by simp
 | a :: l, 0 => by
  rw [List.set_cons_zero, List.filter_cons_of_neg (by simp [Rc.off]), List.filter_cons]
  split
  ·exact List.sublist_cons_self _ _
  ·exact List.Sublist.refl _
 | a :: l, j + 1 => by
  rw [List.set_cons_succ, List.filter_cons, List.filter_cons]
  split
  ·exact (off_sub (l := l) (j := j)).cons_cons _
  ·exact off_sub
theorem off_lt {c : Rc} (hw : c.waits = true) : ∀ {l : List Rc} {j : Nat}, l[j]? = some c → ((l.set j c.off).filter (·.waits)).length < (l.filter (·.waits)).length
 | [], j, h => by simp at h
 | a :: l, 0, h => by
  simp at h; subst h
  rw [List.set_cons_zero, List.filter_cons_of_neg (by simp [Rc.off]), List.filter_cons_of_pos (by simpa using hw)]; simp
 | a :: l, j + 1, h => by
  have h' : l[j]? = some c := by simpa using h
  have := off_lt hw h'
  rw [List.set_cons_succ, List.filter_cons, List.filter_cons]
  split
  ·simpa using this
  ·exact this
theorem RS.Fit.offAt {N : Nat} {st : RS} (F : st.Fit N) {j : Nat} {c : Rc} (hj : st.recs[j]? = some c) : (st.offAt j c).Fit N := by
 have hcm := List.mem_of_getElem? hj
 refine { F with backed := ?_, recAt := ?_, recN := ?_, waits := ?_, waitsU := ?_, puts := ?_ }
 ·intro y hy
  rcases off_mem hy with rfl | h
  ·exact F.backed c hcm
  ·exact F.backed y h
 ·intro y hy
  rcases off_mem hy with rfl | h
  ·exact F.recAt c hcm
  ·exact F.recAt y h
 ·intro a
  have e : ∀ l : List Rc, (l.filter (fun c => labCode c.who.lab == a)).length = ((l.map (·.who)).filter (fun x => labCode x.lab == a)).length := fun l => by
   rw [List.filter_map, List.length_map]; rfl
  show ((st.recs.set j c.off).filter _).length ≤ _
  rw [e, off_who hj, ← e]; exact F.recN a
 ·intro y hy hw t ht e
  rcases off_mem hy with rfl | h
  ·cases hw
  ·exact F.waits y h hw t ht e
 ·exact F.waitsU.sublist (off_sub.map _)
 ·intro t ht
  obtain ⟨h1, h2⟩ := F.puts t ht
  refine ⟨h1, fun ⟨y, hy, h3, h4⟩ => ?_⟩
  rcases off_mem hy with rfl | h
  ·cases h4
  ·exact h2 ⟨y, h, h3, h4⟩
theorem off_nowait {N : Nat} {st : RS} (F : st.Fit N) {j : Nat} {c : Rc} (hj : st.recs[j]? = some c) (hw : c.waits = true) : ∀ y ∈ (st.offAt j c).recs, y.who = c.who → y.waits = false := by
 intro y hy e
 obtain ⟨m, hm⟩ := List.mem_iff_getElem?.1 hy
 change (st.recs.set j c.off)[m]? = some y at hm
 by_cases hmj : j = m
 ·subst hmj
  rw [List.getElem?_set_self (List.getElem?_eq_some_iff.1 hj).1] at hm
  rw [← Option.some.inj hm]; rfl
 ·rw [List.getElem?_set_ne hmj] at hm
  cases hyw : y.waits with
  | false => rfl
  | true =>
   exfalso
   have h := F.waitsU
   unfold List.Nodup at h
   rw [List.pairwise_map, List.pairwise_filter, List.pairwise_iff_getElem] at h
   obtain ⟨a1, a2⟩ := List.getElem?_eq_some_iff.1 hj
   obtain ⟨b1, b2⟩ := List.getElem?_eq_some_iff.1 hm
   rcases Nat.lt_or_ge j m with hlt | hge
   ·exact h j m a1 b1 hlt (by rw [a2]; exact hw) (by rw [b2]; exact hyw) (by rw [a2, b2]; exact e.symm)
   ·exact h m j b1 a1 (by omega) (by rw [b2]; exact hyw) (by rw [a2]; exact hw) (by rw [a2, b2]; exact e)
theorem ends_sub (st : RS) (x : Wh) (back : Bool) (why : Int) : (st.ends x back why).recs.Sublist st.recs := by
 unfold RS.ends
 cases st.txOf x with
 | none => exact List.Sublist.refl _
 | some t => exact List.filter_sublist
theorem ends_keep {st : RS} {x : Wh} {back : Bool} {why : Int} {t : Tx} (ht : t ∈ st.txns) (hx : t.who ≠ x) : t ∈ (st.ends x back why).txns := by
 unfold RS.ends
 cases st.txOf x with
 | none => exact ht
 | some u => exact List.mem_filter.2 ⟨ht, by simpa using hx⟩
theorem clearN_sub {rc : Rc} : ∀ (f : Nat) (st : RS), (RS.clearN rc f st).recs.Sublist st.recs
 | 0, _ => List.Sublist.refl _
 | f + 1, st => by
  unfold RS.clearN
  cases h : st.recs.find? (clrP rc) with
  | none => exact List.Sublist.refl _
  | some a => exact (clearN_sub f _).trans (ends_sub _ _ _ _)
theorem clearN_keep {rc : Rc} {t : Tx} : ∀ (f : Nat) (st : RS), t ∈ st.txns → (∀ y ∈ st.recs, clrP rc y = true → y.who ≠ t.who) → t ∈ (RS.clearN rc f st).txns
 | 0, _, h, _ => h
 | f + 1, st, h, hc => by
  unfold RS.clearN
  cases hf : st.recs.find? (clrP rc) with
  | none => exact h
  | some a =>
   have ha := List.mem_of_find?_eq_some hf
   have hp := List.find?_some hf
   exact clearN_keep f _ (ends_keep h (fun e => hc a ha hp e.symm)) (fun y hy => hc y ((ends_sub _ _ _ _).mem hy))
theorem clearT_sub (st : RS) (rc : Rc) : (st.clearT rc).recs.Sublist st.recs := by
 unfold RS.clearT; split
 ·exact clearN_sub _ _
 ·exact List.Sublist.refl _
theorem clearT_keep {st : RS} {rc : Rc} {t : Tx} (h : t ∈ st.txns) (hc : rc.write = true → ∀ y ∈ st.recs, clrP rc y = true → y.who ≠ t.who) : t ∈ (st.clearT rc).txns := by
 unfold RS.clearT; split
 ·rename_i hw; exact clearN_keep _ _ h (hc hw)
 ·exact h
structure Granting (N : Nat) (st : RS) (j : Nat) (c : Rc) (n : Nat) (t : Tx) : Prop where
 fit : (st.granted j c).Fit N
 at_ : (st.granted j c).txns[n]? = some t
 who : t.who = c.who
 mem : t ∈ st.txns
 asks : t.step.asks c
 puts : t.puts.length + 1 ≤ N
 nowait : ¬ ∃ y ∈ (st.granted j c).recs, y.who = t.who ∧ y.waits = true
 live : (st.granted j c).live c.who = (n : Int)
theorem granting {N : Nat} {st : RS} (F : st.Fit N) {j : Nat} {c : Rc} (hj : st.recs[j]? = some c) (hw : c.waits = true) : ∃ n t, Granting N st j c n t := by
 have hcm := List.mem_of_getElem? hj
 obtain ⟨t, htm, hwho⟩ := F.backed c hcm
 have hask := F.waits c hcm hw t htm hwho
 have F1 := (F.offAt hj).clearT c.off
 have hkeep : t ∈ (st.granted j c).txns := clearT_keep htm (fun hwr y hy hp e => by
  have hl : c.at_ = c.who.lab := by
   obtain ⟨h1, h2, _, _, _, _, h7⟩ := hask
   rw [← h2, h7 hwr, h1]
  have : sameL y.who.1 y.who.2.1 c.at_.1 c.at_.2 = true := by
   rw [hl, e, hwho]; simp [sameL, Wh.lab]
  unfold clrP at hp
  rw [show c.off.at_ = c.at_ from rfl, this] at hp
  simp at hp)
 obtain ⟨n, hn⟩ := List.mem_iff_getElem?.1 hkeep
 refine ⟨n, t, F1, hn, hwho, htm, hask, (F.puts t htm).2 ⟨c, hcm, hwho.symm, hw⟩, ?_, live_at hn hwho F1.uniq⟩
 rintro ⟨y, hy, h1, h2⟩
 have := off_nowait F hj hw y ((clearT_sub _ _).mem hy) (by rw [h1, hwho])
 rw [h2] at this; cases this
theorem Granting.grant {N : Nat} {st : RS} {j : Nat} {c : Rc} {n : Nat} {t : Tx} (G : Granting N st j c n t) :
  ∃ u, ((st.granted j c).job n t t.step).1.txns[n]? = some u ∧ u.who = c.who ∧ st.grant j c = { ((st.granted j c).job n t t.step).1 with txns := ((st.granted j c).job n t t.step).1.txns.set n { u with ready := true, told := ((st.granted j c).job n t t.step).2 } } := by
 have hs : (st.granted j c).stepOf c.who = t.step := stepOf_at G.fit.uniq G.at_ G.who
 have hd : (st.granted j c).does t.step = (st.granted j c).job n t t.step := does_at G.fit.uniq G.at_ (by rw [G.who, G.asks.1])
 have FJ := G.fit.job G.at_ G.asks.2.2.1 G.puts G.nowait
 obtain ⟨u, hu, hw, _⟩ := job_at (x := t.step) G.at_
 have hun : ((st.granted j c).job n t t.step).1.txns[n]? = some u := by
  rw [hu, List.getElem?_set_self (List.getElem?_eq_some_iff.1 G.at_).1]
 refine ⟨u, hun, by rw [hw, G.who], ?_⟩
 unfold RS.grant
 rw [hs, hd]
 exact tell_at _ FJ.uniq hun (by rw [hw, G.who])
theorem RS.Fit.told {N : Nat} {st : RS} (F : st.Fit N) {n : Nat} {t : Tx} (hn : st.txns[n]? = some t) (b : Bool) (a : Ans) : ({ st with txns := st.txns.set n { t with ready := b, told := a } } : RS).Fit N := by
 have htm := List.mem_of_getElem? hn
 exact F.setTxn hn (u := { t with ready := b, told := a }) rfl (F.olds t htm) (F.oldsN t htm) (fun c hc hw e => F.waits c hc hw t htm e) (F.puts t htm)
theorem RS.Fit.grant {N : Nat} {st : RS} (F : st.Fit N) {j : Nat} {c : Rc} (hj : st.recs[j]? = some c) (hw : c.waits = true) : (st.grant j c).Fit N := by
 obtain ⟨n, t, G⟩ := granting F hj hw
 obtain ⟨u, hu, _, e⟩ := G.grant
 rw [e]
 exact (G.fit.job G.at_ G.asks.2.2.1 G.puts G.nowait).told hu true _
theorem grant_waitN {N : Nat} {st : RS} (F : st.Fit N) {j : Nat} {c : Rc} (hj : st.recs[j]? = some c) (hw : c.waits = true) : (st.grant j c).waitN < st.waitN := by
 obtain ⟨n, t, G⟩ := granting F hj hw
 obtain ⟨u, hu, _, e⟩ := G.grant
 unfold RS.waitN
 rw [e]
 show (((st.granted j c).job n t t.step).1.recs.filter (·.waits)).length < _
 rw [(job_same _ _ _ _).1]
 exact Nat.lt_of_le_of_lt (((clearT_sub (st.offAt j c) c.off).filter _).length_le) (off_lt hw hj)
theorem free_waits {st : RS} {c : Rc} (h : st.free c = true) : c.waits = true := by
 unfold RS.free at h; simp only [Bool.and_eq_true] at h; exact h.1
theorem best_cases (st : RS) : st.bestTo st.recs.length = none ∨ ∃ j c, st.bestTo st.recs.length = some j ∧ st.recs[j]? = some c ∧ st.free c = true := by
 cases h : st.bestTo st.recs.length with
 | none => exact .inl rfl
 | some j =>
  obtain ⟨_, c, hc, hf⟩ := bestTo_at h
  exact .inr ⟨j, c, rfl, hc, hf⟩
theorem againN_none {st : RS} (h : st.bestTo st.recs.length = none) : ∀ f, RS.againN f st = st
 | 0 => rfl
 | f + 1 => by unfold RS.againN; rw [h]
theorem againN_step {st : RS} {j : Nat} {c : Rc} (h : st.bestTo st.recs.length = some j) (hj : st.recs[j]? = some c) (f : Nat) : RS.againN (f + 1) st = RS.againN f (st.grant j c) := by
 rw [RS.againN, h]; simp only; rw [hj]
theorem waitN_pos {st : RS} {j : Nat} {c : Rc} (hj : st.recs[j]? = some c) (hw : c.waits = true) : 0 < st.waitN := by
 unfold RS.waitN
 exact List.length_pos_of_mem (List.mem_filter.2 ⟨List.mem_of_getElem? hj, hw⟩)
theorem againN_more {N : Nat} : ∀ (f g : Nat) (st : RS), st.Fit N → st.waitN ≤ f → st.waitN ≤ g → RS.againN f st = RS.againN g st := by
 intro f
 induction f with
 | zero =>
  intro g st F hf hg
  rcases best_cases st with h | ⟨j, c, h, hj, hfr⟩
  ·rw [againN_none h, againN_none h]
  ·have := waitN_pos hj (free_waits hfr); omega
 | succ f ih =>
  intro g st F hf hg
  rcases best_cases st with h | ⟨j, c, h, hj, hfr⟩
  ·rw [againN_none h, againN_none h]
  ·have hlt := grant_waitN F hj (free_waits hfr)
   match g, hg with
   | 0, hg => omega
   | g + 1, hg =>
    rw [againN_step h hj, againN_step h hj]
    exact ih g _ (F.grant hj (free_waits hfr)) (by omega) (by omega)
theorem againN_fit {N : Nat} : ∀ (f : Nat) (st : RS), st.Fit N → (RS.againN f st).Fit N
 | 0, _, F => F
 | f + 1, st, F => by
  rcases best_cases st with h | ⟨j, c, h, hj, hfr⟩
  ·rw [againN_none h]; exact F
  ·rw [againN_step h hj]; exact againN_fit f _ (F.grant hj (free_waits hfr))
theorem RS.Fit.againT {N : Nat} {st : RS} (F : st.Fit N) : st.againT.Fit N := againN_fit _ _ F
theorem againT_step {N : Nat} {st : RS} (F : st.Fit N) {j : Nat} {c : Rc} (h : st.bestTo st.recs.length = some j) (hj : st.recs[j]? = some c) (hf : st.free c = true) : st.againT = (st.grant j c).againT := by
 unfold RS.againT
 have hlt := grant_waitN F hj (free_waits hf)
 obtain ⟨m, hm⟩ : ∃ m, st.waitN = m + 1 := ⟨st.waitN - 1, by omega⟩
 rw [hm, againN_step h hj]
 exact againN_more _ _ _ (F.grant hj (free_waits hf)) (by omega) (Nat.le_refl _)
theorem Chg.cell {own : Own} {w : World} {b j : Nat} {t : Tag} {v : Value} (h : own b = some t) : Chg own w (w.setCell ⟨b, j, none⟩ v) own :=
 ⟨rfl, rfl, rfl, by simp, fun k _ hn => heap_setCell_ne _ _ _ _ _ (fun e => by rw [e, h] at hn; cases hn), fun _ _ h => h, fun _ h => .inl h⟩
theorem ownNew_ext {own : Own} {v : Value} {tag : Tag} (hv : ∀ b, v.ownBlock = some b → own b = none) : ∀ k t, own k = some t → ownNew own v tag k = some t := by
 intro k t hk
 unfold ownNew
 split
 ·rename_i h; rw [hv k h] at hk; cases hk
 ·exact hk
theorem Chg.retag {own own' : Own} {w w' : World} {v : Value} (tag : Tag) (h : Chg own w w' own') (hv : ∀ b, v.ownBlock = some b → own' b = none) (hg : ∀ b, v.ownBlock = some b → w.heap.size ≤ b) : Chg own w w' (ownNew own' v tag) :=
 { h with
  ext := fun k t hk => ownNew_ext hv k t (h.ext k t hk)
  fresh := fun k hk => by
   unfold ownNew at hk
   split at hk
   ·rename_i e; exact .inr (hg k e)
   ·exact h.fresh k hk }
theorem Mem.retag {w : World} {r : Nat} {st : RS} {own : Own} {g : Gh} {vp vt vr ve v : Value} (tag : Tag) (P : Mem w r st own g vp vt vr ve) (hv : ∀ b, v.ownBlock = some b → own b = none) (hl : ∀ b, v.ownBlock = some b → b < w.heap.size) : Mem w r st (ownNew own v tag) g vp vt vr ve := by
 have hx := ownNew_ext (tag := tag) hv
 exact {
  root := P.root
  rootTag := hx _ _ P.rootTag
  places := P.places.frame (fun _ _ => rfl) (fun b hb => hx b _ hb)
  txns := P.txns.frame (fun _ _ => rfl) (fun b hb => hx b _ hb)
  recs := P.recs.frame (fun _ _ => rfl) (fun b hb => hx b _ hb)
  ended := P.ended.frame (fun _ _ => rfl) (fun b hb => hx b _ hb)
  olds := fun t ht => (P.olds t ht).frame (fun _ _ => rfl) (fun b hb => hx b _ hb)
  puts := fun t ht => (P.puts t ht).frame (fun _ _ => rfl) (fun b hb => hx b _ hb)
  told := fun t ht hr => (P.told t ht hr).frame (fun _ _ => rfl) (fun b hb => hx b _ hb)
  toldV := P.toldV
  old := fun k hk => by
   unfold ownNew at hk
   split at hk
   ·rename_i e; exact hl k e
   ·exact P.old k hk }
def tellW (w : World) (bt n : Nat) (a : Ans) (v : Value) : World :=
 (((w.setCell ⟨bt, n * 19 + 16, none⟩ (.int .i64 a.code)).setCell ⟨bt, n * 19 + 17, none⟩ (.int .i64 a.why)).setCell ⟨bt, n * 19 + 18, none⟩ v).setCell ⟨bt, n * 19 + 15, none⟩ (.bool true)
theorem tellW_heap {w : World} {bt n : Nat} {a : Ans} {v : Value} {k : Nat} (h : k ≠ bt) : (tellW w bt n a v).heap[k]? = w.heap[k]? := by
 unfold tellW
 rw [heap_setCell_ne _ _ _ _ _ h, heap_setCell_ne _ _ _ _ _ h, heap_setCell_ne _ _ _ _ _ h, heap_setCell_ne _ _ _ _ _ h]
theorem tellW_chg {own : Own} {w : World} {bt n : Nat} {a : Ans} {v : Value} {t : Tag} (h : own bt = some t) : Chg own w (tellW w bt n a v) own :=
 (((Chg.cell h).trans (Chg.cell h)).trans (Chg.cell h)).trans (Chg.cell h)
theorem Mem.tell {w : World} {r : Nat} {st : RS} {own : Own} {g : Gh} {vp vr ve v : Value} {bt cap n : Nat} {t : Tx} {a : Ans}
  (P : Mem w r st own g vp (.slice (some ⟨bt, 0, none⟩) st.txns.length cap) vr ve) (hu : st.uniq) (hn : st.txns[n]? = some t) (hrow : Row w own (8, t.who) 94 2 v a.items itemV) :
  Mem (tellW w bt n a v) r { st with txns := st.txns.set n { t with ready := true, told := a } } own (gSet g t.who ((g t.who).1, (g t.who).2.1, v)) vp (.slice (some ⟨bt, 0, none⟩) st.txns.length cap) vr ve := by
 have hbo : own bt = some (3, 0, 0, 0) := P.txns.2 bt rfl
 have k : ∀ c t', own c = some t' → t' ≠ (3, 0, 0, 0) → (tellW w bt n a v).heap[c]? = w.heap[c]? := fun c t' hc hne => tellW_heap (fun e => by rw [e, hbo] at hc; exact hne (Option.some.inj hc).symm)
 have hlt : n < st.txns.length := (List.getElem?_eq_some_iff.1 hn).1
 have split : ∀ u ∈ st.txns.set n { t with ready := true, told := a }, (u = { t with ready := true, told := a }) ∨ (u ∈ st.txns ∧ u.who ≠ t.who) := by
  intro u hm
  obtain ⟨m, hm⟩ := List.mem_iff_getElem?.1 hm
  by_cases hmn : m = n
  ·subst hmn
   rw [List.getElem?_set_self hlt] at hm
   left; exact (Option.some.inj hm).symm
  ·rw [List.getElem?_set_ne (Ne.symm hmn)] at hm
   right; exact ⟨List.mem_of_getElem? hm, fun e => hmn (hu m n u t hm hn e)⟩
 have htx : Row (tellW w bt n a v) own (3, 0, 0, 0) 162 19 (.slice (some ⟨bt, 0, none⟩) st.txns.length cap) (st.txns.set n { t with ready := true, told := a }) (txnC (gSet g t.who ((g t.who).1, (g t.who).2.1, v))) := by
  obtain ⟨t1, ht1⟩ : ∃ t1 : Tx, t1 = { t with told := { t.told with code := a.code } } := ⟨_, rfl⟩
  obtain ⟨t2, ht2⟩ : ∃ t2 : Tx, t2 = { t with told := { t.told with code := a.code, why := a.why } } := ⟨_, rfl⟩
  obtain ⟨t3, ht3⟩ : ∃ t3 : Tx, t3 = { t with told := a } := ⟨_, rfl⟩
  have h1 := P.txns.set (len_txnC g) (k := n) (j := 16) (x := t) (x' := t1) (u := .int .i64 a.code) hn (by decide) (by rw [ht1]; simp [txnC, stepC])
  rw [show st.txns.length = (st.txns.set n t1).length by simp] at h1
  have h2 := h1.set (len_txnC g) (k := n) (j := 17) (x := t1) (x' := t2) (u := .int .i64 a.why) (by rw [List.getElem?_set_self hlt]) (by decide) (by rw [ht1, ht2]; simp [txnC, stepC])
  rw [List.set_set, show (st.txns.set n t1).length = (st.txns.set n t2).length by simp] at h2
  have h3 := h2.set2 (len_txnC g) (f' := txnC (gSet g t.who ((g t.who).1, (g t.who).2.1, v))) (len_txnC _) (k := n) (j := 18) (x := t2) (x' := t3) (u := v) (by rw [List.getElem?_set_self hlt]) (by decide) (by rw [ht2, ht3]; simp [txnC, stepC, gSet_same]) (fun m y hm hne => by
   rw [List.getElem?_set_ne (Ne.symm hne)] at hm
   exact txnC_other g _ (fun e => hne (hu m n y t hm hn e)))
  rw [List.set_set, show (st.txns.set n t2).length = (st.txns.set n t3).length by simp] at h3
  have h4 := h3.set (len_txnC _) (k := n) (j := 15) (x := t3) (x' := { t with ready := true, told := a }) (u := .bool true) (by rw [List.getElem?_set_self hlt]) (by decide) (by rw [ht3]; simp [txnC, stepC])
  rw [List.set_set, show (st.txns.set n t3).length = st.txns.length by simp] at h4
  exact h4
 obtain ⟨ao, cp, hvs, _, _⟩ := hrow.form len_itemC
 exact {
  root := by rw [k r _ P.rootTag (by decide)]; exact P.root
  rootTag := P.rootTag
  places := P.places.frame (fun c hc => k c _ hc (by decide)) (fun _ h => h)
  txns := htx
  recs := P.recs.frame (fun c hc => k c _ hc (by decide)) (fun _ h => h)
  ended := P.ended.frame (fun c hc => k c _ hc (by decide)) (fun _ h => h)
  olds := fun u hu => by
   rcases split u hu with rfl | ⟨h1, h2⟩
   ·simp only [gSet_same]; exact (P.olds t (List.mem_of_getElem? hn)).frame (fun c hc => k c _ hc (by intro h; cases h)) (fun _ h => h)
   ·rw [gSet_other g _ h2]; exact (P.olds u h1).frame (fun c hc => k c _ hc (by intro h; cases h)) (fun _ h => h)
  puts := fun u hu => by
   rcases split u hu with rfl | ⟨h1, h2⟩
   ·simp only [gSet_same]; exact (P.puts t (List.mem_of_getElem? hn)).frame (fun c hc => k c _ hc (by intro h; cases h)) (fun _ h => h)
   ·rw [gSet_other g _ h2]; exact (P.puts u h1).frame (fun c hc => k c _ hc (by intro h; cases h)) (fun _ h => h)
  told := fun u hu hr => by
   rcases split u hu with rfl | ⟨h1, h2⟩
   ·simp only [gSet_same]; exact hrow.frame (fun c hc => k c _ hc (by intro h; cases h)) (fun _ h => h)
   ·rw [gSet_other g _ h2]; exact (P.told u h1 hr).frame (fun c hc => k c _ hc (by intro h; cases h)) (fun _ h => h)
  toldV := fun u hu => by
   rcases split u hu with rfl | ⟨h1, h2⟩
   ·simp only [gSet_same]; rw [hvs]; rfl
   ·rw [gSet_other g _ h2]; exact P.toldV u h1
  old := fun c hc => by have := P.old c hc; simpa [tellW] using this }
theorem Rep.tell {own own1 : Own} {w0 w1 wB : World} {r : Nat} {st : RS} {n : Nat} {t : Tx} {a : Ans} {v : Value} {g : Gh} {vp vr ve : Value} {bt cap : Nat}
  (P : Mem wB r st own1 g vp (.slice (some ⟨bt, 0, none⟩) st.txns.length cap) vr ve) (hC : Chg own w0 w1 own1) (hB : Below w1.heap.size w1 wB) (hu : st.uniq) (hn : st.txns[n]? = some t)
  (hrow : w1.ownsRow w0.heap.size 94 2 v a.items.length (itemsV a.items)) (hv : ∀ b, v.ownBlock = some b → own1 b = none) :
  Goes own w0 (tellW wB bt n a v) r { st with txns := st.txns.set n { t with ready := true, told := a } } := by
 have hl : ∀ b, v.ownBlock = some b → b < wB.heap.size := fun b hb => Nat.lt_of_lt_of_le (hrow.lt b hb).2 hB.size
 have hR : Row wB (ownNew own1 v (8, t.who)) (8, t.who) 94 2 v a.items itemV := ⟨ownsRow_below (ownsRow_lower hrow (Nat.zero_le _)) hB, fun b hb => by simp [ownNew, hb]⟩
 have Q := (P.retag (8, t.who) hv hl).tell hu hn hR
 have hC1 : Chg own w0 wB (ownNew own1 v (8, t.who)) := (hC.trans (Chg.of_below hB)).retag (8, t.who) hv (fun b hb => (hrow.lt b hb).1)
 exact ⟨_, ⟨_, _, _, _, _, Q⟩, hC1.trans (tellW_chg (ownNew_ext hv _ _ (P.txns.2 bt rfl)))⟩
theorem ownsRow_slice {w : World} {B e size n : Nat} {v : Value} {xs : List Value} (h : w.ownsRow B e size v n xs) : ∃ ao cap, v = .slice ao n cap := by
 obtain ⟨_, ho⟩ := h
 rcases ho with ⟨h, hn⟩ | ⟨b, c, d, e1, _⟩
 ·exact ⟨_, _, by rw [h, hn]⟩
 ·exact ⟨_, _, e1⟩
end Go.Proofs.Ytpbcplfpjcacfaa
