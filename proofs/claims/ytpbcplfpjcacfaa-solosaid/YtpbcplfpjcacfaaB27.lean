import Derived.Test.YtpbcplfpjcacfaaB26
namespace Go.Proofs.Ytpbcplfpjcacfaa
open Go.RowKit
set_option maxRecDepth 100000
set_option maxHeartbeats 8000000
def RS.withE (st : RS) (e : List (Wh × Int)) : RS := { st with ended := e }
theorem back_E (a : Lab) : ∀ (l : List (Int × Int)) (st : RS) (e : List (Wh × Int)), backTo a l (st.withE e) = (backTo a l st).withE e
 | [], _, _ => rfl
 | o :: l, st, e => by
  unfold backTo
  rw [List.foldl_cons, List.foldl_cons]
  exact back_E a l (st.setP a o.1 o.2) e
theorem does_E (st : RS) (e : List (Wh × Int)) (x : Stp) : (st.withE e).does x = ((st.does x).1.withE e, (st.does x).2) := by
 unfold RS.does
 rw [show (st.withE e).txOf x.who = st.txOf x.who from rfl, show (st.withE e).live x.who = st.live x.who from rfl]
 cases st.txOf x.who with
 | none => rfl
 | some t =>
  simp only
  unfold RS.job
  rw [show (st.withE e).full x = st.full x from rfl, show (st.withE e).reads x = st.reads x from rfl]
  have hk : ∀ key, (st.withE e).keepOld (st.live x.who).toNat t key = (st.keepOld (st.live x.who).toNat t key).withE e := fun key => by
   unfold RS.keepOld; split <;> rfl
  have hw : ∀ key v, (st.withE e).writeT (st.live x.who).toNat t key v = (st.writeT (st.live x.who).toNat t key v).withE e := fun key v => by
   unfold RS.writeT; rw [hk]; rfl
  have hp : ∀ key v, (st.withE e).putT (st.live x.who).toNat t key v = (st.putT (st.live x.who).toNat t key v).withE e := fun key v => by
   unfold RS.putT; rw [hw]; rfl
  split
  ·rw [hw]
  ·split
   ·split
    ·rfl
    ·rw [hp]
   ·rfl
structure Two (A : List (Wh × Int)) (z : Wh × Int) (s s2 : RS) : Prop where
 ex : ∃ C, s.ended = A ++ C ∧ s2 = s.withE (A ++ z :: C) ∧ ∀ p ∈ C, p.1 ≠ z.1
 gone : ∀ t ∈ s.txns, t.who ≠ z.1
namespace Two
variable {A : List (Wh × Int)} {z : Wh × Int} {s s2 : RS}
theorem ends (h : Two A z s s2) (y : Wh) (b : Bool) (w : Int) : Two A z (s.ends y b w) (s2.ends y b w) := by
 obtain ⟨⟨C, h1, h2, h3⟩, h4⟩ := h
 subst h2
 unfold RS.ends
 rw [show (s.withE (A ++ z :: C)).txOf y = s.txOf y from rfl]
 cases ht : s.txOf y with
 | none => exact ⟨⟨C, h1, rfl, h3⟩, h4⟩
 | some t =>
  obtain ⟨hm, hy⟩ := txOf_mem ht
  have hne : y ≠ z.1 := by rw [← hy]; exact h4 t hm
  refine ⟨⟨if 0 < w then C ++ [(y, w)] else C, ?_, ?_, ?_⟩, fun u hu => h4 u (List.mem_filter.1 hu).1⟩
  ·show (if 0 < w then s.ended ++ [(y, w)] else s.ended) = _
   split
   ·rw [h1, List.append_assoc]
   ·exact h1
  ·have hb : (if b = true then backTo y.lab t.olds.reverse (s.withE (A ++ z :: C)) else s.withE (A ++ z :: C)) = (if b = true then backTo y.lab t.olds.reverse s else s).withE (A ++ z :: C) := by
    cases b with
    | false => rfl
    | true => exact back_E _ _ _ _
   simp only [hb]
   unfold RS.withE
   by_cases h0 : 0 < w <;> simp [h0]
  ·split
   ·intro p hp
    rcases List.mem_append.1 hp with hp | hp
    ·exact h3 p hp
    ·rw [List.mem_singleton.1 hp]; exact hne
   ·exact h3
theorem recs (h : Two A z s s2) : s2.recs = s.recs := by
 obtain ⟨⟨C, h1, h2, h3⟩, h4⟩ := h
 subst h2; rfl
theorem clearN {rc : Rc} : ∀ (f : Nat) {s s2 : RS}, Two A z s s2 → Two A z (RS.clearN rc f s) (RS.clearN rc f s2)
 | 0, _, _, h => h
 | f + 1, s, s2, h => by
  unfold RS.clearN
  rw [h.recs]
  cases s.recs.find? (clrP rc) with
  | none => exact h
  | some a => exact clearN f (h.ends _ _ _)
theorem clearT (h : Two A z s s2) (rc : Rc) : Two A z (s.clearT rc) (s2.clearT rc) := by
 unfold RS.clearT
 rw [h.recs]
 split
 ·exact clearN _ h
 ·exact h
theorem off (h : Two A z s s2) (j : Nat) (c : Rc) : Two A z (s.offAt j c) (s2.offAt j c) := by
 obtain ⟨⟨C, h1, h2, h3⟩, h4⟩ := h
 subst h2
 exact ⟨⟨C, h1, rfl, h3⟩, h4⟩
theorem does (h : Two A z s s2) (x : Stp) : Two A z (s.does x).1 (s2.does x).1 ∧ (s2.does x).2 = (s.does x).2 := by
 obtain ⟨⟨C, h1, h2, h3⟩, h4⟩ := h
 subst h2
 rw [does_E]
 exact ⟨⟨⟨C, by rw [(does_recs s x).2]; exact h1, rfl, h3⟩, fun t ht => by
  obtain ⟨u, hu, e⟩ := does_who x ht
  rw [← e]; exact h4 u hu⟩, rfl⟩
theorem tell (h : Two A z s s2) (x : Wh) (a : Ans) : Two A z (s.tell x a) (s2.tell x a) := by
 obtain ⟨⟨C, h1, h2, h3⟩, h4⟩ := h
 subst h2
 exact ⟨⟨C, h1, rfl, h3⟩, fun t ht => by
  obtain ⟨u, hu, rfl⟩ := List.mem_map.1 ht
  have := h4 u hu
  split <;> exact this⟩
theorem stepOf (h : Two A z s s2) (x : Wh) : s2.stepOf x = s.stepOf x := by
 obtain ⟨⟨C, h1, h2, h3⟩, h4⟩ := h
 subst h2; rfl
theorem grant (h : Two A z s s2) (j : Nat) (c : Rc) : Two A z (s.grant j c) (s2.grant j c) := by
 unfold RS.grant RS.granted
 have h1 := (h.off j c).clearT c.off
 rw [h1.stepOf]
 have h2 := h1.does (((s.offAt j c).clearT c.off).stepOf c.who)
 rw [h2.2]
 exact h2.1.tell _ _
theorem best (h : Two A z s s2) : ∀ k, s2.bestTo k = s.bestTo k := by
 obtain ⟨⟨C, h1, h2, h3⟩, h4⟩ := h
 subst h2
 intro k
 induction k with
 | zero => rfl
 | succ k ih => rw [RS.bestTo, RS.bestTo, ih]; rfl
theorem againN : ∀ (f : Nat) {s s2 : RS}, Two A z s s2 → Two A z (RS.againN f s) (RS.againN f s2)
 | 0, _, _, h => h
 | f + 1, s, s2, h => by
  unfold RS.againN
  rw [h.best, h.recs]
  cases s.bestTo s.recs.length with
  | none => exact h
  | some j =>
   simp only
   cases s.recs[j]? with
   | none => exact h
   | some c => exact againN f (h.grant j c)
theorem againT (h : Two A z s s2) : Two A z s.againT s2.againT := by
 unfold RS.againT RS.waitN
 rw [h.recs]
 exact againN _ h
theorem told (h : Two A z s s2) (hA : ∀ p ∈ A, p.1 ≠ z.1) : s2.toldT z.1 = s ∧ s2.toldW z.1 = z.2 := by
 obtain ⟨⟨C, h1, h2, h3⟩, h4⟩ := h
 subst h2
 have hno : ∀ p ∈ A, ¬ isW z.1 p = true := fun p hp => by
  unfold isW; rw [sameW_eq]; simpa using hA p hp
 have hz : isW z.1 z = true := by unfold isW; rw [sameW_eq]; simp
 constructor
 ·unfold RS.toldT RS.withE
  simp only
  rw [List.eraseP_append_right _ hno, List.eraseP_cons_of_pos hz, ← h1]
 ·unfold RS.toldW RS.withE
  simp only
  rw [List.find?_append, List.find?_eq_none.2 hno]
  simp [hz]
end Two
def InW (W : List Wh) (st : RS) : Prop := ∀ t ∈ st.txns, t.who ∈ W
theorem InW.ends {W : List Wh} {st : RS} (h : InW W st) (x : Wh) (b : Bool) (w : Int) : InW W (st.ends x b w) := by
 rcases ends_some (st := st) (x := x) (b := b) (w := w) with e | ⟨_, p, e⟩ <;> rw [e]
 ·exact h
 ·exact fun t ht => h t (List.mem_filter.1 ht).1
theorem closed_in (W : List Wh) (x : Stp) (hx : x.who ∈ W) : Closed (InW W) x where
 told := fun st h => h
 unready := fun st h t ht => by
  obtain ⟨u, hu, rfl⟩ := List.mem_map.1 ht
  have := h u hu
  split <;> exact this
 start := fun st h _ t ht => by
  rcases List.mem_append.1 ht with ht | ht
  ·exact h t ht
  ·simp only [List.mem_singleton] at ht; subst ht; exact hx
 quit := fun st z b h => h.ends z b 0
 dead := fun st z h => h.ends z true 2
 shove := fun st _ a h _ _ => h.ends a.who true 1
 park := fun st h _ _ t ht => by
  obtain ⟨u, hu, rfl⟩ := List.mem_map.1 ht
  have := h u hu
  split <;> exact this
 take := fun st h _ _ => h
 off := fun st _ _ h _ => h
 does := fun st z h t ht => by
  obtain ⟨u, hu, e⟩ := does_who z ht
  rw [← e]; exact h u hu
 tell := fun st z a h _ _ t ht => by
  obtain ⟨u, hu, rfl⟩ := List.mem_map.1 ht
  have := h u hu
  split <;> exact this
theorem does_whos (st : RS) (x : Stp) : (st.does x).1.txns.map (·.who) = st.txns.map (·.who) := by
 rcases txOf_cases st x.who with ⟨h1, _⟩ | ⟨m, u, h1, h2, h3, h4⟩
 ·unfold RS.does; rw [h1]
 ·unfold RS.does
  rw [h1]
  simp only
  rw [h2, Int.toNat_natCast]
  obtain ⟨u', e1, e2, _⟩ := job_at (x := x) h3
  rw [e1]
  exact set_whos h3 e2
def Here (x : Wh) (st : RS) : Prop := ∃ t ∈ st.txns, t.who = x
theorem clearN_here {rc : Rc} {x : Wh} : ∀ (f : Nat) (st : RS), Here x st → (∀ z ∈ st.recs, clrP rc z = true → z.who ≠ x) → Here x (RS.clearN rc f st)
 | 0, _, h, _ => h
 | f + 1, st, h, hc => by
  unfold RS.clearN
  cases hf : st.recs.find? (clrP rc) with
  | none => exact h
  | some a =>
   simp only
   have ha := List.mem_of_find?_eq_some hf
   have hne := hc a ha (List.find?_some hf)
   rcases ends_rest st a.who true 1 with e | ⟨p, e⟩
   ·rw [e]; exact clearN_here f st h hc
   ·refine clearN_here f _ ?_ (fun z hz => ?_)
    ·rw [e]
     obtain ⟨t, ht, hx⟩ := h
     exact ⟨t, List.mem_filter.2 ⟨ht, by rw [hx]; simpa using Ne.symm hne⟩, hx⟩
    ·rw [e] at hz; exact hc z (List.mem_filter.1 hz).1
theorem grant_here {N : Nat} {st : RS} (F : st.Fit N) (I : st.Inv) {j : Nat} {c : Rc} (hj : st.recs[j]? = some c) (hw : c.waits = true) (hh : st.hindered c = false) {x : Wh} (hx : plOf x.lab ≤ plOf c.at_) (h : Here x st) : Here x (st.grant j c) := by
 have h1 : Here x (st.granted j c) := by
  unfold RS.granted RS.clearT
  split
  ·refine clearN_here _ _ h (fun z hz hcl e => ?_)
   have := (clr_above (F.offAt hj) (I.off hj hw hh) hz hcl).2.2.2
   rw [e] at this
   have h3 : plOf c.off.at_ = plOf c.at_ := rfl
   omega
  ·exact h
 unfold RS.grant RS.tell
 obtain ⟨t, ht, e⟩ := h1
 have : x ∈ ((st.granted j c).does ((st.granted j c).stepOf c.who)).1.txns.map (·.who) := by rw [does_whos]; exact List.mem_map.2 ⟨t, ht, e⟩
 obtain ⟨u, hu, e2⟩ := List.mem_map.1 this
 refine ⟨_, List.mem_map.2 ⟨u, hu, rfl⟩, ?_⟩
 split <;> exact e2
theorem again_here {N : Nat} {x : Wh} : ∀ (f : Nat) (st : RS), st.Fit N → st.Inv → (∀ d ∈ st.recs, st.free d = true → plOf x.lab ≤ plOf d.at_) → Here x st → Here x (RS.againN f st)
 | 0, _, _, _, _, h => h
 | f + 1, st, F, I, hA, h => by
  rcases best_cases st with hb | ⟨j, c, hb, hj, hfr⟩
  ·rw [againN_none hb]; exact h
  ·rw [againN_step hb hj]
   obtain ⟨hw, hh⟩ := free_two hfr
   have hcm := List.mem_of_getElem? hj
   have hca := hA c hcm hfr
   obtain ⟨q, n, hq, _, hc⟩ := ok_who (F.recW hcm)
   refine again_here f _ (F.grant hj hw) (sim_grant F I hj hw hh hc hq).2 (fun d hd hf => ?_) (grant_here F I hj hw hh hca h)
   by_cases hp : plOf d.at_ ≤ plOf c.at_
   ·obtain ⟨h1, h2, _⟩ := grant_frees F I hj hw hh hd hf hp
    exact hA d h1 h2
   ·omega
theorem nodup_sub : ∀ {l m : List Nat}, l.Nodup → (∀ x ∈ l, x ∈ m) → l.length ≤ m.length
 | [], _, _, _ => Nat.zero_le _
 | a :: l, m, hn, h => by
  obtain ⟨h1, h2⟩ := List.nodup_cons.1 hn
  have ha := h a List.mem_cons_self
  have := nodup_sub h2 (m := m.erase a) (fun x hx => (List.mem_erase_of_ne (fun e => h1 (by rw [← e]; exact hx))).2 (h x (List.mem_cons_of_mem _ hx)))
  rw [List.length_erase_of_mem ha] at this
  have := List.length_pos_of_mem ha
  rw [List.length_cons]; omega
theorem told_none {N : Nat} {st : RS} (F : st.Fit N) {x : Wh} (h : Here x st) : st.toldW x = 0 ∧ ∀ p ∈ st.ended, p.1 ≠ x := by
 obtain ⟨t, ht, e⟩ := h
 have h2 : ∀ p ∈ st.ended, p.1 ≠ x := fun p hp e2 => F.endT p hp t ht (by rw [e, e2])
 refine ⟨?_, h2⟩
 unfold RS.toldW
 rw [List.find?_eq_none.2 (fun p hp => by unfold isW; rw [sameW_eq]; simpa using h2 p hp)]
theorem swap_keep2 {own : Own} {v : Value} {t x : Tag} {k : Nat} (hv : ∀ b, v.ownBlock = some b → own b = none) (h : own k = some x) (hx : x ≠ t) : own.swap v t k = some x := by
 unfold Own.swap
 rw [if_neg (fun e => by rw [hv k e] at h; cases h), if_neg (fun e => hx (Option.some.inj (h.symm.trans e))), h]
theorem PMem.setOut {w w0 : World} {p q n : Nat} {s : PS} {own own0 : Own} {G : PG} (m : PMem w p s own G) (hq : q < 32) (hn : n < 4) {a : Ans} {v : Value} (hrow : w.ownsRow 0 94 2 v a.items.length (itemsV a.items))
  (cg : ChgQ own0 w0 w own) (hv : ∀ b, v.ownBlock = some b → own b = none ∧ ((own0 b ≠ none ∧ ∀ x, own0 b ≠ some (5, x)) ∨ w0.heap.size ≤ b)) :
  PMem (w.setCells p (tO q + 32 + n * 79 + 75) (outC a v)) p (s.setS q n { (s.t q).ses n with out := a }) (own.swap v (outTag q n)) (G.setS q n ((G.s q n).1, v)) ∧
  ChgQ own0 w0 (w.setCells p (tO q + 32 + n * 79 + 75) (outC a v)) (own.swap v (outTag q n)) := by
 obtain ⟨A, Z, e1, e2, e3⟩ := sesC_out ((s.t q).ses n) (G.s q n) a v
 have hvn : ∀ b, v.ownBlock = some b → own b = none := fun b hb => (hv b hb).1
 obtain ⟨C, hC, hCz⟩ := m.root
 obtain ⟨C', hC', hCz'⟩ := setCells_root (outC a v) (sO q n + 75) w C hC
 have hsame : ∀ k, k ≠ p → (w.setCells p (sO q n + 75) (outC a v)).heap[k]? = w.heap[k]? := fun k hk => setCells_other _ _ _ _ hk
 have hkb := World.keptBut_setCells p (may := fun _ => True) (outC a v) (sO q n + 75) w (fun _ _ => trivial)
 have hcell : ∀ o, (o < sO q n ∨ sO q n + 79 ≤ o) → (w.setCells p (sO q n + 75) (outC a v)).cell? ⟨p, o, none⟩ = w.cell? ⟨p, o, none⟩ := fun o ho =>
  World.cell?_setCells_out p (outC a v) (sO q n + 75) w ⟨p, o, none⟩ (fun _ _ => by show o < sO q n + 75 ∨ sO q n + 75 + 3 ≤ o; omega)
 have hth : w.there p (sO q n + 75) (outC a v).length := m.there (by show sO q n + 75 + 3 ≤ _; unfold sO; omega)
 have hne : ∀ k t, own k = some t → t ≠ rootTag → k ≠ p := fun k t hk ht e => by
  rw [e, m.tag] at hk; exact ht (Option.some.inj hk).symm
 have hvp : ∀ b, v.ownBlock = some b → b ≠ p := fun b hb e => by
  have := hvn b hb; rw [e, m.tag] at this; cases this
 have h := m.setSes hq hn { (s.t q).ses n with out := a } ((G.s q n).1, v) (w1 := w.setCells p (sO q n + 75) (outC a v)) (own' := own.swap v (outTag q n))
  (fun k t hk _ h2 => ⟨swap_keep2 hvn hk h2, fun ht => hsame k (hne k t hk ht)⟩) ⟨C', hC', by omega⟩ (rangeAt_splice (m.ses q hq n hn) e1 e2 e3 rfl hth) hcell
  ((m.lockR q hq n hn).frame (fun k hk => hsame k (hne k _ hk (by intro c; simp [lockTag, rootTag] at c))) (fun k hk => swap_keep2 hvn hk (by intro c; simp [lockTag, outTag] at c)))
  ⟨ownsRow_frame hrow (fun b hb => hsame b (hvp b hb)), fun b hb => by unfold Own.swap; rw [if_pos hb]⟩
  (fun k hk => by
   rw [setCells_size]
   rcases swap_sub hk with h | h
   ·exact m.old k h
   ·exact ownsRow_lt hrow k h)
 refine ⟨h, ?_⟩
 have hp0 : ∀ k, k < w0.heap.size → (own0 k = none ∨ ∃ x, own0 k = some (5, x)) → k ≠ p := fun k hk ho e => by
  rcases ho with ho | ⟨x, ho⟩
  ·have := cg.off hk ho; rw [e, m.tag] at this; cases this
  ·rcases (cg.keep k x hk ho).2 with h4 | h4
   ·rw [e, m.tag] at h4; cases h4
   ·rw [ho, e, m.tag] at h4; simp [rootTag] at h4
 refine ⟨hkb.1.trans cg.os, (setCells_tape _ _ _).trans cg.tape, hkb.2.1.trans cg.output, Nat.le_trans cg.size (by rw [setCells_size]; exact Nat.le_refl _), fun k hk ho => (hsame k (hp0 k hk (.inl ho))).trans (cg.block k hk ho), fun k hk => ?_, fun k x hk hx => ⟨(hsame k (hp0 k hk (.inr ⟨x, hx⟩))).trans (cg.keep k x hk hx).1, ?_⟩⟩
 ·rcases swap_sub hk with h | h
  ·exact cg.fresh k h
  ·rcases (hv k h).2 with h3 | h3
   ·exact .inl h3.1
   ·exact .inr h3
 ·have hnv : v.ownBlock ≠ some k := fun e => by
   rcases (hv k e).2 with h3 | h3
   ·exact h3.2 x hx
   ·omega
  unfold Own.swap
  rw [if_neg hnv]
  rcases (cg.keep k x hk hx).2 with h4 | h4
  ·left; rw [h4]; simp
  ·right
   rw [h4, hx, if_neg (by simp [outTag])]
theorem out_one (a : Ans) (ao : Option Addr) (n cap : Nat) : (outC a (.slice ao n cap)).toArray.all (·.oneCell') = true := all_oneCell_toArray (by intro v hv; simp [outC] at hv; rcases hv with rfl | rfl | rfl <;> rfl)
theorem queRow_at {w : World} {p q : Nat} {s : PS} {own : Own} {G : PG} (m : PMem w p s own G) (hq : q < 32) : ∃ ao cap, G.q q = .slice ao (s.t q).queue.length cap ∧ ∀ k (n : Nat), (s.t q).queue[k]? = some n → ∃ b, ao = some ⟨b, 0, none⟩ ∧ own b = some (queTag q) ∧ b < w.heap.size ∧ w.cell? ⟨b, k, none⟩ = some (.int .i64 (n : Int)) := by
 obtain ⟨ao, cap, h1, _, h3⟩ := (m.queR q hq).form len_natC
 refine ⟨ao, cap, h1, fun k n hk => ?_⟩
 obtain ⟨b, e1, e2, e3, e4, _⟩ := h3 k n hk
 refine ⟨b, e1, e2, e3, ?_⟩
 have := e4 0 _ rfl
 simpa using this
theorem settleQ_is {w : World} {p q a : Nat} {s : PS} {own : Own} {G : PG} (m : PMem w p s own G) (hq : q < 32) (F : s.Fit) :
  Calls Try.prog 106 #[.pointer (some ⟨p, 0, none⟩), .int .i64 q, .int .i64 a] w fun e w' => e = .returned (.tuple #[]) ∧ Moved own w p (s.settleQ q a) w' := by
 have M : Hid (PMem w p s own G) := m
 have HF : Hid s.Fit := F
 have hp := m.lt
 have zq : (q : Int) < 32 := by omega
 obtain ⟨ao, cap, hv, hel⟩ := queRow_at m hq
 have hc := m.queC hq
 rw [hv] at hc
 have hq4 := (F.short q hq).2
 have HEL : Hid (∀ k (n : Nat), (s.t q).queue[k]? = some n → ∃ b, ao = some ⟨b, 0, none⟩ ∧ own b = some (queTag q) ∧ b < w.heap.size ∧ w.cell? ⟨b, k, none⟩ = some (.int .i64 (n : Int))) := hel
 have HN : Hid (s.t q).queue.Nodup := (F.tr q hq).queN
 have HQL : Hid (∀ n ∈ (s.t q).queue, n < 4) := (F.tr q hq).queL
 have HFk : Hid (∀ k, (PS.settleL q a s ((s.t q).queue.take k)).Fit) := fun k => PS.Fit.settleL hq _ s F ((F.tr q hq).queN.sublist (List.take_sublist _ _)) (fun n hn => List.mem_of_mem_take hn)
 have HIn : Hid (∀ k n, (s.t q).queue[k]? = some n → n ∈ ((PS.settleL q a s ((s.t q).queue.take k)).t q).queue) := fun k n hk => by
  refine settleL_ahead hq ((s.t q).queue.take k) ((s.t q).queue.drop k) s F (by rw [List.take_append_drop]; exact (F.tr q hq).queN) (fun m hm => by rw [List.take_append_drop] at hm; exact hm) n ?_
  rw [drop_at hk]; exact List.mem_cons_self
 have HSt : Hid (∀ k n, (s.t q).queue[k]? = some n → PS.settleL q a s ((s.t q).queue.take (k + 1)) = (PS.settleL q a s ((s.t q).queue.take k)).settle1 q a n) := fun k n hk => by
  obtain ⟨h1, h2⟩ := List.getElem?_eq_some_iff.1 hk
  rw [List.take_succ_eq_append_getElem h1, h2, settleL_snoc]
 have HEnd : Hid (PS.settleL q a s ((s.t q).queue.take (s.t q).queue.length) = s.settleQ q a) := by show _ = _; rw [List.take_length]; rfl
 have I0 : Hid (Moved own w p (PS.settleL q a s ((s.t q).queue.take 0)) w) := m.went (Below.refl _ _)
 clear m F hv hel
 generalize (s.t q).queue = l at *
 go_enter Try.func106, Try.ntmps106
 go_upto_region 1 with fail
 rw [show 3 + q * 350 = tO q from rfl]
 go_wp2_with fail
 go_loopw [25] (fun i wr => ∃ k : Nat, k ≤ l.length ∧ i = .int .i64 k ∧ Hid (Moved own w p (PS.settleL q a s (l.take k)) wr)) (fun i _ => l.length - (intOf i).toNat)
 case atStart => exact ⟨0, Nat.zero_le _, rfl, I0⟩
 case round =>
  obtain ⟨k, hk, rfl, I⟩ := hrel
  by_cases hlt : k < l.length
  ·have gk := List.getElem?_eq_getElem hlt
   generalize l[k] = n at gk
   have Gk : Hid (l[k]? = some n) := gk
   have hn : n < 4 := HQL.out n (List.mem_of_getElem? gk)
   clear gk
   have zk : (k : Int) < (l.length : Int) := by omega
   have zn : (n : Int) < 4 := by omega
   obtain ⟨bt, rfl, hbo, hbt, hcell⟩ := HEL.out k n Gk.out
   obtain ⟨own2, G2, m2, cg2⟩ := I.out
   have y0 : wr.cell? ⟨bt, k, none⟩ = some (.int .i64 (n : Int)) := by rw [cell_of_same (cg2.keep bt _ hbt hbo).1]; exact hcell
   have HFS := HFk.out k
   have HInS := HIn.out k n Gk.out
   have HStS := HSt.out k n Gk.out
   clear hcell
   generalize PS.settleL q a s (l.take k) = S at *
   have hReq : ReqFit q n ((S.t q).ses n).req := (HFS.tr q hq).req n HInS
   have hreq := ses_req (m2.sesAt hq hn)
   have M2 : Hid (PMem wr p S own2 G2) := m2
   have CG2 : Hid (ChgQ own w wr own2) := cg2
   have FSt : Hid S.Fit := HFS
   have INS : Hid (n ∈ (S.t q).queue) := HInS
   have STS : Hid (PS.settleL q a s (l.take (k + 1)) = S.settle1 q a n) := HStS
   have RQ : Hid (ReqFit q n ((S.t q).ses n).req) := hReq
   have hp2 := m2.lt
   clear HFS HInS HStS hReq m2 cg2
   generalize hx : ((S.t q).ses n).req = x at *
   have HX : Hid (((S.t q).ses n).req = x) := hx
   clear hx
   obtain ⟨t0, t1, t2, t3, t4, t5, t6, t7, t8⟩ := stp_cells hreq
   clear hreq
   have L3 : Hid ((wr.alloc (stpObj x)).heap[wr.heap.size]? = some (.cells (stepC x).toArray 30 (0, 0))) := heap_alloc_new wr _
   have B3 : Hid (Below wr.heap.size wr (wr.alloc (stpObj x))) := (Below.refl _ _).alloc (Nat.le_refl _) _
   unfold stpObj at *
   go_upto_region 6 with fail
   generalize wr.alloc _ = W3 at *
   clear t0 t1 t2 t3 t4 t5 t6 t7 t8 y0
   obtain ⟨t0, t1, t2, t3, t4, t5, t6, t7, t8⟩ := stp_cells (loc_stp L3.out)
   simp only [Nat.zero_add] at t0 t1 t2 t3 t4 t5 t6 t7 t8
   have hs3 : wr.heap.size < W3.heap.size := (Array.getElem?_eq_some_iff.1 L3.out).1
   have hpl := place_nat x.at_.1 x.at_.2 W3 RQ.out.lab
   rw [show placeOf x.at_.1 x.at_.2 = plOf x.at_ from rfl] at hpl
   have HPL : Hid (Calls _ _ _ _ _) := hpl
   clear hpl
   generalize hq0 : plOf x.at_ = q0 at *
   have HQ0 : Hid (plOf x.at_ = q0) := hq0
   clear hq0
   go_wp2_with fail
   refine HPL.out.mono ?_
   rintro e w4 ⟨rfl, hb4⟩
   have B4 : Hid (Below wr.heap.size wr w4) := B3.out.trans (hb4.mono B3.out.size)
   have L4 : Hid (w4.heap[wr.heap.size]? = some (.cells (stepC x).toArray 30 (0, 0))) := (hb4.block _ hs3).trans L3.out
   have hs4 : wr.heap.size < w4.heap.size := Nat.lt_of_lt_of_le hs3 hb4.size
   clear t0 t1 t2 t3 t4 t5 t6 t7 t8 hb4 HPL B3 L3
   obtain ⟨t0, t1, t2, t3, t4, t5, t6, t7, t8⟩ := stp_cells (loc_stp L4.out)
   simp only [Nat.zero_add] at t0 t1 t2 t3 t4 t5 t6 t7 t8
   have M4 : Hid (PMem w4 p S own2 G2) := M2.out.below B4.out
   by_cases hqa : q0 = a
   ·subst hqa
    have hlx : labB ((S.t q).ses n).req.at_.1 ((S.t q).ses n).req.at_.2 = true := by rw [HX.out]; exact RQ.out.lab
    cases hh : S.hindB q n
    ·have HST : Hid (PS.settleL q q0 s (l.take (k + 1)) = (S.admitT q n).1.tellT q n (S.admitT q n).2) := by
      show _ = _
      rw [STS.out]
      unfold PS.settle1
      rw [if_pos ⟨by rw [HX.out]; exact HQ0.out, hh⟩]
     go_wp2_with fail
     refine (isHind_is (a := x.who) M4.out hq hn RQ.out.who hlx hh).mono ?_
     rintro e w5 ⟨rfl, hb5⟩
     have B5 : Hid (Below wr.heap.size wr w5) := B4.out.trans (hb5.mono B4.out.size)
     have M5 : Hid (PMem w5 p S own2 G2) := M2.out.below B5.out
     have CG5 : Hid (ChgQ own w w5 own2) := CG2.out.trans (ChgQ.of_below B5.out)
     have L5 : Hid (w5.heap[wr.heap.size]? = some (.cells (stepC x).toArray 30 (0, 0))) := (hb5.block _ hs4).trans L4.out
     have hs5 : wr.heap.size < w5.heap.size := Nat.lt_of_lt_of_le hs4 hb5.size
     clear t0 t1 t2 t3 t4 t5 t6 t7 t8 hb5
     obtain ⟨t0, t1, t2, t3, t4, t5, t6, t7, t8⟩ := stp_cells (loc_stp L5.out)
     simp only [Nat.zero_add] at t0 t1 t2 t3 t4 t5 t6 t7 t8
     go_wp2_with fail
     refine (admit_is (a := x.who) M5.out hq hn RQ.out.who (by rw [HX.out]; exact RQ.out.toReqOk) FSt.out.short ((FSt.out.tr q hq).locks hn)).mono ?_
     rintro e w6 ⟨v, own6, G6, rfl, hrow, m6, cg6, hv⟩
     have HZ6 := cg6.size
     generalize hS6 : S.admitT q n = SA at *
     obtain ⟨ao6, cap6, rfl⟩ := ownsRow_form hrow
     have B7 : Hid (Below w6.heap.size w6 (w6.alloc (.cells #[.int .i64 SA.2.code, .int .i64 SA.2.why, .slice ao6 SA.2.items.length cap6] 66))) := (Below.refl _ _).alloc (Nat.le_refl _) _
     have L7 : Hid (ansBlk (w6.alloc (.cells #[.int .i64 SA.2.code, .int .i64 SA.2.why, .slice ao6 SA.2.items.length cap6] 66)) w6.heap.size SA.2.code SA.2.why (.slice ao6 SA.2.items.length cap6)) := heap_alloc_new w6 _
     have M6 : Hid (PMem w6 p SA.1 own6 G6) := m6
     have HR6 : Hid (w6.ownsRow 0 94 2 (.slice ao6 SA.2.items.length cap6) SA.2.items.length (itemsV SA.2.items)) := hrow
     have CG6 : Hid (ChgQ own2 w5 w6 own6) := cg6
     have HV6 : Hid (∀ b, (Value.slice ao6 SA.2.items.length cap6).ownBlock = some b → own6 b = none ∧ ((own2 b ≠ none ∧ ∀ x, own2 b ≠ some (5, x)) ∨ w5.heap.size ≤ b)) := hv
     clear m6 hrow cg6 hv hS6 t0 t1 t2 t3 t4 t5 t6 t7 t8
     unfold ansV
     go_upto_region 9 with fail
     generalize w6.alloc _ = W7 at *
     have hs7 : w6.heap.size < W7.heap.size := (Array.getElem?_eq_some_iff.1 L7.out).1
     obtain ⟨e0, e1, e2, _, _, _⟩ := ans_cells L7.out
     have M7 : Hid (PMem W7.drew p SA.1 own6 G6) := M6.out.below B7.out.drew
     have HT : Hid (W7.drew.there p (tO q + 32 + n * 79 + 75) (outC SA.2 (.slice ao6 SA.2.items.length cap6)).toArray.size) := M7.out.sesFits hq hn (by simp [outC])
     obtain ⟨m8, cg8⟩ := M7.out.setOut hq hn (a := SA.2) (ownsRow_below HR6.out B7.out.drew) (CG6.out.trans (ChgQ.of_below B7.out.drew)) HV6.out
     have M8 : Hid (PMem (W7.drew.setCells p (tO q + 32 + n * 79 + 75) (outC SA.2 (.slice ao6 SA.2.items.length cap6))) p _ _ _) := m8
     have CG8 : Hid (ChgQ own w (W7.drew.setCells p (tO q + 32 + n * 79 + 75) (outC SA.2 (.slice ao6 SA.2.items.length cap6))) _) := CG5.out.trans cg8
     clear m8 cg8
     have hS : (fun W : World => W.cell? ⟨w6.heap.size, 0, none⟩ = some (.int .i64 SA.2.code) ∧ W.cell? ⟨w6.heap.size, 1, none⟩ = some (.int .i64 SA.2.why) ∧ W.cell? ⟨w6.heap.size, 2, none⟩ = some (.slice ao6 SA.2.items.length cap6)) W7.drew := ⟨e0, e1, e2⟩
     refine wp_region_Z (z := 7) (S := fun W => W.cell? ⟨w6.heap.size, 0, none⟩ = some (.int .i64 SA.2.code) ∧ W.cell? ⟨w6.heap.size, 1, none⟩ = some (.int .i64 SA.2.why) ∧ W.cell? ⟨w6.heap.size, 2, none⟩ = some (.slice ao6 SA.2.items.length cap6)) (by kernel_rfl) ?_
     refine zC 9 (i := 0) (v := ?v204) (by decide +kernel) rfl (fun _ _ _ h => h) hS (.inl ⟨by rfl, ?y204⟩) ?_
     case y204 => (rintro wz ⟨zs0, zs1, zs2⟩; go_simp <;> with_reducible rfl)
     simp only [Act.put, z1, z2, z4]
     refine zC 9 (i := 1) (v := ?v205) (by decide +kernel) rfl (fun _ _ _ h => h) hS (.inl ⟨by rfl, ?y205⟩) ?_
     case y205 => (rintro wz ⟨zs0, zs1, zs2⟩; go_simp <;> with_reducible rfl)
     simp only [Act.put, z1, z2, z3, z4, z5, z6]
     refine zC 9 (i := 2) (v := ?v206) (by decide +kernel) rfl (fun _ _ _ h => h) hS (.inl ⟨by rfl, ?y206⟩) ?_
     case y206 => (rintro wz ⟨zs0, zs1, zs2⟩; go_simp <;> with_reducible rfl)
     simp only [Act.put, z1, z2, z3, z4, z5, z6]
     refine zC 9 (i := 3) (v := ?v207) (by decide +kernel) rfl (fun _ _ _ h => h) hS (.inl ⟨by rfl, ?y207⟩) ?_
     case y207 => (rintro wz ⟨zs0, zs1, zs2⟩; go_simp <;> with_reducible rfl)
     simp only [Act.put, z1, z2, z3, z4, z5, z6]
     refine zC 9 (i := 4) (v := ?v208) (by decide +kernel) rfl (fun _ _ _ h => h) hS (.inl ⟨by rfl, ?y208⟩) ?_
     case y208 => (rintro wz ⟨zs0, zs1, zs2⟩; go_simp <;> with_reducible rfl)
     simp only [Act.put, z1, z2, z3, z4, z5, z6]
     refine zC 9 (i := 5) (v := ?v209) (by decide +kernel) rfl (fun _ _ _ h => h) hS (.inl ⟨by rfl, ?y209⟩) ?_
     case y209 => (rintro wz ⟨zs0, zs1, zs2⟩; go_simp <;> with_reducible rfl)
     simp only [Act.put, z1, z2, z3, z4, z5, z6]
     refine zC 9 (i := 6) (v := ?v210) (by decide +kernel) rfl (fun _ _ _ h => h) hS (.inl ⟨by rfl, ?y210⟩) ?_
     case y210 => (rintro wz ⟨zs0, zs1, zs2⟩; go_simp <;> with_reducible rfl)
     simp only [Act.put, z1, z2, z3, z4, z5, z6]
     refine wpAnyZ_one (i := 7) (by decide +kernel) rfl (fun K hK => ?_)
     rw [if_pos (by rfl)]
     refine wp_store_mid 66 _ _ rfl p (tO q + 32 + n * 79 + 75) (outC SA.2 (.slice ao6 SA.2.items.length cap6)).toArray rfl rfl HT.out size66 (out_one _ _ _ _) (hK _ _ (fun h => absurd rfl h) ?_)
     clear hK
     refine wpAnyZ_done (by decide +kernel) ?_ _
     simp only
     generalize W7.drew.setCells p (tO q + 32 + n * 79 + 75) (outC SA.2 (.slice ao6 SA.2.items.length cap6)) = W8 at *
     have hcm := ses_came (M8.out.sesAt hq hn)
     have hfz := M8.out.froz (tO q + 32 + n * 79 + 74)
     have hp8 := M8.out.lt
     have h9 := M8.out.put1 hq hn { ((SA.1.t q).ses n) with out := SA.2, came := true } (i := 74) (v := .bool true) (by decide) (by rw [setS_at, PG.setS_at, ← sesC_came]) (by rw [setS_at]) (by rw [setS_at])
     rw [setS_setS] at h9
     have J : Hid (Moved own w p (PS.settleL q q0 s (l.take (k + 1))) (W8.setCell ⟨p, tO q + 32 + n * 79 + 74, none⟩ (.bool true))) := by
      show Moved _ _ _ _ _
      rw [HST.out]
      exact ⟨_, _, h9.1, CG8.out.trans h9.2⟩
     clear h9
     go_wp2
     go_roundw
     case rel => exact ⟨k + 1, by omega, by go_num, J⟩
     case measure => simp [intOf]; omega
    ·go_wp2_with fail
     refine (isHind_is (a := x.who) M4.out hq hn RQ.out.who hlx hh).mono ?_
     rintro e w5 ⟨rfl, hb5⟩
     have J : Hid (Moved own w p (PS.settleL q q0 s (l.take (k + 1))) w5) := by
      show Moved _ _ _ _ _
      rw [STS.out]
      unfold PS.settle1
      rw [if_neg (fun h => by rw [hh] at h; cases h.2)]
      exact ⟨own2, G2, M4.out.below hb5, (CG2.out.trans (ChgQ.of_below B4.out)).trans (ChgQ.of_below hb5)⟩
     clear hb5
     go_wp2
     go_roundw
     case rel => exact ⟨k + 1, by omega, by go_num, J⟩
     case measure => simp [intOf]; omega
   ·have zz : (q0 : Int) ≠ (a : Int) := by omega
    have J : Hid (Moved own w p (PS.settleL q a s (l.take (k + 1))) w4) := by
     show Moved _ _ _ _ _
     rw [STS.out]
     unfold PS.settle1
     rw [if_neg (fun h => hqa (by rw [← HQ0.out, ← HX.out]; exact h.1))]
     exact ⟨own2, G2, M4.out, CG2.out.trans (ChgQ.of_below B4.out)⟩
    clear hqa
    go_wp2
    go_roundw
    case rel => exact ⟨k + 1, by omega, by go_num, J⟩
    case measure => simp [intOf]; omega
  ·have e : k = l.length := by omega
   subst e
   go_wp2
   refine bodyPost_end (v := .tuple #[]) (by simp [results, Try.results106, go_sem]) rfl ⟨rfl, ?_⟩
   rw [← HEnd.out]; exact I.out
end Go.Proofs.Ytpbcplfpjcacfaa
