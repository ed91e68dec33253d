import Derived.Test.YtpbcplfpjcacfaaB08
namespace Go.Proofs.Ytpbcplfpjcacfaa
open Go.RowKit
set_option maxRecDepth 100000
set_option maxHeartbeats 8000000
theorem rangeAt_splice {w : World} {b o i : Nat} {cs cs' A M M' Z : List Value} (h : w.rangeAt b o cs) (e : cs = A ++ (M ++ Z)) (e' : cs' = A ++ (M' ++ Z)) (hi : A.length = i) (hl : M'.length = M.length) (ht : w.there b (o + i) M'.length) :
  (w.setCells b (o + i) M').rangeAt b o cs' := by
 subst e e' hi
 intro j v hj
 have out : (j < A.length ∨ A.length + M'.length ≤ j) → (w.setCells b (o + A.length) M').cell? ⟨b, o + j, none⟩ = w.cell? ⟨b, o + j, none⟩ := fun hc =>
  World.cell?_setCells_out b M' (o + A.length) w ⟨b, o + j, none⟩ (fun _ _ => by show o + j < o + A.length ∨ o + A.length + M'.length ≤ o + j; omega)
 by_cases h1 : j < A.length
 ·rw [out (.inl h1)]
  refine h j v ?_
  rw [List.getElem?_append_left h1] at hj ⊢
  exact hj
 ·by_cases h2 : j < A.length + M'.length
  ·obtain ⟨k, rfl⟩ : ∃ k, j = A.length + k := ⟨j - A.length, by omega⟩
   rw [List.getElem?_append_right (by omega), List.getElem?_append_left (by omega), Nat.add_sub_cancel_left] at hj
   rw [← Nat.add_assoc]
   exact World.rangeAt_setCells_same w b (o + A.length) M' ht k v hj
  ·rw [out (.inr (by omega))]
   refine h j v ?_
   rw [List.getElem?_append_right (by omega), List.getElem?_append_right (by omega)] at hj ⊢
   rw [hl] at hj; exact hj
structure ChgQ (own : Own) (w w' : World) (own' : Own) : Prop where
 os : w'.os = w.os
 tape : w'.tape = w.tape
 output : w'.output = w.output
 size : w.heap.size ≤ w'.heap.size
 block : ∀ k, k < w.heap.size → own k = none → w'.heap[k]? = w.heap[k]?
 fresh : ∀ k, own' k ≠ none → own k ≠ none ∨ w.heap.size ≤ k
 keep : ∀ k x, k < w.heap.size → own k = some (5, x) → w'.heap[k]? = w.heap[k]? ∧ (own' k = none ∨ own' k = own k)
theorem ChgQ.refl {own : Own} {w : World} : ChgQ own w w own := ⟨rfl, rfl, rfl, Nat.le_refl _, fun _ _ _ => rfl, fun _ h => .inl h, fun _ _ _ _ => ⟨rfl, .inr rfl⟩⟩
theorem ChgQ.of_below {own : Own} {w w' : World} (h : Below w.heap.size w w') : ChgQ own w w' own :=
 ⟨h.os, h.tape, h.output, h.size, fun k hk _ => h.block k hk, fun _ h => .inl h, fun k _ hk _ => ⟨h.block k hk, .inr rfl⟩⟩
theorem ChgQ.off {own own' : Own} {w w' : World} (h : ChgQ own w w' own') {k : Nat} (hk : k < w.heap.size) (hn : own k = none) : own' k = none := by
 cases hq : own' k with
 | none => rfl
 | some t =>
  rcases h.fresh k (by rw [hq]; simp) with h1 | h1
  ·exact absurd hn h1
  ·omega
theorem ChgQ.trans {own own' own'' : Own} {w w' w'' : World} (h : ChgQ own w w' own') (k : ChgQ own' w' w'' own'') : ChgQ own w w'' own'' where
 os := k.os.trans h.os
 tape := k.tape.trans h.tape
 output := k.output.trans h.output
 size := Nat.le_trans h.size k.size
 block := fun b hb hn => by
  rw [k.block b (Nat.lt_of_lt_of_le hb h.size) (h.off hb hn), h.block b hb hn]
 fresh := fun b hb => by
  rcases k.fresh b hb with h1 | h1
  ·exact h.fresh b h1
  ·exact .inr (Nat.le_trans h.size h1)
 keep := fun b x hb hx => by
  obtain ⟨h1, h2⟩ := h.keep b x hb hx
  have hb' := Nat.lt_of_lt_of_le hb h.size
  rcases h2 with h2 | h2
  ·refine ⟨by rw [k.block b hb' h2, h1], .inl (k.off hb' h2)⟩
  ·obtain ⟨h3, h4⟩ := k.keep b x hb' (h2.trans hx)
   exact ⟨h3.trans h1, by rw [← h2]; exact h4⟩
theorem setS_t (s : PS) (q n : Nat) (x : Ses) (q' : Nat) : (s.setS q n x).t q' = if q' = q then (s.t q).setS n x else s.t q' := rfl
theorem Tr.setS_ses (t : Tr) (n : Nat) (x : Ses) (n' : Nat) : (t.setS n x).ses n' = if n' = n then x else t.ses n' := rfl
theorem PG.setS_s (G : PG) (q n : Nat) (g : SG) (q' n' : Nat) : (G.setS q n g).s q' n' = if q' = q then (if n' = n then g else G.s q n') else G.s q' n' := by
 unfold PG.setS upd; simp only; split <;> rfl
theorem PMem.setSes {w : World} {p : Nat} {s : PS} {own : Own} {G : PG} (m : PMem w p s own G) {q n : Nat} (hq : q < 32) (hn : n < 4) (x : Ses) (g : SG) {w1 : World} {own' : Own}
  (hx : ∀ k t, own k = some t → t ≠ lockTag q n → t ≠ outTag q n → own' k = some t ∧ (t ≠ rootTag → w1.heap[k]? = w.heap[k]?))
  (hroot : ∃ C, w1.heap[p]? = some (.cells C 138 (0, 0)) ∧ C.size = 11203)
  (hr : w1.rangeAt p (sO q n) (sesC x g)) (hcell : ∀ o, (o < sO q n ∨ sO q n + 79 ≤ o) → w1.cell? ⟨p, o, none⟩ = w.cell? ⟨p, o, none⟩)
  (hlk : Row w1 own' (lockTag q n) 148 5 g.1 x.locks lkC) (hout : Row w1 own' (outTag q n) 94 2 g.2 x.out.items itemV)
  (hold : ∀ k, own' k ≠ none → k < w1.heap.size) : PMem w1 p (s.setS q n x) own' (G.setS q n g) := by
 have hrow : ∀ {α : Type} {tag : Tag} {e size : Nat} {v : Value} {l : List α} {f : α → List Value}, tag ≠ lockTag q n → tag ≠ outTag q n → tag ≠ rootTag → Row w own tag e size v l f → Row w1 own' tag e size v l f :=
  fun h1 h2 h3 h => h.frame (fun k hk => (hx k _ hk h1 h2).2 h3) (fun k hk => (hx k _ hk h1 h2).1)
 refine ⟨hroot, ?_, ?_, ?_, ?_, ?_, (hx p _ m.tag (by intro c; cases c) (by intro c; cases c)).1, ?_, ?_, ?_, ?_, hold⟩
 ·intro j u hj
  have hj3 : j < 3 := (List.getElem?_eq_some_iff.1 hj).1
  rw [hcell _ (.inl (by unfold sO; omega))]
  exact m.cfg j u hj
 ·intro q' hq' j u hj
  have hj3 : j < 32 := by rw [← len_tabV]; exact (List.getElem?_eq_some_iff.1 hj).1
  have hi : ((s.setS q n x).t q').items = (s.t q').items := by rw [setS_t]; split <;> simp_all [Tr.setS]
  rw [hi] at hj
  rw [hcell _ (by unfold sO tO; rcases Nat.lt_trichotomy q' q with h | h | h <;> omega)]
  exact m.items q' hq' j u hj
 ·intro q' hq' n' hn'
  by_cases hqq : q' = q ∧ n' = n
  ·obtain ⟨rfl, rfl⟩ := hqq
   rw [setS_t, if_pos rfl, Tr.setS_ses, if_pos rfl, PG.setS_s, if_pos rfl, if_pos rfl]; exact hr
  ·have e1 : ((s.setS q n x).t q').ses n' = (s.t q').ses n' := by
    rw [setS_t]; split
    ·rename_i e; subst e; rw [Tr.setS_ses, if_neg (fun e => hqq ⟨rfl, e⟩)]
    ·rfl
   have e2 : (G.setS q n g).s q' n' = G.s q' n' := by
    rw [PG.setS_s]; split
    ·rename_i e; subst e; rw [if_neg (fun e => hqq ⟨rfl, e⟩)]
    ·rfl
   rw [e1, e2]
   intro j u hj
   have hj3 : j < 79 := by rw [← len_sesC]; exact (List.getElem?_eq_some_iff.1 hj).1
   rw [hcell _ (by
    unfold sO
    by_cases hc : q' = q
    ·have : n' ≠ n := fun e => hqq ⟨hc, e⟩
     subst hc; omega
    ·rcases Nat.lt_trichotomy q' q with h | h | h <;> omega)]
   exact m.ses q' hq' n' hn' j u hj
 ·intro q' hq'
  rw [hcell _ (by unfold sO tO; rcases Nat.lt_trichotomy q' q with h | h | h <;> omega)]
  exact m.beg q' hq'
 ·intro q' hq'
  rw [hcell _ (by unfold sO tO; rcases Nat.lt_trichotomy q' q with h | h | h <;> omega)]
  exact m.que q' hq'
 ·intro q' hq' n' hn'
  by_cases hqq : q' = q ∧ n' = n
  ·obtain ⟨rfl, rfl⟩ := hqq
   rw [setS_t, if_pos rfl, Tr.setS_ses, if_pos rfl, PG.setS_s, if_pos rfl, if_pos rfl]; exact hlk
  ·have e1 : ((s.setS q n x).t q').ses n' = (s.t q').ses n' := by
    rw [setS_t]; split
    ·rename_i e; subst e; rw [Tr.setS_ses, if_neg (fun e => hqq ⟨rfl, e⟩)]
    ·rfl
   have e2 : (G.setS q n g).s q' n' = G.s q' n' := by
    rw [PG.setS_s]; split
    ·rename_i e; subst e; rw [if_neg (fun e => hqq ⟨rfl, e⟩)]
    ·rfl
   rw [e1, e2]
   exact hrow (by intro c; simp only [lockTag, Prod.mk.injEq] at c; exact hqq ⟨by omega, by omega⟩) (by intro c; simp [lockTag, outTag] at c) (by intro c; simp [lockTag, rootTag] at c) (m.lockR q' hq' n' hn')
 ·intro q' hq' n' hn'
  by_cases hqq : q' = q ∧ n' = n
  ·obtain ⟨rfl, rfl⟩ := hqq
   rw [setS_t, if_pos rfl, Tr.setS_ses, if_pos rfl, PG.setS_s, if_pos rfl, if_pos rfl]; exact hout
  ·have e1 : ((s.setS q n x).t q').ses n' = (s.t q').ses n' := by
    rw [setS_t]; split
    ·rename_i e; subst e; rw [Tr.setS_ses, if_neg (fun e => hqq ⟨rfl, e⟩)]
    ·rfl
   have e2 : (G.setS q n g).s q' n' = G.s q' n' := by
    rw [PG.setS_s]; split
    ·rename_i e; subst e; rw [if_neg (fun e => hqq ⟨rfl, e⟩)]
    ·rfl
   rw [e1, e2]
   exact hrow (by intro c; simp [lockTag, outTag] at c) (by intro c; simp only [outTag, Prod.mk.injEq] at c; exact hqq ⟨by omega, by omega⟩) (by intro c; simp [outTag, rootTag] at c) (m.outR q' hq' n' hn')
 ·intro q' hq'
  have hi : ((s.setS q n x).t q').begun = (s.t q').begun := by rw [setS_t]; split <;> simp_all [Tr.setS]
  rw [hi]
  exact hrow (by intro c; simp [begTag, lockTag] at c) (by intro c; simp [begTag, outTag] at c) (by intro c; simp [begTag, rootTag] at c) (m.begR q' hq')
 ·intro q' hq'
  have hi : ((s.setS q n x).t q').queue = (s.t q').queue := by rw [setS_t]; split <;> simp_all [Tr.setS]
  rw [hi]
  exact hrow (by intro c; simp [queTag, lockTag] at c) (by intro c; simp [queTag, outTag] at c) (by intro c; simp [queTag, rootTag] at c) (m.queR q' hq')
def PS.setB (s : PS) (q : Nat) (l : List Nat) : PS := s.setT q { s.t q with begun := l }
def PS.setQ (s : PS) (q : Nat) (l : List Nat) : PS := s.setT q { s.t q with queue := l }
def PS.setI (s : PS) (q : Nat) (f : Nat → Option Int) : PS := s.setT q { s.t q with items := f }
theorem setB_t (s : PS) (q : Nat) (l : List Nat) (q' : Nat) : (s.setB q l).t q' = if q' = q then { s.t q with begun := l } else s.t q' := rfl
theorem setQ_t (s : PS) (q : Nat) (l : List Nat) (q' : Nat) : (s.setQ q l).t q' = if q' = q then { s.t q with queue := l } else s.t q' := rfl
theorem setI_t (s : PS) (q : Nat) (f : Nat → Option Int) (q' : Nat) : (s.setI q f).t q' = if q' = q then { s.t q with items := f } else s.t q' := rfl
theorem PMem.setBeg {w : World} {p : Nat} {s : PS} {own : Own} {G : PG} (m : PMem w p s own G) {q : Nat} (hq : q < 32) (l : List Nat) (v : Value) {w1 : World} {own' : Own}
  (hx : ∀ k t, own k = some t → t ≠ begTag q → own' k = some t ∧ (t ≠ rootTag → w1.heap[k]? = w.heap[k]?))
  (hroot : ∃ C, w1.heap[p]? = some (.cells C 138 (0, 0)) ∧ C.size = 11203)
  (hr : w1.cell? ⟨p, tO q + 348, none⟩ = some v) (hcell : ∀ o, o ≠ tO q + 348 → w1.cell? ⟨p, o, none⟩ = w.cell? ⟨p, o, none⟩)
  (hR : Row w1 own' (begTag q) 3 1 v l natC)
  (hold : ∀ k, own' k ≠ none → k < w1.heap.size) : PMem w1 p (s.setB q l) own' (G.setB q v) := by
 have hrow : ∀ {α : Type} {tag : Tag} {e size : Nat} {v : Value} {l : List α} {f : α → List Value}, tag ≠ begTag q → tag ≠ rootTag → Row w own tag e size v l f → Row w1 own' tag e size v l f :=
  fun h1 h3 h => h.frame (fun k hk => (hx k _ hk h1).2 h3) (fun k hk => (hx k _ hk h1).1)
 have e1 : ∀ q', ((s.setB q l).t q').items = (s.t q').items ∧ ((s.setB q l).t q').ses = (s.t q').ses ∧ ((s.setB q l).t q').queue = (s.t q').queue := by
  intro q'; rw [setB_t]; split <;> simp_all
 refine ⟨hroot, ?_, ?_, ?_, ?_, ?_, (hx p _ m.tag (by intro c; cases c)).1, ?_, ?_, ?_, ?_, hold⟩
 ·intro j u hj
  have hj3 : j < 3 := (List.getElem?_eq_some_iff.1 hj).1
  rw [hcell _ (by unfold tO; omega)]
  exact m.cfg j u hj
 ·intro q' hq' j u hj
  have hj3 : j < 32 := by rw [← len_tabV]; exact (List.getElem?_eq_some_iff.1 hj).1
  rw [(e1 q').1] at hj
  rw [hcell _ (by unfold tO; rcases Nat.lt_trichotomy q' q with h | h | h <;> omega)]
  exact m.items q' hq' j u hj
 ·intro q' hq' n' hn'
  rw [(e1 q').2.1]
  intro j u hj
  have hj3 : j < 79 := by rw [← len_sesC]; exact (List.getElem?_eq_some_iff.1 hj).1
  rw [hcell _ (by unfold sO tO; rcases Nat.lt_trichotomy q' q with h | h | h <;> omega)]
  exact m.ses q' hq' n' hn' j u hj
 ·intro q' hq'
  show w1.cell? _ = some (upd G.b q v q')
  unfold upd; split
  ·rename_i e; subst e; exact hr
  ·rw [hcell _ (by unfold tO; omega)]; exact m.beg q' hq'
 ·intro q' hq'
  rw [hcell _ (by unfold tO; omega)]
  exact m.que q' hq'
 ·intro q' hq' n' hn'
  rw [(e1 q').2.1]
  exact hrow (by intro c; simp [lockTag, begTag] at c) (by intro c; simp [lockTag, rootTag] at c) (m.lockR q' hq' n' hn')
 ·intro q' hq' n' hn'
  rw [(e1 q').2.1]
  exact hrow (by intro c; simp [outTag, begTag] at c) (by intro c; simp [outTag, rootTag] at c) (m.outR q' hq' n' hn')
 ·intro q' hq'
  show Row w1 own' (begTag q') _ _ (upd G.b q v q') _ _
  rw [setB_t]
  unfold upd; split
  ·rename_i e; subst e; exact hR
  ·rename_i e
   exact hrow (by intro c; simp only [begTag, Prod.mk.injEq] at c; omega) (by intro c; simp [begTag, rootTag] at c) (m.begR q' hq')
 ·intro q' hq'
  rw [(e1 q').2.2]
  exact hrow (by intro c; simp [queTag, begTag] at c) (by intro c; simp [queTag, rootTag] at c) (m.queR q' hq')
theorem PMem.setQue {w : World} {p : Nat} {s : PS} {own : Own} {G : PG} (m : PMem w p s own G) {q : Nat} (hq : q < 32) (l : List Nat) (v : Value) {w1 : World} {own' : Own}
  (hx : ∀ k t, own k = some t → t ≠ queTag q → own' k = some t ∧ (t ≠ rootTag → w1.heap[k]? = w.heap[k]?))
  (hroot : ∃ C, w1.heap[p]? = some (.cells C 138 (0, 0)) ∧ C.size = 11203)
  (hr : w1.cell? ⟨p, tO q + 349, none⟩ = some v) (hcell : ∀ o, o ≠ tO q + 349 → w1.cell? ⟨p, o, none⟩ = w.cell? ⟨p, o, none⟩)
  (hR : Row w1 own' (queTag q) 3 1 v l natC)
  (hold : ∀ k, own' k ≠ none → k < w1.heap.size) : PMem w1 p (s.setQ q l) own' (G.setQ q v) := by
 have hrow : ∀ {α : Type} {tag : Tag} {e size : Nat} {v : Value} {l : List α} {f : α → List Value}, tag ≠ queTag q → tag ≠ rootTag → Row w own tag e size v l f → Row w1 own' tag e size v l f :=
  fun h1 h3 h => h.frame (fun k hk => (hx k _ hk h1).2 h3) (fun k hk => (hx k _ hk h1).1)
 have e1 : ∀ q', ((s.setQ q l).t q').items = (s.t q').items ∧ ((s.setQ q l).t q').ses = (s.t q').ses ∧ ((s.setQ q l).t q').begun = (s.t q').begun := by
  intro q'; rw [setQ_t]; split <;> simp_all
 refine ⟨hroot, ?_, ?_, ?_, ?_, ?_, (hx p _ m.tag (by intro c; cases c)).1, ?_, ?_, ?_, ?_, hold⟩
 ·intro j u hj
  have hj3 : j < 3 := (List.getElem?_eq_some_iff.1 hj).1
  rw [hcell _ (by unfold tO; omega)]
  exact m.cfg j u hj
 ·intro q' hq' j u hj
  have hj3 : j < 32 := by rw [← len_tabV]; exact (List.getElem?_eq_some_iff.1 hj).1
  rw [(e1 q').1] at hj
  rw [hcell _ (by unfold tO; rcases Nat.lt_trichotomy q' q with h | h | h <;> omega)]
  exact m.items q' hq' j u hj
 ·intro q' hq' n' hn'
  rw [(e1 q').2.1]
  intro j u hj
  have hj3 : j < 79 := by rw [← len_sesC]; exact (List.getElem?_eq_some_iff.1 hj).1
  rw [hcell _ (by unfold sO tO; rcases Nat.lt_trichotomy q' q with h | h | h <;> omega)]
  exact m.ses q' hq' n' hn' j u hj
 ·intro q' hq'
  rw [hcell _ (by unfold tO; omega)]
  exact m.beg q' hq'
 ·intro q' hq'
  show w1.cell? _ = some (upd G.q q v q')
  unfold upd; split
  ·rename_i e; subst e; exact hr
  ·rw [hcell _ (by unfold tO; omega)]; exact m.que q' hq'
 ·intro q' hq' n' hn'
  rw [(e1 q').2.1]
  exact hrow (by intro c; simp [lockTag, queTag] at c) (by intro c; simp [lockTag, rootTag] at c) (m.lockR q' hq' n' hn')
 ·intro q' hq' n' hn'
  rw [(e1 q').2.1]
  exact hrow (by intro c; simp [outTag, queTag] at c) (by intro c; simp [outTag, rootTag] at c) (m.outR q' hq' n' hn')
 ·intro q' hq'
  rw [(e1 q').2.2]
  exact hrow (by intro c; simp [queTag, begTag] at c) (by intro c; simp [begTag, rootTag] at c) (m.begR q' hq')
 ·intro q' hq'
  show Row w1 own' (queTag q') _ _ (upd G.q q v q') _ _
  rw [setQ_t]
  unfold upd; split
  ·rename_i e; subst e; exact hR
  ·rename_i e
   exact hrow (by intro c; simp only [queTag, Prod.mk.injEq] at c; omega) (by intro c; simp [queTag, rootTag] at c) (m.queR q' hq')
theorem PMem.setItems {w : World} {p : Nat} {s : PS} {own : Own} {G : PG} (m : PMem w p s own G) {q : Nat} (hq : q < 32) (f : Nat → Option Int) :
  PMem (w.setCells p (tO q) (tabV f)) p (s.setI q f) own G ∧ ChgQ own w (w.setCells p (tO q) (tabV f)) own := by
 obtain ⟨C, hC, hCz⟩ := m.root
 obtain ⟨C', hC', hCz'⟩ := setCells_root (tabV f) (tO q) w C hC
 have hsame : ∀ k, k ≠ p → (w.setCells p (tO q) (tabV f)).heap[k]? = w.heap[k]? := fun k hk => setCells_other _ _ _ _ hk
 have hkb := World.keptBut_setCells p (may := fun _ => True) (tabV f) (tO q) w (fun _ _ => trivial)
 have hcell : ∀ o, (o < tO q ∨ tO q + 32 ≤ o) → (w.setCells p (tO q) (tabV f)).cell? ⟨p, o, none⟩ = w.cell? ⟨p, o, none⟩ := fun o ho =>
  World.cell?_setCells_out p (tabV f) (tO q) w ⟨p, o, none⟩ (fun _ _ => by rw [len_tabV]; exact ho)
 have hth : w.there p (tO q) (tabV f).length := m.there (by rw [len_tabV]; unfold tO; omega)
 have hne : ∀ k t, own k = some t → t ≠ rootTag → k ≠ p := fun k t hk ht e => by
  rw [e, m.tag] at hk; exact ht (Option.some.inj hk).symm
 have hrow : ∀ {α : Type} {tag : Tag} {e size : Nat} {v : Value} {l : List α} {f' : α → List Value}, tag ≠ rootTag → Row w own tag e size v l f' → Row (w.setCells p (tO q) (tabV f)) own tag e size v l f' :=
  fun h3 h => h.frame (fun k hk => hsame k (hne k _ hk h3)) (fun k hk => hk)
 have e1 : ∀ q', ((s.setI q f).t q').begun = (s.t q').begun ∧ ((s.setI q f).t q').ses = (s.t q').ses ∧ ((s.setI q f).t q').queue = (s.t q').queue := by
  intro q'; rw [setI_t]; split <;> simp_all
 refine ⟨⟨⟨C', hC', by omega⟩, ?_, ?_, ?_, ?_, ?_, m.tag, ?_, ?_, ?_, ?_, fun k hk => by rw [setCells_size]; exact m.old k hk⟩, ?_⟩
 ·intro j u hj
  have hj3 : j < 3 := (List.getElem?_eq_some_iff.1 hj).1
  rw [hcell _ (by unfold tO; omega)]
  exact m.cfg j u hj
 ·intro q' hq'
  rw [setI_t]
  split
  ·rename_i e; subst e; exact World.rangeAt_setCells_same w p (tO q') (tabV f) hth
  ·intro j u hj
   have hj3 : j < 32 := by rw [← len_tabV]; exact (List.getElem?_eq_some_iff.1 hj).1
   rw [hcell _ (by unfold tO; omega)]
   exact m.items q' hq' j u hj
 ·intro q' hq' n' hn'
  rw [(e1 q').2.1]
  intro j u hj
  have hj3 : j < 79 := by rw [← len_sesC]; exact (List.getElem?_eq_some_iff.1 hj).1
  rw [hcell _ (by unfold sO tO; rcases Nat.lt_trichotomy q' q with h | h | h <;> omega)]
  exact m.ses q' hq' n' hn' j u hj
 ·intro q' hq'
  rw [hcell _ (by unfold tO; omega)]
  exact m.beg q' hq'
 ·intro q' hq'
  rw [hcell _ (by unfold tO; omega)]
  exact m.que q' hq'
 ·intro q' hq' n' hn'
  rw [(e1 q').2.1]
  exact hrow (by intro c; simp [lockTag, rootTag] at c) (m.lockR q' hq' n' hn')
 ·intro q' hq' n' hn'
  rw [(e1 q').2.1]
  exact hrow (by intro c; simp [outTag, rootTag] at c) (m.outR q' hq' n' hn')
 ·intro q' hq'
  rw [(e1 q').1]
  exact hrow (by intro c; simp [begTag, rootTag] at c) (m.begR q' hq')
 ·intro q' hq'
  rw [(e1 q').2.2]
  exact hrow (by intro c; simp [queTag, rootTag] at c) (m.queR q' hq')
 ·exact ⟨hkb.1, setCells_tape _ _ _, hkb.2.1, by rw [setCells_size]; exact Nat.le_refl _, fun k _ hn => hsame k (fun e => by rw [e, m.tag] at hn; cases hn), fun k hk => .inl hk,
   fun k x _ hk => ⟨hsame k (hne k _ hk (by intro c; simp [rootTag] at c)), .inr rfl⟩⟩
theorem PMem.putSes {w : World} {p : Nat} {s : PS} {own : Own} {G : PG} (m : PMem w p s own G) {q n : Nat} (hq : q < 32) (hn : n < 4) (x : Ses) (g : SG) (i : Nat) (M' : List Value) {A M Z : List Value} {own' : Own}
  (e : sesC ((s.t q).ses n) (G.s q n) = A ++ (M ++ Z)) (e' : sesC x g = A ++ (M' ++ Z)) (hi : A.length = i) (hl : M'.length = M.length)
  (hx : ∀ k t, own k = some t → t ≠ lockTag q n → t ≠ outTag q n → own' k = some t) (hsub : ∀ k t, own' k = some t → own k = some t)
  (hlk : Row w own' (lockTag q n) 148 5 g.1 x.locks lkC) (hout : Row w own' (outTag q n) 94 2 g.2 x.out.items itemV) :
  PMem (w.setCells p (sO q n + i) M') p (s.setS q n x) own' (G.setS q n g) ∧ ChgQ own w (w.setCells p (sO q n + i) M') own' := by
 have hlen : A.length + (M'.length + Z.length) = 79 := by
  rw [← len_sesC x g, e']; simp
 obtain ⟨C, hC, hCz⟩ := m.root
 obtain ⟨C', hC', hCz'⟩ := setCells_root M' (sO q n + i) w C hC
 have hsame : ∀ k, k ≠ p → (w.setCells p (sO q n + i) M').heap[k]? = w.heap[k]? := fun k hk => setCells_other _ _ _ _ hk
 have hkb := World.keptBut_setCells p (may := fun _ => True) M' (sO q n + i) w (fun _ _ => trivial)
 have hcell : ∀ o, (o < sO q n ∨ sO q n + 79 ≤ o) → (w.setCells p (sO q n + i) M').cell? ⟨p, o, none⟩ = w.cell? ⟨p, o, none⟩ := fun o ho =>
  World.cell?_setCells_out p M' (sO q n + i) w ⟨p, o, none⟩ (fun _ _ => by show o < sO q n + i ∨ sO q n + i + M'.length ≤ o; omega)
 have hth : w.there p (sO q n + i) M'.length := m.there (by unfold sO; omega)
 have hne : ∀ k t, own k = some t → t ≠ rootTag → k ≠ p := fun k t hk ht e => by
  rw [e, m.tag] at hk; exact ht (Option.some.inj hk).symm
 refine ⟨m.setSes hq hn x g (fun k t hk h1 h2 => ⟨hx k t hk h1 h2, fun ht => hsame k (hne k t hk ht)⟩) ⟨C', hC', by omega⟩ (rangeAt_splice (m.ses q hq n hn) e e' hi hl hth) hcell
  (hlk.frame (fun k hk => hsame k (hne k _ (hsub k _ hk) (by intro c; simp [lockTag, rootTag] at c))) (fun _ h => h))
  (hout.frame (fun k hk => hsame k (hne k _ (hsub k _ hk) (by intro c; simp [outTag, rootTag] at c))) (fun _ h => h))
  (fun k hk => by
   rw [setCells_size]
   obtain ⟨t, ht⟩ := Option.ne_none_iff_exists'.1 hk
   exact m.old k (by rw [hsub k t ht]; simp)), ?_⟩
 exact ⟨hkb.1, setCells_tape _ _ _, hkb.2.1, by rw [setCells_size]; exact Nat.le_refl _, fun k _ hn => hsame k (fun e => by rw [e, m.tag] at hn; cases hn), fun k hk => by
   obtain ⟨t, ht⟩ := Option.ne_none_iff_exists'.1 hk
   exact .inl (by rw [hsub k t ht]; simp),
   fun k y _ hk => ⟨hsame k (hne k _ hk (by intro c; simp [rootTag] at c)), .inr (by rw [hx k _ hk (by intro c; simp [lockTag] at c) (by intro c; simp [outTag] at c), hk])⟩⟩
def placeOf (l c : Int) : Nat := (l * 8 + c).toNat
theorem placeOf_eq {l c : Int} (h : labB l c = true) : l * 8 + c = (placeOf l c : Int) ∧ placeOf l c < 32 := by
 obtain ⟨h1, h2, h3, h4⟩ := labB_t h
 unfold placeOf
 omega
theorem place_nat (l c : Int) (w : World) (h : labB l c = true) :
  Calls Try.prog 60 #[.agg #[.int .i64 l, .int .i64 c]] w fun e w' => e = .returned (.tuple #[.int .i64 (placeOf l c), .bool true]) ∧ Below w.heap.size w w' := by
 have := place_yes l c w h
 rw [(placeOf_eq h).1] at this
 exact this
theorem look_yes (p : Nat) (l c : Int) (T : Nat → Option Int) (w : World) (h : labB l c = true) (hr : w.rangeAt p (3 + placeOf l c * 350) (tabV T)) (hp : p < w.heap.size) :
  Calls Try.prog 31 #[.pointer (some ⟨p, 0, none⟩), .agg #[.int .i64 l, .int .i64 c]] w fun e w' =>
   ∃ v, e = .returned (.tuple #[v, .int .i64 0]) ∧ w'.ownsRow w.heap.size 94 2 v (listTo T 0 15 16).length (itemsV (listTo T 0 15 16)) ∧ Below w.heap.size w w' := by
 have hlt := (placeOf_eq h).2
 go_enter Try.func31, Try.ntmps31
 go_wp2_with fail
 refine (place_nat l c _ h).mono ?_
 rintro e w1 ⟨rfl, hb⟩
 have hb0 : Below w.heap.size w w1 := ((Below.refl _ _).alloc (Nat.le_refl _) _).trans (hb.mono (by simp))
 have hr1 := rangeAt_below hr hb0 hp
 have zi : (placeOf l c : Int) < 32 := by omega
 generalize placeOf l c = q at *
 go_wp2_with fail
 refine (list_any p (3 + q * 350) T 0 15 _ hr1).mono ?_
 rintro e w2 ⟨v, rfl, hown, hb2⟩
 go_wp2
 go_ret2
 refine ⟨v, rfl, ?_, hb0.trans (hb2.mono hb0.size)⟩
 obtain ⟨hl, ho⟩ := hown
 refine ⟨hl, ?_⟩
 have hsz := hb0.size
 rcases ho with h | ⟨b, c, d, e1, e2, e3⟩
 ·exact .inl h
 ·exact .inr ⟨b, c, d, e1, by omega, e3⟩
theorem look_no (p : Nat) (l c : Int) (w : World) (h : labB l c = false) :
  Calls Try.prog 31 #[.pointer (some ⟨p, 0, none⟩), .agg #[.int .i64 l, .int .i64 c]] w fun e w' =>
   e = .returned (.tuple #[.slice none 0 0, .int .i64 2]) ∧ Below w.heap.size w w' := by
 go_enter Try.func31, Try.ntmps31
 go_wp2_with fail
 refine (place_no l c _ h).mono ?_
 rintro e w1 ⟨rfl, hb⟩
 have hb0 : Below w.heap.size w w1 := ((Below.refl _ _).alloc (Nat.le_refl _) _).trans (hb.mono (by simp))
 go_wp2
 go_ret2
 exact ⟨rfl, hb0⟩
end Go.Proofs.Ytpbcplfpjcacfaa
