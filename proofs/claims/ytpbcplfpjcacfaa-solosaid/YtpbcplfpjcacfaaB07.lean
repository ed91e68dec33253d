import Derived.Test.YtpbcplfpjcacfaaB06
namespace Go.Proofs.Ytpbcplfpjcacfaa
open Go.RowKit
set_option maxRecDepth 100000
set_option maxHeartbeats 8000000
def RS.unready (st : RS) (x : Wh) : RS := { st with txns := st.txns.map (fun t => if t.who == x then { t with ready := false } else t) }
def RS.isReady (st : RS) (x : Wh) : Bool := match st.txOf x with
 | none => false
 | some t => t.ready
def RS.toldOf (st : RS) (x : Wh) : Ans := match st.txOf x with
 | none => ⟨8, 0, []⟩
 | some t => t.told
def RS.pollT (st : RS) (x : Wh) : RS × Ans :=
 if (st.waitRec x).isSome then (st, ⟨1, 0, []⟩)
 else if st.isReady x then (st.unready x, st.toldOf x) else (st, ⟨8, 0, []⟩)
def RS.startT (st : RS) (x : Wh) : RS × Ans :=
 if (st.txOf x).isSome then (st, ⟨6, 0, []⟩)
 else if st.v ≤ (cntIx x.lab st.txns : Int) then (st, ⟨4, 0, []⟩) else (st.beginT x, ⟨0, 0, []⟩)
def RS.actT (st : RS) (x : Stp) : RS × Ans :=
 if x.op = 8 then st.pollT x.who
 else if (x.op = 7 ∨ x.op = 6) ∧ (st.txOf x.who).isSome = false then (st, ⟨5, 0, []⟩)
 else if x.op = 7 then ((st.ends x.who true 0).againT, ⟨0, 0, []⟩)
 else if (st.waitRec x.who).isSome ∨ st.isReady x.who then (st, ⟨7, 0, []⟩)
 else if x.op = 1 then st.startT x.who
 else if (st.txOf x.who).isSome = false then (st, ⟨5, 0, []⟩)
 else if x.op = 6 then ((st.ends x.who false 0).againT, ⟨0, 0, []⟩)
 else st.askT x
def RS.doT (st : RS) (x : Stp) : RS × Ans :=
 if properB x = false then (st, ⟨9, 0, []⟩)
 else if 0 < st.toldW x.who then (st.toldT x.who, ⟨2, st.toldW x.who, []⟩)
 else (st.toldT x.who).actT x
theorem txOf_cases (st : RS) (x : Wh) : (st.txOf x = none ∧ st.live x = -1 ∧ ∀ t ∈ st.txns, t.who ≠ x) ∨ ∃ (m : Nat) (t : Tx), st.txOf x = some t ∧ st.live x = (m : Int) ∧ st.txns[m]? = some t ∧ t.who = x := by
 unfold RS.txOf RS.live
 have gen : ∀ (l : List Tx) (k : Nat), (l.find? (fun t => t.who == x) = none ∧ liveIx x l k = -1 ∧ ∀ t ∈ l, t.who ≠ x) ∨ ∃ (m : Nat) (t : Tx), l.find? (fun t => t.who == x) = some t ∧ liveIx x l k = ((k + m : Nat) : Int) ∧ l[m]? = some t ∧ t.who = x := by
  intro l
  induction l with
  | nil => intro k; exact .inl ⟨rfl, rfl, by simp⟩
  | cons a l ih =>
   intro k
   by_cases h : a.who = x
   ·refine .inr ⟨0, a, ?_, ?_, rfl, h⟩
    ·rw [List.find?_cons_of_pos (by simpa using h)]
    ·rw [liveIx, if_pos h]; simp
   ·rw [liveIx, if_neg h, List.find?_cons_of_neg (by simpa using h)]
    rcases ih (k + 1) with ⟨h1, h2, h3⟩ | ⟨m, t, h1, h2, h3, h4⟩
    ·exact .inl ⟨h1, h2, fun t ht => by rcases List.mem_cons.1 ht with rfl | ht; exact h; exact h3 t ht⟩
    ·exact .inr ⟨m + 1, t, h1, by rw [h2]; congr 1; omega, by simpa using h3, h4⟩
 have := gen st.txns 0
 simpa using this
theorem unready_at {st : RS} {x : Wh} {n : Nat} {t : Tx} (hu : st.uniq) (hn : st.txns[n]? = some t) (ht : t.who = x) : st.unready x = { st with txns := st.txns.set n { t with ready := false } } := by
 unfold RS.unready
 congr 1
 refine List.ext_getElem? fun m => ?_
 rw [List.getElem?_map]
 by_cases hmn : n = m
 ·subst hmn
  rw [List.getElem?_set_self (List.getElem?_eq_some_iff.1 hn).1, hn]; simp [ht]
 ·rw [List.getElem?_set_ne hmn]
  cases hq : st.txns[m]? with
  | none => rfl
  | some u =>
   have hw : u.who ≠ x := fun e => hmn (hu n m t u hn hq (by rw [ht, e]))
   simp [hw]
theorem isW_iff (x : Wh) (e : Wh × Int) : isW x e = true ↔ e.1 = x := by
 unfold isW sameW
 simp only [decide_eq_true_eq]
 constructor
 ·rintro ⟨h1, h2, h3⟩; exact Prod.ext h1 (Prod.ext h2 h3)
 ·rintro rfl; exact ⟨rfl, rfl, rfl⟩
theorem RS.Fit.toldT {N : Nat} {st : RS} (F : st.Fit N) (x : Wh) : (st.toldT x).Fit N := by
 have hs : (st.ended.eraseP (isW x)).Sublist st.ended := List.eraseP_sublist
 exact { F with
  endW := fun e he => F.endW e (hs.mem he)
  endN := F.endN.sublist (hs.map _)
  endT := fun e he => F.endT e (hs.mem he) }
theorem told_gone {N : Nat} {st : RS} (F : st.Fit N) (x : Wh) : ∀ e ∈ (st.toldT x).ended, e.1 ≠ x := by
 intro e he hx
 change e ∈ st.ended.eraseP (isW x) at he
 have hN := F.endN
 generalize st.ended = l at he hN
 induction l with
 | nil => simp at he
 | cons a l ih =>
  rw [List.map_cons, List.nodup_cons] at hN
  rw [List.eraseP_cons] at he
  cases ha : isW x a with
  | true =>
   rw [ha] at he
   simp only [cond_true] at he
   exact hN.1 (List.mem_map.2 ⟨e, he, by rw [hx, (isW_iff x a).1 ha]⟩)
  | false =>
   rw [ha] at he
   simp only [cond_false] at he
   rcases List.mem_cons.1 he with rfl | he
   ·have := (isW_iff x e).2 hx; rw [ha] at this; cases this
   ·exact ih he hN.2
theorem RS.Fit.unready {N : Nat} {st : RS} (F : st.Fit N) (x : Wh) : (st.unready x).Fit N := by
 rcases txOf_cases st x with ⟨_, _, h⟩ | ⟨m, t, _, _, h2, h3⟩
 ·have : st.unready x = st := by
   unfold RS.unready
   have : st.txns.map (fun t => if t.who == x then { t with ready := false } else t) = st.txns := by
    conv => rhs; rw [← List.map_id st.txns]
    refine List.map_congr_left fun t ht => ?_
    simp [h t ht]
   rw [this]
  rw [this]; exact F
 ·rw [unready_at F.uniq h2 h3]
  exact F.told h2 false t.told
theorem RS.Fit.beginT {N : Nat} {st : RS} (F : st.Fit N) {x : Wh} (hx : x.ok) (hl : ∀ t ∈ st.txns, t.who ≠ x) (he : ∀ e ∈ st.ended, e.1 ≠ x) : (st.beginT x).Fit (N + 1) := by
 have F1 := F.mono (Nat.le_succ N)
 have hmem : ∀ t, t ∈ st.txns ++ [newTx x (st.begun + 1)] → t ∈ st.txns ∨ t = newTx x (st.begun + 1) := fun t ht => by simpa using ht
 have hrec : ∀ c ∈ st.recs, c.who ≠ x := fun c hc e => by
  obtain ⟨t, ht, h⟩ := F.backed c hc
  exact hl t ht (by rw [h, e])
 refine { F1 with uniq := ?_, who := ?_, backed := ?_, waits := ?_, olds := ?_, oldsN := ?_, endT := ?_, puts := ?_, begun := ?_ }
 ·refine uniq_of ?_
  show ((st.txns ++ [newTx x (st.begun + 1)]).map (·.who)).Nodup
  rw [List.map_append]
  refine List.nodup_append.2 ⟨F.txnsN, by simp, ?_⟩
  intro a ha b hb e
  obtain ⟨t, ht, rfl⟩ := List.mem_map.1 ha
  simp [newTx] at hb
  exact hl t ht (by rw [e, hb])
 ·intro t ht
  rcases hmem t ht with h | rfl
  ·exact F.who t h
  ·exact hx
 ·intro c hc
  obtain ⟨t, ht, h⟩ := F.backed c hc
  exact ⟨t, List.mem_append_left _ ht, h⟩
 ·intro c hc hw t ht e
  rcases hmem t ht with h | rfl
  ·exact F.waits c hc hw t h e
  ·exact absurd e.symm (hrec c hc)
 ·intro t ht
  rcases hmem t ht with h | rfl
  ·exact F.olds t h
  ·intro o ho; simp [newTx] at ho
 ·intro t ht
  rcases hmem t ht with h | rfl
  ·exact F.oldsN t h
  ·simp [newTx]
 ·intro e hee t ht
  rcases hmem t ht with h | rfl
  ·exact F.endT e hee t h
  ·exact fun h => he e hee h.symm
 ·intro t ht
  rcases hmem t ht with h | rfl
  ·obtain ⟨h1, h2⟩ := F1.puts t h
   exact ⟨h1, h2⟩
  ·refine ⟨by simp [newTx], fun ⟨c, hc, h1, _⟩ => absurd h1 (hrec c hc)⟩
 ·have := F.begun
  show 0 ≤ st.begun + 1 ∧ st.begun + 1 ≤ ((N + 1 : Nat) : Int)
  omega
structure Proper (x : Stp) : Prop where
 who : x.who.ok
 op : 1 ≤ x.op ∧ x.op ≤ 8
 asks : x.op = 2 ∨ x.op = 3 ∨ x.op = 4 ∨ x.op = 5 → x.Good ∧ x.at_.ok
theorem labB_ok {a : Lab} (h : labB a.1 a.2 = true) : a.ok := by unfold labB at h; unfold Lab.ok; simpa using h
theorem proper_of {x : Stp} (h : properB x = true) : Proper x := by
 unfold properB at h
 simp only [Bool.and_eq_true, decide_eq_true_eq] at h
 obtain ⟨⟨h1, h2, h3, h4, h5⟩, h6⟩ := h
 refine ⟨⟨labB_ok (a := x.who.lab) h1, h2, h3⟩, ⟨h4, h5⟩, fun ho => ?_⟩
 have ha : asksB x.op = true := by unfold asksB; simpa using ho
 rw [ha] at h6
 simp only [Bool.not_true, Bool.false_or, Bool.and_eq_true, decide_eq_true_eq, Bool.or_eq_true, Bool.not_eq_true', decide_eq_false_iff_not] at h6
 obtain ⟨⟨⟨h7, h8⟩, h9⟩, h10⟩ := h6
 exact ⟨⟨ho, h8, fun h3 => by rcases h9 with h | h; exact absurd h3 h; exact h⟩, labB_ok h7⟩
theorem waitRec_none {st : RS} {x : Wh} (h : (st.waitRec x).isSome = false) : ∀ c ∈ st.recs, c.who = x → c.waits = false := by
 intro c hc e
 have hn : st.recs.find? (isWt x) = none := by simpa [RS.waitRec] using h
 have := List.find?_eq_none.1 hn c hc
 unfold isWt at this
 rw [show sameW c.who.1 c.who.2.1 c.who.2.2 x.1 x.2.1 x.2.2 = true from sameW_t (by rw [← e])] at this
 simpa using this
theorem txOf_some {st : RS} {x : Wh} (h : ¬ (st.txOf x).isSome = false) : ∃ t ∈ st.txns, t.who = x := by
 rcases txOf_cases st x with ⟨h1, _⟩ | ⟨m, t, _, _, h2, h3⟩
 ·rw [h1] at h; simp at h
 ·exact ⟨t, List.mem_of_getElem? h2, h3⟩
theorem actT_asking {N : Nat} {st : RS} {x : Stp} (F : st.Fit N) (hp : Proper x) (hc : st.c ≤ 32) (h8 : ¬ x.op = 8) (h7 : ¬ x.op = 7) (h6 : ¬ x.op = 6) (h1 : ¬ x.op = 1) (hw : (st.waitRec x.who).isSome = false) (hl : ∃ t ∈ st.txns, t.who = x.who) : Asking N st x := by
 have ho : x.op = 2 ∨ x.op = 3 ∨ x.op = 4 ∨ x.op = 5 := by have := hp.op; omega
 exact ⟨F, (hp.asks ho).1, hl, waitRec_none hw, (hp.asks ho).2, hc⟩
theorem RS.Fit.actT {N : Nat} {st : RS} {x : Stp} (F : st.Fit N) (hp : Proper x) (hc : st.c ≤ 32) (he : ∀ e ∈ st.ended, e.1 ≠ x.who) : (st.actT x).1.Fit (N + 1) := by
 have F1 := F.mono (Nat.le_succ N)
 unfold RS.actT
 split
 ·unfold RS.pollT
  split
  ·exact F1
  ·split
   ·exact F1.unready _
   ·exact F1
 ·rename_i h8
  split
  ·exact F1
  ·split
   ·exact (F1.ends _ _ _).againT
   ·rename_i h7
    split
    ·exact F1
    ·rename_i hb
     split
     ·unfold RS.startT
      split
      ·exact F1
      ·rename_i hn
       split
       ·exact F1
       ·refine F.beginT hp.who ?_ he
        rcases txOf_cases st x.who with ⟨_, _, h⟩ | ⟨m, t, h1, _⟩
        ·exact h
        ·rw [h1] at hn; simp at hn
     ·rename_i h1
      split
      ·exact F1
      ·rename_i hl
       split
       ·exact (F1.ends _ _ _).againT
       ·rename_i h6
        exact (actT_asking F hp hc h8 h7 h6 h1 (by
         cases h : (st.waitRec x.who).isSome
         ·rfl
         ·exact absurd (.inl h) hb) (txOf_some hl)).ask
theorem RS.Fit.doT {N : Nat} {st : RS} (F : st.Fit N) (x : Stp) (hc : st.c ≤ 32) : (st.doT x).1.Fit (N + 1) := by
 unfold RS.doT
 split
 ·exact F.mono (Nat.le_succ N)
 ·rename_i h
  split
  ·exact (F.toldT _).mono (Nat.le_succ N)
  ·exact (F.toldT _).actT (proper_of (by simpa using h)) hc (told_gone F _)
structure ChgD (own : Own) (w w' : World) (own' : Own) : Prop where
 os : w'.os = w.os
 tape : w'.tape = w.tape
 output : w'.output = w.output
 size : w.heap.size ≤ w'.heap.size
 block : ∀ k, k < w.heap.size → own k = none → w'.heap[k]? = w.heap[k]?
 fresh : ∀ k, own' k ≠ none → own k ≠ none ∨ w.heap.size ≤ k
theorem Chg.toD {own own' : Own} {w w' : World} (h : Chg own w w' own') : ChgD own w w' own' := ⟨h.os, h.tape, h.output, h.size, h.block, h.fresh⟩
theorem ChgD.off {own own' : Own} {w w' : World} (h : ChgD own w w' own') {b : Nat} (hb : own b = .none) (hlt : b < w.heap.size) : own' b = .none := by
 cases hq : own' b with
 | none => rfl
 | some t =>
  rcases h.fresh b (by rw [hq]; simp) with h1 | h1
  ·exact absurd hb h1
  ·omega
theorem ChgD.trans {own own' own'' : Own} {w w' w'' : World} (h : ChgD own w w' own') (k : ChgD own' w' w'' own'') : ChgD own w w'' own'' where
 os := k.os.trans h.os
 tape := k.tape.trans h.tape
 output := k.output.trans h.output
 size := Nat.le_trans h.size k.size
 block := fun b hb hn => by rw [k.block b (Nat.lt_of_lt_of_le hb h.size) (h.off hn hb), h.block b hb hn]
 fresh := fun b hb => by
  rcases k.fresh b hb with h1 | h1
  ·exact h.fresh b h1
  ·exact .inr (Nat.le_trans h.size h1)
theorem ChgD.free {own own' : Own} {w w' : World} (h : ChgD own w w' own') {b j : Nat} (hb : w.heap.size ≤ b) (u : Value) : ChgD own w (w'.setCell ⟨b, j, none⟩ u) own' :=
 ⟨h.os, h.tape, h.output, by simpa using h.size, fun k hk hn => by rw [heap_setCell_ne _ _ _ _ _ (by omega)]; exact h.block k hk hn, h.fresh⟩
def Own.drop (own : Own) (tag : Tag) : Own := fun b => if own b = some tag then none else own b
theorem Own.drop_keep {own : Own} {tag t : Tag} {b : Nat} (h : own b = some t) (hne : t ≠ tag) : own.drop tag b = some t := by
 unfold Own.drop
 rw [if_neg (by rw [h]; intro e; exact hne (Option.some.inj e))]; exact h
theorem Mem.drop {w : World} {r : Nat} {st : RS} {own : Own} {g : Gh} {vp vt vr ve : Value} (P : Mem w r st own g vp vt vr ve) {x : Wh} (h : ∀ t ∈ st.txns, t.who = x → t.ready = false) : Mem w r st (own.drop (8, x)) g vp vt vr ve := by
 exact {
  root := P.root
  rootTag := Own.drop_keep P.rootTag (by intro e; cases e)
  places := P.places.frame (fun _ _ => rfl) (fun b hb => Own.drop_keep hb (by intro e; cases e))
  txns := P.txns.frame (fun _ _ => rfl) (fun b hb => Own.drop_keep hb (by intro e; cases e))
  recs := P.recs.frame (fun _ _ => rfl) (fun b hb => Own.drop_keep hb (by intro e; cases e))
  ended := P.ended.frame (fun _ _ => rfl) (fun b hb => Own.drop_keep hb (by intro e; cases e))
  olds := fun t ht => (P.olds t ht).frame (fun _ _ => rfl) (fun b hb => Own.drop_keep hb (by intro e; cases e))
  puts := fun t ht => (P.puts t ht).frame (fun _ _ => rfl) (fun b hb => Own.drop_keep hb (by intro e; cases e))
  told := fun t ht hr => (P.told t ht hr).frame (fun _ _ => rfl) (fun b hb => Own.drop_keep hb (by
   intro e
   have hw : t.who = x := by injection e
   have := h t ht hw
   rw [this] at hr; cases hr))
  toldV := P.toldV
  old := fun k hk => by
   refine P.old k (fun e => hk ?_)
   unfold Own.drop; rw [e]; simp }
structure Closed (I : RS → Prop) (x : Stp) : Prop where
 told : ∀ st, I st → I (st.toldT x.who)
 unready : ∀ st, I st → I (st.unready x.who)
 start : ∀ st, I st → properB x = true → I (st.beginT x.who)
 quit : ∀ st y b, I st → I (st.ends y b 0)
 dead : ∀ st y, I st → I (st.ends y true 2)
 shove : ∀ st rc a, I st → a ∈ st.recs → clrP rc a = true → I (st.ends a.who true 1)
 park : ∀ st, I st → properB x = true → x.barred = false → I ((st.addRec (st.askR x).on).setStep x)
 take : ∀ st, I st → properB x = true → x.barred = false → I (st.addRec (st.askR x))
 off : ∀ st j c, I st → st.recs[j]? = some c → I (st.offAt j c)
 does : ∀ st y, I st → I (st.does y).1
 tell : ∀ st y a, I st → (a.code = 0 ∨ a.code = 4) → a.why = 0 → I (st.tell y a)
theorem does_code (st : RS) (x : Stp) : ((st.does x).2.code = 0 ∨ (st.does x).2.code = 4) ∧ (st.does x).2.why = 0 := by
 unfold RS.does
 split
 ·exact ⟨.inl rfl, rfl⟩
 ·unfold RS.job
  split
  ·exact ⟨.inl rfl, rfl⟩
  ·split
   ·split
    ·exact ⟨.inr rfl, rfl⟩
    ·exact ⟨.inl rfl, rfl⟩
   ·exact ⟨.inl rfl, rfl⟩
namespace Closed
variable {I : RS → Prop} {x : Stp}
theorem clearN (C : Closed I x) (rc : Rc) : ∀ (f : Nat) (st : RS), I st → I (RS.clearN rc f st)
 | 0, st, h => h
 | f + 1, st, h => by
  unfold RS.clearN
  split
  ·exact h
  ·rename_i a ha
   exact clearN C rc f _ (C.shove st rc a h (List.mem_of_find?_eq_some ha) (List.find?_some ha))
theorem clearT (C : Closed I x) (st : RS) (rc : Rc) (h : I st) : I (st.clearT rc) := by
 unfold RS.clearT
 split
 ·exact C.clearN rc _ _ h
 ·exact h
theorem grant (C : Closed I x) (st : RS) (j : Nat) (c : Rc) (h : I st) (hj : st.recs[j]? = some c) : I (st.grant j c) := by
 unfold RS.grant RS.granted
 exact C.tell _ _ _ (C.does _ _ (C.clearT _ _ (C.off _ _ _ h hj))) (does_code _ _).1 (does_code _ _).2
theorem againN (C : Closed I x) : ∀ (f : Nat) (st : RS), I st → I (RS.againN f st)
 | 0, st, h => h
 | f + 1, st, h => by
  unfold RS.againN
  split
  ·exact h
  ·split
   ·exact h
   ·rename_i hc
    exact againN C f _ (C.grant st _ _ h hc)
theorem againT (C : Closed I x) (st : RS) (h : I st) : I st.againT := C.againN _ _ h
theorem ringsN (C : Closed I x) : ∀ (f : Nat) (st : RS) (y : Wh), I st → I (RS.ringsN f st y).1
 | 0, st, y, h => h
 | f + 1, st, y, h => by
  unfold RS.ringsN
  split
  ·exact h
  ·split
   ·exact h
   ·split
    ·exact C.againT _ (C.quit _ _ _ h)
    ·exact ringsN C f _ _ (C.againT _ (C.dead _ _ h))
theorem askT (C : Closed I x) (st : RS) (h : I st) (hp : properB x = true) : I (st.askT x).1 := by
 unfold RS.askT
 split
 ·exact h
 ·rename_i hb
  have hb' : x.barred = false := by simpa using hb
  split
  ·exact C.does _ _ h
  ·split
   ·exact h
   ·split
    ·exact C.ringsN _ _ _ (C.park st h hp hb')
    ·exact C.againT _ (C.does _ _ (C.clearT _ _ (C.take st h hp hb')))
theorem actT (C : Closed I x) (st : RS) (h : I st) (hp : properB x = true) : I (st.actT x).1 := by
 unfold RS.actT
 split
 ·unfold RS.pollT
  split
  ·exact h
  ·split
   ·exact C.unready _ h
   ·exact h
 ·split
  ·exact h
  ·split
   ·exact C.againT _ (C.quit _ _ _ h)
   ·split
    ·exact h
    ·split
     ·unfold RS.startT
      split
      ·exact h
      ·split
       ·exact h
       ·exact C.start _ h hp
     ·split
      ·exact h
      ·split
       ·exact C.againT _ (C.quit _ _ _ h)
       ·exact C.askT st h hp
theorem doT (C : Closed I x) (st : RS) (h : I st) : I (st.doT x).1 := by
 unfold RS.doT
 split
 ·exact h
 ·rename_i hp
  split
  ·exact C.told _ h
  ·exact C.actT _ (C.told _ h) (by simpa using hp)
end Closed
theorem backTo_rest (a : Lab) : ∀ (l : List (Int × Int)) (st : RS), ∃ p, backTo a l st = { st with places := p }
 | [], st => ⟨st.places, rfl⟩
 | o :: l, st => by
  obtain ⟨p, hp⟩ := backTo_rest a l (st.setP a o.1 o.2)
  exact ⟨p, by unfold backTo at hp ⊢; rw [List.foldl_cons, hp]; rfl⟩
theorem ends_rest (st : RS) (x : Wh) (b : Bool) (w : Int) : st.ends x b w = st ∨ ∃ p, st.ends x b w = { st with places := p, txns := st.txns.filter (fun t => t.who != x), recs := st.recs.filter (fun c => c.who != x), ended := if 0 < w then st.ended ++ [(x, w)] else st.ended } := by
 unfold RS.ends
 split
 ·exact .inl rfl
 ·rename_i t _
  right
  cases b with
  | false => exact ⟨st.places, rfl⟩
  | true =>
   obtain ⟨p, hp⟩ := backTo_rest x.lab t.olds.reverse st
   exact ⟨p, by simp only [if_true, hp]⟩
theorem does_rest (st : RS) (x : Stp) : ∃ p t, (st.does x).1 = { st with places := p, txns := t } := by
 unfold RS.does
 split
 ·exact ⟨_, _, rfl⟩
 ·unfold RS.job
  split
  ·unfold RS.writeT RS.keepOld RS.setP
   split <;> exact ⟨_, _, rfl⟩
  ·split
   ·split
    ·exact ⟨_, _, rfl⟩
    ·unfold RS.putT RS.writeT RS.keepOld RS.setP
     split <;> exact ⟨_, _, rfl⟩
   ·exact ⟨_, _, rfl⟩
theorem closed_cfg (Q : Int → Int → Int → Prop) (x : Stp) : Closed (fun st => Q st.k st.v st.c) x where
 told := fun _ h => h
 unready := fun _ h => h
 start := fun _ h _ => h
 quit := fun st y b h => by rcases ends_rest st y b 0 with e | ⟨p, e⟩ <;> rw [e] <;> exact h
 dead := fun st y h => by rcases ends_rest st y true 2 with e | ⟨p, e⟩ <;> rw [e] <;> exact h
 shove := fun st _ a h _ _ => by rcases ends_rest st a.who true 1 with e | ⟨p, e⟩ <;> rw [e] <;> exact h
 park := fun _ h _ _ => h
 take := fun _ h _ _ => h
 off := fun _ _ _ h _ => h
 does := fun st y h => by obtain ⟨p, t, e⟩ := does_rest st y; rw [e]; exact h
 tell := fun _ _ _ h _ _ => h
theorem doT_cfg (st : RS) (x : Stp) : (st.doT x).1.k = st.k ∧ (st.doT x).1.v = st.v ∧ (st.doT x).1.c = st.c :=
 (closed_cfg (fun k v c => k = st.k ∧ v = st.v ∧ c = st.c) x).doT st ⟨rfl, rfl, rfl⟩
structure OwnI (st : RS) : Prop where
 recs : ∀ c ∈ st.recs, c.at_ = c.who.lab
 ended : ∀ e ∈ st.ended, e.2 = 2
 told : ∀ t ∈ st.txns, t.told.code ≠ 2
theorem OwnI.ends {st : RS} (h : OwnI st) (y : Wh) (b : Bool) (w : Int) (hw : w = 0 ∨ w = 2) : OwnI (st.ends y b w) := by
 rcases ends_rest st y b w with e | ⟨p, e⟩ <;> rw [e]
 ·exact h
 ·refine ⟨fun c hc => h.recs c (List.mem_filter.1 hc).1, fun e he => ?_, fun t ht => h.told t (List.mem_filter.1 ht).1⟩
  simp only at he
  split at he
  ·rcases List.mem_append.1 he with he | he
   ·exact h.ended e he
   ·simp only [List.mem_singleton] at he
    subst he
    rcases hw with rfl | rfl
    ·rename_i h0; omega
    ·rfl
  ·exact h.ended e he
theorem sameL_iff {a b c d : Int} : sameL a b c d = true ↔ a = c ∧ b = d := by unfold sameL; simp
theorem OwnI.noClr {st : RS} (h : OwnI st) (rc a : Rc) (ha : a ∈ st.recs) : clrP rc a = false := by
 have h1 := h.recs a ha
 unfold clrP meetB
 cases hs : sameL a.at_.1 a.at_.2 rc.at_.1 rc.at_.2 with
 | false => simp
 | true =>
  have h2 := sameL_iff.1 hs
  have h3 : sameL a.who.1 a.who.2.1 rc.at_.1 rc.at_.2 = true := by
   rw [h1] at h2
   exact sameL_iff.2 h2
  rw [h3]; simp
theorem OwnI.toldOf {st : RS} (h : OwnI st) (y : Wh) : (st.toldOf y).code ≠ 2 := by
 unfold RS.toldOf
 split
 ·simp
 ·rename_i t ht
  exact h.told t (List.mem_of_find?_eq_some ht)
end Go.Proofs.Ytpbcplfpjcacfaa
