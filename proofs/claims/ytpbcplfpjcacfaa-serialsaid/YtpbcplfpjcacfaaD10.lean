import Derived.Test.YtpbcplfpjcacfaaD09
namespace Go.Proofs.Ytpbcplfpjcacfaa
open Go.RowKit
set_option maxRecDepth 100000
set_option maxHeartbeats 8000000
theorem set_split {l : List Value} {i : Nat} (v : Value) (h : i < l.length) : ∃ A Z u, l = A ++ ([u] ++ Z) ∧ l.set i v = A ++ ([v] ++ Z) ∧ A.length = i :=
 ⟨l.take i, l.drop (i + 1), l[i], by rw [List.singleton_append, ← drop_at (List.getElem?_eq_getElem h), List.take_append_drop], by rw [List.set_eq_take_append_cons_drop, if_pos h]; rfl, by rw [List.length_take]; omega⟩
section
variable {w : World} {p q n : Nat} {s : PS} {own : Own} {G : PG}
theorem PMem.put1 (m : PMem w p s own G) (hq : q < 32) (hn : n < 4) (x : Ses) {i : Nat} {v : Value} (hi : i < 79) (e' : sesC x (G.s q n) = (sesC ((s.t q).ses n) (G.s q n)).set i v) (hl : x.locks = ((s.t q).ses n).locks) (ho : x.out.items = ((s.t q).ses n).out.items) :
  PMem (w.setCell ⟨p, tO q + 32 + n * 79 + i, none⟩ v) p (s.setS q n x) own (G.setS q n (G.s q n)) ∧ ChgQ own w (w.setCell ⟨p, tO q + 32 + n * 79 + i, none⟩ v) own := by
 obtain ⟨A, Z, u, e1, e2, e3⟩ := set_split v (l := sesC ((s.t q).ses n) (G.s q n)) (i := i) (by rw [len_sesC]; exact hi)
 exact m.putSes hq hn x (G.s q n) i [v] e1 (e'.trans e2) e3 rfl (fun _ _ h _ _ => h) (fun _ _ h => h) (by rw [hl]; exact m.lockR q hq n hn) (by rw [ho]; exact m.outR q hq n hn)
theorem PMem.sesFits (m : PMem w p s own G) (hq : q < 32) (hn : n < 4) {i k : Nat} (h : i + k ≤ 79) : w.there p (tO q + 32 + n * 79 + i) k := m.there (by unfold tO; omega)
end
theorem sesC_set (s : Ses) (g : SG) (j : Nat) (v : Value) : (sesC s g).set (65 + j) v = [g.1] ++ (wrC s.wr ++ ((stepC s.req ++ ([Value.bool s.came] ++ (outC s.out g.2 ++ [Value.int .i64 s.ended]))).set j v)) := by
 unfold sesC
 rw [List.set_append_right _ _ (by simp; omega), List.set_append_right _ _ (by rw [len_wrC]; simp), len_wrC]
 congr 3
 simp
theorem sesC_ended (s : Ses) (g : SG) (e : Int) : sesC { s with ended := e } g = (sesC s g).set 78 (.int .i64 e) := by
 rw [show 78 = 65 + 13 from rfl, sesC_set]; rfl
theorem sesC_came (s : Ses) (g : SG) (b : Bool) : sesC { s with came := b } g = (sesC s g).set 74 (.bool b) := by
 rw [show 74 = 65 + 9 from rfl, sesC_set]; rfl
theorem sesC_locks (s : Ses) (g : SG) (v : Value) (l : List Lk) : sesC { s with locks := l } (v, g.2) = (sesC s g).set 0 v := rfl
theorem sesC_wr (s : Ses) (g : SG) (x : Wrt) (j : Nat) (v : Value) (hj : j < 64) (h : wrC x = (wrC s.wr).set j v) : sesC { s with wr := x } g = (sesC s g).set (1 + j) v := by
 unfold sesC
 rw [List.set_append_right _ _ (by simp), List.set_append_left _ _ (by rw [len_wrC]; simp; exact hj)]
 simp only [h]
 congr 3
 simp
theorem flagC_set (f : Nat → Bool) {k : Nat} (b : Bool) : flagC (upd f k b) = (flagC f).set k (.bool b) := by
 apply List.ext_getElem?
 intro i
 rw [List.getElem?_set]
 unfold flagC
 by_cases hi : i < 16
 ·by_cases e : k = i
  ·subst e; simp [hi, upd]
  ·have e' : ¬ i = k := fun h => e h.symm
   simp [hi, upd, e, e']
 ·have h16 : ((List.range 16).map (fun k => Value.bool (f k)))[i]? = none := by simp; omega
  have h17 : ((List.range 16).map (fun m => Value.bool (upd f k b m)))[i]? = none := by simp; omega
  rw [h16, h17]
  split
  ·rw [if_neg]; simp; omega
  ·rfl
theorem wrC_touched (x : Wrt) {k : Nat} (hk : k < 16) (b : Bool) : wrC { x with touched := upd x.touched k b } = (wrC x).set k (.bool b) := by
 unfold wrC
 rw [List.set_append_left _ _ (by rw [len_flagC]; exact hk)]
 simp only [flagC_set]
theorem wrC_put (x : Wrt) {k : Nat} (b : Bool) : wrC { x with put := upd x.put k b } = (wrC x).set (48 + k) (.bool b) := by
 unfold wrC
 rw [List.set_append_right _ _ (by rw [len_flagC]; omega), List.set_append_right _ _ (by rw [len_flagC, len_tabV]; omega), len_flagC, len_tabV]
 simp only [flagC_set]
 congr 3
 omega
theorem range_split {k : Nat} (h : k < 16) : ∃ A Z, List.range 16 = A ++ (k :: Z) ∧ A.length = k ∧ (∀ x ∈ A, x ≠ k) ∧ (∀ x ∈ Z, x ≠ k) := by
 refine ⟨(List.range 16).take k, (List.range 16).drop (k + 1), ?_, ?_, ?_, ?_⟩
 ·rw [← drop_at (by simp [h] : (List.range 16)[k]? = some k), List.take_append_drop]
 ·simp; omega
 ·intro x hx
  rw [List.take_range] at hx
  have := List.mem_range.1 hx
  omega
 ·intro x hx
  obtain ⟨i, hi⟩ := List.mem_iff_getElem?.1 hx
  rw [List.getElem?_drop] at hi
  obtain ⟨h1, h2⟩ := List.getElem?_eq_some_iff.1 hi
  simp at h2
  omega
theorem flatMap_cg {α β : Type} {f g : α → List β} : ∀ {l : List α}, (∀ x ∈ l, f x = g x) → l.flatMap f = l.flatMap g
 | [], _ => rfl
 | a :: l, h => by rw [List.flatMap_cons, List.flatMap_cons, h a (List.mem_cons_self), flatMap_cg (fun x hx => h x (List.mem_cons_of_mem _ hx))]
theorem flatMap_split {α β : Type} (f g : α → List β) {A Z : List α} {k : α} (h1 : ∀ x ∈ A, f x = g x) (h2 : ∀ x ∈ Z, f x = g x) : (A ++ (k :: Z)).flatMap f = A.flatMap g ++ (f k ++ Z.flatMap g) := by
 rw [List.flatMap_append, List.flatMap_cons]
 congr 1
 ·exact flatMap_cg h1
 ·congr 1
  exact flatMap_cg h2
theorem tabV_split (T : Nat → Option Int) {k : Nat} (h : k < 16) (v : Option Int) : ∃ A Z, tabV T = A ++ (slotV T k ++ Z) ∧ tabV (upd T k v) = A ++ (slotV (upd T k v) k ++ Z) ∧ A.length = k * 2 := by
 obtain ⟨A, Z, e, hl, h1, h2⟩ := range_split h
 refine ⟨A.flatMap (slotV T), Z.flatMap (slotV T), ?_, ?_, ?_⟩
 ·unfold tabV; rw [e]; exact flatMap_split _ _ (fun _ _ => rfl) (fun _ _ => rfl)
 ·unfold tabV; rw [e]
  exact flatMap_split _ _ (fun x hx => by unfold slotV; rw [upd_ne _ _ (h1 x hx)]) (fun x hx => by unfold slotV; rw [upd_ne _ _ (h2 x hx)])
 ·rw [flatMap_len _ 2 _ (fun _ => rfl), hl]
def Moved (own : Own) (w : World) (p : Nat) (s : PS) (w' : World) : Prop := ∃ own' G', PMem w' p s own' G' ∧ ChgQ own w w' own'
theorem Moved.trans {own : Own} {w w1 w2 : World} {p : Nat} {s : PS} {own1 : Own} (h : ChgQ own w w1 own1) (k : Moved own1 w1 p s w2) : Moved own w p s w2 := by
 obtain ⟨o2, G2, m2, c2⟩ := k
 exact ⟨o2, G2, m2, h.trans c2⟩
def AQ (own : Own) (w : World) (p : Nat) (s : PS) (a : Ans) (e : Ending) (w' : World) : Prop :=
 ∃ v own' G', e = .returned (ansV a.code a.why v) ∧ w'.ownsRow 0 94 2 v a.items.length (itemsV a.items) ∧ PMem w' p s own' G' ∧ ChgQ own w w' own' ∧ ∀ b, v.ownBlock = some b → own' b = none ∧ ((own b ≠ none ∧ ∀ x, own b ≠ some (5, x)) ∨ w.heap.size ≤ b)
theorem Moved.plain {own : Own} {w w1 : World} {p : Nat} {s : PS} (h : Moved own w p s w1) (c y : Int) : AQ own w p s ⟨c, y, []⟩ (.returned (ansV c y (.slice none 0 0))) w1 := by
 obtain ⟨o, G, m, cc⟩ := h
 exact ⟨.slice none 0 0, o, G, rfl, World.ownsRow_nil _ _ _ _, m, cc, fun b hb => by cases hb⟩
theorem Moved.below {own : Own} {w w1 w2 : World} {p : Nat} {s : PS} (h : Moved own w p s w1) (hb : Below w1.heap.size w1 w2) : Moved own w p s w2 := by
 obtain ⟨o, G, m, cc⟩ := h
 exact ⟨o, G, m.below hb, cc.trans (ChgQ.of_below hb)⟩
theorem Moved.alloc {own : Own} {w w1 : World} {p : Nat} {s : PS} (h : Moved own w p s w1) (o : Obj) : Moved own w p s (w1.alloc o) := h.below ((Below.refl _ _).alloc (Nat.le_refl _) _)
theorem PMem.went {own : Own} {w w1 : World} {p : Nat} {s : PS} {G : PG} (m : PMem w p s own G) (hb : Below w.heap.size w w1) : Moved own w p s w1 := ⟨own, G, m.below hb, ChgQ.of_below hb⟩
theorem PMem.went' {own : Own} {w w1 : World} {p : Nat} {s' : PS} {G' : PG} (h : PMem w1 p s' own G' ∧ ChgQ own w w1 own) : Moved own w p s' w1 := ⟨own, G', h.1, h.2⟩
theorem setT_setT (s : PS) (q : Nat) (x y : Tr) : (s.setT q x).setT q y = s.setT q y := by unfold PS.setT; simp only [upd_upd]
theorem setT_t (s : PS) (q : Nat) (x : Tr) : (s.setT q x).t q = x := upd_same _ _ _
theorem setT_id (s : PS) (q : Nat) : s.setT q (s.t q) = s := by unfold PS.setT; rw [upd_id]
theorem Tr.setS_setS (t : Tr) (n : Nat) (x y : Ses) : (t.setS n x).setS n y = t.setS n y := by unfold Tr.setS; simp only [upd_upd]
theorem Tr.setS_at (t : Tr) (n : Nat) (x : Ses) : (t.setS n x).ses n = x := upd_same _ _ _
theorem setS_setS (s : PS) (q n : Nat) (x y : Ses) : (s.setS q n x).setS q n y = s.setS q n y := by
 unfold PS.setS; rw [setT_t, setT_setT, Tr.setS_setS]
theorem setS_at (s : PS) (q n : Nat) (x : Ses) : ((s.setS q n x).t q).ses n = x := by unfold PS.setS; rw [setT_t, Tr.setS_at]
theorem PG.setS_at (G : PG) (q n : Nat) (g : SG) : (G.setS q n g).s q n = g := by rw [PG.setS_s, if_pos rfl, if_pos rfl]
theorem PMem.free {w : World} {p b o : Nat} {s : PS} {own : Own} {G : PG} (m : PMem w p s own G) (h : own b = none) (cs : List Value) : PMem (w.setCells b o cs) p s own G :=
 m.frame (fun k hk => setCells_other _ _ _ _ (fun e => hk (by rw [e]; exact h))) (by rw [setCells_size]; exact Nat.le_refl _)
theorem ChgQ.free {own own' : Own} {w w1 : World} {b o : Nat} (h : ChgQ own w w1 own') (hb : w.heap.size ≤ b) (cs : List Value) : ChgQ own w (w1.setCells b o cs) own' := by
 have hkb := World.keptBut_setCells b (may := fun _ => True) cs o w1 (fun _ _ => trivial)
 have hs : ∀ k, k < w.heap.size → (w1.setCells b o cs).heap[k]? = w1.heap[k]? := fun k hk => setCells_other _ _ _ _ (by omega)
 exact ⟨hkb.1.trans h.os, (setCells_tape _ _ _).trans h.tape, hkb.2.1.trans h.output, by rw [setCells_size]; exact h.size, fun k hk hn => (hs k hk).trans (h.block k hk hn), h.fresh, fun k x hk hx => ⟨(hs k hk).trans (h.keep k x hk hx).1, (h.keep k x hk hx).2⟩⟩
theorem PMem.off {w : World} {p : Nat} {s : PS} {own : Own} {G : PG} (m : PMem w p s own G) {k : Nat} (h : w.heap.size ≤ k) : own k = none := by
 cases ho : own k with
 | none => rfl
 | some t => exact absurd (m.old k (by rw [ho]; simp)) (by omega)
theorem tellEnd_is {w : World} {p q n : Nat} {s : PS} {own : Own} {G : PG} (m : PMem w p s own G) (hq : q < 32) (hn : n < 4) :
  Calls Try.prog 52 #[.pointer (some ⟨p, tO q + 32 + n * 79, none⟩)] w (AQ own w p (s.untold q n) ⟨2, ((s.t q).ses n).ended, []⟩) := by
 have M : Hid (PMem w p s own G) := m
 have hp := m.lt
 have he := ses_ended (m.sesAt hq hn)
 have hf := m.froz (tO q + 32 + n * 79 + 78)
 clear m
 go_enter Try.func52, Try.ntmps52
 go_wp2
 have h1 := M.out.put1 hq hn { (s.t q).ses n with ended := 0 } (by decide) (sesC_ended _ _ _) rfl rfl
 exact bodyPost_ret (v := .agg #[.int .i64 2, .int .i64 ((s.t q).ses n).ended, .slice none 0 0]) (by simp [results, Try.results52, go_sem]) rfl ((PMem.went' h1).alloc _ |>.plain _ _)
def Own.drop2 (own : Own) (t u : Tag) : Own := fun b => if own b = some t ∨ own b = some u then none else own b
theorem drop2_keep {own : Own} {t u : Tag} {k : Nat} {x : Tag} (h : own k = some x) (h1 : x ≠ t) (h2 : x ≠ u) : own.drop2 t u k = some x := by
 unfold Own.drop2
 rw [if_neg, h]
 rintro (e | e)
 ·rw [h] at e; exact h1 (Option.some.inj e)
 ·rw [h] at e; exact h2 (Option.some.inj e)
theorem drop2_sub {own : Own} {t u : Tag} {k : Nat} {x : Tag} (h : own.drop2 t u k = some x) : own k = some x := by
 unfold Own.drop2 at h
 split at h
 ·cases h
 ·exact h
theorem drop2_off {own : Own} {t u : Tag} {k : Nat} (h : own k = some t ∨ own k = some u) : own.drop2 t u k = none := by
 unfold Own.drop2; rw [if_pos h]
theorem nilRow {α : Type} (w : World) (own : Own) (tag : Tag) (e size : Nat) (f : α → List Value) : Row w own tag e size (.slice none 0 0) ([] : List α) f :=
 ⟨World.ownsRow_nil w 0 e size, fun b hb => by cases hb⟩
theorem sesC_out (s : Ses) (g : SG) (a : Ans) (v : Value) : ∃ A Z, sesC s g = A ++ (outC s.out g.2 ++ Z) ∧ sesC { s with out := a } (g.1, v) = A ++ (outC a v ++ Z) ∧ A.length = 75 :=
 ⟨[g.1] ++ (wrC s.wr ++ (stepC s.req ++ [.bool s.came])), [.int .i64 s.ended], by simp [sesC], by simp [sesC], by simp [len_wrC, len_stepC]⟩
theorem tellOut_is {w : World} {p q n : Nat} {s : PS} {own : Own} {G : PG} (m : PMem w p s own G) (hq : q < 32) (hn : n < 4) :
  Calls Try.prog 71 #[.pointer (some ⟨p, tO q + 32 + n * 79, none⟩)] w (AQ own w p (s.heard q n) ((s.t q).ses n).out) := by
 have M : Hid (PMem w p s own G) := m
 have hp := m.lt
 have h0 := ses_code (m.sesAt hq hn)
 have h1 := ses_why (m.sesAt hq hn)
 have h2 := ses_items (m.sesAt hq hn)
 have h3 := ses_came (m.sesAt hq hn)
 have hf := m.froz
 obtain ⟨ao, cap, hv, hmax⟩ := (m.outR q hq n hn).lens len_itemC
 rw [hv] at h2
 clear m hv
 have f0 := hf (tO q + 32 + n * 79 + 75)
 have f1 := hf (tO q + 32 + n * 79 + 76)
 have f2 := hf (tO q + 32 + n * 79 + 77)
 have f3 := hf (tO q + 32 + n * 79 + 74)
 clear hf
 go_enter Try.func71, Try.ntmps71
 go_wp2
 obtain ⟨A, Z, e1, e2, e3⟩ := sesC_out ((s.t q).ses n) (G.s q n) ⟨0, 0, []⟩ (.slice none 0 0)
 have hkp : ∀ k t, own k = some t → t ≠ lockTag q n → t ≠ outTag q n → own.drop2 (outTag q n) (outTag q n) k = some t := fun k t hk _ h2 => drop2_keep hk h2 h2
 have hlk : Row w (own.drop2 (outTag q n) (outTag q n)) (lockTag q n) 148 5 (G.s q n).1 ((s.t q).ses n).locks lkC :=
  (M.out.lockR q hq n hn).frame (fun _ _ => rfl) (fun k hk => drop2_keep hk (by intro c; simp [lockTag, outTag] at c) (by intro c; simp [lockTag, outTag] at c))
 obtain ⟨m1, c1⟩ := M.out.putSes hq hn { (s.t q).ses n with out := ⟨0, 0, []⟩ } ((G.s q n).1, .slice none 0 0) 75 (outC ⟨0, 0, []⟩ (.slice none 0 0)) e1 e2 e3 rfl hkp (fun k t h => drop2_sub h) hlk (nilRow _ _ _ _ _ _)
 have hw3 : w.setCells p (sO q n + 75) (outC ⟨0, 0, []⟩ (.slice none 0 0)) = ((w.setCell ⟨p, tO q + 32 + n * 79 + 75, none⟩ (.int .i64 0)).setCell ⟨p, tO q + 32 + n * 79 + 75 + 1, none⟩ (.int .i64 0)).setCell ⟨p, tO q + 32 + n * 79 + 75 + 2, none⟩ (.slice none 0 0) := rfl
 rw [hw3] at m1 c1
 clear hw3
 have h4 := m1.put1 hq hn { (s.t q).ses n with out := ⟨0, 0, []⟩, came := false } (i := 74) (v := .bool false) (by decide) (by rw [setS_at, PG.setS_at, ← sesC_came]) (by rw [setS_at]) (by rw [setS_at])
 rw [setS_setS] at h4
 obtain ⟨m2, c2⟩ := h4
 have hR := M.out.outR q hq n hn
 have hvv : (G.s q n).2 = .slice ao ((s.t q).ses n).out.items.length cap := by
  have := ses_items (M.out.sesAt hq hn)
  rw [h2] at this
  exact (Option.some.inj this).symm
 rw [hvv] at hR
 have hne : ∀ b, (Value.slice ao ((s.t q).ses n).out.items.length cap).ownBlock = some b → b ≠ p ∧ own b = some (outTag q n) := fun b hb => by
  have := hR.2 b hb
  refine ⟨fun e => ?_, this⟩
  rw [e, M.out.tag] at this
  simp [rootTag, outTag] at this
 refine bodyPost_ret (v := .agg #[.int .i64 ((s.t q).ses n).out.code, .int .i64 ((s.t q).ses n).out.why, .slice ao ((s.t q).ses n).out.items.length cap]) (by simp [results, Try.results71, go_sem]) rfl ?_
 refine ⟨.slice ao ((s.t q).ses n).out.items.length cap, _, _, rfl, ?_, m2.below (((Below.refl _ _).alloc (Nat.le_refl _) _).alloc (by simp) _), (c1.trans c2).trans (ChgQ.of_below (((Below.refl _ _).alloc (Nat.le_refl _) _).alloc (by simp) _)), ?_⟩
 ·refine ownsRow_below (ownsRow_below (ownsRow_frame (w := w) hR.1 (fun b hb => ?_)) ((Below.refl _ _).alloc (Nat.le_refl _) _)) ((Below.refl _ _).alloc (Nat.le_refl _) _)
  rw [heap_setCell_ne _ _ _ _ _ (hne b hb).1, heap_setCell_ne _ _ _ _ _ (hne b hb).1, heap_setCell_ne _ _ _ _ _ (hne b hb).1, heap_setCell_ne _ _ _ _ _ (hne b hb).1]
 ·intro b hb
  exact ⟨drop2_off (.inl (hne b hb).2), .inl ⟨by rw [(hne b hb).2]; simp, fun x => by rw [(hne b hb).2]; simp [outTag]⟩⟩
def Own.swap (own : Own) (v : Value) (t : Tag) : Own := fun b => if v.ownBlock = some b then some t else if own b = some t then none else own b
theorem swap_keep {own : Own} {v : Value} {t x : Tag} {k N : Nat} (hv : ∀ b, v.ownBlock = some b → N ≤ b) (hk : k < N) (h : own k = some x) (hx : x ≠ t) : own.swap v t k = some x := by
 unfold Own.swap
 rw [if_neg (fun e => by have := hv k e; omega), if_neg (fun e => hx (Option.some.inj (h.symm.trans e))), h]
theorem swap_sub {own : Own} {v : Value} {t : Tag} {k : Nat} (h : own.swap v t k ≠ none) : own k ≠ none ∨ v.ownBlock = some k := by
 unfold Own.swap at h
 split at h
 ·rename_i e; exact .inr e
 ·split at h
  ·exact absurd rfl h
  ·exact .inl h
section
variable {w w1 : World} {p q : Nat} {s : PS} {own : Own} {G : PG} {v : Value} {l : List Nat}
theorem PMem.newBeg (m : PMem w p s own G) (hq : q < 32) (hb : Below w.heap.size w w1) (hv : w1.ownsRow w.heap.size 3 1 v l.length (l.flatMap natC)) : PMem (w1.setCell ⟨p, tO q + 348, none⟩ v) p (s.setB q l) (own.swap v (begTag q)) (G.setB q v) ∧ ChgQ own w (w1.setCell ⟨p, tO q + 348, none⟩ v) (own.swap v (begTag q)) := by
 have hlo : ∀ b, v.ownBlock = some b → w.heap.size ≤ b := fun b h => (hv.lt b h).1
 have hhi : ∀ b, v.ownBlock = some b → b < w1.heap.size := fun b h => (hv.lt b h).2
 have hp := m.lt
 have hsame : ∀ k, k < w.heap.size → k ≠ p → (w1.setCell ⟨p, tO q + 348, none⟩ v).heap[k]? = w.heap[k]? := fun k hk hne => by rw [heap_setCell_ne _ _ _ _ _ hne, hb.block k hk]
 have m1 := m.below hb
 obtain ⟨C, hC, hCz⟩ := m1.root
 have hC' := heap_setCell_same w1 p (tO q + 348) C _ v hC
 have hlt : ∀ k t, own k = some t → k < w.heap.size := fun k t h => m.old k (by rw [h]; simp)
 have hold : ∀ k, own.swap v (begTag q) k ≠ none → k < (w1.setCell ⟨p, tO q + 348, none⟩ v).heap.size := fun k hk => by
  rw [World.size_setCell]
  rcases swap_sub hk with h | h
  ·exact Nat.lt_of_lt_of_le (m.old k h) hb.size
  ·exact hhi k h
 refine ⟨m.setBeg hq l v (fun k t h hne => ⟨swap_keep hlo (hlt k t h) h hne, fun ht => hsame k (hlt k t h) (fun e => by rw [e, m.tag] at h; exact ht (Option.some.inj h).symm)⟩) ⟨_, hC', by simp [hCz]⟩ ?_ ?_ ?_ hold, ?_⟩
 ·rw [cell_of_row _ _ _ _ _ _ hC']
  have : tO q + 348 < C.size := by rw [hCz]; unfold tO; omega
  simp [this]
 ·intro o ho
  rw [cell_of_row _ _ _ _ _ _ hC', cell_of_same (hb.block p hp) o |>.symm, cell_of_row _ _ _ _ _ _ hC]
  simp [Ne.symm ho]
 ·refine ⟨ownsRow_frame (ownsRow_lower hv (Nat.zero_le _)) (fun b hb' => heap_setCell_ne _ _ _ _ _ (fun e => by have := hlo b hb'; omega)), fun b hb' => ?_⟩
  unfold Own.swap; rw [if_pos hb']
 ·refine ⟨hb.os, hb.tape, hb.output, by rw [World.size_setCell]; exact hb.size, fun k hk hn => hsame k hk (fun e => by rw [e, m.tag] at hn; cases hn), fun k hk => ?_, fun k x hk hx => ⟨hsame k hk (fun e => by rw [e, m.tag] at hx; simp [rootTag] at hx), .inr (by rw [swap_keep hlo hk hx (by intro c; simp [begTag] at c), hx])⟩⟩
  rcases swap_sub hk with h | h
  ·exact .inl h
  ·exact .inr (hlo k h)
theorem PMem.newQue (m : PMem w p s own G) (hq : q < 32) (hb : Below w.heap.size w w1) (hv : w1.ownsRow w.heap.size 3 1 v l.length (l.flatMap natC)) : PMem (w1.setCell ⟨p, tO q + 349, none⟩ v) p (s.setQ q l) (own.swap v (queTag q)) (G.setQ q v) ∧ ChgQ own w (w1.setCell ⟨p, tO q + 349, none⟩ v) (own.swap v (queTag q)) := by
 have hlo : ∀ b, v.ownBlock = some b → w.heap.size ≤ b := fun b h => (hv.lt b h).1
 have hhi : ∀ b, v.ownBlock = some b → b < w1.heap.size := fun b h => (hv.lt b h).2
 have hp := m.lt
 have hsame : ∀ k, k < w.heap.size → k ≠ p → (w1.setCell ⟨p, tO q + 349, none⟩ v).heap[k]? = w.heap[k]? := fun k hk hne => by rw [heap_setCell_ne _ _ _ _ _ hne, hb.block k hk]
 have m1 := m.below hb
 obtain ⟨C, hC, hCz⟩ := m1.root
 have hC' := heap_setCell_same w1 p (tO q + 349) C _ v hC
 have hlt : ∀ k t, own k = some t → k < w.heap.size := fun k t h => m.old k (by rw [h]; simp)
 have hold : ∀ k, own.swap v (queTag q) k ≠ none → k < (w1.setCell ⟨p, tO q + 349, none⟩ v).heap.size := fun k hk => by
  rw [World.size_setCell]
  rcases swap_sub hk with h | h
  ·exact Nat.lt_of_lt_of_le (m.old k h) hb.size
  ·exact hhi k h
 refine ⟨m.setQue hq l v (fun k t h hne => ⟨swap_keep hlo (hlt k t h) h hne, fun ht => hsame k (hlt k t h) (fun e => by rw [e, m.tag] at h; exact ht (Option.some.inj h).symm)⟩) ⟨_, hC', by simp [hCz]⟩ ?_ ?_ ?_ hold, ?_⟩
 ·rw [cell_of_row _ _ _ _ _ _ hC']
  have : tO q + 349 < C.size := by rw [hCz]; unfold tO; omega
  simp [this]
 ·intro o ho
  rw [cell_of_row _ _ _ _ _ _ hC', cell_of_same (hb.block p hp) o |>.symm, cell_of_row _ _ _ _ _ _ hC]
  simp [Ne.symm ho]
 ·refine ⟨ownsRow_frame (ownsRow_lower hv (Nat.zero_le _)) (fun b hb' => heap_setCell_ne _ _ _ _ _ (fun e => by have := hlo b hb'; omega)), fun b hb' => ?_⟩
  unfold Own.swap; rw [if_pos hb']
 ·refine ⟨hb.os, hb.tape, hb.output, by rw [World.size_setCell]; exact hb.size, fun k hk hn => hsame k hk (fun e => by rw [e, m.tag] at hn; cases hn), fun k hk => ?_, fun k x hk hx => ⟨hsame k hk (fun e => by rw [e, m.tag] at hx; simp [rootTag] at hx), ?_⟩⟩
  ·rcases swap_sub hk with h | h
   ·exact .inl h
   ·exact .inr (hlo k h)
  ·by_cases e : (5, x) = queTag q
   ·left
    unfold Own.swap
    rw [if_neg (fun h => by have := hlo k h; omega), if_pos (by rw [hx, e])]
   ·exact .inr (by rw [swap_keep hlo hk hx e, hx])
end
theorem built_ses : Try.prog.built 126 [] = some (sesC ses0 (.slice none 0 0, .slice none 0 0)).toArray := by kernel_rfl
theorem size_ses : (Try.prog.info? 126).map (·.size) = some (sesC ses0 (.slice none 0 0, .slice none 0 0)).toArray.size := by kernel_rfl
theorem ses0_one : (sesC ses0 (.slice none 0 0, .slice none 0 0)).toArray.all (·.oneCell') = true := all_oneCell_toArray (by decide +kernel)
theorem PMem.newSes {w : World} {p q n : Nat} {s : PS} {own : Own} {G : PG} (m : PMem w p s own G) (hq : q < 32) (hn : n < 4) :
  PMem (w.setCells p (tO q + 32 + n * 79) (sesC ses0 (.slice none 0 0, .slice none 0 0))) p (s.setS q n ses0) (own.drop2 (lockTag q n) (outTag q n)) (G.setS q n (.slice none 0 0, .slice none 0 0)) ∧ ChgQ own w (w.setCells p (tO q + 32 + n * 79) (sesC ses0 (.slice none 0 0, .slice none 0 0))) (own.drop2 (lockTag q n) (outTag q n)) :=
 m.putSes hq hn ses0 (.slice none 0 0, .slice none 0 0) 0 (sesC ses0 (.slice none 0 0, .slice none 0 0)) (A := []) (Z := []) (M := sesC ((s.t q).ses n) (G.s q n)) (by simp) (by simp) rfl (by rw [len_sesC, len_sesC]) (fun k t h h1 h2 => drop2_keep h h1 h2) (fun k t h => drop2_sub h) (nilRow _ _ _ _ _ _) (nilRow _ _ _ _ _ _)
theorem endT_is (s : PS) (q n : Nat) : ((s.setB q (lsOff (s.t q).begun n)).setQ q (lsOff (s.t q).queue n)).setS q n ses0 = s.setT q ((s.t q).endT n) := by
 unfold PS.setS PS.setQ PS.setB
 rw [setT_t, setT_t, setT_setT, setT_setT]
 rfl
end Go.Proofs.Ytpbcplfpjcacfaa
