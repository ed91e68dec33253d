import Derived.Test.YtpbcplfpjcacfaaKBarred06
namespace Go.Proofs.Ytpbcplfpjcacfaa
open Go.RowKit
set_option maxRecDepth 100000
set_option maxHeartbeats 8000000
structure BkFit (n : Nat) (ps : Nat → Pd) : Prop where
 len : ∀ k, (ps k).done.length ≤ n
 good : ∀ k, ∀ e ∈ (ps k).done, ∃ p kn hn, Good0 e.1 p kn hn
 opn : ∀ k, (ps k).open_ = true → ∃ p kn hn, Good0 (ps k).x p kn hn
theorem BkFit.zero : BkFit 0 (fun _ => pd0) := ⟨fun _ => Nat.le_refl _, fun _ e he => (by cases he), fun _ h => by cases h⟩
theorem BkFit.mono {n m : Nat} {ps : Nat → Pd} (h : BkFit n ps) (hm : n ≤ m) : BkFit m ps := ⟨fun k => Nat.le_trans (h.len k) hm, h.good, h.opn⟩
theorem BkFit.upd {n : Nat} {ps : Nat → Pd} (h : BkFit n ps) {k : Nat} {P : Pd} (h1 : P.done.length ≤ n) (h2 : ∀ e ∈ P.done, ∃ p kn hn, Good0 e.1 p kn hn) (h3 : P.open_ = true → ∃ p kn hn, Good0 P.x p kn hn) : BkFit n (updP ps k P) := by
 refine ⟨fun q => ?_, fun q => ?_, fun q => ?_⟩
 ·unfold updP; split
  ·exact h1
  ·exact h.len q
 ·unfold updP; split
  ·exact h2
  ·exact h.good q
 ·unfold updP; split
  ·exact h3
  ·exact h.opn q
theorem BkFit.note {n : Nat} {ps : Nat → Pd} (h : BkFit n ps) {k : Nat} {x : Stp} {a : Ans} (hx : ∃ p kn hn, Good0 x p kn hn) : BkFit (n + 1) (noteP ps k x a).2 := by
 unfold noteP
 split
 ·refine (h.mono (Nat.le_succ n)).upd ?_ ?_ (h.opn k)
  ·have := h.len k
   simp; exact this
  ·intro e he
   rcases List.mem_append.1 he with he | he
   ·exact h.good k e he
   ·simp only [List.mem_singleton] at he
    subst he; exact hx
 ·exact h.mono (Nat.le_succ n)
theorem good_ask {x : Stp} (hp : properB x = true) (h1 : 2 ≤ x.op) (h2 : x.op ≤ 5) : ∃ p kn hn, Good0 x p kn hn := by
 have ho : x.op = 2 ∨ x.op = 3 ∨ x.op = 4 ∨ x.op = 5 := by omega
 have hq := hp
 unfold properB at hq
 have ha : asksB x.op = true := by unfold asksB; simpa using ho
 simp only [Bool.and_eq_true, decide_eq_true_eq, ha] at hq
 obtain ⟨⟨g1, g2⟩, g3⟩ := hq
 have h4 := properB_asks (x := x) ⟨⟨g1, g2.1, by omega⟩, g2.2.2⟩ ha
 rw [hp] at h4
 have h5 := h4.symm
 simp only [Bool.and_eq_true, Bool.or_eq_true, Bool.not_eq_true', decide_eq_true_eq, decide_eq_false_iff_not] at h5
 obtain ⟨⟨⟨a1, a2⟩, a3⟩, a4⟩ := h5
 have hn := numZ_pos a1
 rcases ho with e | e | e | e
 ·exact ⟨(numZ x.at_.1 x.at_.2).toNat, x.key.toNat, x.key.toNat, ⟨a1, by omega, by omega⟩, ⟨by omega, by omega⟩, .inl ⟨e, rfl⟩, by omega, by omega⟩
 ·have b3 : x.key ≤ x.to_ ∧ x.to_ ≤ 15 := by
   rcases a3 with a3 | a3
   ·exact absurd e a3
   ·exact a3
  exact ⟨(numZ x.at_.1 x.at_.2).toNat, x.key.toNat, x.to_.toNat, ⟨a1, by omega, by omega⟩, ⟨by omega, by omega⟩, .inr (.inl ⟨e, by omega⟩), by omega, by omega⟩
 ·exact ⟨(numZ x.at_.1 x.at_.2).toNat, x.key.toNat, x.key.toNat, ⟨a1, by omega, by omega⟩, ⟨by omega, by omega⟩, .inr (.inr (.inl ⟨e, rfl⟩)), by omega, by omega⟩
 ·exact ⟨(numZ x.at_.1 x.at_.2).toNat, x.key.toNat, x.key.toNat, ⟨a1, by omega, by omega⟩, ⟨by omega, by omega⟩, .inr (.inr (.inr ⟨e, rfl⟩)), by omega, by omega⟩
theorem BkFit.tell {n : Nat} {ps : Nat → Pd} (h : BkFit n ps) (vals : Nat → Int) (x : Stp) (a : Ans) : BkFit (n + 1) (tellP ps vals x a).2.1 := by
 have h' := h.mono (Nat.le_succ n)
 have hz : BkFit (n + 1) (updP ps (sessZ' x.who).toNat pd0) := h'.upd (Nat.zero_le _) (fun e he => by cases he) (fun e => by cases e)
 unfold tellP
 split
 ·exact h'
 ·rename_i hp
  have hp' : properB x = true := by simpa using hp
  dsimp only
  split
  ·exact hz
  ·split
   ·exact h'
   ·split
    ·exact h'.upd (Nat.zero_le _) (fun e he => by cases he) (fun e => by cases e)
    ·split
     ·exact hz
     ·split
      ·exact hz
      ·split
       ·rename_i hc
        have hx := h.opn _ hc.2.1
        exact (h.upd (k := (sessZ' x.who).toNat) (P := { ps (sessZ' x.who).toNat with open_ := false }) (h.len _) (h.good _) (fun e => by cases e)).note hx
       ·split
        ·rename_i hc
         exact h'.upd (h'.len _) (h'.good _) (fun _ => good_ask hp' hc.1.1 hc.1.2)
        ·split
         ·rename_i hc
          exact h.note (good_ask hp' hc.1 hc.2)
         ·exact h'
theorem BkMem.ext {w : World} {b : Nat} {hs : Nat → Hd} {vals : Nat → Int} {own own' : Own} (m : BkMem w b hs vals own) (hx : ∀ q t, own q = some t → own' q = some t) (ho : ∀ q, own' q ≠ none → q < w.heap.size) : BkMem w b hs vals own' :=
 ⟨m.root, m.hand, m.val, hx _ _ m.tag, fun k hk => (m.row k hk).frame (fun _ _ => rfl) (fun q hq => hx q _ hq), fun k hk d hd => ⟨(m.kept k hk d hd).1, fun q hq => hx q _ ((m.kept k hk d hd).2 q hq)⟩, ho⟩
structure BookAt (P : Pgm) (J : P.S → (Nat → Pd) → (Nat → Int) → Prop) (B p b N : Nat) (s : P.S) (ps : Nat → Pd) (vals : Nat → Int) (ownP ownB : Own) (w : World) : Prop where
 rep : P.Rep w p s ownP
 ok : P.Ok N s
 j : J s ps vals
 fit : BkFit N ps
 bk : BkAt w b ps vals ownB
 apart : ∀ q, ownP q ≠ none → ownB q = none
 bp : ∀ q, ownP q ≠ none → B ≤ q
 bb : ∀ q, ownB q ≠ none → B ≤ q
def BookInv (P : Pgm) (J : P.S → (Nat → Pd) → (Nat → Int) → Prop) (B p b N : Nat) (w : World) : Prop := ∃ s ps vals ownP ownB, BookAt P J B p b N s ps vals ownP ownB w
theorem BkAt.below {w w' : World} {b : Nat} {ps : Nat → Pd} {vals : Nat → Int} {own : Own} (h : BkAt w b ps vals own) (hb : Below w.heap.size w w') : BkAt w' b ps vals own := by
 obtain ⟨hs, m, e⟩ := h
 exact ⟨hs, m.below hb, e⟩
theorem BkAt.old {w : World} {b : Nat} {ps : Nat → Pd} {vals : Nat → Int} {own : Own} (h : BkAt w b ps vals own) : ∀ q, own q ≠ none → q < w.heap.size := by
 obtain ⟨hs, m, e⟩ := h
 exact m.old
theorem BookAt.below {P : Pgm} {J : P.S → (Nat → Pd) → (Nat → Int) → Prop} {B p b N : Nat} {s : P.S} {ps : Nat → Pd} {vals : Nat → Int} {ownP ownB : Own} {w w' : World} (h : BookAt P J B p b N s ps vals ownP ownB w) (hb : Below w.heap.size w w') : BookAt P J B p b N s ps vals ownP ownB w' :=
 { h with rep := P.below h.rep hb, bk := h.bk.below hb }
structure BookMid (P : Pgm) (J : P.S → (Nat → Pd) → (Nat → Int) → Prop) (R : Bool → Prop) (B p b N : Nat) (x : Stp) (a : Ans) (aq : Option Addr) (cq : Nat) (ownB : Own) (w : World) : Prop where
 ex : ∃ s ps vals ownP, P.Rep w p s ownP ∧ P.Ok (N + 1) s ∧ R (tellP ps vals x a).1 ∧ J s (tellP ps vals x a).2.1 (tellP ps vals x a).2.2 ∧ BkFit N ps ∧ BkAt w b ps vals ownB ∧ w.ownsRow 0 94 2 (.slice aq a.items.length cq) a.items.length (itemsV a.items) ∧
  (∀ q, (Value.slice aq a.items.length cq).ownBlock = some q → ownB q = some (9, 0, 0, 0)) ∧ (∀ q, ownP q ≠ none → ownB q = none) ∧ (∀ q, ownP q ≠ none → B ≤ q) ∧ (∀ q, ownB q ≠ none → B ≤ q)
theorem BookMid.below {P : Pgm} {J : P.S → (Nat → Pd) → (Nat → Int) → Prop} {R : Bool → Prop} {B p b N : Nat} {x : Stp} {a : Ans} {aq : Option Addr} {cq : Nat} {oB : Own} {w w' : World} (h : BookMid P J R B p b N x a aq cq oB w) (hb : Below w.heap.size w w') : BookMid P J R B p b N x a aq cq oB w' := by
 obtain ⟨s, ps, vals, oP, h1, h2, h3, h4, h5, h6, h7, h8⟩ := h.ex
 exact ⟨s, ps, vals, oP, P.below h1 hb, h2, h3, h4, h5, h6.below hb, ownsRow_below h7 hb, h8⟩
def Stepping (P : Pgm) (J : P.S → (Nat → Pd) → (Nat → Int) → Prop) (R : Bool → Prop) : Prop := ∀ (N : Nat) (s : P.S) (ps : Nat → Pd) (vals : Nat → Int) (x : Stp), P.Ok N s → J s ps vals → R (tellP ps vals x (P.act s x).2).1 ∧ J (P.act s x).1 (tellP ps vals x (P.act s x).2).2.1 (tellP ps vals x (P.act s x).2).2.2
theorem BookAt.does {P : Pgm} {J : P.S → (Nat → Pd) → (Nat → Int) → Prop} {R : Bool → Prop} (hJ : Stepping P J R) {B p b N : Nat} {s : P.S} {ps : Nat → Pd} {vals : Nat → Int} {ownP ownB : Own} {w : World} (h : BookAt P J B p b N s ps vals ownP ownB w) (hB : B ≤ w.heap.size) (hN : N + 1 < 4398046511104) (x : Stp) :
  Calls Try.prog 28 #[.pointer (some ⟨p, 0, none⟩), stepV x] w fun e w' => ∃ aq cq oB, e = .returned (.agg #[.int .i64 (P.act s x).2.code, .int .i64 (P.act s x).2.why, .slice aq (P.act s x).2.items.length cq]) ∧ BookMid P J R B p b N x (P.act s x).2 aq cq oB w' ∧ Below B w w' ∧ ∀ q, q < w.heap.size → ownP q = none → w'.heap[q]? = w.heap[q]? := by
 refine (P.doAny x h.rep h.ok hN).mono ?_
 rintro e w' ⟨v, own', rfl, hrow, hrep, hchg, hv⟩
 obtain ⟨aq, cq, rfl⟩ := ownsRow_slice hrow
 obtain ⟨j1, j2⟩ := hJ _ _ _ _ x h.ok h.j
 have hlt := ownsRow_lt hrow
 have hvB : ∀ q, (Value.slice aq (P.act s x).2.items.length cq).ownBlock = some q → ownB q = none ∧ B ≤ q := fun q hq => by
  rcases (hv q hq).2 with g | g
  ·exact ⟨h.apart q g, h.bp q g⟩
  ·refine ⟨?_, by omega⟩
   cases e : ownB q with
   | none => rfl
   | some t => have := h.bk.old q (by rw [e]; simp); omega
 have hP : ∀ q, own' q ≠ none → ownB q = none ∧ B ≤ q := fun q hq => by
  rcases hchg.fresh q hq with g | g
  ·exact ⟨h.apart q g, h.bp q g⟩
  ·refine ⟨?_, by omega⟩
   cases e : ownB q with
   | none => rfl
   | some t => have := h.bk.old q (by rw [e]; simp); omega
 have hBP : ∀ q, ownB q ≠ none → ownP q = none := fun q hq => by
  cases e : ownP q with
  | none => rfl
  | some t => exact absurd (h.apart q (by rw [e]; simp)) hq
 obtain ⟨hs, m, hpl⟩ := h.bk
 have m1 : BkMem w' b hs vals ownB := m.frame (fun q hq => hchg.block q (m.old q hq) (hBP q hq)) hchg.size
 have hx : ∀ q t, ownB q = some t → ownNew ownB (.slice aq (P.act s x).2.items.length cq) (9, 0, 0, 0) q = some t := fun q t hq => by
  unfold ownNew
  split
  ·rename_i e
   rw [(hvB q e).1] at hq; cases hq
  ·exact hq
 have m2 := m1.ext hx (fun q hq => by
  unfold ownNew at hq
  split at hq
  ·rename_i e; exact hlt q e
  ·exact m1.old q hq)
 refine ⟨aq, cq, ownNew ownB (.slice aq (P.act s x).2.items.length cq) (9, 0, 0, 0), rfl, ⟨_, ps, vals, own', hrep, P.okAct x h.ok, j1, j2, h.fit, ⟨hs, m2, hpl⟩, hrow, fun q hq => by unfold ownNew; rw [if_pos hq], fun q hq => ?_, fun q hq => (hP q hq).2, fun q hq => ?_⟩, chgD_below hchg h.bp hB, hchg.block⟩
 ·unfold ownNew
  split
  ·rename_i e
   exact absurd (hv q e).1 hq
  ·exact (hP q hq).1
 ·unfold ownNew at hq
  split at hq
  ·rename_i e; exact (hvB q e).2
  ·exact h.bb q hq
theorem BookMid.told {P : Pgm} {J : P.S → (Nat → Pd) → (Nat → Int) → Prop} {R : Bool → Prop} {B p b N : Nat} {x : Stp} {a : Ans} {aq : Option Addr} {cq : Nat} {oB : Own} {w : World} (h : BookMid P J R B p b N x a aq cq oB w) (hB : B ≤ w.heap.size) (hN : N < 2000000000000) :
  Calls Try.prog 34 #[.pointer (some ⟨b, 0, none⟩), .agg #[.int .i64 x.who.1, .int .i64 x.who.2.1, .int .i64 x.who.2.2, .int .i64 x.op, .int .i64 x.at_.1, .int .i64 x.at_.2, .int .i64 x.key, .int .i64 x.to_, .int .i64 x.value], .agg #[.int .i64 a.code, .int .i64 a.why, .slice aq a.items.length cq]] w fun e w' => ∃ r, e = .returned (.bool r) ∧ R r ∧ BookInv P J B p b (N + 1) w' ∧ Below B w w' ∧ ∀ q, q < w.heap.size → oB q = none → w'.heap[q]? = w.heap[q]? := by
 obtain ⟨s, ps, vals, oP, h1, h2, h3, h4, h5, h6, h7, h8, h9, h10, h11⟩ := h.ex
 refine (bookTold_any b ps vals oB x a aq cq w ⟨h6, h7, h8, fun k _ => Nat.lt_of_le_of_lt (h5.len k) hN, fun k _ => h5.good k⟩).mono ?_
 rintro e w' ⟨rfl, oB', hat, hchg, hx⟩
 refine ⟨_, rfl, h3, ⟨s, _, _, oP, oB', P.frame h1 (fun q hq => hchg.block q (P.old h1 q hq) (h9 q hq)) hchg.size, h2, h4, h5.tell vals x a, hat, fun q hq => hchg.off (h9 q hq) (P.old h1 q hq), h10, fun q hq => ?_⟩, chgD_below hchg h11 hB, hchg.block⟩
 rcases hchg.fresh q hq with g | g
 ·exact h11 q g
 ·omega
end Go.Proofs.Ytpbcplfpjcacfaa
namespace Go.Proofs.Ytpbcplfpjcacfaa
open Go.RowKit
attribute [local go_sem ↓] Go.wp_at_zero Go.wp_at_succ
set_option maxRecDepth 100000
set_option maxHeartbeats 8000000
def Codes (ps : Nat → Pd) (x : Stp) (a : Ans) : Prop := (a.code = 9 ↔ properB x = false) ∧ (a.code = 3 → (x.op = 2 ∨ x.op = 3 ∨ x.op = 4 ∨ x.op = 5) ∧ x.may = false) ∧
  (properB x = true → (x.op = 2 ∨ x.op = 3 ∨ x.op = 4 ∨ x.op = 5) → x.may = false → (ps (sessZ' x.who).toNat).live = true → (ps (sessZ' x.who).toNat).open_ = false → a.code = 3 ∨ a.code = 2)
def MayLive (ps : Nat → Pd) (x : Stp) (mb lb : Bool) : Prop := (properB x = true ∧ (2 ≤ x.op ∧ x.op ≤ 5) ∧ mb = x.may ∧ lb = ((ps (sessZ' x.who).toNat).live && !(ps (sessZ' x.who).toNat).open_)) ∨ ((properB x = false ∨ ¬ (2 ≤ x.op ∧ x.op ≤ 5)) ∧ mb = true ∧ lb = false)
theorem or_ok : ∀ a : Nat, a < 8 → ∀ b : Nat, b < 8 → (bits BinOp.or IntKind.i64 (a : Int) (b : Int) == (a : Int)) = okTo (a : Int) (b : Int) 3 := by decide +kernel
theorem domK_domB {l c l' c' : Int} (h : labB l c = true) (h' : labB l' c' = true) : domK (numZ l c) (numZ l' c') = domB l c l' c' := by
 obtain ⟨a1, a2, a3, a4⟩ := labB_t h
 obtain ⟨b1, b2, b3, b4⟩ := labB_t h'
 unfold domK domB numZ
 rw [if_pos h, if_pos h']
 have e1 : (l * 8 + c) / 8 = l := by omega
 have e2 : (l * 8 + c) % 8 = c := by omega
 have e3 : (l' * 8 + c') / 8 = l' := by omega
 have e4 : (l' * 8 + c') % 8 = c' := by omega
 rw [e1, e2, e3, e4]
 obtain ⟨A, hA⟩ : ∃ A : Nat, c = (A : Int) := ⟨c.toNat, by omega⟩
 obtain ⟨B, hB⟩ : ∃ B : Nat, c' = (B : Int) := ⟨c'.toNat, by omega⟩
 rw [hA, hB, or_ok A (by omega) B (by omega)]
theorem num_same {l c l' c' : Int} (h : labB l c = true) (h' : labB l' c' = true) : (numZ l c == numZ l' c') = sameL l' c' l c := by
 obtain ⟨a1, a2, a3, a4⟩ := labB_t h
 obtain ⟨b1, b2, b3, b4⟩ := labB_t h'
 unfold numZ sameL
 rw [if_pos h, if_pos h', Bool.eq_iff_iff]
 simp only [beq_iff_eq, decide_eq_true_eq]
 omega
theorem asked_labs {x : Stp} (hp : properB x = true) (h1 : 2 ≤ x.op) (h2 : x.op ≤ 5) : labB x.who.1 x.who.2.1 = true ∧ labB x.at_.1 x.at_.2 = true := by
 have ha : asksB x.op = true := by unfold asksB; simp; omega
 have hq := hp
 unfold properB at hq
 simp only [Bool.and_eq_true, decide_eq_true_eq, ha] at hq
 obtain ⟨⟨g1, g2⟩, g3⟩ := hq
 have h4 := properB_asks (x := x) ⟨⟨g1, g2.1, by omega⟩, g2.2.2⟩ ha
 rw [hp] at h4
 have h5 := h4.symm
 simp only [Bool.and_eq_true] at h5
 exact ⟨g1, h5.1.1.1⟩
structure Copied (w1 wd : World) (hb : Nat) (h : Hd) : Prop where
 bel : Below w1.heap.size w1 wd
 new : w1.heap.size ≤ hb
 rng : wd.rangeAt hb 0 (handC h)
theorem Copied.late {w1 W : World} {h : Hd} (hb : Below w1.heap.size w1 W) {C : Array Value} (hC : C.toList = handC h) : Copied w1 (W.alloc (.cells C 80)) W.heap.size h :=
 ⟨hb.alloc hb.size _, hb.size, fun j u hj => by
  have e : (W.alloc (.cells C 80)).heap[W.heap.size]? = some (.cells C 80 (0, 0)) := heap_alloc_new W _
  rw [cell_of_row _ _ _ _ _ _ e, Nat.zero_add, ← Array.getElem?_toList, hC]; exact hj⟩
theorem below_cells {B b : Nat} {w : World} (hb : B ≤ b) : ∀ (vs : List Value) (o : Nat) (w' : World), Below B w w' → Below B w (w'.setCells b o vs)
 | [], _, _, h => h
 | v :: vs, o, _, h => below_cells hb vs (o + 1) _ (h.setCell hb v)
theorem Copied.early {w1 W : World} {hb : Nat} {h : Hd} {C : Array Value} (hB : Below w1.heap.size w1 W) (hn : w1.heap.size ≤ hb) (hC : W.heap[hb]? = some (.cells C 80 (0, 0))) (hz : C.size = 12) : Copied w1 (W.setCells hb 0 (handC h)) hb h :=
 ⟨below_cells hn _ _ _ hB, hn, World.rangeAt_setCells_same W hb 0 (handC h) (fun j hj => by
  rw [len_handC] at hj
  refine ⟨?_, frozen_of_row W hb _ C _ hC⟩
  rw [cell_of_row W hb _ C _ _ hC, Array.getElem?_eq_getElem (by omega)]; rfl)⟩
theorem zero12 {W : World} {hb ty : Nat} (h : W.heap[hb]? = some (.cells #[.bool false, .slice none 0 0, .bool false, .int .i64 0, .int .i64 0, .int .i64 0, .int .i64 0, .int .i64 0, .int .i64 0, .int .i64 0, .int .i64 0, .int .i64 0] ty (0, 0))) : (∀ j, j < 12 → W.frozen? ⟨hb, j, none⟩ = false) ∧ ∀ j : Nat, W.cell? ⟨hb, j, none⟩ = (#[.bool false, .slice none 0 0, .bool false, .int .i64 0, .int .i64 0, .int .i64 0, .int .i64 0, .int .i64 0, .int .i64 0, .int .i64 0, .int .i64 0, .int .i64 0] : Array Value)[j]? :=
 ⟨fun j _ => frozen_of_row W hb j _ _ h, fun j => cell_of_row W hb j _ _ _ h⟩
theorem barred_walk (P : Pgm) (J : P.S → (Nat → Pd) → (Nat → Int) → Prop) (hst : Stepping P J (fun _ => True)) (hcd : ∀ N s ps vals, P.Ok N s → J s ps vals → ∀ x, Codes ps x (P.act s x).2)
  (k v c : Int) (sv : Value) (script : List Stp) (w : World) (hk : i64B k) (hv : i64B v) (hc : i64B c) (hsc : isSteps w sv script) (hlen : script.length + 1000 < 2000000000000)
  (s0 : P.S) (hs0 : s0 = P.start (1 + pickZ k 16) (1 + pickZ v 4) (1 + pickZ c 32)) (ho : P.Opens s0 (0, 0, 0)) (hj0 : J (P.open3 s0 (0, 0, 0)) (fun _ => pd0) (fun _ => -1)) :
  Calls Try.prog 11 #[.agg #[.int .i64 k, .int .i64 v, .int .i64 c], sv] w fun e w' => e = .returned (.bool true) ∧ Below w.heap.size w w' := by
 obtain ⟨ao, cap, rfl, hmax, hel⟩ := hsc
 unfold maxLen at hmax
 have HE : Hid (type_of% hel) := hel
 have HF : Hid (∀ W, Calls Try.prog 25 #[.agg #[.int .i64 k, .int .i64 v, .int .i64 c]] W fun e w' => e = .returned (.agg #[.int .i64 (1 + pickZ k 16), .int .i64 (1 + pickZ v 4), .int .i64 (1 + pickZ c 32)]) ∧ Below W.heap.size W w') := fun W => fits_any k v c W hk hv hc
 have HO : Hid (∀ W, Calls Try.prog 26 #[.agg #[.int .i64 (1 + pickZ k 16), .int .i64 (1 + pickZ v 4), .int .i64 (1 + pickZ c 32)], .agg #[.int .i64 0, .int .i64 0, .int .i64 0]] W (OpenPost P W (P.open3 s0 (0, 0, 0)))) := fun W => by
  subst hs0
  exact opened_any P _ _ _ (0, 0, 0) W (may_fits k v c) (by decide) ho
 have hO0 : P.Ok 3 (P.open3 s0 (0, 0, 0)) := by
  have := P.open3_ok (0, 0, 0) (P.okStart (may_fits k v c))
  rw [hs0]; exact this
 have HO0 : Hid (P.Ok 3 (P.open3 s0 (0, 0, 0))) := hO0
 have HJ0 : Hid (type_of% hj0) := hj0
 have HST : Hid (Stepping P J (fun _ => True)) := hst
 have HCDX : Hid (∀ N s ps vals, P.Ok N s → J s ps vals → ∀ x, Codes ps x (P.act s x).2) := hcd
 clear hcd
 generalize P.open3 s0 (0, 0, 0) = s3 at *
 generalize 1 + pickZ k 16 = fk at *
 generalize 1 + pickZ v 4 = fv at *
 generalize 1 + pickZ c 32 = fc at *
 clear hel hO0 hs0 ho hk hv hc hj0 hst
 go_enter Try.func11, Try.ntmps11
 go_upto_region 2 with fail
 have hA : Below w.heap.size w ((w.alloc (.cells #[.int .i64 k, .int .i64 v, .int .i64 c] 23)).alloc (.cells #[.int .i64 0, .int .i64 0, .int .i64 0] 28)) := below2r
 go_region_held3 (fun w' => w'.cell? ⟨w.heap.size, 0, none⟩ = some (.int .i64 k) ∧ w'.cell? ⟨w.heap.size, 1, none⟩ = some (.int .i64 v) ∧ w'.cell? ⟨w.heap.size, 2, none⟩ = some (.int .i64 c) ∧ w'.cell? ⟨w.heap.size + 1, 0, none⟩ = some (.int .i64 0) ∧ w'.cell? ⟨w.heap.size + 1, 1, none⟩ = some (.int .i64 0) ∧ w'.cell? ⟨w.heap.size + 1, 2, none⟩ = some (.int .i64 0)) (first | go_keep | (go_split_ands; (repeat' constructor) <;> exact cell_later (by assumption) (by assumption)))
  (first | (go_at_call 25; refine (HF.out _).mono ?_; rintro e w2 ⟨rfl, hb2⟩) | (go_at_call 26; refine (HO.out _).mono ?_; rintro e w3 ⟨p, own, rfl, hb3, hfr, hrep⟩))
 have HB3 : Hid (Below w.heap.size w w3) := ((hA.drew.trans (hb2.mono hA.drew.size)).trans (hb3.mono (Nat.le_trans hA.drew.size hb2.size)))
 have HR3 : Hid (P.Rep w3 p s3 own) := hrep
 have HF3 : Hid (∀ q, own q ≠ none → w.heap.size ≤ q) := fun q hq => by have := hfr q hq; have := hb2.size; simp at this; omega
 clear hb2 hb3 hfr hrep hA
 go_wp2_with fail
 refine (newBook_any _).mono ?_
 rintro e w4 ⟨rfl, hb4, hat⟩
 have HB4 : Hid (Below w.heap.size w w4) := HB3.out.trans (hb4.mono HB3.out.size)
 have hown : ∀ q, own q ≠ none → own0 w3.heap.size q = none := fun q hq => by
  cases e : own0 w3.heap.size q with
  | none => rfl
  | some t => have := own0_at (r := w3.heap.size) (k := q) (by rw [e]; simp); have := P.old HR3.out q hq; omega
 have hob : ∀ q, own0 w3.heap.size q ≠ none → w.heap.size ≤ q := fun q hq => by have := own0_at hq; have := HB3.out.size; omega
 have HR4 : Hid (P.Rep w4 p s3 own) := P.below HR3.out hb4
 have II : Hid (BookInv P J w.heap.size p w3.heap.size 3 w4) := ⟨s3, fun _ => pd0, fun _ => -1, own, own0 w3.heap.size, HR4.out, HO0.out, HJ0.out, BkFit.zero.mono (by omega), hat, hown, HF3.out, hob⟩
 clear hat hb4 hown hob
 generalize w3.heap.size = gb at *
 go_wp2_with fail
 go_loopw [9] (fun i wr => ∃ n : Nat, n ≤ script.length ∧ i = .int .i64 n ∧ Hid (BookInv P J w.heap.size p gb (3 + n) wr) ∧ Hid (Below w.heap.size w wr)) (fun i _ => script.length - (intOf i).toNat)
 case atStart => exact ⟨0, Nat.zero_le _, rfl, II, HB4⟩
 case round =>
  obtain ⟨n, hn, rfl, In, hB⟩ := hrel
  have hz := hB.out.size
  by_cases hlt : n < script.length
  ·have hg := List.getElem?_eq_getElem hlt
   generalize script[n] = x at hg
   obtain ⟨bs, off, rfl, hbl, hrg⟩ := HE.out n x hg
   have hrg' : wr.rangeAt bs (off + n * 9) [.int .i64 x.who.1, .int .i64 x.who.2.1, .int .i64 x.who.2.2, .int .i64 x.op, .int .i64 x.at_.1, .int .i64 x.at_.2, .int .i64 x.key, .int .i64 x.to_, .int .i64 x.value] := rangeAt_below hrg hB.out hbl
   have zn : (n : Int) < (script.length : Int) := by omega
   obtain ⟨s, ps, vals, oP, oB, A⟩ := In.out
   have HCD : Hid (Codes ps x (P.act s x).2) := HCDX.out _ _ _ _ A.ok A.j x
   have HA : Hid (BookAt P J w.heap.size p gb (3 + n) s ps vals oP oB wr) := A
   have hpr := properK_any x
   unfold stepV at hpr
   clear hrg hg A
   go_upto_region 10 with (first | (refine wpList_load_mid rfl 30 _ rfl bs (off + n * 9) rfl _ _ hrg' Try.underlying30 rfl sizeStep ?_))
   have hAx : Below wr.heap.size wr (wr.alloc (.cells #[.int .i64 x.who.1, .int .i64 x.who.2.1, .int .i64 x.who.2.2, .int .i64 x.op, .int .i64 x.at_.1, .int .i64 x.at_.2, .int .i64 x.key, .int .i64 x.to_, .int .i64 x.value] 30)) := (Below.refl _ _).alloc (Nat.le_refl _) _
   have hX : (wr.alloc (.cells #[.int .i64 x.who.1, .int .i64 x.who.2.1, .int .i64 x.who.2.2, .int .i64 x.op, .int .i64 x.at_.1, .int .i64 x.at_.2, .int .i64 x.key, .int .i64 x.to_, .int .i64 x.value] 30)).heap[wr.heap.size]? = some (.cells (stepC x).toArray 30 (0, 0)) := heap_alloc_new wr _
   have HBX : Hid (Below wr.heap.size wr (wr.alloc (.cells #[.int .i64 x.who.1, .int .i64 x.who.2.1, .int .i64 x.who.2.2, .int .i64 x.op, .int .i64 x.at_.1, .int .i64 x.at_.2, .int .i64 x.key, .int .i64 x.to_, .int .i64 x.value] 30))) := hAx
   generalize wr.alloc (.cells #[.int .i64 x.who.1, .int .i64 x.who.2.1, .int .i64 x.who.2.2, .int .i64 x.op, .int .i64 x.at_.1, .int .i64 x.at_.2, .int .i64 x.key, .int .i64 x.to_, .int .i64 x.value] 30) = wX at *
   have HX : Hid (type_of% hX) := hX
   have zgx : wr.heap.size < wX.heap.size := (Array.getElem?_eq_some_iff.1 hX).1
   generalize hgx : wr.heap.size = gx at *
   have Hgx : Hid (wr.heap.size = gx) := hgx
   obtain ⟨c0, c1, c2, c3, c4, c5, c6, c7, c8, _⟩ := step9_cells hX
   clear hAx hX hgx hrg'
   go_wp2_with fail
   refine (hpr _).mono ?_
   rintro e w1 ⟨rfl, hb1⟩
   have HB1 : Hid (Below wX.heap.size wX w1) := hb1
   have hX1 : w1.heap[gx]? = _ := (hb1.block gx zgx).trans HX.out
   have HX1 : Hid (type_of% hX1) := hX1
   obtain ⟨d0, d1, d2, d3, d4, d5, d6, d7, d8, _⟩ := step9_cells hX1
   have zg1 : gx < w1.heap.size := (Array.getElem?_eq_some_iff.1 hX1).1
   have hBw1 : Below wr.heap.size wr w1 := by have := HBX.out.trans (hb1.mono (by have := HBX.out.size; omega)); rw [Hgx.out]; exact this
   have HA1 : Hid (BookAt P J w.heap.size p gb (3 + n) s ps vals oP oB w1) := HA.out.below hBw1
   have HBw : Hid (Below w.heap.size w w1) := hB.out.trans (hBw1.mono (by rw [Hgx.out]; exact hz))
   clear hb1 hX1 c0 c1 c2 c3 c4 c5 c6 c7 c8 hpr hBw1
   go_upto_region 13 with fail
   obtain ⟨pb, hpb⟩ : ∃ pb, pb = properB x := ⟨_, rfl⟩
   rw [← hpb]
   have HPB : Hid (pb = properB x) := hpb
   clear hpb
   go_cut [49] from 27 to 124 (fun cv wd => cv = .bool (pb && (decide (2 ≤ x.op) && decide (x.op ≤ 5))) ∧ wd = w1)
   case first =>
    cases pb with
    | false =>
     go_wp2
     go_meet
     case rel => exact ⟨rfl, rfl⟩
    | true =>
     by_cases o1 : 2 ≤ x.op
     ·by_cases o2 : x.op ≤ 5
      ·have HA9 : Hid ((true && (decide (2 ≤ x.op) && decide (x.op ≤ 5))) = true) := by unfold Hid; rw [decide_eq_true o1, decide_eq_true o2]; rfl
       go_wp2
       go_meet
       case rel => exact ⟨by rw [HA9.out]; first | done | exact congrArg Value.bool (decide_eq_false (by omega)), rfl⟩
      ·have HA9 : Hid ((true && (decide (2 ≤ x.op) && decide (x.op ≤ 5))) = false) := by unfold Hid; rw [decide_eq_false o2]; simp
       have o3 : 5 < x.op := by omega
       clear o2
       go_wp2
       go_meet
       case rel => exact ⟨by rw [HA9.out]; first | done | exact congrArg Value.bool (decide_eq_false (by omega)), rfl⟩
     ·have HA9 : Hid ((true && (decide (2 ≤ x.op) && decide (x.op ≤ 5))) = false) := by unfold Hid; rw [decide_eq_false o1]; simp
      have o3 : x.op < 2 := by omega
      clear o1
      go_wp2
      go_meet
      case rel => exact ⟨by rw [HA9.out]; first | done | exact congrArg Value.bool (decide_eq_false (by omega)), rfl⟩
   case rest =>
   obtain ⟨rfl, hwe⟩ := hcut
   subst hwe
   obtain ⟨w1, hw1⟩ : ∃ u, u = wc := ⟨_, rfl⟩
   subst hw1
   go_upto_if 49 with fail
   go_cut [12, 13, 14] from 27 to 124 (fun mv lv hv wc => ∃ mb lb, mv = .bool mb ∧ lv = .bool lb ∧ Hid (Below w1.heap.size w1 wc) ∧ Hid (MayLive ps x mb lb))
   case first =>
    by_cases hq : properB x = true ∧ 2 ≤ x.op ∧ x.op ≤ 5
    ·obtain ⟨hp, o1, o2⟩ := hq
     have hask : (pb && (decide (2 ≤ x.op) && decide (x.op ≤ 5))) = true := by rw [HPB.out, hp, decide_eq_true o1, decide_eq_true o2]; rfl
     rw [hask]
     clear hask
     obtain ⟨k, hk, hsz⟩ := properB_sess hp
     obtain ⟨lw, la⟩ := asked_labs hp o1 o2
     have hses := session_any x.who
     rw [hsz] at hses
     have HKT : Hid ((sessZ' x.who).toNat = k) := by unfold Hid; rw [hsz]; simp
     have zk : (k : Int) < 128 := by omega
     obtain ⟨hs, mm, hpl⟩ := HA1.out.bk
     obtain ⟨ad, cd, hdv⟩ := ownsRow_slice (mm.row k hk).1
     have zgb : gb < w1.heap.size := mm.old gb (by rw [mm.tag]; simp)
     have HPL : Hid ((hs k).pl = ps k) := hpl k hk
     have hHC : (#[.bool (hs k).live, .slice ad (hs k).done.length cd, .bool (hs k).open_, .int .i64 (hs k).x.who.1, .int .i64 (hs k).x.who.2.1, .int .i64 (hs k).x.who.2.2, .int .i64 (hs k).x.op, .int .i64 (hs k).x.at_.1, .int .i64 (hs k).x.at_.2, .int .i64 (hs k).x.key, .int .i64 (hs k).x.to_, .int .i64 (hs k).x.value] : Array Value).toList = handC (hs k) := by unfold handC; rw [hdv]; rfl
     have HHC : Hid (type_of% hHC) := hHC
     have HS0 : Hid (w1.cell? ⟨gx, 0, none⟩ = some (.int .i64 x.who.1) ∧ w1.cell? ⟨gx, 1, none⟩ = some (.int .i64 x.who.2.1) ∧ w1.cell? ⟨gx, 2, none⟩ = some (.int .i64 x.who.2.2) ∧ w1.cell? ⟨gb, k * 12, none⟩ = some (.bool (hs k).live) ∧ w1.cell? ⟨gb, k * 12 + 1, none⟩ = some (.slice ad (hs k).done.length cd) ∧ w1.cell? ⟨gb, k * 12 + 2, none⟩ = some (.bool (hs k).open_) ∧ w1.cell? ⟨gb, k * 12 + 3, none⟩ = some (.int .i64 (hs k).x.who.1) ∧ w1.cell? ⟨gb, k * 12 + 4, none⟩ = some (.int .i64 (hs k).x.who.2.1) ∧ w1.cell? ⟨gb, k * 12 + 5, none⟩ = some (.int .i64 (hs k).x.who.2.2) ∧ w1.cell? ⟨gb, k * 12 + 6, none⟩ = some (.int .i64 (hs k).x.op) ∧ w1.cell? ⟨gb, k * 12 + 7, none⟩ = some (.int .i64 (hs k).x.at_.1) ∧ w1.cell? ⟨gb, k * 12 + 8, none⟩ = some (.int .i64 (hs k).x.at_.2) ∧ w1.cell? ⟨gb, k * 12 + 9, none⟩ = some (.int .i64 (hs k).x.key) ∧ w1.cell? ⟨gb, k * 12 + 10, none⟩ = some (.int .i64 (hs k).x.to_) ∧ w1.cell? ⟨gb, k * 12 + 11, none⟩ = some (.int .i64 (hs k).x.value)) := by
      have hr := mm.hand k hk
      rw [← HHC.out] at hr
      exact ⟨d0, d1, d2, hr 0 _ rfl, hr 1 _ rfl, hr 2 _ rfl, hr 3 _ rfl, hr 4 _ rfl, hr 5 _ rfl, hr 6 _ rfl, hr 7 _ rfl, hr 8 _ rfl, hr 9 _ rfl, hr 10 _ rfl, hr 11 _ rfl⟩
     have HSB : Hid (∀ W, Below w1.heap.size w1 W → W.cell? ⟨gx, 0, none⟩ = some (.int .i64 x.who.1) ∧ W.cell? ⟨gx, 1, none⟩ = some (.int .i64 x.who.2.1) ∧ W.cell? ⟨gx, 2, none⟩ = some (.int .i64 x.who.2.2) ∧ W.cell? ⟨gb, k * 12, none⟩ = some (.bool (hs k).live) ∧ W.cell? ⟨gb, k * 12 + 1, none⟩ = some (.slice ad (hs k).done.length cd) ∧ W.cell? ⟨gb, k * 12 + 2, none⟩ = some (.bool (hs k).open_) ∧ W.cell? ⟨gb, k * 12 + 3, none⟩ = some (.int .i64 (hs k).x.who.1) ∧ W.cell? ⟨gb, k * 12 + 4, none⟩ = some (.int .i64 (hs k).x.who.2.1) ∧ W.cell? ⟨gb, k * 12 + 5, none⟩ = some (.int .i64 (hs k).x.who.2.2) ∧ W.cell? ⟨gb, k * 12 + 6, none⟩ = some (.int .i64 (hs k).x.op) ∧ W.cell? ⟨gb, k * 12 + 7, none⟩ = some (.int .i64 (hs k).x.at_.1) ∧ W.cell? ⟨gb, k * 12 + 8, none⟩ = some (.int .i64 (hs k).x.at_.2) ∧ W.cell? ⟨gb, k * 12 + 9, none⟩ = some (.int .i64 (hs k).x.key) ∧ W.cell? ⟨gb, k * 12 + 10, none⟩ = some (.int .i64 (hs k).x.to_) ∧ W.cell? ⟨gb, k * 12 + 11, none⟩ = some (.int .i64 (hs k).x.value)) := fun W hW => by
      obtain ⟨a0, a1, a2, a3, a4, a5, a6, a7, a8, a9, a10, a11, a12, a13, a14⟩ := HS0.out
      exact ⟨cell_later hW a0, cell_later hW a1, cell_later hW a2, cell_later hW a3, cell_later hW a4, cell_later hW a5, cell_later hW a6, cell_later hW a7, cell_later hW a8, cell_later hW a9, cell_later hW a10, cell_later hW a11, cell_later hW a12, cell_later hW a13, cell_later hW a14⟩
     clear mm hpl hHC hdv
     have hdm : ∀ W, Calls Try.prog 29 #[.int .i64 (numZ x.who.1 x.who.2.1), .int .i64 (numZ x.at_.1 x.at_.2)] W fun e w' => e = .returned (.bool (domB x.who.1 x.who.2.1 x.at_.1 x.at_.2)) ∧ Below W.heap.size W w' := fun W => by
      have z1 := numZ_pos lw
      have z2 := numZ_pos la
      rw [← domK_domB lw la]
      refine (dominatesK_any _ _ W ⟨z1.1, by omega⟩ ⟨z2.1, by omega⟩).mono ?_
      rintro e w' ⟨rfl, rfl⟩
      exact ⟨rfl, Below.refl _ _⟩
     have HDM : Hid (type_of% hdm) := hdm
     have HNS : Hid ((numZ x.who.1 x.who.2.1 == numZ x.at_.1 x.at_.2) = sameL x.at_.1 x.at_.2 x.who.1 x.who.2.1) := num_same lw la
     clear hdm lw la
     go_upto_region 14 with fail
     go_cut [14] from 27 to 124 (fun v wd => ∃ hb, v = .pointer (some ⟨hb, 0, none⟩) ∧ Hid (Copied w1 wd hb (hs k)))
     case first =>
      refine wp_region_Z (z := 9) (S := fun W => W.cell? ⟨gx, 0, none⟩ = some (.int .i64 x.who.1) ∧ W.cell? ⟨gx, 1, none⟩ = some (.int .i64 x.who.2.1) ∧ W.cell? ⟨gx, 2, none⟩ = some (.int .i64 x.who.2.2) ∧ W.cell? ⟨gb, k * 12, none⟩ = some (.bool (hs k).live) ∧ W.cell? ⟨gb, k * 12 + 1, none⟩ = some (.slice ad (hs k).done.length cd) ∧ W.cell? ⟨gb, k * 12 + 2, none⟩ = some (.bool (hs k).open_) ∧ W.cell? ⟨gb, k * 12 + 3, none⟩ = some (.int .i64 (hs k).x.who.1) ∧ W.cell? ⟨gb, k * 12 + 4, none⟩ = some (.int .i64 (hs k).x.who.2.1) ∧ W.cell? ⟨gb, k * 12 + 5, none⟩ = some (.int .i64 (hs k).x.who.2.2) ∧ W.cell? ⟨gb, k * 12 + 6, none⟩ = some (.int .i64 (hs k).x.op) ∧ W.cell? ⟨gb, k * 12 + 7, none⟩ = some (.int .i64 (hs k).x.at_.1) ∧ W.cell? ⟨gb, k * 12 + 8, none⟩ = some (.int .i64 (hs k).x.at_.2) ∧ W.cell? ⟨gb, k * 12 + 9, none⟩ = some (.int .i64 (hs k).x.key) ∧ W.cell? ⟨gb, k * 12 + 10, none⟩ = some (.int .i64 (hs k).x.to_) ∧ W.cell? ⟨gb, k * 12 + 11, none⟩ = some (.int .i64 (hs k).x.value)) (by kernel_rfl) ?_
      have hBd : Below w1.heap.size w1 w1.drew := (Below.refl _ _).drew
      have hS := HSB.out _ hBd
      refine zT (i := 0) (v := ?v1) (by decide +kernel) rfl (fun _ _ _ h => h) hS (.inl ⟨by rfl, ?y1⟩) ?_
      case y1 => (rintro wz ⟨zs0, zs1, zs2, zs3, zs4, zs5, zs6, zs7, zs8, zs9, zs10, zs11, zs12, zs13, zs14⟩; go_simp <;> with_reducible rfl)
      simp only [Act.put, z1, z2, z4, z5, z6]
      refine zT (i := 1) (v := ?v2) (by decide +kernel) rfl (fun _ _ _ h => h) hS (.inl ⟨by rfl, ?y2⟩) ?_
      case y2 => (rintro wz ⟨zs0, zs1, zs2, zs3, zs4, zs5, zs6, zs7, zs8, zs9, zs10, zs11, zs12, zs13, zs14⟩; go_simp <;> with_reducible rfl)
      simp only [Act.put, z1, z2, z3, z4, z5, z6]
      refine zT (i := 2) (v := ?v3) (by decide +kernel) rfl (fun _ _ _ h => h) hS (.inl ⟨by rfl, ?y3⟩) ?_
      case y3 => (rintro wz ⟨zs0, zs1, zs2, zs3, zs4, zs5, zs6, zs7, zs8, zs9, zs10, zs11, zs12, zs13, zs14⟩; go_simp <;> with_reducible rfl)
      simp only [Act.put, z1, z2, z3, z4, z5, z6]
      refine zT (i := 4) (v := ?v4) (by decide +kernel) rfl (fun _ _ _ h => h) hS (.inl ⟨by rfl, ?y4⟩) ?_
      case y4 => (rintro wz ⟨zs0, zs1, zs2, zs3, zs4, zs5, zs6, zs7, zs8, zs9, zs10, zs11, zs12, zs13, zs14⟩; go_simp <;> with_reducible rfl)
      simp only [Act.put, z1, z2, z3, z4, z5, z6]
      refine zT (i := 5) (v := ?v5) (by decide +kernel) rfl (fun _ _ _ h => h) hS (.inl ⟨by rfl, ?y5⟩) ?_
      case y5 => (rintro wz ⟨zs0, zs1, zs2, zs3, zs4, zs5, zs6, zs7, zs8, zs9, zs10, zs11, zs12, zs13, zs14⟩; go_simp <;> with_reducible rfl)
      simp only [Act.put, z1, z2, z3, z4, z5, z6]
      refine wpAnyZ_two (i := 3) (j := 8) (by decide +kernel) rfl rfl (fun K hK => ?_) (fun K hK => ?_)
      ·go_simp
       refine (hses _).mono ?_
       rintro e wq ⟨rfl, hbq⟩
       have hBq : Below w1.heap.size w1 wq := hBd.trans (hbq.mono hBd.size)
       have hS := HSB.out _ hBq
       have HCP : Hid (Copied w1 (wq.alloc (.cells #[.bool (hs k).live, .slice ad (hs k).done.length cd, .bool (hs k).open_, .int .i64 (hs k).x.who.1, .int .i64 (hs k).x.who.2.1, .int .i64 (hs k).x.who.2.2, .int .i64 (hs k).x.op, .int .i64 (hs k).x.at_.1, .int .i64 (hs k).x.at_.2, .int .i64 (hs k).x.key, .int .i64 (hs k).x.to_, .int .i64 (hs k).x.value] 80)) wq.heap.size (hs k)) := Copied.late hBq HHC.out
       refine hK _ _ (fun _ => hS) ?_
       clear hK hbq
       refine zT (i := 6) (v := ?v6) (by decide +kernel) rfl (fun _ _ _ h => h) hS (.inl ⟨by rfl, ?y6⟩) ?_
       case y6 => (rintro wz ⟨zs0, zs1, zs2, zs3, zs4, zs5, zs6, zs7, zs8, zs9, zs10, zs11, zs12, zs13, zs14⟩; go_simp <;> with_reducible rfl)
       simp only [Act.put, z1, z2, z3, z4, z5, z6]
       refine zT (i := 7) (v := ?v7) (by decide +kernel) rfl (fun _ _ _ h => h) hS (.inl ⟨by rfl, ?y7⟩) ?_
       case y7 => (rintro wz ⟨zs0, zs1, zs2, zs3, zs4, zs5, zs6, zs7, zs8, zs9, zs10, zs11, zs12, zs13, zs14⟩; go_simp <;> with_reducible rfl)
       simp only [Act.put, z1, z2, z3, z4, z5, z6]
       refine wpAnyZ_one (i := 8) (by decide +kernel) rfl (fun K hK => ?_)
       go_simp
       refine hK _ _ (fun _ => HSB.out _ (hBq.alloc hBq.size _)) ?_
       clear hK
       refine wpAnyZ_one (i := 9) (by decide +kernel) rfl (fun K hK => ?_)
       go_simp
       refine hK _ _ (fun h => absurd rfl h) ?_
       clear hK
       refine wpAnyZ_done (by decide +kernel) ?_ _
       go_wp2_with fail
       go_meet
       case rel => exact ⟨_, rfl, HCP⟩
      ·go_simp
       have hB4 : Below w1.heap.size w1 (w1.alloc (.cells #[.bool false, .slice none 0 0, .bool false, .int .i64 0, .int .i64 0, .int .i64 0, .int .i64 0, .int .i64 0, .int .i64 0, .int .i64 0, .int .i64 0, .int .i64 0] 80)).drew := ((Below.refl _ _).alloc (Nat.le_refl _) _).drew
       have hN4 : (w1.alloc (.cells #[.bool false, .slice none 0 0, .bool false, .int .i64 0, .int .i64 0, .int .i64 0, .int .i64 0, .int .i64 0, .int .i64 0, .int .i64 0, .int .i64 0, .int .i64 0] 80)).drew.heap[w1.heap.size]? = some (.cells #[.bool false, .slice none 0 0, .bool false, .int .i64 0, .int .i64 0, .int .i64 0, .int .i64 0, .int .i64 0, .int .i64 0, .int .i64 0, .int .i64 0, .int .i64 0] 80 (0, 0)) := heap_alloc_new w1 _
       generalize (w1.alloc (.cells #[.bool false, .slice none 0 0, .bool false, .int .i64 0, .int .i64 0, .int .i64 0, .int .i64 0, .int .i64 0, .int .i64 0, .int .i64 0, .int .i64 0, .int .i64 0] 80)).drew = wa at *
       have za : w1.heap.size < wa.heap.size := (Array.getElem?_eq_some_iff.1 hN4).1
       refine hK _ _ (fun _ => HSB.out _ hB4) ?_
       clear hK
       refine wpAnyZ_one (i := 3) (by decide +kernel) rfl (fun K hK => ?_)
       go_simp
       refine (hses _).mono ?_
       rintro e wq ⟨rfl, hbq⟩
       have hBq : Below w1.heap.size w1 wq := hB4.trans (hbq.mono hB4.size)
       have hN5 : wq.heap[w1.heap.size]? = _ := (hbq.block w1.heap.size za).trans hN4
       have hS := HSB.out _ hBq
       have HCP : Hid (Copied w1 (wq.setCells w1.heap.size 0 (handC (hs k))) w1.heap.size (hs k)) := Copied.early hBq (Nat.le_refl _) hN5 rfl
       rw [← HHC.out] at HCP
       obtain ⟨zf, zc⟩ := zero12 hN5
       have f0 := zf 0 (by omega)
       have f1 := zf 1 (by omega)
       have f2 := zf 2 (by omega)
       have f3 := zf 3 (by omega)
       have f4 := zf 4 (by omega)
       have f5 := zf 5 (by omega)
       have f6 := zf 6 (by omega)
       have f7 := zf 7 (by omega)
       have f8 := zf 8 (by omega)
       have f9 := zf 9 (by omega)
       have f10 := zf 10 (by omega)
       have f11 := zf 11 (by omega)
       have g0 : wq.cell? ⟨w1.heap.size, 0, none⟩ = some (.bool false) := zc 0
       have g1 : wq.cell? ⟨w1.heap.size, 1, none⟩ = some (.slice none 0 0) := zc 1
       have g2 : wq.cell? ⟨w1.heap.size, 2, none⟩ = some (.bool false) := zc 2
       have g3 : wq.cell? ⟨w1.heap.size, 3, none⟩ = some (.int .i64 0) := zc 3
       have g4 : wq.cell? ⟨w1.heap.size, 4, none⟩ = some (.int .i64 0) := zc 4
       have g5 : wq.cell? ⟨w1.heap.size, 5, none⟩ = some (.int .i64 0) := zc 5
       have g6 : wq.cell? ⟨w1.heap.size, 6, none⟩ = some (.int .i64 0) := zc 6
       have g7 : wq.cell? ⟨w1.heap.size, 7, none⟩ = some (.int .i64 0) := zc 7
       have g8 : wq.cell? ⟨w1.heap.size, 8, none⟩ = some (.int .i64 0) := zc 8
       have g9 : wq.cell? ⟨w1.heap.size, 9, none⟩ = some (.int .i64 0) := zc 9
       have g10 : wq.cell? ⟨w1.heap.size, 10, none⟩ = some (.int .i64 0) := zc 10
       have g11 : wq.cell? ⟨w1.heap.size, 11, none⟩ = some (.int .i64 0) := zc 11
       refine hK _ _ (fun _ => hS) ?_
       clear hK hbq hN4 hN5 zf zc
       refine zT (i := 6) (v := ?v8) (by decide +kernel) rfl (fun _ _ _ h => h) hS (.inl ⟨by rfl, ?y8⟩) ?_
       case y8 => (rintro wz ⟨zs0, zs1, zs2, zs3, zs4, zs5, zs6, zs7, zs8, zs9, zs10, zs11, zs12, zs13, zs14⟩; go_simp <;> with_reducible rfl)
       simp only [Act.put, z1, z2, z3, z4, z5, z6]
       refine zT (i := 7) (v := ?v9) (by decide +kernel) rfl (fun _ _ _ h => h) hS (.inl ⟨by rfl, ?y9⟩) ?_
       case y9 => (rintro wz ⟨zs0, zs1, zs2, zs3, zs4, zs5, zs6, zs7, zs8, zs9, zs10, zs11, zs12, zs13, zs14⟩; go_simp <;> with_reducible rfl)
       simp only [Act.put, z1, z2, z3, z4, z5, z6]
       refine wpAnyZ_one (i := 9) (by decide +kernel) rfl (fun K hK => ?_)
       go_simp
       refine hK _ _ (fun h => absurd rfl h) ?_
       clear hK
       refine wpAnyZ_done (by decide +kernel) ?_ _
       go_wp2_with fail
       go_meet
       case rel => exact ⟨_, rfl, HCP⟩
     case rest =>
      obtain ⟨hb, rfl, HCP⟩ := hcut
      obtain ⟨u0, hu0⟩ : ∃ u, u = wc := ⟨_, rfl⟩
      subst hu0
      have HBU : Hid (Below w1.heap.size w1 u0) := HCP.out.bel
      have r0 : u0.cell? ⟨hb, 0, none⟩ = some (.bool (hs k).live) := HCP.out.rng 0 _ rfl
      have r2 : u0.cell? ⟨hb, 2, none⟩ = some (.bool (hs k).open_) := HCP.out.rng 2 _ rfl
      go_upto_region 15 with fail
      go_cut [13] from 27 to 124 (fun lv wd => lv = .bool ((hs k).live && !(hs k).open_) ∧ wd = u0)
      case first =>
       cases hl : (hs k).live with
       | false =>
        rw [hl] at r0
        go_wp2
        go_meet
        case rel => exact ⟨by rw [hl]; rfl, rfl⟩
       | true =>
        rw [hl] at r0
        cases ho2 : (hs k).open_ with
        | false =>
         rw [ho2] at r2
         go_wp2
         go_meet
         case rel => exact ⟨by rw [hl, ho2]; rfl, rfl⟩
        | true =>
         rw [ho2] at r2
         go_wp2
         go_meet
         case rel => exact ⟨by rw [hl, ho2]; rfl, rfl⟩
      case rest =>
       obtain ⟨rfl, hwe⟩ := hcut
       subst hwe
       have HLB : Hid (((hs k).live && !(hs k).open_) = ((ps (sessZ' x.who).toNat).live && !(ps (sessZ' x.who).toNat).open_)) := by unfold Hid; rw [HKT.out, ← HPL.out]; rfl
       generalize ((hs k).live && !(hs k).open_) = lb at *
       have HXU : Hid (wc.heap[gx]? = _) := (HBU.out.block gx zg1).trans HX1.out
       obtain ⟨cc0, cc1, _, cc3, cc4, cc5, _, _, _, _⟩ := step9_cells HXU.out
       have zgu : gx < wc.heap.size := (Array.getElem?_eq_some_iff.1 HXU.out).1
       clear r0 r2 d0 d1 d2 d3 d4 d5 d6 d7 d8
       obtain ⟨u1, hu1⟩ : ∃ u, u = wc := ⟨_, rfl⟩
       subst hu1
       go_upto_region 16 with fail
       have kk0 := kin_cell cc0
       have kk1 := kin_cell cc1
       have kk4 := kin_cell cc4
       have kk5 := kin_cell cc5
       have hki := kin_some u1
       refine wp_region_kin (by kernel_rfl) (by kernel_rfl) ?_
       repeat (first | go_big_quiet_step (first | (go_at_call 27; exact Calls.kin (number_any _ _ _)) | (go_at_call 29; exact Calls.kin (HDM.out _))) | quiet_step (first | (go_at_call 27; exact Calls.kin (number_any _ _ _)) | (go_at_call 29; exact Calls.kin (HDM.out _))))
       refine wpQuiet_nil ?_
       intro _ hw'
       obtain ⟨xq, hw''⟩ := hw'
       subst hw''
       have HBq : Hid (Below u1.heap.size u1 xq.w) := xq.h
       generalize xq.w = u2 at *
       have e3 := cell_later HBq.out cc3
       have HBU2 : Hid (Below w1.heap.size w1 u2) := HBU.out.trans (HBq.out.mono HBU.out.size)
       have zgu2 : gx < u2.heap.size := by have := HBq.out.size; omega
       by_cases h45 : x.op = 4 ∨ x.op = 5
       ·have HMM : Hid ((numZ x.who.1 x.who.2.1 == numZ x.at_.1 x.at_.2) = x.may) := by unfold Hid; rw [HNS.out]; unfold Stp.may; rw [if_pos h45]
        have v0 := cell_later HBq.out cc0
        have v1 := cell_later HBq.out cc1
        have v4 := cell_later HBq.out cc4
        have v5 := cell_later HBq.out cc5
        have ML : Hid (MayLive ps x (numZ x.who.1 x.who.2.1 == numZ x.at_.1 x.at_.2) lb) := .inl ⟨hp, ⟨o1, o2⟩, HMM.out, HLB.out⟩
        clear kk0 kk1 kk4 kk5 hki xq cc0 cc1 cc3 cc4 cc5
        rcases h45 with h4 | h5
        ·rw [h4] at e3
         go_upto_region 18 with fail
         have kk0 := kin_cell v0
         have kk1 := kin_cell v1
         have kk4 := kin_cell v4
         have kk5 := kin_cell v5
         have hki := kin_some u2
         refine wp_region_kin (by kernel_rfl) (by kernel_rfl) ?_
         repeat (first | go_big_quiet_step ((go_at_call 27; exact Calls.kin (number_any _ _ _))) | quiet_step ((go_at_call 27; exact Calls.kin (number_any _ _ _))))
         refine wpQuiet_nil ?_
         intro _ hw'
         obtain ⟨xr, hw''⟩ := hw'
         subst hw''
         have HBr : Hid (Below w1.heap.size w1 xr.w) := HBU2.out.trans (xr.h.mono HBU2.out.size)
         go_wp2_with fail
         go_meet
         case rel => exact ⟨_, _, rfl, rfl, HBr, ML⟩
        ·rw [h5] at e3
         go_upto_region 18 with fail
         have kk0 := kin_cell v0
         have kk1 := kin_cell v1
         have kk4 := kin_cell v4
         have kk5 := kin_cell v5
         have hki := kin_some u2
         refine wp_region_kin (by kernel_rfl) (by kernel_rfl) ?_
         repeat (first | go_big_quiet_step ((go_at_call 27; exact Calls.kin (number_any _ _ _))) | quiet_step ((go_at_call 27; exact Calls.kin (number_any _ _ _))))
         refine wpQuiet_nil ?_
         intro _ hw'
         obtain ⟨xr, hw''⟩ := hw'
         subst hw''
         have HBr : Hid (Below w1.heap.size w1 xr.w) := HBU2.out.trans (xr.h.mono HBU2.out.size)
         go_wp2_with fail
         go_meet
         case rel => exact ⟨_, _, rfl, rfl, HBr, ML⟩
       ·have b4 : (x.op == 4) = false := by simp; omega
        have b5 : (x.op == 5) = false := by simp; omega
        have ML : Hid (MayLive ps x (domB x.who.1 x.who.2.1 x.at_.1 x.at_.2) lb) := .inl ⟨hp, ⟨o1, o2⟩, by unfold Stp.may; rw [if_neg h45], HLB.out⟩
        clear kk0 kk1 kk4 kk5 hki xq cc0 cc1 cc3 cc4 cc5 h45
        go_wp2
        go_meet
        case rel => exact ⟨_, _, rfl, rfl, HBU2, ML⟩
    ·have ML : Hid (MayLive ps x true false) := .inr ⟨by
      cases h : properB x with
      | false => exact .inl rfl
      | true => exact .inr (fun e => hq ⟨h, e⟩), rfl, rfl⟩
     have HRF : Hid (Below w1.heap.size w1 w1) := Below.refl _ _
     have hask : (pb && (decide (2 ≤ x.op) && decide (x.op ≤ 5))) = false := by
      rw [HPB.out]
      cases h : properB x with
      | false => rfl
      | true =>
       by_cases o1 : 2 ≤ x.op
       ·rw [decide_eq_false (fun o2 => hq ⟨h, o1, o2⟩)]; simp
       ·rw [decide_eq_false o1]; simp
     rw [hask]
     clear hq hask
     go_wp2
     go_meet
     case rel => exact ⟨_, _, rfl, rfl, HRF, ML⟩
   case rest =>
    obtain ⟨mb, lb, rfl, rfl, HBc, ML⟩ := hcut
    obtain ⟨u0, hu0⟩ : ∃ u, u = wc := ⟨_, rfl⟩
    subst hu0
    have HX2 : Hid (u0.heap[gx]? = some (.cells (stepC x).toArray 30 (0, 0))) := (HBc.out.block gx zg1).trans HX1.out
    obtain ⟨c0, c1, c2, c3, c4, c5, c6, c7, c8, _⟩ := step9_cells HX2.out
    have HA2 : Hid (BookAt P J w.heap.size p gb (3 + n) s ps vals oP oB u0) := HA1.out.below HBc.out
    have HB2 : Hid (Below w.heap.size w u0) := HBw.out.trans (HBc.out.mono HBw.out.size)
    have zgu : gx < u0.heap.size := (Array.getElem?_eq_some_iff.1 HX2.out).1
    have HGW : Hid (w.heap.size ≤ gx) := hz
    have hd := HA2.out.does HST.out HB2.out.size (by omega) x
    have HGO : Hid (oP gx = none) := by
     unfold Hid
     cases e : oP gx with
     | none => rfl
     | some t => have := P.old HA.out.rep gx (by rw [e]; simp); have := Hgx.out; omega
    generalize (P.act s x).2 = an at *
    unfold stepV at hd
    have HD : Hid (type_of% hd) := hd
    clear hd d0 d1 d2 d3 d4 d5 d6 d7 d8
    go_wp2_with fail
    refine HD.out.mono ?_
    rintro e w6 ⟨aq, cq, oC, rfl, hmid, hb6, hkeep⟩
    have HM6 : Hid (BookMid P J (fun _ => True) w.heap.size p gb (3 + n) x an aq cq oC w6) := hmid
    have HB6 : Hid (Below w.heap.size w w6) := HB2.out.trans hb6
    have HX6 : Hid (w6.heap[gx]? = some (.cells (stepC x).toArray 30 (0, 0))) := (hkeep gx zgu HGO.out).trans HX2.out
    clear hmid hb6 hkeep HD c0 c1 c2 c3 c4 c5 c6 c7 c8
    go_upto_region 20 with fail
    have hA6 : Below w6.heap.size w6 (w6.alloc (.cells #[.int .i64 an.code, .int .i64 an.why, .slice aq an.items.length cq] 66)) := (Below.refl _ _).alloc (Nat.le_refl _) _
    have hY6 : (w6.alloc (.cells #[.int .i64 an.code, .int .i64 an.why, .slice aq an.items.length cq] 66)).heap[w6.heap.size]? = some (.cells #[.int .i64 an.code, .int .i64 an.why, .slice aq an.items.length cq] 66 (0, 0)) := heap_alloc_new w6 _
    have HM7 : Hid (BookMid P J (fun _ => True) w.heap.size p gb (3 + n) x an aq cq oC (w6.alloc (.cells #[.int .i64 an.code, .int .i64 an.why, .slice aq an.items.length cq] 66))) := HM6.out.below hA6
    have HB7 : Hid (Below w.heap.size w (w6.alloc (.cells #[.int .i64 an.code, .int .i64 an.why, .slice aq an.items.length cq] 66))) := HB6.out.trans (hA6.mono HB6.out.size)
    have hX7 := (hA6.block gx (Array.getElem?_eq_some_iff.1 HX6.out).1).trans HX6.out
    generalize w6.alloc (.cells #[.int .i64 an.code, .int .i64 an.why, .slice aq an.items.length cq] 66) = w7 at *
    generalize w6.heap.size = ga at *
    obtain ⟨n0, n1, n2, _, _, _⟩ := ans_cells hY6
    obtain ⟨c0, c1, c2, c3, c4, c5, c6, c7, c8, _⟩ := step9_cells hX7
    have hbt := HM7.out.told HB7.out.size (by omega)
    have HBT : Hid (type_of% hbt) := hbt
    clear hA6 hY6 hX7 hbt
    obtain ⟨q9, q3, q2⟩ := HCD.out
    cases h9 : (an.code == 9) with
    | true =>
     have hp : properB x = false := q9.1 (by simpa using h9)
     have e9 : an.code = 9 := by simpa using h9
     have h3 : (an.code == 3) = false := by rw [e9]; rfl
     have hmb : lb = false := by
      rcases ML.out with ⟨m1, _⟩ | ⟨_, _, m3⟩
      ·rw [hp] at m1; cases m1
      ·exact m3
     subst hmb
     have hpb : pb = false := HPB.out.trans hp
     subst hpb
     clear q9 q3 q2 hp e9
     go_wp2_with fail
     refine HBT.out.mono ?_
     rintro e w8 ⟨r, rfl, _, hinv, hb8, _⟩
     have I8 : Hid (BookInv P J w.heap.size p gb (3 + (n + 1)) w8) := hinv
     have HB8 : Hid (Below w.heap.size w w8) := HB7.out.trans hb8
     clear hinv hb8
     go_wp2
     go_roundw
     case rel => exact ⟨n + 1, by omega, by go_num, I8, HB8⟩
     case measure => simp [intOf]; omega
    | false =>
     have hp : properB x = true := by
      cases e : properB x with
      | true => rfl
      | false => have := q9.2 e; rw [this] at h9; cases h9
     have hpb : pb = true := HPB.out.trans hp
     subst hpb
     cases h3 : (an.code == 3) with
     | true =>
      have e3 : an.code = 3 := by simpa using h3
      obtain ⟨m1, m2⟩ := q3 e3
      have hmb : mb = false := by
       rcases ML.out with ⟨_, _, m3, _⟩ | ⟨m3, _⟩
       ·rw [m3]; exact m2
       ·rcases m3 with m3 | m3
        ·rw [hp] at m3; cases m3
        ·exact absurd ⟨by omega, by omega⟩ m3
      subst hmb
      have hn3 : (an.code != 3) = false := by rw [e3]; rfl
      clear q9 q3 q2 hp e3 m1 m2
      cases lb with
      | true =>
       go_wp2_with fail
       refine HBT.out.mono ?_
       rintro e w8 ⟨r, rfl, _, hinv, hb8, _⟩
       have I8 : Hid (BookInv P J w.heap.size p gb (3 + (n + 1)) w8) := hinv
       have HB8 : Hid (Below w.heap.size w w8) := HB7.out.trans hb8
       clear hinv hb8
       go_wp2
       go_roundw
       case rel => exact ⟨n + 1, by omega, by go_num, I8, HB8⟩
       case measure => simp [intOf]; omega
      | false =>
       go_wp2_with fail
       refine HBT.out.mono ?_
       rintro e w8 ⟨r, rfl, _, hinv, hb8, _⟩
       have I8 : Hid (BookInv P J w.heap.size p gb (3 + (n + 1)) w8) := hinv
       have HB8 : Hid (Below w.heap.size w w8) := HB7.out.trans hb8
       clear hinv hb8
       go_wp2
       go_roundw
       case rel => exact ⟨n + 1, by omega, by go_num, I8, HB8⟩
       case measure => simp [intOf]; omega
     | false =>
      have hn3 : (an.code != 3) = true := by simp only [bne, h3]; rfl
      cases lb with
      | false =>
       clear q9 q3 q2 hp
       cases mb with
       | true =>
        go_wp2_with fail
        refine HBT.out.mono ?_
        rintro e w8 ⟨r, rfl, _, hinv, hb8, _⟩
        have I8 : Hid (BookInv P J w.heap.size p gb (3 + (n + 1)) w8) := hinv
        have HB8 : Hid (Below w.heap.size w w8) := HB7.out.trans hb8
        clear hinv hb8
        go_wp2
        go_roundw
        case rel => exact ⟨n + 1, by omega, by go_num, I8, HB8⟩
        case measure => simp [intOf]; omega
       | false =>
        go_wp2_with fail
        refine HBT.out.mono ?_
        rintro e w8 ⟨r, rfl, _, hinv, hb8, _⟩
        have I8 : Hid (BookInv P J w.heap.size p gb (3 + (n + 1)) w8) := hinv
        have HB8 : Hid (Below w.heap.size w w8) := HB7.out.trans hb8
        clear hinv hb8
        go_wp2
        go_roundw
        case rel => exact ⟨n + 1, by omega, by go_num, I8, HB8⟩
        case measure => simp [intOf]; omega
      | true =>
       cases mb with
       | true =>
        clear q9 q3 q2 hp
        go_wp2_with fail
        refine HBT.out.mono ?_
        rintro e w8 ⟨r, rfl, _, hinv, hb8, _⟩
        have I8 : Hid (BookInv P J w.heap.size p gb (3 + (n + 1)) w8) := hinv
        have HB8 : Hid (Below w.heap.size w w8) := HB7.out.trans hb8
        clear hinv hb8
        go_wp2
        go_roundw
        case rel => exact ⟨n + 1, by omega, by go_num, I8, HB8⟩
        case measure => simp [intOf]; omega
       | false =>
        have h2 : an.code = 2 := by
         rcases ML.out with ⟨m1, m2, m3, m4⟩ | ⟨_, m3, _⟩
         ·have m5 := m4.symm
          rw [Bool.and_eq_true] at m5
          rcases q2 m1 (by omega) m3.symm m5.1 (by simpa using m5.2) with e | e
          ·rw [e] at h3; cases h3
          ·exact e
         ·cases m3
        have hn2 : (an.code != 2) = false := by rw [h2]; rfl
        have h2b : (an.code == 2) = true := by rw [h2]; rfl
        clear q9 q3 q2 hp h2
        go_wp2_with fail
        refine HBT.out.mono ?_
        rintro e w8 ⟨r, rfl, _, hinv, hb8, _⟩
        have I8 : Hid (BookInv P J w.heap.size p gb (3 + (n + 1)) w8) := hinv
        have HB8 : Hid (Below w.heap.size w w8) := HB7.out.trans hb8
        clear hinv hb8
        go_wp2
        go_roundw
        case rel => exact ⟨n + 1, by omega, by go_num, I8, HB8⟩
        case measure => simp [intOf]; omega
  ·go_wp2
   go_ret
   exact ⟨rfl, hB.out⟩
end Go.Proofs.Ytpbcplfpjcacfaa
namespace Go.Proofs.Ytpbcplfpjcacfaa
open Go.RowKit
set_option maxRecDepth 100000
set_option maxHeartbeats 8000000
theorem barred_true {k v c : Int} (hk : i64B k) (hv : i64B v) (hc : i64B c) {sv : Value} {script : List Stp} {w : World} (hsc : isSteps w sv script) (hlen : script.length + 1000 < 2000000000000) :
  Calls Try.prog 11 #[.agg #[.int .i64 k, .int .i64 v, .int .i64 c], sv] w fun e w' => e = .returned (.bool true) ∧ Below w.heap.size w w' := by
 have hmay := may_fits k v c
 obtain ⟨ho, _⟩ := pair_opens thePgm theDoc hmay first_ok
 refine barred_walk (thePgm.pair theDoc) (fun s ps _ => ∃ vals, SOk s.1 ps vals) (fun N s ps vals x ok h => ?_) (fun N s ps vals ok h x => ?_) k v c sv script w hk hv hc hsc hlen _ rfl ho ⟨_, sok_open hmay⟩
 ·obtain ⟨vals', h⟩ := h
  rw [pair_ans ok x, tellP_ps ps vals vals' x]
  exact ⟨trivial, _, (ser_do h x).2⟩
 ·obtain ⟨vals', h⟩ := h
  rw [pair_ans ok x]
  exact codes_do h x
end Go.Proofs.Ytpbcplfpjcacfaa
namespace Go.Proofs.Ytpbcplfpjcacfaa
open Go.ChangeShapes Go.WideShapes Go.ChangeAt Go.RowKit Go.Joins Go.Deep
set_option linter.unusedVariables false
set_option maxRecDepth 100000
set_option maxHeartbeats 8000000
theorem barredF_lifted (os : Os) (started : os.Started) (H : Type) (enc : TypeId × Value → H) :
  ReturnsInHanded {} Try.checked os 11 .any (Rows.barredSpec.pre6 enc Try.prog Try.f11 Rows.barredRow.domain false) (Rows.barredSpec.post enc Try.prog Try.f11 false true false false) := by
 refine returnsInHanded_of_change_sized (C := Try.checked) tryOwn started (by kernel_rfl) Try.func11
  (ChangeSpec.witness6 (enc := enc) (C := Try.checked) false ⟨#[], #[.agg #[.int .i64 0, .int .i64 0, .int .i64 0], .slice none 0 0], []⟩ 8 (by kernel_rfl) (by kernel_rfl) (by kernel_rfl) (by kernel_rfl)) ?_
 intro W base args ds gs before hval0 hW hcnd hsz0 _
 have hsz : (DataW.weightsEach Try.prog (Try.f11.params.toList ++ Rows.barredSpec.plain.varTypes Try.prog) (ds ++ gs)).all (· ≤ reachBytes) = true := hsz0
 have hval : ∀ (j : Nat) t v, Try.f11.params[j]? = some t → args[j]? = some v → Value.okWide Try.prog W .any base t v := hval0
 have hW' := hW
 obtain ⟨p, q, hA0, hV, rfl, hfz, hnd⟩ := hW
 have hA : DataW.TrodAll enc Try.prog W 0 (fun _ => true) true Try.f11.params.toList args.toList ds p := hA0
 rw [Try.params11] at hA hval hsz
 obtain ⟨v0, vs0, d0, ds0, p0, q0, hargs, rfl, rfl, h0, r0⟩ := trodAll_cons hA
 obtain ⟨v1, vs1, d1, ds1, p1, q1, rfl, rfl, rfl, h1, r1⟩ := trodAll_cons r0
 obtain ⟨rfl, rfl, rfl⟩ := trodAll_nil r1
 obtain rfl : args = #[v0, v1] := by cases args; simp_all
 obtain ⟨rfl, rfl⟩ := trodVars_none hV
 have lt0 : ∀ x ∈ p0, x.block < W.heap.size := by obtain ⟨m, hm⟩ := h0; exact DataW.trod_lt m _ _ _ hm
 have lt1 : ∀ x ∈ p1, x.block < W.heap.size := by obtain ⟨m, hm⟩ := h1; exact DataW.trod_lt m _ _ _ hm
 obtain ⟨a, b, c, rfl, ia, ib, ic⟩ := open_configB (hval 0 23 v0 rfl rfl) h0
 obtain ⟨script, hsc, hd1⟩ := open_steps (hval 1 59 v1 rfl rfl) h1
 have hlen1 : script.length * 72 ≤ 140737488351232 := by
  rcases hd1 with ⟨rfl, rfl⟩ | ⟨es, s, rfl, e⟩
  ·simp
  ·have := sized_slice hsz (j := 1) (t := 59) (e := 30) rfl rfl Try.underlying59
   rw [bytesStep, e] at this
   simp only [reachBytes] at this
   have h2 : script.length * 72 ≤ (script.length + s.length) * 72 := Nat.mul_le_mul_right _ (Nat.le_add_right _ _)
   omega
 clear hA0 hval0
 refine (barred_true ia ib ic hsc (by omega)).mono fun e W' ⟨he, bel⟩ => ?_
 subst he
 exact ⟨_, rfl, _, _, _, [], _, [], hW', trodAll_mk1 (shut_bool Try.underlying4 _), (trodAll_cons_mk (Below.trod tryLaid (by kernel_rfl) (of_decide_eq_true (by kernel_rfl)) h0 bel lt0) (trodAll_cons_mk (Below.trod tryLaid (by kernel_rfl) (of_decide_eq_true (by kernel_rfl)) h1 bel lt1) trodAll_mk0)), rfl, bel.frame _, fun h => by cases h⟩
theorem barredF_over : Rows.barredRow.holds Try.pinned (OpenSpec.ofChange Rows.barredSpec) :=
 OpenClaim.holds_of_wide 11 Try.f11 rfl rfl rfl rfl rfl rfl rfl ⟨rfl, rfl, rfl, rfl, rfl⟩ rfl rfl rfl rfl rfl (by kernel_rfl) Try.func11 (by kernel_rfl)
  (of_decide_eq_true (by kernel_rfl)) (by unfold Func.isWrapper; first | (rw [if_pos (by decide +kernel)]; kernel_rfl) | (rw [if_neg (by decide +kernel)]; exact ⟨rfl, rfl⟩))
  (fun os started H enc _ => barredF_lifted os started H enc)
theorem barred_said : Rows.BarredSaid := barredF_over
theorem barred_holds : Rows.BarredSaid := barred_said
#print axioms barred_holds
end Go.Proofs.Ytpbcplfpjcacfaa
