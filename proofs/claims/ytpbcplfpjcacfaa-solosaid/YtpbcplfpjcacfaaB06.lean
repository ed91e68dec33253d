import Derived.Deep.CutRange
import Derived.RegionTactic
import Derived.Test.YtpbcplfpjcacfaaB05
namespace Go.Proofs.Ytpbcplfpjcacfaa
open Go.RowKit
set_option maxRecDepth 100000
set_option maxHeartbeats 8000000
theorem ends_len (st : RS) (x : Wh) (back : Bool) (why : Int) : (st.ends x back why).txns.length ≤ st.txns.length := by
 unfold RS.ends
 cases st.txOf x with
 | none => exact Nat.le_refl _
 | some t => exact List.length_filter_le _ _
theorem ends_len_lt {st : RS} {x : Wh} (h : ∃ t ∈ st.txns, t.who = x) (back : Bool) (why : Int) : (st.ends x back why).txns.length < st.txns.length := by
 obtain ⟨t, ht, e⟩ := h
 unfold RS.ends
 cases hq : st.txOf x with
 | none => exact absurd (List.find?_eq_none.1 hq t ht) (by simp [e])
 | some u => exact List.length_filter_lt_length_iff_exists.2 ⟨t, ht, by simp [e]⟩
theorem clearN_len {rc : Rc} : ∀ (f : Nat) (st : RS), (RS.clearN rc f st).txns.length ≤ st.txns.length
 | 0, _ => Nat.le_refl _
 | f + 1, st => by
  unfold RS.clearN
  cases st.recs.find? (clrP rc) with
  | none => exact Nat.le_refl _
  | some a => exact Nat.le_trans (clearN_len f _) (ends_len _ _ _ _)
theorem clearT_len (st : RS) (rc : Rc) : (st.clearT rc).txns.length ≤ st.txns.length := by
 unfold RS.clearT; split
 ·exact clearN_len _ _
 ·exact Nat.le_refl _
theorem job_len (st : RS) (n : Nat) (t : Tx) (x : Stp) : (st.job n t x).1.txns.length = st.txns.length := by
 have hk : ∀ key, (st.keepOld n t key).txns.length = st.txns.length := fun key => by unfold RS.keepOld; split <;> simp
 have hw : ∀ key v, (st.writeT n t key v).txns.length = st.txns.length := fun key v => hk key
 unfold RS.job
 split
 ·exact hw _ _
 ·split
  ·split
   ·rfl
   ·unfold RS.putT; simp [hw]
  ·rfl
theorem grant_len (st : RS) (j : Nat) (c : Rc) : (st.grant j c).txns.length ≤ st.txns.length := by
 unfold RS.grant RS.tell
 rw [List.length_map]
 have hd : ∀ (s : RS) (x : Stp), (s.does x).1.txns.length = s.txns.length := fun s x => by
  unfold RS.does
  cases s.txOf x.who with
  | none => rfl
  | some t => exact job_len _ _ _ _
 rw [hd]
 exact clearT_len _ _
theorem againN_len : ∀ (f : Nat) (st : RS), (RS.againN f st).txns.length ≤ st.txns.length
 | 0, _ => Nat.le_refl _
 | f + 1, st => by
  rcases best_cases st with h | ⟨j, c, h, hj, hfr⟩
  ·rw [againN_none h]; exact Nat.le_refl _
  ·rw [againN_step h hj]; exact Nat.le_trans (againN_len f _) (grant_len _ _ _)
theorem againT_len (st : RS) : st.againT.txns.length ≤ st.txns.length := againN_len _ _
theorem liveIx_cases (x : Wh) : ∀ (l : List Tx) (k : Nat), (liveIx x l k = -1 ∧ ∀ t ∈ l, t.who ≠ x) ∨ ∃ (m : Nat) (t : Tx), liveIx x l k = ((k + m : Nat) : Int) ∧ l[m]? = some t ∧ t.who = x
 | [], k => .inl ⟨rfl, by simp⟩
 | a :: l, k => by
  rw [liveIx]
  by_cases h : a.who = x
  ·exact .inr ⟨0, a, by rw [if_pos h]; simp, rfl, h⟩
  ·rw [if_neg h]
   rcases liveIx_cases x l (k + 1) with ⟨h1, h2⟩ | ⟨m, t, h1, h2, h3⟩
   ·exact .inl ⟨h1, fun t ht => by rcases List.mem_cons.1 ht with rfl | ht; exact h; exact h2 t ht⟩
   ·exact .inr ⟨m + 1, t, by rw [h1]; congr 1; omega, by simpa using h2, h3⟩
theorem live_cases (st : RS) (x : Wh) : (st.live x = -1 ∧ ∀ t ∈ st.txns, t.who ≠ x) ∨ ∃ (m : Nat) (t : Tx), st.live x = (m : Int) ∧ st.txns[m]? = some t ∧ t.who = x := by
 rcases liveIx_cases x st.txns 0 with h | ⟨m, t, h1, h2, h3⟩
 ·exact .inl h
 ·exact .inr ⟨m, t, by unfold RS.live; rw [h1]; simp, h2, h3⟩
def RS.nthAt (st : RS) (i : Nat) : Int := match st.txns[i]? with
 | none => 0
 | some t => t.nth
def RS.inRing (st : RS) (x m : Wh) : Bool := decide (0 ≤ st.live m) && (st.leads 4 x m && st.leads 4 m x)
def RS.younger (st : RS) (b : Option Nat) (i : Nat) : Bool := match b with
 | none => true
 | some j => decide (st.nthAt j < st.nthAt i)
def RS.ringTo (st : RS) (x : Wh) : Nat → Option Nat
 | 0 => none
 | n + 1 => if st.inRing x (x.1, x.2.1, (n : Int)) && st.younger (RS.ringTo st x n) (st.live (x.1, x.2.1, (n : Int))).toNat then some (st.live (x.1, x.2.1, (n : Int))).toNat else RS.ringTo st x n
theorem ringTo_at {st : RS} {x : Wh} : ∀ {k j : Nat}, st.ringTo x k = some j → ∃ t, st.txns[j]? = some t ∧ t.who.lab = x.lab
 | 0, j, h => by cases h
 | k + 1, j, h => by
  rw [RS.ringTo] at h
  split at h
  ·rename_i hb
   cases h
   simp only [RS.inRing, Bool.and_eq_true, decide_eq_true_eq] at hb
   rcases live_cases st (x.1, x.2.1, (k : Int)) with ⟨h1, _⟩ | ⟨m, t, h1, h2, h3⟩
   ·omega
   ·rw [h1]; exact ⟨t, h2, by rw [h3]; rfl⟩
  ·exact ringTo_at h
def RS.ringsN : Nat → RS → Wh → RS × Ans
 | 0, st, _ => (st, ⟨1, 0, []⟩)
 | f + 1, st, x => match st.ringTo x 4 with
  | none => (st, ⟨1, 0, []⟩)
  | some b => match st.txns[b]? with
   | none => (st, ⟨1, 0, []⟩)
   | some t => if t.who = x then ((st.ends t.who true 0).againT, ⟨2, 2, []⟩) else RS.ringsN f (st.ends t.who true 2).againT x
def RS.ringsT (st : RS) (x : Wh) : RS × Ans := RS.ringsN st.txns.length st x
theorem ringsN_none {st : RS} {x : Wh} (h : st.ringTo x 4 = none) : ∀ f, RS.ringsN f st x = (st, ⟨1, 0, []⟩)
 | 0 => rfl
 | f + 1 => by rw [RS.ringsN, h]
theorem ringsN_some {st : RS} {x : Wh} {b : Nat} {t : Tx} (h : st.ringTo x 4 = some b) (hb : st.txns[b]? = some t) (f : Nat) :
  RS.ringsN (f + 1) st x = if t.who = x then ((st.ends t.who true 0).againT, ⟨2, 2, []⟩) else RS.ringsN f (st.ends t.who true 2).againT x := by
 rw [RS.ringsN, h]; simp only; rw [hb]
theorem ring_lt {st : RS} {b : Nat} {t : Tx} (hb : st.txns[b]? = some t) : (st.ends t.who true 2).againT.txns.length < st.txns.length :=
 Nat.lt_of_le_of_lt (againT_len _) (ends_len_lt ⟨t, List.mem_of_getElem? hb, rfl⟩ _ _)
theorem ringsN_more : ∀ (f g : Nat) (st : RS) (x : Wh), st.txns.length ≤ f → st.txns.length ≤ g → RS.ringsN f st x = RS.ringsN g st x := by
 intro f
 induction f with
 | zero =>
  intro g st x hf hg
  cases h : st.ringTo x 4 with
  | none => rw [ringsN_none h, ringsN_none h]
  | some b =>
   obtain ⟨t, hb, _⟩ := ringTo_at h
   have := (List.getElem?_eq_some_iff.1 hb).1; omega
 | succ f ih =>
  intro g st x hf hg
  cases h : st.ringTo x 4 with
  | none => rw [ringsN_none h, ringsN_none h]
  | some b =>
   obtain ⟨t, hb, _⟩ := ringTo_at h
   have hlt := ring_lt hb
   match g, hg with
   | 0, hg => have := (List.getElem?_eq_some_iff.1 hb).1; omega
   | g + 1, hg =>
    rw [ringsN_some h hb, ringsN_some h hb]
    split
    ·rfl
    ·exact ih g _ x (by omega) (by omega)
theorem ringsT_none {st : RS} {x : Wh} (h : st.ringTo x 4 = none) : st.ringsT x = (st, ⟨1, 0, []⟩) := ringsN_none h _
theorem ringsT_self {st : RS} {x : Wh} {b : Nat} {t : Tx} (h : st.ringTo x 4 = some b) (hb : st.txns[b]? = some t) (hx : t.who = x) : st.ringsT x = ((st.ends t.who true 0).againT, ⟨2, 2, []⟩) := by
 unfold RS.ringsT
 obtain ⟨m, hm⟩ : ∃ m, st.txns.length = m + 1 := ⟨st.txns.length - 1, by have := (List.getElem?_eq_some_iff.1 hb).1; omega⟩
 rw [hm, ringsN_some h hb, if_pos hx]
theorem ringsT_other {st : RS} {x : Wh} {b : Nat} {t : Tx} (h : st.ringTo x 4 = some b) (hb : st.txns[b]? = some t) (hx : ¬ t.who = x) : st.ringsT x = (st.ends t.who true 2).againT.ringsT x := by
 unfold RS.ringsT
 have hlt := ring_lt hb
 obtain ⟨m, hm⟩ : ∃ m, st.txns.length = m + 1 := ⟨st.txns.length - 1, by omega⟩
 rw [hm, ringsN_some h hb, if_neg hx]
 exact ringsN_more _ _ _ _ (by omega) (Nat.le_refl _)
theorem ringsN_fit {N : Nat} : ∀ (f : Nat) (st : RS) (x : Wh), st.Fit N → (RS.ringsN f st x).1.Fit N
 | 0, _, _, F => F
 | f + 1, st, x, F => by
  cases h : st.ringTo x 4 with
  | none => rw [ringsN_none h]; exact F
  | some b =>
   obtain ⟨t, hb, _⟩ := ringTo_at h
   rw [ringsN_some h hb]
   split
   ·exact (F.ends _ _ _).againT
   ·exact ringsN_fit f _ x ((F.ends _ _ _).againT)
theorem RS.Fit.ringsT {N : Nat} {st : RS} (F : st.Fit N) (x : Wh) : (st.ringsT x).1.Fit N := ringsN_fit _ _ _ F
def Stp.wr (x : Stp) : Bool := decide (x.op = 4 ∨ x.op = 5)
def Stp.hi (x : Stp) : Int := if x.op = 3 then x.to_ else x.key
def RS.askR (st : RS) (x : Stp) : Rc := ⟨x.who, x.at_, x.key, x.hi, x.wr, false, st.clock + 1⟩
def Rc.on (c : Rc) : Rc := { c with waits := true }
def Stp.barred (x : Stp) : Bool := !domB x.who.1 x.who.2.1 x.at_.1 x.at_.2 || (x.wr && !sameL x.at_.1 x.at_.2 x.who.1 x.who.2.1)
def covP (x : Wh) (r c : Rc) : Bool := sameW c.who.1 c.who.2.1 c.who.2.2 x.1 x.2.1 x.2.2 && coverB c r
def labN (x : Wh) (l : List Rc) : Nat := (l.filter (fun c => sameL c.who.1 c.who.2.1 x.1 x.2.1)).length
def RS.setStep (st : RS) (x : Stp) : RS := { st with txns := st.txns.map (fun t => if t.who == x.who then { t with step := x } else t) }
def RS.addRec (st : RS) (c : Rc) : RS := { st with clock := st.clock + 1, recs := st.recs ++ [c] }
def RS.took (st : RS) (x : Stp) : RS × Ans := (((st.addRec (st.askR x)).clearT (st.askR x)).does x |>.1.againT, ((st.addRec (st.askR x)).clearT (st.askR x)).does x |>.2)
def RS.parked (st : RS) (x : Stp) : RS × Ans := ((st.addRec (st.askR x).on).setStep x).ringsT x.who
def RS.askT (st : RS) (x : Stp) : RS × Ans :=
 if x.barred then (st, ⟨3, 0, []⟩)
 else if st.recs.any (covP x.who (st.askR x)) then st.does x
 else if st.c ≤ (labN x.who st.recs : Int) then (st, ⟨4, 0, []⟩)
 else if st.hindered (st.askR x) then st.parked x else st.took x
theorem RS.Fit.mono {N M : Nat} {st : RS} (F : st.Fit N) (h : N ≤ M) : st.Fit M :=
 { F with
  puts := fun t ht => ⟨Nat.le_trans (F.puts t ht).1 h, fun hq => Nat.le_trans ((F.puts t ht).2 hq) h⟩
  begun := ⟨F.begun.1, by have := F.begun.2; omega⟩
  clock := ⟨F.clock.1, by have := F.clock.2; omega⟩ }
structure Asking (N : Nat) (st : RS) (x : Stp) : Prop where
 fit : st.Fit N
 good : x.Good
 live : ∃ t ∈ st.txns, t.who = x.who
 nowait : ∀ c ∈ st.recs, c.who = x.who → c.waits = false
 at_ : x.at_.ok
 cap : st.c ≤ 32
theorem RS.Fit.does {N : Nat} {st : RS} {x : Stp} (F : st.Fit N) (hg : x.Good) (hl : ∃ t ∈ st.txns, t.who = x.who) (hp : ∀ t ∈ st.txns, t.who = x.who → t.puts.length + 1 ≤ N) (hn : ∀ c ∈ st.recs, c.who = x.who → c.waits = false) : (st.does x).1.Fit N := by
 obtain ⟨n, t, hnt, ht, _⟩ := F.liveAt hl
 rw [does_at F.uniq hnt ht]
 exact F.job hnt hg (hp t (List.mem_of_getElem? hnt) ht) (fun ⟨c, hc, h1, h2⟩ => by have := hn c hc (by rw [h1, ht]); rw [h2] at this; cases this)
theorem labN_eq {N : Nat} {st : RS} (F : st.Fit N) {x : Wh} (hx : x.ok) : (st.recs.filter (fun c => labCode c.who.lab == labCode x.lab)).length = labN x st.recs := by
 unfold labN
 congr 1
 refine List.filter_congr fun c hc => ?_
 have hc' := (F.recW hc).1
 cases h : sameL c.who.1 c.who.2.1 x.1 x.2.1
 ·simp only [beq_eq_false_iff_ne, ne_eq]
  intro e
  have := labCode_inj hc' hx.1 e
  have h2 : sameL c.who.1 c.who.2.1 x.1 x.2.1 = true := sameL_t this
  rw [h] at h2; cases h2
 ·have : c.who.lab = x.lab := by
   simp only [sameL, decide_eq_true_eq] at h
   exact Prod.ext h.1 h.2
  rw [this]; simp
theorem RS.Fit.addRec {N : Nat} {st : RS} (F : st.Fit N) {c : Rc} (hl : ∃ t ∈ st.txns, t.who = c.who) (ha : c.at_.ok) (hn : labN c.who st.recs < 32) (hw : c.waits = true → (∀ t ∈ st.txns, t.who = c.who → t.step.asks c) ∧ ∀ d ∈ st.recs, d.who = c.who → d.waits = false) : (st.addRec c).Fit (N + 1) := by
 have F1 := F.mono (Nat.le_succ N)
 have hxo : c.who.ok := by obtain ⟨t, ht, e⟩ := hl; rw [← e]; exact F.who t ht
 have hmem : ∀ d, d ∈ st.recs ++ [c] → d ∈ st.recs ∨ d = c := fun d hd => by simpa using hd
 refine { F1 with backed := ?_, recAt := ?_, recN := ?_, waits := ?_, waitsU := ?_, puts := ?_, clock := ?_ }
 ·intro d hd
  rcases hmem d hd with h | rfl
  ·exact F.backed d h
  ·exact hl
 ·intro d hd
  rcases hmem d hd with h | rfl
  ·exact F.recAt d h
  ·exact ha
 ·intro a
  show ((st.recs ++ [c]).filter _).length ≤ 32
  rw [List.filter_append, List.length_append]
  by_cases e : labCode c.who.lab = a
  ·subst e
   have := labN_eq F hxo
   rw [List.filter_cons_of_pos (by simp), List.filter_nil, List.length_singleton]
   omega
  ·have := F.recN a
   rw [List.filter_cons_of_neg (by simpa using e), List.filter_nil, List.length_nil]
   exact this
 ·intro d hd hdw t ht e
  rcases hmem d hd with h | rfl
  ·exact F.waits d h hdw t ht e
  ·exact (hw hdw).1 t ht e
 ·show (((st.recs ++ [c]).filter (·.waits)).map (·.who)).Nodup
  rw [List.filter_append, List.map_append]
  cases hcw : c.waits
  ·simp [hcw]; exact F.waitsU
  ·refine List.nodup_append.2 ⟨F.waitsU, by simp [hcw], ?_⟩
   intro y hy z hz e
   obtain ⟨d, hd, rfl⟩ := List.mem_map.1 hy
   simp [hcw] at hz
   have h1 := List.mem_filter.1 hd
   have := (hw hcw).2 d h1.1 (by rw [e, hz])
   rw [this] at h1; cases h1.2
 ·intro t ht
  obtain ⟨h1, h2⟩ := F.puts t ht
  exact ⟨by omega, fun _ => by omega⟩
 ·have := F.clock
  show 0 ≤ st.clock + 1 ∧ st.clock + 1 ≤ ((N + 1 : Nat) : Int)
  omega
theorem setStep_at {st : RS} {x : Stp} {n : Nat} {t : Tx} (hu : st.uniq) (hn : st.txns[n]? = some t) (ht : t.who = x.who) : st.setStep x = { st with txns := st.txns.set n { t with step := x } } := by
 unfold RS.setStep
 congr 1
 refine List.ext_getElem? fun m => ?_
 rw [List.getElem?_map]
 by_cases hmn : n = m
 ·subst hmn
  rw [List.getElem?_set_self (List.getElem?_eq_some_iff.1 hn).1, hn]; simp [ht]
 ·rw [List.getElem?_set_ne hmn]
  cases hq : st.txns[m]? with
  | none => rfl
  | some u =>
   have hw : u.who ≠ x.who := fun e => hmn (hu n m t u hn hq (by rw [ht, e]))
   simp [hw]
theorem RS.Fit.setStep {N : Nat} {st : RS} {x : Stp} (F : st.Fit N) (hl : ∃ t ∈ st.txns, t.who = x.who) (hn : ∀ c ∈ st.recs, c.who = x.who → c.waits = false) : (st.setStep x).Fit N := by
 obtain ⟨n, t, hnt, ht, _⟩ := F.liveAt hl
 have htm := List.mem_of_getElem? hnt
 rw [setStep_at F.uniq hnt ht]
 exact F.setTxn hnt (u := { t with step := x }) rfl (F.olds t htm) (F.oldsN t htm) (fun c hc hw e => by have := hn c hc (by rw [← e]; exact ht); rw [hw] at this; cases this) (F.puts t htm)
theorem askR_asks {st : RS} {x : Stp} (hg : x.Good) (hb : x.barred = false) : x.asks (st.askR x).on := by
 refine ⟨rfl, rfl, hg, rfl, rfl, by show x.wr = true ↔ _; unfold Stp.wr; simp, fun hw => ?_⟩
 have hw' : x.wr = true := hw
 unfold Stp.barred at hb
 rw [hw'] at hb
 simp only [Bool.or_eq_false_iff, Bool.true_and, Bool.not_eq_false'] at hb
 have h2 := hb.2
 simp only [sameL, decide_eq_true_eq] at h2
 exact Prod.ext h2.1 h2.2
namespace Asking
variable {N : Nat} {st : RS} {x : Stp}
theorem does (A : Asking N st x) : (st.does x).1.Fit (N + 1) := (A.fit.mono (Nat.le_succ N)).does A.good A.live (fun t ht _ => by have := (A.fit.puts t ht).1; omega) A.nowait
theorem add (A : Asking N st x) (hc : ¬ st.c ≤ (labN x.who st.recs : Int)) : (st.addRec (st.askR x)).Fit (N + 1) :=
 A.fit.addRec A.live A.at_ (by show labN x.who st.recs < 32; have := A.cap; omega) (fun h => by cases h)
theorem tookN (A : Asking N st x) : ∀ c ∈ ((st.addRec (st.askR x)).clearT (st.askR x)).recs, c.who = x.who → c.waits = false := by
 intro c hc e
 have := (clearT_sub (st.addRec (st.askR x)) (st.askR x)).mem hc
 change c ∈ st.recs ++ [st.askR x] at this
 rcases List.mem_append.1 this with h | h
 ·exact A.nowait c h e
 ·simp at h; rw [h]; rfl
theorem tookL (A : Asking N st x) (hb : x.barred = false) {t : Tx} (ht : t ∈ st.txns) (hw : t.who = x.who) : t ∈ ((st.addRec (st.askR x)).clearT (st.askR x)).txns := by
 refine clearT_keep (st := st.addRec (st.askR x)) ht (fun hwr y hy hp e => ?_)
 have hl : x.at_ = x.who.lab := (askR_asks (st := st) A.good hb).2.2.2.2.2.2 hwr
 have h2 : sameL y.who.1 y.who.2.1 x.at_.1 x.at_.2 = true := by rw [hl, e, hw]; simp [sameL, Wh.lab]
 unfold clrP at hp
 rw [show (st.askR x).at_ = x.at_ from rfl, h2] at hp
 simp at hp
theorem cleared (A : Asking N st x) (hc : ¬ st.c ≤ (labN x.who st.recs : Int)) : ((st.addRec (st.askR x)).clearT (st.askR x)).Fit (N + 1) := (A.add hc).clearT _
theorem doesTook (A : Asking N st x) (hb : x.barred = false) (hc : ¬ st.c ≤ (labN x.who st.recs : Int)) : (((st.addRec (st.askR x)).clearT (st.askR x)).does x).1.Fit (N + 1) := by
 obtain ⟨t, ht, hw⟩ := A.live
 have hk := A.tookL hb ht hw
 refine (A.cleared hc).does A.good ⟨t, hk, hw⟩ (fun u hu e => ?_) A.tookN
 obtain ⟨m, hm⟩ := List.mem_iff_getElem?.1 hu
 obtain ⟨m', hm'⟩ := List.mem_iff_getElem?.1 hk
 have := (A.cleared hc).uniq m m' u t hm hm' (by rw [e, hw])
 subst this
 rw [hm] at hm'
 obtain rfl := Option.some.inj hm'
 have := (A.fit.puts u ht).1
 omega
theorem parked (A : Asking N st x) (hb : x.barred = false) (hc : ¬ st.c ≤ (labN x.who st.recs : Int)) : ((st.addRec (st.askR x).on).setStep x).Fit (N + 1) := by
 have h1 := A.fit.setStep A.live A.nowait
 have e : (st.addRec (st.askR x).on).setStep x = (st.setStep x).addRec (st.askR x).on := rfl
 rw [e]
 obtain ⟨n, t, hnt, ht, _⟩ := A.fit.liveAt A.live
 have hs := setStep_at A.fit.uniq hnt ht
 have hself : { t with step := x } ∈ (st.setStep x).txns := by
  rw [hs]; exact List.mem_iff_getElem?.2 ⟨n, by rw [List.getElem?_set_self (List.getElem?_eq_some_iff.1 hnt).1]⟩
 refine h1.addRec (c := (st.askR x).on) ⟨_, hself, ht⟩ A.at_ (by show labN x.who st.recs < 32; have := A.cap; omega) (fun _ => ⟨fun u hu e2 => ?_, A.nowait⟩)
 obtain ⟨m, hm⟩ := List.mem_iff_getElem?.1 hu
 obtain ⟨m', hm'⟩ := List.mem_iff_getElem?.1 hself
 have := h1.uniq m m' u _ hm hm' (by rw [e2]; exact ht.symm)
 subst this
 rw [hm] at hm'
 obtain rfl := Option.some.inj hm'
 exact askR_asks A.good hb
theorem ask (A : Asking N st x) : (st.askT x).1.Fit (N + 1) := by
 unfold RS.askT
 split
 ·exact A.fit.mono (Nat.le_succ N)
 ·rename_i hb
  split
  ·exact A.does
  ·split
   ·exact A.fit.mono (Nat.le_succ N)
   ·rename_i hc
    have hb' : x.barred = false := by simpa using hb
    split
    ·exact (A.parked hb' hc).ringsT _
    ·exact (A.doesTook hb' hc).againT
end Asking
theorem Mem.free {w : World} {r : Nat} {st : RS} {own : Own} {g : Gh} {vp vt vr ve : Value} (P : Mem w r st own g vp vt vr ve) {b j : Nat} (hb : own b = none) (u : Value) : Mem (w.setCell ⟨b, j, none⟩ u) r st own g vp vt vr ve := by
 have k : ∀ c t, own c = some t → (w.setCell ⟨b, j, none⟩ u).heap[c]? = w.heap[c]? := fun c t hc => heap_setCell_ne _ _ _ _ _ (fun e => by rw [e, hb] at hc; cases hc)
 exact {
  root := by rw [k r _ P.rootTag]; exact P.root
  rootTag := P.rootTag
  places := P.places.frame (fun c hc => k c _ hc) (fun _ h => h)
  txns := P.txns.frame (fun c hc => k c _ hc) (fun _ h => h)
  recs := P.recs.frame (fun c hc => k c _ hc) (fun _ h => h)
  ended := P.ended.frame (fun c hc => k c _ hc) (fun _ h => h)
  olds := fun t ht => (P.olds t ht).frame (fun c hc => k c _ hc) (fun _ h => h)
  puts := fun t ht => (P.puts t ht).frame (fun c hc => k c _ hc) (fun _ h => h)
  told := fun t ht hr => (P.told t ht hr).frame (fun c hc => k c _ hc) (fun _ h => h)
  toldV := P.toldV
  old := fun c hc => by have := P.old c hc; simpa using this }
end Go.Proofs.Ytpbcplfpjcacfaa
