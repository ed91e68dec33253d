import Derived.Test.YtpbcplfpjcacfaaB07
namespace Go.Proofs.Ytpbcplfpjcacfaa
open Go.RowKit
set_option maxRecDepth 100000
set_option maxHeartbeats 8000000
structure Lo (z : Lab → Bool) (T : List Tx) (R : List Rc) (f : Lab → Int → Int) (st : RS) : Prop where
 txns : st.txns.filter (fun t => z t.who.lab) = T
 recs : st.recs.filter (fun c => z c.who.lab) = R
 ended : ∀ e ∈ st.ended, z e.1.lab = false
 val : ∀ a key, z a = true → st.val a key = f a key
def Quiet (R : List Rc) : Prop := ∀ c ∈ R, c.at_ = c.who.lab ∧ c.waits = false
theorem filter_ne {α : Type} (p q : α → Bool) (l : List α) (h : ∀ x ∈ l, p x = true → q x = true) : (l.filter q).filter p = l.filter p := by
 rw [List.filter_filter]
 refine List.filter_congr fun x hx => ?_
 cases hp : p x with
 | false => rfl
 | true => rw [h x hx hp]; rfl
theorem filter_set {α : Type} (p : α → Bool) {l : List α} {n : Nat} {t u : α} (hn : l[n]? = some t) (ht : p t = false) (hu : p u = false) : (l.set n u).filter p = l.filter p := by
 induction l generalizing n with
 | nil => simp at hn
 | cons a l ih =>
  cases n with
  | zero =>
   simp at hn; subst hn
   rw [List.set_cons_zero, List.filter_cons_of_neg (by simp [hu]), List.filter_cons_of_neg (by simp [ht])]
  | succ n =>
   have hn' : l[n]? = some t := by simpa using hn
   rw [List.set_cons_succ]
   cases ha : p a with
   | true => rw [List.filter_cons_of_pos ha, List.filter_cons_of_pos ha, ih hn']
   | false => rw [List.filter_cons_of_neg (by simp [ha]), List.filter_cons_of_neg (by simp [ha]), ih hn']
theorem filter_mapWho (z : Lab → Bool) (y : Wh) (hy : z y.lab = false) (g : Tx → Tx) (hg : ∀ t, (g t).who = t.who) (l : List Tx) :
  (l.map (fun t => if t.who == y then g t else t)).filter (fun t => z t.who.lab) = l.filter (fun t => z t.who.lab) := by
 induction l with
 | nil => rfl
 | cons a l ih =>
  rw [List.map_cons]
  by_cases h : a.who = y
  ·have h1 : z a.who.lab = false := by rw [h]; exact hy
   rw [if_pos (by simpa using h), List.filter_cons_of_neg (by rw [hg a, h1]; simp), List.filter_cons_of_neg (by rw [h1]; simp), ih]
  ·rw [if_neg (by simpa using h)]
   cases ha : z a.who.lab with
   | true => rw [List.filter_cons_of_pos (p := fun t : Tx => z t.who.lab) ha, List.filter_cons_of_pos (p := fun t : Tx => z t.who.lab) ha, ih]
   | false => rw [List.filter_cons_of_neg (by simp [ha]), List.filter_cons_of_neg (by simp [ha]), ih]
theorem valIx_set_ne {a b : Lab} (h : a ≠ b) (k k' v : Int) : ∀ l : List Plc, valIx a k (setIx b k' v l) = valIx a k l
 | [] => by simp [setIx, valIx, Ne.symm h]
 | p :: l => by
  unfold setIx
  split
  ·rename_i hp
   have h1 : ¬ (p.at_ = a ∧ p.key = k) := fun e => h (e.1.symm.trans hp.1)
   simp only [valIx]
   rw [if_neg h1, if_neg h1]
  ·simp only [valIx]
   rw [valIx_set_ne h k k' v l]
theorem valIx_set_same (a : Lab) (k v : Int) : ∀ l : List Plc, valIx a k (setIx a k v l) = v
 | [] => by simp [setIx, valIx]
 | p :: l => by
  unfold setIx
  split
  ·rename_i hp; simp [valIx, hp.1, hp.2]
  ·rename_i hp; simp only [valIx]; rw [if_neg hp, valIx_set_same a k v l]
theorem valIx_set_key (a : Lab) {k k' : Int} (h : k ≠ k') (v : Int) : ∀ l : List Plc, valIx a k (setIx a k' v l) = valIx a k l
 | [] => by simp [setIx, valIx, Ne.symm h]
 | p :: l => by
  unfold setIx
  split
  ·rename_i hp
   have h1 : ¬ (p.at_ = a ∧ p.key = k) := fun e => h (e.2.symm.trans hp.2)
   simp only [valIx]
   rw [if_neg h1, if_neg h1]
  ·simp only [valIx]
   rw [valIx_set_key a h v l]
theorem val_backTo_ne {a b : Lab} (h : a ≠ b) (k : Int) : ∀ (l : List (Int × Int)) (st : RS), (backTo b l st).val a k = st.val a k
 | [], _ => rfl
 | o :: l, st => by
  have := val_backTo_ne h k l (st.setP b o.1 o.2)
  unfold backTo at this ⊢
  rw [List.foldl_cons, this]
  exact valIx_set_ne h k o.1 o.2 st.places
section
variable {z : Lab → Bool} {T : List Tx} {R : List Rc} {f : Lab → Int → Int}
theorem Lo.ends {st : RS} (h : Lo z T R f st) {y : Wh} (hy : z y.lab = false) (b : Bool) (w : Int) : Lo z T R f (st.ends y b w) := by
 unfold RS.ends
 split
 ·exact h
 ·rename_i t _
  have ht : (st.txns.filter (fun t => t.who != y)).filter (fun t => z t.who.lab) = T := by
   rw [filter_ne _ _ _ (fun t _ hz => by
    have : t.who ≠ y := fun e => by rw [e, hy] at hz; cases hz
    simpa using this)]
   exact h.txns
  have hr : (st.recs.filter (fun c => c.who != y)).filter (fun c => z c.who.lab) = R := by
   rw [filter_ne _ _ _ (fun c _ hz => by
    have : c.who ≠ y := fun e => by rw [e, hy] at hz; cases hz
    simpa using this)]
   exact h.recs
  have he : ∀ e ∈ (if 0 < w then st.ended ++ [(y, w)] else st.ended), z e.1.lab = false := fun e he => by
   split at he
   ·rcases List.mem_append.1 he with he | he
    ·exact h.ended e he
    ·simp only [List.mem_singleton] at he; subst he; exact hy
   ·exact h.ended e he
  have hv : ∀ a key, z a = true → (if b then backTo y.lab t.olds.reverse st else st).val a key = f a key := fun a key ha => by
   have hne : a ≠ y.lab := fun e => by rw [e, hy] at ha; cases ha
   split
   ·rw [val_backTo_ne hne]; exact h.val a key ha
   ·exact h.val a key ha
  exact ⟨ht, hr, he, hv⟩
theorem Lo.noClr {st : RS} (h : Lo z T R f st) (hR : Quiet R) {rc a : Rc} (ha : a ∈ st.recs) (hc : clrP rc a = true) : z a.who.lab = false := by
 cases hz : z a.who.lab with
 | false => rfl
 | true =>
  have hm : a ∈ R := by rw [← h.recs]; exact List.mem_filter.2 ⟨ha, hz⟩
  have h1 := (hR a hm).1
  unfold clrP meetB at hc
  cases hs : sameL a.at_.1 a.at_.2 rc.at_.1 rc.at_.2 with
  | false => rw [hs] at hc; simp at hc
  | true =>
   have h2 := sameL_iff.1 hs
   have h3 : sameL a.who.1 a.who.2.1 rc.at_.1 rc.at_.2 = true := by
    rw [h1] at h2
    exact sameL_iff.2 h2
   rw [h3] at hc; simp at hc
theorem Lo.clearN (hR : Quiet R) (rc : Rc) : ∀ (n : Nat) (st : RS), Lo z T R f st → Lo z T R f (RS.clearN rc n st)
 | 0, _, h => h
 | n + 1, st, h => by
  unfold RS.clearN
  split
  ·exact h
  ·rename_i a ha
   exact Lo.clearN hR rc n _ (h.ends (h.noClr hR (List.mem_of_find?_eq_some ha) (List.find?_some ha)) true 1)
theorem Lo.clearT {st : RS} (h : Lo z T R f st) (hR : Quiet R) (rc : Rc) : Lo z T R f (st.clearT rc) := by
 unfold RS.clearT
 split
 ·exact Lo.clearN hR rc _ _ h
 ·exact h
theorem Lo.places {st : RS} (h : Lo z T R f st) {b : Lab} (hb : z b = false) (k v : Int) : Lo z T R f (st.setP b k v) :=
 ⟨h.txns, h.recs, h.ended, fun a key ha => by
  have hne : a ≠ b := fun e => by rw [e, hb] at ha; cases ha
  exact (valIx_set_ne hne key k v st.places).trans (h.val a key ha)⟩
theorem Lo.setTx {st : RS} (h : Lo z T R f st) {n : Nat} {t u : Tx} (hn : st.txns[n]? = some t) (ht : z t.who.lab = false) (hu : u.who = t.who) : Lo z T R f { st with txns := st.txns.set n u } :=
 ⟨(filter_set _ hn ht (by rw [hu]; exact ht)).trans h.txns, h.recs, h.ended, h.val⟩
theorem Lo.writeT {st : RS} (h : Lo z T R f st) {n : Nat} {t : Tx} (hn : st.txns[n]? = some t) (ht : z t.who.lab = false) (k v : Int) : Lo z T R f (st.writeT n t k v) := by
 unfold RS.writeT RS.keepOld
 split
 ·exact h.places ht k v
 ·exact (h.setTx hn ht (u := { t with olds := t.olds ++ [(k, st.val t.who.lab k)] }) rfl).places ht k v
theorem writeT_whoAt (st : RS) (n : Nat) (t : Tx) (k v : Int) (hn : st.txns[n]? = some t) : ∃ u, (st.writeT n t k v).txns[n]? = some u ∧ u.who = t.who := by
 unfold RS.writeT RS.keepOld
 split
 ·exact ⟨t, hn, rfl⟩
 ·exact ⟨_, List.getElem?_set_self (List.getElem?_eq_some_iff.1 hn).1, rfl⟩
theorem Lo.does {st : RS} (h : Lo z T R f st) {x : Stp} (hx : z x.who.lab = false) : Lo z T R f (st.does x).1 := by
 rcases txOf_cases st x.who with ⟨h1, _⟩ | ⟨m, t, h1, h2, h3, h4⟩
 ·unfold RS.does; rw [h1]; exact h
 ·unfold RS.does
  rw [h1]
  simp only
  rw [h2, Int.toNat_natCast]
  have ht : z t.who.lab = false := by rw [h4]; exact hx
  unfold RS.job
  split
  ·exact h.writeT h3 ht _ _
  ·split
   ·split
    ·exact h
    ·unfold RS.putT
     obtain ⟨u, hu, hw⟩ := writeT_whoAt st m t x.key x.value h3
     refine (h.writeT h3 ht x.key x.value).setTx hu (by rw [hw]; exact ht) ?_
     rw [hw]
     unfold Tx.wrote
     split <;> rfl
   ·exact h
theorem Lo.tell {st : RS} (h : Lo z T R f st) {y : Wh} (hy : z y.lab = false) (a : Ans) : Lo z T R f (st.tell y a) :=
 ⟨(filter_mapWho z y hy (fun t => { t with ready := true, told := a }) (fun _ => rfl) st.txns).trans h.txns, h.recs, h.ended, h.val⟩
theorem Lo.unready {st : RS} (h : Lo z T R f st) {y : Wh} (hy : z y.lab = false) : Lo z T R f (st.unready y) :=
 ⟨(filter_mapWho z y hy (fun t => { t with ready := false }) (fun _ => rfl) st.txns).trans h.txns, h.recs, h.ended, h.val⟩
theorem Lo.setStep {st : RS} (h : Lo z T R f st) {x : Stp} (hy : z x.who.lab = false) : Lo z T R f (st.setStep x) :=
 ⟨(filter_mapWho z x.who hy (fun t => { t with step := x }) (fun _ => rfl) st.txns).trans h.txns, h.recs, h.ended, h.val⟩
theorem Lo.addRec {st : RS} (h : Lo z T R f st) {c : Rc} (hc : z c.who.lab = false) : Lo z T R f (st.addRec c) :=
 ⟨h.txns, by show (st.recs ++ [c]).filter _ = R; rw [List.filter_append, List.filter_cons_of_neg (by rw [hc]; simp), List.filter_nil, List.append_nil]; exact h.recs, h.ended, h.val⟩
theorem Lo.beginT {st : RS} (h : Lo z T R f st) {y : Wh} (hy : z y.lab = false) : Lo z T R f (st.beginT y) :=
 ⟨by show (st.txns ++ [newTx y (st.begun + 1)]).filter _ = T; rw [List.filter_append, List.filter_cons_of_neg (by rw [show (newTx y (st.begun + 1)).who = y from rfl, hy]; simp), List.filter_nil, List.append_nil]; exact h.txns, h.recs, h.ended, h.val⟩
theorem Lo.toldT {st : RS} (h : Lo z T R f st) (y : Wh) : Lo z T R f (st.toldT y) :=
 ⟨h.txns, h.recs, fun e he => h.ended e (List.mem_of_mem_eraseP he), h.val⟩
theorem Lo.grant {N : Nat} {st : RS} (h : Lo z T R f st) (F : st.Fit N) (hR : Quiet R) {j : Nat} {c : Rc} (hj : st.recs[j]? = some c) (hw : c.waits = true) : Lo z T R f (st.grant j c) := by
 have hz : z c.who.lab = false := by
  cases hz : z c.who.lab with
  | false => rfl
  | true =>
   have hm : c ∈ R := by rw [← h.recs]; exact List.mem_filter.2 ⟨List.mem_of_getElem? hj, hz⟩
   have := (hR c hm).2
   rw [hw] at this; cases this
 have h1 : Lo z T R f (st.offAt j c) := ⟨h.txns, (filter_set _ hj hz (u := c.off) hz).trans h.recs, h.ended, h.val⟩
 have h2 : Lo z T R f (st.granted j c) := h1.clearT hR c.off
 obtain ⟨n, t, G⟩ := granting F hj hw
 have hs : ((st.granted j c).stepOf c.who).who = c.who := by
  rw [stepOf_at G.fit.uniq G.at_ G.who]; exact G.asks.1
 unfold RS.grant
 exact (h2.does (by rw [hs]; exact hz)).tell hz _
theorem Lo.againN {N : Nat} (hR : Quiet R) : ∀ (n : Nat) (st : RS), st.Fit N → Lo z T R f st → Lo z T R f (RS.againN n st)
 | 0, _, _, h => h
 | n + 1, st, F, h => by
  rcases best_cases st with hb | ⟨j, c, hb, hj, hfr⟩
  ·rw [againN_none hb]; exact h
  ·rw [againN_step hb hj]
   exact Lo.againN hR n _ (F.grant hj (free_waits hfr)) (h.grant F hR hj (free_waits hfr))
theorem Lo.againT {N : Nat} {st : RS} (h : Lo z T R f st) (F : st.Fit N) (hR : Quiet R) : Lo z T R f st.againT := Lo.againN hR _ _ F h
theorem Lo.ringsN {N : Nat} (hR : Quiet R) : ∀ (n : Nat) (st : RS) (x : Wh), z x.lab = false → st.Fit N → Lo z T R f st → Lo z T R f (RS.ringsN n st x).1
 | 0, _, _, _, _, h => h
 | n + 1, st, x, hx, F, h => by
  cases hr : st.ringTo x 4 with
  | none => rw [ringsN_none hr]; exact h
  | some b =>
   obtain ⟨t, hb, hl⟩ := ringTo_at hr
   have ht : z t.who.lab = false := by rw [hl]; exact hx
   rw [ringsN_some hr hb]
   split
   ·exact (h.ends ht true 0).againT (F.ends _ _ _) hR
   ·exact Lo.ringsN hR n _ x hx ((F.ends _ _ _).againT) ((h.ends ht true 2).againT (F.ends _ _ _) hR)
theorem Lo.askT {N : Nat} {st : RS} {x : Stp} (h : Lo z T R f st) (A : Asking N st x) (hR : Quiet R) (hx : z x.who.lab = false) : Lo z T R f (st.askT x).1 := by
 unfold RS.askT
 split
 ·exact h
 ·rename_i hb
  have hb' : x.barred = false := by simpa using hb
  split
  ·exact h.does hx
  ·split
   ·exact h
   ·rename_i hc
    split
    ·exact Lo.ringsN hR _ _ _ hx (A.parked hb' hc) ((h.addRec (c := (st.askR x).on) hx).setStep hx)
    ·exact (((h.addRec (c := st.askR x) hx).clearT hR _).does hx).againT (A.doesTook hb' hc) hR
theorem Lo.actT {N : Nat} {st : RS} {x : Stp} (h : Lo z T R f st) (F : st.Fit N) (hp : Proper x) (hc : st.c ≤ 32) (hR : Quiet R) (hx : z x.who.lab = false) : Lo z T R f (st.actT x).1 := by
 unfold RS.actT
 split
 ·unfold RS.pollT
  split
  ·exact h
  ·split
   ·exact h.unready hx
   ·exact h
 ·rename_i h8
  split
  ·exact h
  ·split
   ·exact (h.ends hx true 0).againT (F.ends _ _ _) hR
   ·rename_i h7
    split
    ·exact h
    ·rename_i hb
     split
     ·unfold RS.startT
      split
      ·exact h
      ·split
       ·exact h
       ·exact h.beginT hx
     ·rename_i h1
      split
      ·exact h
      ·rename_i hl
       split
       ·exact (h.ends hx false 0).againT (F.ends _ _ _) hR
       ·rename_i h6
        exact h.askT (actT_asking F hp hc h8 h7 h6 h1 (by
         cases hw : (st.waitRec x.who).isSome
         ·rfl
         ·exact absurd (.inl hw) hb) (txOf_some hl)) hR hx
theorem Lo.doT {N : Nat} {st : RS} {x : Stp} (h : Lo z T R f st) (F : st.Fit N) (hc : st.c ≤ 32) (hR : Quiet R) (hx : z x.who.lab = false) : Lo z T R f (st.doT x).1 := by
 unfold RS.doT
 split
 ·exact h
 ·rename_i hp
  split
  ·exact h.toldT _
  ·exact (h.toldT _).actT (F.toldT _) (proper_of (by simpa using hp)) hc hR hx
end
structure Lk where
 at_ : Lab
 lo : Int
 hi : Int
 wr : Bool
structure Wrt where
 touched : Nat → Bool
 left : Nat → Option Int
 put : Nat → Bool
structure Ses where
 locks : List Lk
 wr : Wrt
 req : Stp
 came : Bool
 out : Ans
 ended : Int
structure Tr where
 items : Nat → Option Int
 ses : Nat → Ses
 begun : List Nat
 queue : List Nat
structure PS where
 k : Int
 v : Int
 c : Int
 t : Nat → Tr
def upd {α : Type} (f : Nat → α) (n : Nat) (x : α) : Nat → α := fun m => if m = n then x else f m
theorem upd_same {α : Type} (f : Nat → α) (n : Nat) (x : α) : upd f n x n = x := by simp [upd]
theorem upd_ne {α : Type} (f : Nat → α) {n m : Nat} (x : α) (h : m ≠ n) : upd f n x m = f m := by simp [upd, h]
theorem upd_upd {α : Type} (f : Nat → α) (n : Nat) (x y : α) : upd (upd f n x) n y = upd f n y := by
 funext m; unfold upd; split <;> rfl
theorem upd_id {α : Type} (f : Nat → α) (n : Nat) : upd f n (f n) = f := by
 funext m; unfold upd; split
 ·rename_i e; rw [e]
 ·rfl
def wrt0 : Wrt := ⟨fun _ => false, fun _ => none, fun _ => false⟩
def stp0 : Stp := ⟨(0, 0, 0), 0, (0, 0), 0, 0, 0⟩
def ses0 : Ses := ⟨[], wrt0, stp0, false, ⟨0, 0, []⟩, 0⟩
def tr0 : Tr := ⟨fun _ => none, fun _ => ses0, [], []⟩
def ps0 (k v c : Int) : PS := ⟨k, v, c, fun _ => tr0⟩
def Tr.setS (t : Tr) (n : Nat) (s : Ses) : Tr := { t with ses := upd t.ses n s }
def PS.setT (s : PS) (q : Nat) (t : Tr) : PS := { s with t := upd s.t q t }
def PS.setS (s : PS) (q n : Nat) (x : Ses) : PS := s.setT q ((s.t q).setS n x)
def lkC (l : Lk) : List Value := [.int .i64 l.at_.1, .int .i64 l.at_.2, .int .i64 l.lo, .int .i64 l.hi, .bool l.wr]
def flagC (f : Nat → Bool) : List Value := (List.range 16).map (fun k => .bool (f k))
def wrC (x : Wrt) : List Value := flagC x.touched ++ (tabV x.left ++ flagC x.put)
def outC (a : Ans) (v : Value) : List Value := [.int .i64 a.code, .int .i64 a.why, v]
abbrev SG := Value × Value
def sesC (s : Ses) (g : SG) : List Value := [g.1] ++ (wrC s.wr ++ (stepC s.req ++ ([.bool s.came] ++ (outC s.out g.2 ++ [.int .i64 s.ended]))))
structure PG where
 s : Nat → Nat → SG
 b : Nat → Value
 q : Nat → Value
def PG.setS (G : PG) (q n : Nat) (g : SG) : PG := { G with s := upd G.s q (upd (G.s q) n g) }
def PG.setB (G : PG) (q : Nat) (v : Value) : PG := { G with b := upd G.b q v }
def PG.setQ (G : PG) (q : Nat) (v : Value) : PG := { G with q := upd G.q q v }
def natC (n : Nat) : List Value := [.int .i64 n]
def tO (q : Nat) : Nat := 3 + q * 350
def sO (q n : Nat) : Nat := 3 + q * 350 + 32 + n * 79
def lockTag (q n : Nat) : Tag := (2, (q : Int), (n : Int), 0)
def outTag (q n : Nat) : Tag := (3, (q : Int), (n : Int), 0)
def begTag (q : Nat) : Tag := (4, (q : Int), 0, 0)
def queTag (q : Nat) : Tag := (5, (q : Int), 0, 0)
def rootTag : Tag := (1, 0, 0, 0)
structure PMem (w : World) (p : Nat) (s : PS) (own : Own) (G : PG) : Prop where
 root : ∃ C, w.heap[p]? = some (.cells C 138 (0, 0)) ∧ C.size = 11203
 cfg : w.rangeAt p 0 [.int .i64 s.k, .int .i64 s.v, .int .i64 s.c]
 items : ∀ q, q < 32 → w.rangeAt p (tO q) (tabV (s.t q).items)
 ses : ∀ q, q < 32 → ∀ n, n < 4 → w.rangeAt p (sO q n) (sesC ((s.t q).ses n) (G.s q n))
 beg : ∀ q, q < 32 → w.cell? ⟨p, tO q + 348, none⟩ = some (G.b q)
 que : ∀ q, q < 32 → w.cell? ⟨p, tO q + 349, none⟩ = some (G.q q)
 tag : own p = some rootTag
 lockR : ∀ q, q < 32 → ∀ n, n < 4 → Row w own (lockTag q n) 148 5 (G.s q n).1 ((s.t q).ses n).locks lkC
 outR : ∀ q, q < 32 → ∀ n, n < 4 → Row w own (outTag q n) 94 2 (G.s q n).2 ((s.t q).ses n).out.items itemV
 begR : ∀ q, q < 32 → Row w own (begTag q) 3 1 (G.b q) (s.t q).begun natC
 queR : ∀ q, q < 32 → Row w own (queTag q) 3 1 (G.q q) (s.t q).queue natC
 old : ∀ k, own k ≠ none → k < w.heap.size
def PRep (w : World) (p : Nat) (s : PS) (own : Own) : Prop := ∃ G, PMem w p s own G
theorem len_flagC (f : Nat → Bool) : (flagC f).length = 16 := by simp [flagC]
theorem len_wrC (x : Wrt) : (wrC x).length = 64 := by simp [wrC, len_flagC, len_tabV]
theorem len_stepC (x : Stp) : (stepC x).length = 9 := rfl
theorem len_sesC (s : Ses) (g : SG) : (sesC s g).length = 79 := by simp [sesC, len_wrC, len_stepC, outC]
theorem len_lkC (l : Lk) : (lkC l).length = 5 := rfl
theorem len_natC (n : Nat) : (natC n).length = 1 := rfl
theorem flagC_at (f : Nat → Bool) {k : Nat} (h : k < 16) : (flagC f)[k]? = some (.bool (f k)) := by simp [flagC, h]
theorem cell_of_same {w w' : World} {b : Nat} (h : w'.heap[b]? = w.heap[b]?) (o : Nat) : w'.cell? ⟨b, o, none⟩ = w.cell? ⟨b, o, none⟩ := by unfold World.cell?; rw [h]
theorem PMem.frame {w w' : World} {p : Nat} {s : PS} {own : Own} {G : PG} (m : PMem w p s own G) (hk : ∀ k, own k ≠ none → w'.heap[k]? = w.heap[k]?) (hz : w.heap.size ≤ w'.heap.size) : PMem w' p s own G := by
 have hb := hk p (by rw [m.tag]; simp)
 have hc := cell_of_same hb
 have hr : ∀ {o : Nat} {cs : List Value}, w.rangeAt p o cs → w'.rangeAt p o cs := fun h j u hu => (hc _).trans (h j u hu)
 have hR : ∀ {tag : Tag} b, own b = some tag → w'.heap[b]? = w.heap[b]? := fun b hb => hk b (by rw [hb]; simp)
 exact {
  root := by rw [hb]; exact m.root
  cfg := hr m.cfg
  items := fun q h => hr (m.items q h)
  ses := fun q h n h' => hr (m.ses q h n h')
  beg := fun q h => (hc _).trans (m.beg q h)
  que := fun q h => (hc _).trans (m.que q h)
  tag := m.tag
  lockR := fun q h n h' => (m.lockR q h n h').frame hR (fun _ h => h)
  outR := fun q h n h' => (m.outR q h n h').frame hR (fun _ h => h)
  begR := fun q h => (m.begR q h).frame hR (fun _ h => h)
  queR := fun q h => (m.queR q h).frame hR (fun _ h => h)
  old := fun k h => Nat.lt_of_lt_of_le (m.old k h) hz }
theorem PMem.lt {w : World} {p : Nat} {s : PS} {own : Own} {G : PG} (m : PMem w p s own G) : p < w.heap.size := m.old p (by rw [m.tag]; simp)
theorem PMem.below {w w' : World} {p : Nat} {s : PS} {own : Own} {G : PG} (m : PMem w p s own G) (hb : Below w.heap.size w w') : PMem w' p s own G :=
 m.frame (fun k hk => hb.block k (m.old k hk)) hb.size
theorem PMem.there {w : World} {p : Nat} {s : PS} {own : Own} {G : PG} (m : PMem w p s own G) {o n : Nat} (h : o + n ≤ 11203) : w.there p o n := fun j hj => by
 obtain ⟨C, hC, hz⟩ := m.root
 refine ⟨?_, frozen_of_row w p _ C _ hC⟩
 rw [cell_of_row w p _ C _ _ hC, Array.getElem?_eq_getElem (by omega)]; rfl
theorem PMem.froz {w : World} {p : Nat} {s : PS} {own : Own} {G : PG} (m : PMem w p s own G) (j : Nat) : w.frozen? ⟨p, j, none⟩ = false := by
 obtain ⟨C, hC, hz⟩ := m.root
 exact frozen_of_row w p _ C _ hC
end Go.Proofs.Ytpbcplfpjcacfaa
