import Derived.Test.YtpbcplfpjcacfaaKBarred02
namespace Go.Proofs.Ytpbcplfpjcacfaa
open Go.RowKit
set_option maxRecDepth 100000
set_option maxHeartbeats 8000000
def pend (S : Ses) (P : Pd) : List Ev := if S.came = true ∧ S.out.code = 0 then [(P.x, S.out.items)] else []
theorem pend_no {S : Ses} (P : Pd) (h : S.came = false) : pend S P = [] := by unfold pend; rw [h]; simp
structure SesIn (vals : Nat → Int) (q : Nat) (w : Prop) (S : Ses) (P : Pd) : Prop where
 ended : S.ended = 0
 live : P.live = true
 opn : P.open_ = true ↔ (w ∨ S.came = true)
 good : GoodD vals q wrt0 (P.done ++ pend S P) S.wr
 rd : ∀ e ∈ P.done ++ pend S P, e.1.op ≠ 4 → e.1.op ≠ 5 → AskedF e.1 ∧ ∃ l ∈ S.locks, l.at_ = e.1.at_ ∧ l.lo ≤ e.1.key ∧ (lkOf e.1).hi ≤ l.hi
 wrt : ∀ k, S.wr.touched k = true → ∃ l ∈ S.locks, l.wr = true ∧ l.at_ = labOf q ∧ l.lo ≤ (k : Int) ∧ (k : Int) ≤ l.hi
 left : ∀ k v, S.wr.left k = some v → 0 ≤ v
structure SesOk (vals : Nat → Int) (q : Nat) (b w : Prop) (S : Ses) (P : Pd) : Prop where
 beg : b → SesIn vals q w S P
 que : w → b ∧ P.x = S.req ∧ S.came = false ∧ Asked S.req
 gone : ¬ b → S.ended = 0 → P.live = false ∧ P.open_ = false
 bare : ¬ b → S.locks = [] ∧ S.came = false ∧ S.wr = wrt0
 out : S.came = true → S.out.why = 0 ∧ (S.out.code = 0 ∨ (S.out.code = 4 ∧ S.out.items = []))
 why : S.ended = 0 ∨ S.ended = 1 ∨ S.ended = 2
structure SOk (s : PS) (ps : Nat → Pd) (vals : Nat → Int) : Prop where
 fit : s.Fit
 dm : PDm s
 val : ∀ q k, q < 32 → k < 16 → vals (16 * q + k) = enc ((s.t q).items k)
 nn : ∀ q k v, q < 32 → k < 16 → (s.t q).items k = some v → 0 ≤ v
 ses : ∀ q n, q < 32 → n < 4 → SesOk vals q (n ∈ (s.t q).begun) (n ∈ (s.t q).queue) ((s.t q).ses n) (ps (4 * q + n))
 apart : ∀ q n q' n', q < 32 → n < 4 → q' < 32 → n' < 4 → (q' ≠ q ∨ n' ≠ n) → ∀ l ∈ ((s.t q).ses n).locks, ∀ m ∈ ((s.t q').ses n').locks, l.meetB m = false
theorem meetB_sym (l m : Lk) : l.meetB m = m.meetB l := by
 unfold Lk.meetB sameL
 rw [Bool.eq_iff_iff]
 simp only [Bool.and_eq_true, Bool.or_eq_true, decide_eq_true_eq]
 constructor
 ·rintro ⟨⟨a, b⟩, c, d, e⟩; exact ⟨⟨a.symm, b.symm⟩, d, c, e.symm⟩
 ·rintro ⟨⟨a, b⟩, c, d, e⟩; exact ⟨⟨a.symm, b.symm⟩, d, c, e.symm⟩
def Kept (s s' : PS) (q n : Nat) : Prop := (n ∈ (s'.t q).begun ↔ n ∈ (s.t q).begun) ∧ (n ∈ (s'.t q).queue ↔ n ∈ (s.t q).queue) ∧ (s'.t q).ses n = (s.t q).ses n
def Shut (s' : PS) (q n : Nat) : Prop := n ∉ (s'.t q).begun ∧ n ∉ (s'.t q).queue ∧ ∃ w, (w = 1 ∨ w = 2) ∧ (s'.t q).ses n = { ses0 with ended := w }
theorem Kept.of_tier {s s' : PS} {q : Nat} (h : s'.t q = s.t q) (n : Nat) : Kept s s' q n := by unfold Kept; rw [h]; exact ⟨Iff.rfl, Iff.rfl, rfl⟩
theorem Kept.trans {s s' s2 : PS} {q n : Nat} (h : Kept s s' q n) (g : Kept s' s2 q n) : Kept s s2 q n := ⟨g.1.trans h.1, g.2.1.trans h.2.1, g.2.2.trans h.2.2⟩
theorem Kept.shut {s' s2 : PS} {q n : Nat} (h : Shut s' q n) (g : Kept s' s2 q n) : Shut s2 q n := ⟨fun e => h.1 (g.1.1 e), fun e => h.2.1 (g.2.1.1 e), by rw [g.2.2]; exact h.2.2⟩
theorem Shut.ok {s' : PS} {q n : Nat} (h : Shut s' q n) (vals : Nat → Int) (P : Pd) : SesOk vals q (n ∈ (s'.t q).begun) (n ∈ (s'.t q).queue) ((s'.t q).ses n) P := by
 obtain ⟨h1, h2, w, hw, e⟩ := h
 rw [e]
 exact ⟨fun b => absurd b h1, fun b => absurd b h2, fun _ e => by
  have e' : w = 0 := e
  omega, fun _ => ⟨rfl, rfl, rfl⟩, fun h => (by cases h), by
  show w = 0 ∨ w = 1 ∨ w = 2
  omega⟩
theorem Kept.ok {s s' : PS} {q n : Nat} (h : Kept s s' q n) {vals : Nat → Int} {P : Pd} (g : SesOk vals q (n ∈ (s.t q).begun) (n ∈ (s.t q).queue) ((s.t q).ses n) P) : SesOk vals q (n ∈ (s'.t q).begun) (n ∈ (s'.t q).queue) ((s'.t q).ses n) P := by
 rw [propext h.1, propext h.2.1, h.2.2]; exact g
theorem locks_of {s s' : PS} {q n : Nat} (h : Kept s s' q n ∨ Shut s' q n) {l : Lk} (hl : l ∈ ((s'.t q).ses n).locks) : l ∈ ((s.t q).ses n).locks := by
 rcases h with h | ⟨_, _, w, _, e⟩
 ·rw [h.2.2] at hl; exact hl
 ·rw [e] at hl; cases hl
theorem updP_at (ps : Nat → Pd) (k : Nat) (P : Pd) : updP ps k P k = P := by unfold updP; rw [if_pos rfl]
theorem updP_ne (ps : Nat → Pd) {k j : Nat} (P : Pd) (h : j ≠ k) : updP ps k P j = ps j := by unfold updP; rw [if_neg h]
theorem SOk.turn {s s' : PS} {ps : Nat → Pd} {vals : Nat → Int} (h : SOk s ps vals) {q n : Nat} (hq : q < 32) (hn : n < 4) (F : s'.Fit) (D : PDm s') (hi : ∀ q', q' < 32 → (s'.t q').items = (s.t q').items)
  (hk : ∀ q' n', q' < 32 → n' < 4 → (q' ≠ q ∨ n' ≠ n) → Kept s s' q' n' ∨ Shut s' q' n') {P : Pd} (hs : SesOk vals q (n ∈ (s'.t q).begun) (n ∈ (s'.t q).queue) ((s'.t q).ses n) P)
  (ha : ∀ q' n', q' < 32 → n' < 4 → (q' ≠ q ∨ n' ≠ n) → ∀ l ∈ ((s'.t q).ses n).locks, ∀ m ∈ ((s'.t q').ses n').locks, l.meetB m = false) : SOk s' (updP ps (4 * q + n) P) vals := by
 refine ⟨F, D, fun q' k hq' hk' => by rw [hi q' hq']; exact h.val q' k hq' hk', fun q' k v hq' hk' e => h.nn q' k v hq' hk' (by rw [← hi q' hq']; exact e), fun q' n' hq' hn' => ?_, fun a b c d ha' hb' hc' hd' hne l hl m hm => ?_⟩
 ·by_cases e : q' ≠ q ∨ n' ≠ n
  ·rw [updP_ne _ _ (by omega)]
   rcases hk q' n' hq' hn' e with g | g
   ·exact g.ok (h.ses q' n' hq' hn')
   ·exact g.ok vals _
  ·obtain ⟨rfl, rfl⟩ : q' = q ∧ n' = n := by omega
   rw [updP_at]; exact hs
 ·by_cases e1 : a ≠ q ∨ b ≠ n
  ·by_cases e2 : c ≠ q ∨ d ≠ n
   ·exact h.apart a b c d ha' hb' hc' hd' hne l (locks_of (hk a b ha' hb' e1) hl) m (locks_of (hk c d hc' hd' e2) hm)
   ·obtain ⟨rfl, rfl⟩ : c = q ∧ d = n := by omega
    rw [meetB_sym]; exact ha a b ha' hb' e1 m hm l hl
  ·obtain ⟨rfl, rfl⟩ : a = q ∧ b = n := by omega
   exact ha c d hc' hd' (by omega) l hl m hm
theorem updP_same (ps : Nat → Pd) (k : Nat) : updP ps k (ps k) = ps := by
 funext j; unfold updP; split
 ·rename_i e; rw [e]
 ·rfl
theorem SOk.drop {s s' : PS} {ps : Nat → Pd} {vals : Nat → Int} (h : SOk s ps vals) (F : s'.Fit) (D : PDm s') (hi : ∀ q', q' < 32 → (s'.t q').items = (s.t q').items)
  (hk : ∀ q' n', q' < 32 → n' < 4 → Kept s s' q' n' ∨ Shut s' q' n') : SOk s' ps vals := by
 refine ⟨F, D, fun q' k hq' hk' => by rw [hi q' hq']; exact h.val q' k hq' hk', fun q' k v hq' hk' e => h.nn q' k v hq' hk' (by rw [← hi q' hq']; exact e), fun q' n' hq' hn' => ?_, fun a b c d ha' hb' hc' hd' hne l hl m hm => ?_⟩
 ·rcases hk q' n' hq' hn' with g | g
  ·exact g.ok (h.ses q' n' hq' hn')
  ·exact g.ok vals _
 ·exact h.apart a b c d ha' hb' hc' hd' hne l (locks_of (hk a b ha' hb') hl) m (locks_of (hk c d hc' hd') hm)
theorem setT_ne (s : PS) {q q' : Nat} (t : Tr) (h : q' ≠ q) : (s.setT q t).t q' = s.t q' := upd_ne _ _ h
theorem force_kept (s : PS) (q y : Nat) (w : Int) (hw : w = 1 ∨ w = 2) (q' n' : Nat) : Kept s (s.setT q ((s.t q).forceT y w)) q' n' ∨ Shut (s.setT q ((s.t q).forceT y w)) q' n' := by
 by_cases e : q' = q
 ·subst e
  by_cases e2 : n' = y
  ·subst e2
   right
   unfold Shut
   rw [setT_t, forceT_eq]
   refine ⟨fun h => (lsOff_mem.1 h).2 rfl, fun h => (lsOff_mem.1 h).2 rfl, w, hw, upd_same _ _ _⟩
  ·left
   unfold Kept
   rw [setT_t, forceT_eq]
   exact ⟨⟨fun h => (lsOff_mem.1 h).1, fun h => lsOff_mem.2 ⟨h, e2⟩⟩, ⟨fun h => (lsOff_mem.1 h).1, fun h => lsOff_mem.2 ⟨h, e2⟩⟩, upd_ne _ _ e2⟩
 ·left; exact Kept.of_tier (setT_ne s _ e) n'
theorem SOk.force {s : PS} {ps : Nat → Pd} {vals : Nat → Int} (h : SOk s ps vals) {q y : Nat} (hq : q < 32) {w : Int} (hw : w = 1 ∨ w = 2) : SOk (s.setT q ((s.t q).forceT y w)) ps vals := by
 refine h.drop (h.fit.setT ((h.fit.tr q hq).forceT y w)) (h.dm.setT ((h.dm q hq).forceT hq y w)) (fun q' _ => ?_) (fun q' n' _ _ => force_kept s q y w hw q' n')
 by_cases e : q' = q
 ·subst e; rw [setT_t, forceT_eq]
 ·rw [setT_ne _ _ e]
theorem preTo_is (t : Tr) (r : Lk) (m : Nat) : ∀ k, (if m < k ∧ (t.ses m).metB r = true then ((t.preTo r k).ses m = { ses0 with ended := 1 } ∧ m ∉ (t.preTo r k).begun ∧ m ∉ (t.preTo r k).queue) else ((t.preTo r k).ses m = t.ses m ∧ (m ∈ (t.preTo r k).begun ↔ m ∈ t.begun) ∧ (m ∈ (t.preTo r k).queue ↔ m ∈ t.queue)))
 | 0 => by rw [if_neg (by omega)]; exact ⟨rfl, Iff.rfl, Iff.rfl⟩
 | k + 1 => by
  have ih := preTo_is t r m k
  unfold Tr.preTo
  rw [preTo_ses t r k k (Nat.le_refl k)]
  by_cases hm : (t.ses k).metB r = true
  ·rw [if_pos hm, forceT_eq]
   by_cases e : m = k
   ·subst e
    rw [if_pos ⟨by omega, hm⟩]
    exact ⟨upd_same _ _ _, fun h => (lsOff_mem.1 h).2 rfl, fun h => (lsOff_mem.1 h).2 rfl⟩
   ·by_cases hc : m < k ∧ (t.ses m).metB r = true
    ·rw [if_pos hc] at ih
     rw [if_pos ⟨by omega, hc.2⟩]
     exact ⟨(upd_ne _ _ e).trans ih.1, fun h => ih.2.1 (lsOff_mem.1 h).1, fun h => ih.2.2 (lsOff_mem.1 h).1⟩
    ·rw [if_neg hc] at ih
     rw [if_neg (fun h => hc ⟨by omega, h.2⟩)]
     exact ⟨(upd_ne _ _ e).trans ih.1, ⟨fun h => ih.2.1.1 (lsOff_mem.1 h).1, fun h => lsOff_mem.2 ⟨ih.2.1.2 h, e⟩⟩, ⟨fun h => ih.2.2.1 (lsOff_mem.1 h).1, fun h => lsOff_mem.2 ⟨ih.2.2.2 h, e⟩⟩⟩
  ·rw [if_neg hm]
   by_cases e : m = k
   ·subst e
    rw [if_neg (by omega)] at ih
    rw [if_neg (fun h => hm h.2)]
    exact ih
   ·by_cases hc : m < k ∧ (t.ses m).metB r = true
    ·rw [if_pos hc] at ih
     rw [if_pos ⟨by omega, hc.2⟩]; exact ih
    ·rw [if_neg hc] at ih
     rw [if_neg (fun h => hc ⟨by omega, h.2⟩)]; exact ih
theorem preTo_items (t : Tr) (r : Lk) : ∀ k, (t.preTo r k).items = t.items
 | 0 => rfl
 | k + 1 => by
  unfold Tr.preTo
  split
  ·rw [forceT_eq]; exact preTo_items t r k
  ·exact preTo_items t r k
theorem preT_t (s : PS) (r : Lk) (q : Nat) : (s.preT r).t q = if plOf r.at_ < q ∧ q < 32 then (s.t q).preTo r 4 else s.t q := rfl
theorem preT_kept (s : PS) (r : Lk) (q n : Nat) (_hn : n < 4) : Kept s (s.preT r) q n ∨ Shut (s.preT r) q n := by
 by_cases hc : plOf r.at_ < q ∧ q < 32
 ·have h := preTo_is (s.t q) r n 4
  have e : (s.preT r).t q = (s.t q).preTo r 4 := by rw [preT_t, if_pos hc]
  unfold Kept Shut
  rw [e]
  by_cases hm : n < 4 ∧ ((s.t q).ses n).metB r = true
  ·rw [if_pos hm] at h
   exact .inr ⟨h.2.1, h.2.2, 1, .inl rfl, h.1⟩
  ·rw [if_neg hm] at h
   exact .inl ⟨h.2.1, h.2.2, h.1⟩
 ·left; exact Kept.of_tier (by rw [preT_t, if_neg hc]) n
theorem preT_free (s : PS) (r : Lk) {q n : Nat} (hn : n < 4) (h : plOf r.at_ < q ∧ q < 32) : ∀ m ∈ (((s.preT r).t q).ses n).locks, m.meetB r = false := by
 intro m hm
 have g := preTo_is (s.t q) r n 4
 rw [preT_t, if_pos h] at hm
 by_cases hc : n < 4 ∧ ((s.t q).ses n).metB r = true
 ·rw [if_pos hc] at g
  rw [g.1] at hm; cases hm
 ·rw [if_neg hc] at g
  rw [g.1] at hm
  have hf : ((s.t q).ses n).metB r = false := by
   cases hb : ((s.t q).ses n).metB r with
   | false => rfl
   | true => exact absurd ⟨hn, hb⟩ hc
  unfold Ses.metB at hf
  rw [List.any_eq_false] at hf
  have := hf m hm
  simpa using this
theorem preT_items (s : PS) (r : Lk) (q : Nat) : ((s.preT r).t q).items = (s.t q).items := by
 rw [preT_t]; split
 ·exact preTo_items _ _ _
 ·rfl
theorem dom_places : ∀ a : Nat, a < 32 → ∀ b : Nat, b < 32 → domB (labOf a).1 (labOf a).2 (labOf b).1 (labOf b).2 = true → b ≤ a := by decide +kernel
theorem setS_back (s : PS) (q n : Nat) : s.setS q n ((s.t q).ses n) = s := by
 unfold PS.setS Tr.setS
 rw [upd_id]
 exact setT_id s q
theorem grant_core {s : PS} {q n : Nat} {x : Stp} {vals : Nat → Int} (hq : q < 32) (hx : Asked x) (hg : lkGood q (lkOf x)) (hval : ∀ q k, q < 32 → k < 16 → vals (16 * q + k) = enc ((s.t q).items k)) (hnn : ∀ q k v, q < 32 → k < 16 → (s.t q).items k = some v → 0 ≤ v)
  (hleft : ∀ k v, ((s.t q).ses n).wr.left k = some v → 0 ≤ v) :
  ∃ W, (s.grantT q n x).1 = s.setS q n { (s.t q).ses n with wr := W } ∧ (s.grantT q n x).2.why = 0 ∧
   (((s.grantT q n x).2.code = 0 ∧ GoodD vals q ((s.t q).ses n).wr [(x, (s.grantT q n x).2.items)] W) ∨ ((s.grantT q n x).2.code = 4 ∧ (s.grantT q n x).2.items = [] ∧ W = ((s.t q).ses n).wr)) ∧
   (∀ k, W.touched k = true → ((s.t q).ses n).wr.touched k = true ∨ ((x.op = 4 ∨ x.op = 5) ∧ k = x.key.toNat)) ∧ (∀ k v, W.left k = some v → 0 ≤ v) := by
 have F := hx.facts
 have hk := F.key
 have hown : x.op = 4 ∨ x.op = 5 → plP (x, []) = q := fun h => by
  have hat : x.at_ = labOf q := hg.2.2 (by unfold lkOf; exact decide_eq_true h)
  rw [plP_at (e := (x, [])) F.lab]
  show plOf x.at_ = q
  rw [hat]; exact plOf_labOf hq
 by_cases h4 : x.op = 4
 ·have e0 : s.grantT q n x = s.putT q n x := by unfold PS.grantT; rw [if_pos h4]
  rw [e0]
  unfold PS.putT
  by_cases hf : (s.t q).takenB x.key.toNat = false ∧ s.k ≤ ((s.t q).takenTo 16 : Int)
  ·rw [if_pos hf]
   exact ⟨((s.t q).ses n).wr, (setS_back s q n).symm, rfl, .inr ⟨rfl, rfl, rfl⟩, fun k h => .inl h, hleft⟩
  ·rw [if_neg hf]
   refine ⟨((s.t q).ses n).wr.putT x.key.toNat x.value, rfl, rfl, .inl ⟨rfl, ?_⟩, fun k h => ?_, fun k v h => ?_⟩
   ·unfold GoodD
    rw [if_pos h4]
    exact ⟨rfl, hown (.inl h4), by show x.key.toNat < 16; omega, rfl⟩
   ·have h' : upd ((s.t q).ses n).wr.touched x.key.toNat true k = true := h
    by_cases e : k = x.key.toNat
    ·exact .inr ⟨.inl h4, e⟩
    ·rw [upd_ne _ _ e] at h'; exact .inl h'
   ·have h' : upd ((s.t q).ses n).wr.left x.key.toNat (some x.value) k = some v := h
    by_cases e : k = x.key.toNat
    ·subst e
     rw [upd_same] at h'
     have := F.val h4
     injection h' with h'
     omega
    ·rw [upd_ne _ _ e] at h'; exact hleft k v h'
 ·by_cases h5 : x.op = 5
  ·have e0 : s.grantT q n x = (s.setW q n (((s.t q).ses n).wr.delT x.key.toNat), ⟨0, 0, []⟩) := by unfold PS.grantT; rw [if_neg h4, if_pos h5]
   rw [e0]
   refine ⟨((s.t q).ses n).wr.delT x.key.toNat, rfl, rfl, .inl ⟨rfl, ?_⟩, fun k h => ?_, fun k v h => ?_⟩
   ·unfold GoodD
    rw [if_neg h4, if_pos h5]
    exact ⟨rfl, hown (.inr h5), by show x.key.toNat < 16; omega, rfl⟩
   ·have h' : upd ((s.t q).ses n).wr.touched x.key.toNat true k = true := h
    by_cases e : k = x.key.toNat
    ·exact .inr ⟨.inr h5, e⟩
    ·rw [upd_ne _ _ e] at h'; exact .inl h'
   ·have h' : upd ((s.t q).ses n).wr.left x.key.toNat none k = some v := h
    by_cases e : k = x.key.toNat
    ·subst e
     rw [upd_same] at h'; cases h'
    ·rw [upd_ne _ _ e] at h'; exact hleft k v h'
  ·have e0 : s.grantT q n x = (s, ⟨0, 0, listTo (s.seesT q n x.at_) (lkOf x).lo (lkOf x).hi 16⟩) := by unfold PS.grantT; rw [if_neg h4, if_neg h5]
   rw [e0]
   refine ⟨((s.t q).ses n).wr, (setS_back s q n).symm, rfl, .inl ⟨rfl, ?_⟩, fun k h => .inl h, hleft⟩
   unfold GoodD
   rw [if_neg h4, if_neg h5]
   refine ⟨?_, rfl⟩
   obtain ⟨g1, g2, g3, g4⟩ := F.hi []
   show seenL (ovl vals q ((s.t q).ses n).wr) (plP (x, [])) x.key.toNat (plHi (x, []) + 1 - x.key.toNat) = listTo (s.seesT q n x.at_) (lkOf x).lo (lkOf x).hi 16
   rw [g3, g4, plP_at (e := (x, [])) F.lab]
   show seenL (ovl vals q ((s.t q).ses n).wr) (plOf x.at_) x.key.toNat (plHi (x, []) + 1 - x.key.toNat) = _
   have hp := plOf_lt F.lab
   refine (sees_seenL g1 g2 (fun k hk => ?_) (fun k v hk e => ?_)).symm
   ·have d1 : (16 * plOf x.at_ + k) / 16 = plOf x.at_ := by omega
    have d2 : (16 * plOf x.at_ + k) % 16 = k := by omega
    unfold ovl PS.seesT
    rw [d1, d2]
    by_cases hat : x.at_ = labOf q
    ·have hpq : plOf x.at_ = q := by rw [hat]; exact plOf_labOf hq
     rw [if_pos hat, hpq]
     unfold Wrt.over
     by_cases ht : ((s.t q).ses n).wr.touched k = true
     ·rw [if_pos ⟨rfl, ht⟩, if_pos ht]
     ·rw [if_neg (fun h => ht h.2), if_neg ht]
      exact hval q k hq hk
    ·have hpq : plOf x.at_ ≠ q := fun e => hat (by rw [← labOf_plOf F.lab, e])
     rw [if_neg hat, if_neg (fun h => hpq h.1)]
     exact hval _ k hp hk
   ·unfold PS.seesT at e
    by_cases hat : x.at_ = labOf q
    ·rw [if_pos hat] at e
     unfold Wrt.over at e
     by_cases ht : ((s.t q).ses n).wr.touched k = true
     ·rw [if_pos ht] at e; exact hleft k v e
     ·rw [if_neg ht] at e; exact hnn _ k v hp hk e
    ·rw [if_neg hat] at e; exact hnn _ k v hp hk e
theorem setS_kept (s : PS) {q n : Nat} (X : Ses) {q' n' : Nat} (h : q' ≠ q ∨ n' ≠ n) : Kept s (s.setS q n X) q' n' := by
 unfold PS.setS
 by_cases e : q' = q
 ·subst e
  unfold Kept
  rw [setT_t]
  exact ⟨Iff.rfl, Iff.rfl, upd_ne _ _ (by omega)⟩
 ·exact Kept.of_tier (setT_ne s _ e) n'
theorem setS_items (s : PS) (q n : Nat) (X : Ses) (q' : Nat) : ((s.setS q n X).t q').items = (s.t q').items := by
 unfold PS.setS
 by_cases e : q' = q
 ·subst e; rw [setT_t]; rfl
 ·rw [setT_ne _ _ e]
theorem setS_begun (s : PS) (q n : Nat) (X : Ses) (q' : Nat) : ((s.setS q n X).t q').begun = (s.t q').begun := by
 unfold PS.setS
 by_cases e : q' = q
 ·subst e; rw [setT_t]; rfl
 ·rw [setT_ne _ _ e]
theorem setS_ses (s : PS) (q n : Nat) (X : Ses) : ((s.setS q n X).t q).ses n = X := by
 unfold PS.setS
 rw [setT_t]; exact upd_same _ _ _
def lockedT (t : Tr) (n : Nat) (r : Lk) : Tr := (t.leaveT n).setS n { (t.leaveT n).ses n with locks := ((t.leaveT n).ses n).locks ++ [r] }
theorem lockT_is (s : PS) (q n : Nat) (x : Stp) : s.lockT q n x = if (lkOf x).wr then (s.setT q (lockedT (s.t q) n (lkOf x))).preT (lkOf x) else s.setT q (lockedT (s.t q) n (lkOf x)) := by
 unfold PS.lockT
 rw [addLock_leave]; rfl
theorem lockedT_ses (t : Tr) (n : Nat) (r : Lk) : (lockedT t n r).ses n = { t.ses n with req := stp0, locks := (t.ses n).locks ++ [r] } := by
 unfold lockedT
 rw [Tr.setS_at, leaveT_ses]
theorem locked_kept (s : PS) {q n : Nat} (r : Lk) {q' n' : Nat} (h : q' ≠ q ∨ n' ≠ n) : Kept s (s.setT q (lockedT (s.t q) n r)) q' n' := by
 by_cases e : q' = q
 ·subst e
  have hn : n' ≠ n := by omega
  unfold Kept
  rw [setT_t]
  refine ⟨Iff.rfl, ⟨fun h => (lsOff_mem.1 h).1, fun h => lsOff_mem.2 ⟨h, hn⟩⟩, ?_⟩
  show upd (upd (s.t q').ses n _) n _ n' = _
  rw [upd_ne _ _ hn, upd_ne _ _ hn]
 ·exact Kept.of_tier (setT_ne s _ e) n'
theorem locked_items (s : PS) (q n : Nat) (r : Lk) (q' : Nat) : ((s.setT q (lockedT (s.t q) n r)).t q').items = (s.t q').items := by
 by_cases e : q' = q
 ·subst e; rw [setT_t]; rfl
 ·rw [setT_ne _ _ e]
structure Locked (s s1 : PS) (q n : Nat) (x : Stp) : Prop where
 items : ∀ q', (s1.t q').items = (s.t q').items
 kept : ∀ q' n', q' < 32 → n' < 4 → (q' ≠ q ∨ n' ≠ n) → Kept s s1 q' n' ∨ Shut s1 q' n'
 beg : (s1.t q).begun = (s.t q).begun
 que : n ∉ (s1.t q).queue
 ses : (s1.t q).ses n = { (s.t q).ses n with req := stp0, locks := ((s.t q).ses n).locks ++ [lkOf x] }
 free : ∀ q' n', q' < 32 → n' < 4 → (q' ≠ q ∨ n' ≠ n) → ∀ m ∈ ((s1.t q').ses n').locks, (lkOf x).meetB m = false
theorem kept_pre {s s' : PS} {r : Lk} {q n : Nat} (hn : n < 4) (h : Kept s s' q n) : Kept s (s'.preT r) q n ∨ Shut (s'.preT r) q n := by
 rcases preT_kept s' r q n hn with g | g
 ·exact .inl (h.trans g)
 ·exact .inr g
theorem lock_core {s : PS} (D : PDm s) {q n : Nat} {x : Stp} (hq : q < 32) (hg : lkGood q (lkOf x)) (hx : ((s.t q).ses n).req = x) (hh : s.hindB q n = false) : Locked s (s.lockT q n x) q n x := by
 have hkept : ∀ q' n', q' < 32 → n' < 4 → (q' ≠ q ∨ n' ≠ n) → Kept s (s.lockT q n x) q' n' ∨ Shut (s.lockT q n x) q' n' := fun q' n' hq' hn' hne => by
  rw [lockT_is]
  split
  ·exact kept_pre hn' (locked_kept s (lkOf x) hne)
  ·exact .inl (locked_kept s (lkOf x) hne)
 have htier : (s.lockT q n x).t q = lockedT (s.t q) n (lkOf x) := by
  rw [lockT_is]
  split
  ·rename_i hw
   have e : plOf (lkOf x).at_ = q := by rw [hg.2.2 hw]; exact plOf_labOf hq
   rw [preT_t, if_neg (by rw [e]; omega), setT_t]
  ·rw [setT_t]
 refine ⟨fun q' => ?_, hkept, ?_, ?_, ?_, fun q' n' hq' hn' hne m hm => ?_⟩
 ·rw [lockT_is]
  split
  ·rw [preT_items]; exact locked_items s q n _ q'
  ·exact locked_items s q n _ q'
 ·rw [htier]; rfl
 ·rw [htier]
  intro h
  exact (lsOff_mem.1 (show n ∈ lsOff (s.t q).queue n from h)).2 rfl
 ·rw [htier]; exact lockedT_ses _ _ _
 ·have hms := locks_of (hkept q' n' hq' hn' hne) hm
  obtain ⟨m1, m2, m3⟩ := (D q' hq' n').1 m hms
  rw [meetB_sym]
  cases hmb : m.meetB (lkOf x) with
  | false => rfl
  | true =>
   exfalso
   have hmb' := hmb
   unfold Lk.meetB sameL at hmb'
   simp only [Bool.and_eq_true, Bool.or_eq_true, decide_eq_true_eq] at hmb'
   obtain ⟨⟨ha, hb⟩, _, _, hwr⟩ := hmb'
   have hat : m.at_ = x.at_ := Prod.ext ha hb
   have hreq : lkOf ((s.t q).ses n).req = lkOf x := by rw [hx]
   by_cases hself : x.at_ = labOf q
   ·by_cases eq : q' = q
    ·subst eq
     have hnn : n' ≠ n := by omega
     unfold PS.hindB at hh
     rw [hx, if_pos hself, List.any_eq_false] at hh
     have h1 := hh n' (List.mem_range.2 hn')
     unfold Tr.hindB at h1
     rw [hreq] at h1
     have h2 : ((s.t q').ses n').metB (lkOf x) = true := by
      unfold Ses.metB
      rw [List.any_eq_true]
      exact ⟨m, hms, hmb⟩
     rw [h2] at h1
     simp at h1
     exact hnn h1
    ·have hle : q ≤ q' := dom_places q' hq' q hq (by rw [← hself, ← hat]; exact m2)
     cases hw : (lkOf x).wr with
     | true =>
      have hpl : plOf (lkOf x).at_ = q := by rw [hg.2.2 hw]; exact plOf_labOf hq
      rw [lockT_is, if_pos hw] at hm
      have := preT_free _ (lkOf x) (q := q') (n := n') hn' ⟨by rw [hpl]; omega, hq'⟩ m hm
      rw [this] at hmb; cases hmb
     | false =>
      rw [hw] at hwr
      have hmw : m.wr = true := by
       rcases hwr with h | h
       ·exact h
       ·cases h
      exact eq (labOf_inj (by rw [← m3 hmw, hat, hself]))
   ·have hw : (lkOf x).wr = false := by
     cases hw : (lkOf x).wr with
     | false => rfl
     | true => exact absurd (hg.2.2 hw) hself
    rw [hw] at hwr
    have hmw : m.wr = true := by
     rcases hwr with h | h
     ·exact h
     ·cases h
    have hpl : plOf x.at_ = q' := by rw [← hat, m3 hmw]; exact plOf_labOf hq'
    unfold PS.hindB at hh
    rw [hx, if_neg hself, hpl] at hh
    unfold Tr.metB at hh
    rw [List.any_eq_false] at hh
    refine hh n' (List.mem_range.2 hn') ?_
    unfold Ses.metB
    rw [List.any_eq_true]
    exact ⟨m, hms, hmb⟩
structure Admitted (s s2 : PS) (vals : Nat → Int) (q n : Nat) (x : Stp) (a : Ans) : Prop where
 items : ∀ q', (s2.t q').items = (s.t q').items
 kept : ∀ q' n', q' < 32 → n' < 4 → (q' ≠ q ∨ n' ≠ n) → Kept s s2 q' n' ∨ Shut s2 q' n'
 beg : (s2.t q).begun = (s.t q).begun
 que : n ∉ (s2.t q).queue
 ended : ((s2.t q).ses n).ended = ((s.t q).ses n).ended
 came : ((s2.t q).ses n).came = ((s.t q).ses n).came
 locks : ((s2.t q).ses n).locks = ((s.t q).ses n).locks ++ [lkOf x]
 why : a.why = 0
 res : (a.code = 0 ∧ GoodD vals q ((s.t q).ses n).wr [(x, a.items)] ((s2.t q).ses n).wr) ∨ (a.code = 4 ∧ a.items = [] ∧ ((s2.t q).ses n).wr = ((s.t q).ses n).wr)
 tch : ∀ k, ((s2.t q).ses n).wr.touched k = true → ((s.t q).ses n).wr.touched k = true ∨ ((x.op = 4 ∨ x.op = 5) ∧ k = x.key.toNat)
 left : ∀ k v, ((s2.t q).ses n).wr.left k = some v → 0 ≤ v
 free : ∀ q' n', q' < 32 → n' < 4 → (q' ≠ q ∨ n' ≠ n) → ∀ m ∈ ((s2.t q').ses n').locks, (lkOf x).meetB m = false
theorem admit_core {s : PS} {ps : Nat → Pd} {vals : Nat → Int} (h : SOk s ps vals) {q n : Nat} (hq : q < 32) (hn : n < 4) (hw : n ∈ (s.t q).queue) (hh : s.hindB q n = false) :
  Admitted s (s.admitT q n).1 vals q n ((s.t q).ses n).req (s.admitT q n).2 := by
 obtain ⟨hb, _, _, hask⟩ := (h.ses q n hq hn).que hw
 have hin := (h.ses q n hq hn).beg hb
 have hg := (h.dm q hq n).2
 have L := lock_core h.dm hq hg rfl hh
 unfold PS.admitT
 generalize ((s.t q).ses n).req = x at *
 generalize s.lockT q n x = s1 at *
 have hwr : ((s1.t q).ses n).wr = ((s.t q).ses n).wr := by rw [L.ses]
 obtain ⟨W, e1, e2, e3, e4, e5⟩ := grant_core (s := s1) (q := q) (n := n) (x := x) (vals := vals) hq hask hg (fun q k h1 h2 => by rw [L.items]; exact h.val q k h1 h2) (fun q k v h1 h2 h3 => h.nn q k v h1 h2 (by rw [← L.items]; exact h3)) (by rw [hwr]; exact hin.left)
 rw [hwr] at e3 e4
 rw [e1]
 have hs2 : ((s1.setS q n { (s1.t q).ses n with wr := W }).t q).ses n = { (s1.t q).ses n with wr := W } := setS_ses _ _ _ _
 refine ⟨fun q' => by rw [setS_items]; exact L.items q', fun q' n' h1 h2 h3 => ?_, by rw [setS_begun]; exact L.beg, by rw [setS_queue]; exact L.que, ?_, ?_, ?_, e2, ?_, ?_, ?_, fun q' n' h1 h2 h3 m hm => ?_⟩
 ·have k := setS_kept s1 { (s1.t q).ses n with wr := W } h3
  rcases L.kept q' n' h1 h2 h3 with g | g
  ·exact .inl (g.trans k)
  ·exact .inr (Kept.shut g k)
 ·rw [hs2, L.ses]
 ·rw [hs2, L.ses]
 ·rw [hs2, L.ses]
 ·rw [hs2]; exact e3
 ·rw [hs2]; exact e4
 ·rw [hs2]; exact e5
 ·rw [(setS_kept s1 { (s1.t q).ses n with wr := W } h3).2.2] at hm
  exact L.free q' n' h1 h2 h3 m hm
theorem Admitted.more {s s2 : PS} {vals : Nat → Int} {q n : Nat} {x : Stp} {a : Ans} (A : Admitted s s2 vals q n x a) (hx : Asked x) (hg : lkGood q (lkOf x)) {w : Prop} {P : Pd} (hin : SesIn vals q w ((s.t q).ses n) P) (hc : ((s.t q).ses n).came = false) :
  GoodD vals q wrt0 (P.done ++ (if a.code = 0 then [(x, a.items)] else [])) ((s2.t q).ses n).wr ∧
  (∀ e ∈ P.done ++ (if a.code = 0 then [(x, a.items)] else []), e.1.op ≠ 4 → e.1.op ≠ 5 → AskedF e.1 ∧ ∃ l ∈ ((s2.t q).ses n).locks, l.at_ = e.1.at_ ∧ l.lo ≤ e.1.key ∧ (lkOf e.1).hi ≤ l.hi) ∧
  (∀ k, ((s2.t q).ses n).wr.touched k = true → ∃ l ∈ ((s2.t q).ses n).locks, l.wr = true ∧ l.at_ = labOf q ∧ l.lo ≤ (k : Int) ∧ (k : Int) ≤ l.hi) := by
 have hgood := hin.good
 have hrd := hin.rd
 rw [pend_no P hc, List.append_nil] at hgood hrd
 refine ⟨?_, fun e he h4 h5 => ?_, fun k hk => ?_⟩
 ·rcases A.res with ⟨c, g⟩ | ⟨c, _, g⟩
  ·rw [if_pos c]; exact good_snoc _ _ _ hgood g
  ·rw [if_neg (by omega), List.append_nil, g]; exact hgood
 ·rw [A.locks]
  rcases List.mem_append.1 he with he | he
  ·obtain ⟨a1, l, a2, a3⟩ := hrd e he h4 h5
   exact ⟨a1, l, List.mem_append.2 (.inl a2), a3⟩
  ·split at he
   ·simp only [List.mem_singleton] at he
    subst he
    exact ⟨hx.facts, lkOf x, List.mem_append.2 (.inr (List.mem_singleton.2 rfl)), rfl, Int.le_refl _, Int.le_refl _⟩
   ·cases he
 ·rw [A.locks]
  rcases A.tch k hk with ht | ⟨ho, rfl⟩
  ·obtain ⟨l, a1, a2⟩ := hin.wrt k ht
   exact ⟨l, List.mem_append.2 (.inl a1), a2⟩
  ·have hwr : (lkOf x).wr = true := by unfold lkOf; exact decide_eq_true ho
   have hk := hx.facts.key
   have hh : (lkOf x).hi = x.key := by unfold lkOf; simp only; rw [if_neg (by omega)]
   refine ⟨lkOf x, List.mem_append.2 (.inr (List.mem_singleton.2 rfl)), hwr, hg.2.2 hwr, ?_, ?_⟩
   ·show x.key ≤ _
    omega
   ·rw [hh]; omega
theorem Admitted.apart {s s2 : PS} {ps : Nat → Pd} {vals : Nat → Int} (h : SOk s ps vals) {q n : Nat} (hq : q < 32) (hn : n < 4) {x : Stp} {a : Ans} (A : Admitted s s2 vals q n x a) : ∀ q' n', q' < 32 → n' < 4 → (q' ≠ q ∨ n' ≠ n) → ∀ l ∈ ((s2.t q).ses n).locks, ∀ m ∈ ((s2.t q').ses n').locks, l.meetB m = false := fun q' n' h1 h2 h3 l hl m hm => by
 rw [A.locks] at hl
 rcases List.mem_append.1 hl with hl | hl
 ·exact h.apart q n q' n' hq hn h1 h2 h3 l hl m (locks_of (A.kept q' n' h1 h2 h3) hm)
 ·simp only [List.mem_singleton] at hl
  subst hl
  exact A.free q' n' h1 h2 h3 m hm
theorem SOk.settle1 {s : PS} {ps : Nat → Pd} {vals : Nat → Int} (h : SOk s ps vals) {q n : Nat} (hq : q < 32) (hw : n ∈ (s.t q).queue) (a : Nat) : SOk (s.settle1 q a n) ps vals := by
 have hn := (h.fit.tr q hq).queL n hw
 have hF := h.fit.settle1 a hq hw
 have hD := h.dm.settle1 hq a n
 unfold PS.settle1 at hF hD ⊢
 by_cases hc : plOf ((s.t q).ses n).req.at_ = a ∧ s.hindB q n = false
 ·rw [if_pos hc] at hF hD ⊢
  obtain ⟨hb, hPx, hcm, hask⟩ := (h.ses q n hq hn).que hw
  have hin := (h.ses q n hq hn).beg hb
  have A := admit_core h hq hn hw hc.2
  have hg := (h.dm q hq n).2
  generalize hx : ((s.t q).ses n).req = x at *
  generalize (s.admitT q n).2 = an at *
  generalize (s.admitT q n).1 = s2 at *
  obtain ⟨m1, m2, m3⟩ := A.more hask hg hin hcm
  unfold PS.tellT at hF hD ⊢
  have hS := setS_ses s2 q n { (s2.t q).ses n with out := an, came := true }
  have hpend : pend { (s2.t q).ses n with out := an, came := true } (ps (4 * q + n)) = if an.code = 0 then [(x, an.items)] else [] := by
   unfold pend
   simp only [true_and, hPx]
  rw [← updP_same ps (4 * q + n)]
  refine h.turn hq hn hF hD (fun q' _ => by rw [setS_items]; exact A.items q') (fun q' n' h1 h2 h3 => ?_) ?_ (fun q' n' h1 h2 h3 l hl m hm => ?_)
  ·have k := setS_kept s2 { (s2.t q).ses n with out := an, came := true } h3
   rcases A.kept q' n' h1 h2 h3 with g | g
   ·exact .inl (g.trans k)
   ·exact .inr (Kept.shut g k)
  ·rw [hS, setS_begun, setS_queue, A.beg]
   refine ⟨fun _ => ⟨by show ((s2.t q).ses n).ended = 0; rw [A.ended]; exact hin.ended, hin.live, ⟨fun _ => .inr rfl, fun _ => hin.opn.2 (.inl hw)⟩, ?_, ?_, m3, A.left⟩, fun e => absurd e A.que, fun e => absurd hb e, fun e => absurd hb e, fun _ => ⟨A.why, ?_⟩, ?_⟩
   ·rw [hpend]; exact m1
   ·rw [hpend]; exact m2
   ·rcases A.res with ⟨c, _⟩ | ⟨c, i, _⟩
    ·exact .inl c
    ·exact .inr ⟨c, i⟩
   ·show ((s2.t q).ses n).ended = 0 ∨ _
    rw [A.ended]; exact .inl hin.ended
  ·rw [hS] at hl
   rw [(setS_kept s2 { (s2.t q).ses n with out := an, came := true } h3).2.2] at hm
   exact A.apart h hq hn q' n' h1 h2 h3 l hl m hm
 ·rw [if_neg hc]; exact h
theorem SOk.settleL {ps : Nat → Pd} {vals : Nat → Int} {q a : Nat} (hq : q < 32) : ∀ (l : List Nat) (s : PS), SOk s ps vals → l.Nodup → (∀ n ∈ l, n ∈ (s.t q).queue) → SOk (PS.settleL q a s l) ps vals
 | [], _, h, _, _ => h
 | n :: l, s, h, hn, hl => by
  obtain ⟨h1, h2⟩ := List.nodup_cons.1 hn
  have hq' := hl n (List.mem_cons_self)
  exact SOk.settleL hq l _ (h.settle1 hq hq' a) h2 (fun m hm => settle1_queue h.fit hq hq' (hl m (List.mem_cons_of_mem _ hm)) (fun e => h1 (e ▸ hm)))
theorem SOk.settleQ {s : PS} {ps : Nat → Pd} {vals : Nat → Int} (h : SOk s ps vals) {q : Nat} (a : Nat) (hq : q < 32) : SOk (s.settleQ q a) ps vals := SOk.settleL hq _ s h (h.fit.tr q hq).queN (fun _ h => h)
theorem SOk.settleF {s : PS} {ps : Nat → Pd} {vals : Nat → Int} (h : SOk s ps vals) (a : Nat) : ∀ k, a + k ≤ 32 → SOk (s.settleF a k) ps vals
 | 0, _ => h
 | k + 1, hk => (SOk.settleF h a k (by omega)).settleQ a (by omega)
theorem SOk.settleTo {s : PS} {ps : Nat → Pd} {vals : Nat → Int} (h : SOk s ps vals) : ∀ a, a ≤ 32 → SOk (s.settleTo a) ps vals
 | 0, _ => h
 | a + 1, ha => (SOk.settleTo h a (by omega)).settleF a (32 - a) (by omega)
theorem SOk.settleT {s : PS} {ps : Nat → Pd} {vals : Nat → Int} (h : SOk s ps vals) : SOk s.settleT ps vals := h.settleTo 32 (Nat.le_refl _)
theorem SOk.ringsN {ps : Nat → Pd} {vals : Nat → Int} {q n : Nat} (hq : q < 32) : ∀ (k : Nat) (s : PS), SOk s ps vals → SOk (PS.ringsN q n k s) ps vals
 | 0, _, h => h
 | k + 1, s, h => by
  cases hy : (s.t q).youngest n with
  | none => rw [ringsN_no hy]; exact h
  | some y => rw [ringsN_yes hy]; exact SOk.ringsN hq k _ (h.force hq (.inr rfl)).settleT
theorem sess_idx {x : Stp} (hp : properB x = true) : (sessZ' x.who).toNat = 4 * plOf x.who.lab + numOf x.who := by
 have hlab : labB x.who.1 x.who.2.1 = true := by
  have h := hp
  unfold properB at h
  simp only [Bool.and_eq_true] at h
  exact h.1.1
 have hP := (proper_of hp).who.2
 obtain ⟨a1, a2, a3, a4⟩ := labB_t hlab
 unfold sessZ'
 rw [if_pos ⟨hlab, hP.1, by have := hP.2; omega⟩]
 unfold plOf placeOf Wh.lab numOf
 have := hP.1
 simp only
 omega
theorem tell_proper {ps : Nat → Pd} {vals : Nat → Int} {x : Stp} {a : Ans} {k : Nat} (hp : properB x = true) (hk : (sessZ' x.who).toNat = k) : tellP ps vals x a = (
      if a.code = 2 then (decide (a.why = 1) || decide (a.why = 2), updP ps k pd0, vals)
      else if a.why ≠ 0 then (false, ps, vals)
      else if x.op = 1 ∧ a.code = 0 then (true, updP ps k { pd0 with live := true }, vals)
      else if x.op = 7 ∧ a.code = 0 then (true, updP ps k pd0, vals)
      else if x.op = 6 ∧ a.code = 0 then ((replayP vals (ps k).done).1, updP ps k pd0, (replayP vals (ps k).done).2)
      else if x.op = 8 ∧ (ps k).open_ = true ∧ a.code ≠ 1 then ((noteP (updP ps k { ps k with open_ := false }) k (ps k).x a).1, (noteP (updP ps k { ps k with open_ := false }) k (ps k).x a).2, vals)
      else if (2 ≤ x.op ∧ x.op ≤ 5) ∧ a.code = 1 then (true, updP ps k { ps k with open_ := true, x := x }, vals)
      else if 2 ≤ x.op ∧ x.op ≤ 5 then ((noteP ps k x a).1, (noteP ps k x a).2, vals)
      else (true, ps, vals)) := by
  unfold tellP
  rw [if_neg (by rw [hp]; simp)]
  simp only [hk]
def Told (s' : PS) (ps : Nat → Pd) (vals : Nat → Int) (x : Stp) (a : Ans) : Prop := (tellP ps vals x a).1 = true ∧ SOk s' (tellP ps vals x a).2.1 (tellP ps vals x a).2.2
theorem told_of {s' : PS} {ps ps' : Nat → Pd} {vals vals' : Nat → Int} {x : Stp} {a : Ans} (h : tellP ps vals x a = (true, ps', vals')) (g : SOk s' ps' vals') : Told s' ps vals x a := by
 unfold Told; rw [h]; exact ⟨rfl, g⟩
theorem note_no {ps : Nat → Pd} {k : Nat} {x : Stp} {a : Ans} (h : a.code ≠ 0) (hi : a.items = []) : noteP ps k x a = (true, ps) := by
 unfold noteP; rw [if_neg h, hi]; rfl
theorem tell_quiet {ps : Nat → Pd} {vals : Nat → Int} {x : Stp} {c : Int} (hp : properB x = true) (h8 : x.op ≠ 8) (h0 : c ≠ 0) (h1 : c ≠ 1) (h2 : c ≠ 2) : tellP ps vals x ⟨c, 0, []⟩ = (true, ps, vals) := by
 rw [tell_proper hp rfl]
 rw [if_neg h2, if_neg (by simp), if_neg (fun h => h0 h.2), if_neg (fun h => h0 h.2), if_neg (fun h => h0 h.2), if_neg (fun h => h8 h.1), if_neg (fun h => h1 h.2)]
 split
 ·rw [note_no (a := ⟨c, 0, []⟩) h0 rfl]
 ·rfl
theorem updP_updP (ps : Nat → Pd) (k : Nat) (P Q : Pd) : updP (updP ps k P) k Q = updP ps k Q := by
 funext j; unfold updP; split <;> rfl
theorem hasB_not {l : List Nat} {n : Nat} (h : ¬ n ∈ l) : hasB l n = false := by
 cases e : hasB l n with
 | false => rfl
 | true => exact absurd (hasB_iff.1 e) h
theorem hasB_mem {l : List Nat} {n : Nat} (h : hasB l n = false) : ¬ n ∈ l := fun e => by
 rw [hasB_iff.2 e] at h; cases h
theorem none_ok {vals : Nat → Int} {q : Nat} {b w : Prop} {S : Ses} {P : Pd} (hb : ¬ b) (hw : ¬ w) (hl : S.locks = []) (hc : S.came = false) (hr : S.wr = wrt0) (he : S.ended = 0) (hP : P.live = false ∧ P.open_ = false) : SesOk vals q b w S P :=
 ⟨fun e => absurd e hb, fun e => absurd e hw, fun _ _ => hP, fun _ => ⟨hl, hc, hr⟩, fun e => (by rw [hc] at e; cases e), .inl he⟩
theorem end_kept (s : PS) {q n : Nat} {q' n' : Nat} (h : q' ≠ q ∨ n' ≠ n) : Kept s (s.setT q ((s.t q).endT n)) q' n' := by
 by_cases e : q' = q
 ·subst e
  have hn : n' ≠ n := by omega
  unfold Kept
  rw [setT_t]
  exact ⟨⟨fun h => (lsOff_mem.1 h).1, fun h => lsOff_mem.2 ⟨h, hn⟩⟩, ⟨fun h => (lsOff_mem.1 h).1, fun h => lsOff_mem.2 ⟨h, hn⟩⟩, upd_ne _ _ hn⟩
 ·exact Kept.of_tier (setT_ne s _ e) n'
theorem SOk.ends {s : PS} {ps : Nat → Pd} {vals : Nat → Int} (h : SOk s ps vals) {q n : Nat} (hq : q < 32) (hn : n < 4) : SOk (s.setT q ((s.t q).endT n)) (updP ps (4 * q + n) pd0) vals := by
 have hs : ((s.setT q ((s.t q).endT n)).t q).ses n = ses0 := by rw [setT_t]; exact endT_ses _ _
 refine h.turn hq hn (h.fit.setT ((h.fit.tr q hq).endT n)) (h.dm.setT ((h.dm q hq).endT hq n)) (fun q' _ => ?_) (fun q' n' _ _ h3 => .inl (end_kept s h3)) ?_ (fun q' n' _ _ _ l hl => by rw [hs] at hl; cases hl)
 ·by_cases e : q' = q
  ·subst e; rw [setT_t]; rfl
  ·rw [setT_ne _ _ e]
 ·rw [hs]
  refine none_ok ?_ ?_ rfl rfl rfl rfl ⟨rfl, rfl⟩
  ·rw [setT_t]; exact fun e => (lsOff_mem.1 e).2 rfl
  ·rw [setT_t]; exact fun e => (lsOff_mem.1 e).2 rfl
theorem SOk.commits {s : PS} {ps : Nat → Pd} {vals : Nat → Int} (h : SOk s ps vals) {q n : Nat} (hq : q < 32) (hn : n < 4) (hb : n ∈ (s.t q).begun) :
  SOk ((s.setI q (((s.t q).ses n).wr.over (s.t q).items)).setT q (((s.setI q (((s.t q).ses n).wr.over (s.t q).items)).t q).endT n)) (updP ps (4 * q + n) pd0) (ovl vals q ((s.t q).ses n).wr) := by
 have hin := (h.ses q n hq hn).beg hb
 have F1 : (s.setI q (((s.t q).ses n).wr.over (s.t q).items)).Fit := h.fit.setT ((h.fit.tr q hq).same rfl rfl (fun _ _ => rfl) (fun _ _ => rfl))
 have D1 := h.dm.setI hq (((s.t q).ses n).wr.over (s.t q).items)
 have K1 : ∀ q' n', Kept s (s.setI q (((s.t q).ses n).wr.over (s.t q).items)) q' n' := fun q' n' => by
  by_cases e : q' = q
  ·subst e
   unfold Kept PS.setI
   rw [setT_t]; exact ⟨Iff.rfl, Iff.rfl, rfl⟩
  ·exact Kept.of_tier (setT_ne s _ e) n'
 have hI : ((s.setI q (((s.t q).ses n).wr.over (s.t q).items)).t q).items = ((s.t q).ses n).wr.over (s.t q).items := by unfold PS.setI; rw [setT_t]
 have hI2 : ∀ q', q' ≠ q → ((s.setI q (((s.t q).ses n).wr.over (s.t q).items)).t q').items = (s.t q').items := fun q' e => by unfold PS.setI; rw [setT_ne _ _ e]
 generalize s.setI q (((s.t q).ses n).wr.over (s.t q).items) = s1 at *
 have hs : ((s1.setT q ((s1.t q).endT n)).t q).ses n = ses0 := by rw [setT_t]; exact endT_ses _ _
 have K2 : ∀ q' n', (q' ≠ q ∨ n' ≠ n) → Kept s (s1.setT q ((s1.t q).endT n)) q' n' := fun q' n' e => (K1 q' n').trans (end_kept s1 e)
 have hit : ∀ q', ((s1.setT q ((s1.t q).endT n)).t q').items = (s1.t q').items := fun q' => by
  by_cases e : q' = q
  ·subst e; rw [setT_t]; rfl
  ·rw [setT_ne _ _ e]
 refine ⟨F1.setT ((F1.tr q hq).endT n), D1.setT ((D1 q hq).endT hq n), fun q' k hq' hk => ?_, fun q' k v hq' hk e => ?_, fun q' n' hq' hn' => ?_, fun a b c d ha' hb' hc' hd' hne l hl m hm => ?_⟩
 ·rw [hit]
  have d1 : (16 * q' + k) / 16 = q' := by omega
  have d2 : (16 * q' + k) % 16 = k := by omega
  unfold ovl
  rw [d1, d2]
  by_cases e : q' = q
  ·subst e
   rw [hI]
   unfold Wrt.over
   by_cases ht : ((s.t q').ses n).wr.touched k = true
   ·rw [if_pos ⟨rfl, ht⟩, if_pos ht]
   ·rw [if_neg (fun g => ht g.2), if_neg ht]; exact h.val q' k hq' hk
  ·rw [if_neg (fun g => e g.1), hI2 q' e]; exact h.val q' k hq' hk
 ·rw [hit] at e
  by_cases e2 : q' = q
  ·subst e2
   rw [hI] at e
   unfold Wrt.over at e
   by_cases ht : ((s.t q').ses n).wr.touched k = true
   ·rw [if_pos ht] at e; exact hin.left k v e
   ·rw [if_neg ht] at e; exact h.nn q' k v hq' hk e
  ·rw [hI2 q' e2] at e; exact h.nn q' k v hq' hk e
 ·by_cases e : q' ≠ q ∨ n' ≠ n
  ·rw [updP_ne _ _ (by omega)]
   refine (K2 q' n' e).ok ?_
   obtain ⟨g1, g2, g3, g4, g5, g6⟩ := h.ses q' n' hq' hn'
   refine ⟨fun b => ?_, g2, g3, g4, g5, g6⟩
   have G := g1 b
   refine ⟨G.ended, G.live, G.opn, good_frame _ _ _ (fun ev hev h4 h5 i hi => ?_) G.good, G.rd, G.wrt, G.left⟩
   obtain ⟨A, l, hl, e1, e2, e3⟩ := G.rd ev hev h4 h5
   obtain ⟨b1, b2, b3, b4⟩ := A.hi ev.2
   have b4' : (lkOf ev.1).hi = (plHi ev : Int) := b4
   have b2' : plHi ev < 16 := b2
   have hpp := plP_at (e := ev) A.lab
   have hky := A.key
   unfold ovl
   by_cases hc : (16 * plP ev + (ev.1.key.toNat + i)) / 16 = q ∧ ((s.t q).ses n).wr.touched ((16 * plP ev + (ev.1.key.toNat + i)) % 16) = true
   ·exfalso
    have d1 : (16 * plP ev + (ev.1.key.toNat + i)) / 16 = plP ev := by omega
    have d2 : (16 * plP ev + (ev.1.key.toNat + i)) % 16 = ev.1.key.toNat + i := by omega
    rw [d1, d2] at hc
    obtain ⟨m, hm, m1, m2, m3, m4⟩ := hin.wrt _ hc.2
    have hat : ev.1.at_ = labOf q := by rw [← labOf_plOf A.lab, ← hpp, hc.1]
    have hno := h.apart q n q' n' hq hn hq' hn' e m hm l hl
    have hyes : m.meetB l = true := by
     unfold Lk.meetB sameL
     rw [m1, m2, e1, hat]
     simp only [Bool.true_or, Bool.and_true, Bool.and_eq_true, decide_eq_true_eq]
     refine ⟨⟨trivial, trivial⟩, ?_, ?_⟩
     ·omega
     ·omega
    rw [hyes] at hno; cases hno
   ·rw [if_neg hc]
  ·obtain ⟨rfl, rfl⟩ : q' = q ∧ n' = n := by omega
   rw [updP_at, hs]
   refine none_ok ?_ ?_ rfl rfl rfl rfl ⟨rfl, rfl⟩
   ·rw [setT_t]; exact fun e => (lsOff_mem.1 e).2 rfl
   ·rw [setT_t]; exact fun e => (lsOff_mem.1 e).2 rfl
 ·by_cases e1 : a ≠ q ∨ b ≠ n
  ·by_cases e2 : c ≠ q ∨ d ≠ n
   ·exact h.apart a b c d ha' hb' hc' hd' hne l (locks_of (.inl (K2 a b e1)) hl) m (locks_of (.inl (K2 c d e2)) hm)
   ·obtain ⟨rfl, rfl⟩ : c = q ∧ d = n := by omega
    rw [hs] at hm; cases hm
  ·obtain ⟨rfl, rfl⟩ : a = q ∧ b = n := by omega
   rw [hs] at hl; cases hl
theorem SOk.untold {s : PS} {ps : Nat → Pd} {vals : Nat → Int} (h : SOk s ps vals) {q n : Nat} (hq : q < 32) (hn : n < 4) (he : ((s.t q).ses n).ended ≠ 0) : SOk (s.untold q n) (updP ps (4 * q + n) pd0) vals := by
 have hb : ¬ n ∈ (s.t q).begun := fun b => he ((h.ses q n hq hn).beg b).ended
 have hw : ¬ n ∈ (s.t q).queue := fun w => hb ((h.ses q n hq hn).que w).1
 obtain ⟨b1, b2, b3⟩ := (h.ses q n hq hn).bare hb
 unfold PS.untold
 have hs := setS_ses s q n { (s.t q).ses n with ended := 0 }
 refine h.turn (s' := s.setS q n { (s.t q).ses n with ended := 0 }) hq hn (h.fit.setS hq rfl rfl) (h.dm.setS hq rfl rfl) (fun q' _ => setS_items _ _ _ _ _) (fun q' n' _ _ h3 => .inl (setS_kept s _ h3)) ?_ (fun q' n' _ _ _ l hl => by
  rw [hs] at hl
  have hl' : l ∈ ((s.t q).ses n).locks := hl
  rw [b1] at hl'; cases hl')
 rw [hs, setS_begun, setS_queue]
 exact none_ok hb hw b1 b2 b3 rfl ⟨rfl, rfl⟩
theorem join_kept (s : PS) {q n : Nat} (x : Stp) {q' n' : Nat} (h : q' ≠ q ∨ n' ≠ n) : Kept s (s.setT q ((s.t q).joinT n x)) q' n' := by
 by_cases e : q' = q
 ·subst e
  have hn : n' ≠ n := by omega
  unfold Kept
  rw [setT_t]
  refine ⟨Iff.rfl, ⟨fun h => ?_, fun h => List.mem_append.2 (.inl h)⟩, upd_ne _ _ hn⟩
  rcases List.mem_append.1 h with h | h
  ·exact h
  ·exact absurd (List.mem_singleton.1 h) hn
 ·exact Kept.of_tier (setT_ne s _ e) n'
theorem join_ses (s : PS) (q n : Nat) (x : Stp) : ((s.setT q ((s.t q).joinT n x)).t q).ses n = { (s.t q).ses n with req := x } := by
 rw [setT_t]; exact upd_same _ _ _
theorem SOk.joins {s : PS} {ps : Nat → Pd} {vals : Nat → Int} (h : SOk s ps vals) {q n : Nat} (hq : q < 32) (hn : n < 4) {x : Stp} (hx : Asked x) (hr : ReqOk q n x) (hg : lkGood q (lkOf x)) (hb : n ∈ (s.t q).begun) (hw : ¬ n ∈ (s.t q).queue) (hc : ((s.t q).ses n).came = false) (hl : (s.t q).lockTo 4 + 1 ≤ 32) :
  SOk (s.setT q ((s.t q).joinT n x)) (updP ps (4 * q + n) { ps (4 * q + n) with open_ := true, x := x }) vals := by
 have hin := (h.ses q n hq hn).beg hb
 have hs := join_ses s q n x
 refine h.turn hq hn (h.fit.setT ((h.fit.tr q hq).joinT hn (hasB_not hw) hl ⟨hr, hg.2.2⟩)) (h.dm.setT ((h.dm q hq).joinT n hg)) (fun q' _ => ?_) (fun q' n' _ _ h3 => .inl (join_kept s x h3)) ?_ (fun q' n' h1 h2 h3 l hl' m hm => ?_)
 ·by_cases e : q' = q
  ·subst e; rw [setT_t]; rfl
  ·rw [setT_ne _ _ e]
 ·rw [hs]
  have hbb : n ∈ ((s.setT q ((s.t q).joinT n x)).t q).begun := by rw [setT_t]; exact hb
  have hww : n ∈ ((s.setT q ((s.t q).joinT n x)).t q).queue := by rw [setT_t]; exact List.mem_append.2 (.inr (List.mem_singleton.2 rfl))
  have hpe : pend { (s.t q).ses n with req := x } { ps (4 * q + n) with open_ := true, x := x } = [] := pend_no _ hc
  have hpo : pend ((s.t q).ses n) (ps (4 * q + n)) = [] := pend_no _ hc
  have hgood := hin.good
  have hrd := hin.rd
  rw [hpo] at hgood hrd
  refine ⟨fun _ => ⟨hin.ended, hin.live, ⟨fun _ => .inl hww, fun _ => rfl⟩, by rw [hpe]; exact hgood, by rw [hpe]; exact hrd, hin.wrt, hin.left⟩, fun _ => ⟨hbb, rfl, hc, hx⟩, fun e => absurd hbb e, fun e => absurd hbb e, fun e => ?_, .inl hin.ended⟩
  have e' : ((s.t q).ses n).came = true := e
  rw [hc] at e'; cases e'
 ·rw [hs] at hl'
  rw [(join_kept s x h3).2.2] at hm
  exact h.apart q n q' n' hq hn h1 h2 h3 l hl' m hm
theorem SOk.admitD {s : PS} {ps : Nat → Pd} {vals : Nat → Int} (h : SOk s ps vals) {q n : Nat} (hq : q < 32) (hn : n < 4) (hw : n ∈ (s.t q).queue) (hh : s.hindB q n = false) {P : Pd} (hP : P.live = true) (hO : P.open_ = false)
  (hd : P.done = (ps (4 * q + n)).done ++ (if (s.admitT q n).2.code = 0 then [(((s.t q).ses n).req, (s.admitT q n).2.items)] else [])) : SOk (s.admitT q n).1 (updP ps (4 * q + n) P) vals := by
 obtain ⟨hb, _, hcm, hask⟩ := (h.ses q n hq hn).que hw
 have hin := (h.ses q n hq hn).beg hb
 have A := admit_core h hq hn hw hh
 have hF := h.fit.admitT hq hw
 have hD := h.dm.admitT hq n
 obtain ⟨m1, m2, m3⟩ := A.more hask (h.dm q hq n).2 hin hcm
 rw [← hd] at m1 m2
 generalize (s.admitT q n).2 = an at *
 generalize (s.admitT q n).1 = s2 at *
 have hcm2 : ((s2.t q).ses n).came = false := by rw [A.came]; exact hcm
 have hpe : pend ((s2.t q).ses n) P = [] := pend_no _ hcm2
 refine h.turn hq hn hF hD (fun q' _ => A.items q') A.kept ?_ (A.apart h hq hn)
 rw [A.beg]
 refine ⟨fun _ => ⟨by rw [A.ended]; exact hin.ended, hP, ⟨fun e => ?_, fun e => ?_⟩, by rw [hpe, List.append_nil]; exact m1, by rw [hpe, List.append_nil]; exact m2, m3, A.left⟩, fun e => absurd e A.que, fun e => absurd hb e, fun e => absurd hb e, fun e => ?_, by rw [A.ended]; exact .inl hin.ended⟩
 ·rw [hO] at e; cases e
 ·rcases e with e | e
  ·exact absurd e A.que
  ·rw [hcm2] at e; cases e
 ·rw [hcm2] at e; cases e
theorem SOk.grantD {s : PS} {ps : Nat → Pd} {vals : Nat → Int} (h : SOk s ps vals) {q n : Nat} (hq : q < 32) (hn : n < 4) {x : Stp} (hx : Asked x) (hg : lkGood q (lkOf x)) (hb : n ∈ (s.t q).begun) (hw : ¬ n ∈ (s.t q).queue) (hc : ((s.t q).ses n).came = false)
  (hcov : ((s.t q).ses n).covB (lkOf x) = true) :
  (s.grantT q n x).2.why = 0 ∧ ((s.grantT q n x).2.code = 0 ∨ ((s.grantT q n x).2.code = 4 ∧ (s.grantT q n x).2.items = [])) ∧
  SOk (s.grantT q n x).1 (updP ps (4 * q + n) { ps (4 * q + n) with done := (ps (4 * q + n)).done ++ (if (s.grantT q n x).2.code = 0 then [(x, (s.grantT q n x).2.items)] else []) }) vals := by
 have hin := (h.ses q n hq hn).beg hb
 obtain ⟨W, e1, e2, e3, e4, e5⟩ := grant_core (s := s) (q := q) (n := n) (x := x) (vals := vals) hq hx hg h.val h.nn hin.left
 have hF := h.fit.grantT (n := n) hq x
 have hD := h.dm.grantT hq n x
 obtain ⟨lc, hlc, hcv⟩ := List.any_eq_true.1 hcov
 unfold Lk.covB sameL at hcv
 simp only [Bool.and_eq_true, Bool.or_eq_true, decide_eq_true_eq, Bool.not_eq_true'] at hcv
 obtain ⟨⟨c1, c2⟩, c3, c4, c5⟩ := hcv
 have cat : lc.at_ = x.at_ := Prod.ext c1 c2
 generalize (s.grantT q n x).2 = an at *
 rw [e1] at hF hD ⊢
 have hs := setS_ses s q n { (s.t q).ses n with wr := W }
 have hgood := hin.good
 have hrd := hin.rd
 have hopn := hin.opn
 rw [pend_no _ hc, List.append_nil] at hgood hrd
 have hcm2 : (Ses.mk ((s.t q).ses n).locks W ((s.t q).ses n).req ((s.t q).ses n).came ((s.t q).ses n).out ((s.t q).ses n).ended).came = false := hc
 refine ⟨e2, ?_, h.turn hq hn hF hD (fun q' _ => setS_items _ _ _ _ _) (fun q' n' _ _ h3 => .inl (setS_kept s _ h3)) ?_ (fun q' n' h1 h2 h3 l hl m hm => ?_)⟩
 ·rcases e3 with ⟨c, _⟩ | ⟨c, i, _⟩
  ·exact .inl c
  ·exact .inr ⟨c, i⟩
 ·rw [hs, setS_begun, setS_queue]
  refine ⟨fun _ => ⟨hin.ended, hin.live, hopn, ?_, fun e he h4 h5 => ?_, fun k hk => ?_, e5⟩, fun e => absurd e hw, fun e => absurd hb e, fun e => absurd hb e, fun e => ?_, .inl hin.ended⟩
  ·rw [pend_no _ hcm2, List.append_nil]
   rcases e3 with ⟨c, g⟩ | ⟨c, _, g⟩
   ·rw [if_pos c]; exact good_snoc _ _ _ hgood g
   ·rw [if_neg (by omega), List.append_nil, g]; exact hgood
  ·rw [pend_no _ hcm2, List.append_nil] at he
   rcases List.mem_append.1 he with he | he
   ·exact hrd e he h4 h5
   ·split at he
    ·simp only [List.mem_singleton] at he
     subst he
     exact ⟨hx.facts, lc, hlc, cat, c3, c4⟩
    ·cases he
  ·rcases e4 k hk with ht | ⟨ho, rfl⟩
   ·exact hin.wrt k ht
   ·have hwr : (lkOf x).wr = true := by unfold lkOf; exact decide_eq_true ho
    have hk := hx.facts.key
    have hh : (lkOf x).hi = x.key := by unfold lkOf; simp only; rw [if_neg (by omega)]
    have hlo : (lkOf x).lo = x.key := rfl
    have hlw : lc.wr = true := by
     rcases c5 with c5 | c5
     ·exact c5
     ·rw [hwr] at c5; cases c5
    exact ⟨lc, hlc, hlw, by rw [cat]; exact hg.2.2 hwr, by omega, by omega⟩
  ·have e' : ((s.t q).ses n).came = true := e
   rw [hc] at e'; cases e'
 ·rw [hs] at hl
  rw [(setS_kept s { (s.t q).ses n with wr := W } h3).2.2] at hm
  exact h.apart q n q' n' hq hn h1 h2 h3 l hl m hm
end Go.Proofs.Ytpbcplfpjcacfaa
