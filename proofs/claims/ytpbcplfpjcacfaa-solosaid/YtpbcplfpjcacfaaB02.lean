import Derived.Deep.RegionHeld3
import Derived.Deep.DrawnRows
import Derived.Deep.AppendLies
import Derived.Test.YtpbcplfpjcacfaaB01
namespace Go.Proofs.Ytpbcplfpjcacfaa
open Go.RowKit
set_option maxRecDepth 100000
set_option maxHeartbeats 8000000
abbrev Lab := Int × Int
abbrev Wh := Int × Int × Int
def Wh.lab (x : Wh) : Lab := (x.1, x.2.1)
structure Stp where
 who : Wh
 op : Int
 at_ : Lab
 key : Int
 to_ : Int
 value : Int
structure Ans where
 code : Int
 why : Int
 items : List (Int × Int)
structure Plc where
 at_ : Lab
 key : Int
 value : Int
structure Rc where
 who : Wh
 at_ : Lab
 lo : Int
 hi : Int
 write : Bool
 waits : Bool
 came : Int
structure Tx where
 who : Wh
 nth : Int
 olds : List (Int × Int)
 puts : List Int
 step : Stp
 ready : Bool
 told : Ans
structure RS where
 k : Int
 v : Int
 c : Int
 places : List Plc
 txns : List Tx
 recs : List Rc
 ended : List (Wh × Int)
 begun : Int
 clock : Int
def placeC (p : Plc) : List Value := [.int .i64 p.at_.1, .int .i64 p.at_.2, .int .i64 p.key, .int .i64 p.value]
def recC (r : Rc) : List Value := [.int .i64 r.who.1, .int .i64 r.who.2.1, .int .i64 r.who.2.2, .int .i64 r.at_.1, .int .i64 r.at_.2, .int .i64 r.lo, .int .i64 r.hi, .bool r.write, .bool r.waits, .int .i64 r.came]
def endC (x : Wh × Int) : List Value := [.int .i64 x.1.1, .int .i64 x.1.2.1, .int .i64 x.1.2.2, .int .i64 x.2]
def stepC (x : Stp) : List Value := [.int .i64 x.who.1, .int .i64 x.who.2.1, .int .i64 x.who.2.2, .int .i64 x.op, .int .i64 x.at_.1, .int .i64 x.at_.2, .int .i64 x.key, .int .i64 x.to_, .int .i64 x.value]
abbrev Gh := Wh → Value × Value × Value
def txnC (g : Gh) (t : Tx) : List Value :=
 [.int .i64 t.who.1, .int .i64 t.who.2.1, .int .i64 t.who.2.2, .int .i64 t.nth, (g t.who).1, (g t.who).2.1] ++ stepC t.step ++ [.bool t.ready, .int .i64 t.told.code, .int .i64 t.told.why, (g t.who).2.2]
abbrev Tag := Nat × Wh
abbrev Own := Nat → Option Tag
def Row {α : Type} (w : World) (own : Own) (tag : Tag) (e size : Nat) (v : Value) (l : List α) (f : α → List Value) : Prop :=
 w.ownsRow 0 e size v l.length (l.flatMap f) ∧ ∀ b, v.ownBlock = some b → own b = some tag
structure Mem (w : World) (r : Nat) (st : RS) (own : Own) (g : Gh) (vp vt vr ve : Value) : Prop where
 root : w.heap[r]? = some (.cells #[.int .i64 st.k, .int .i64 st.v, .int .i64 st.c, vp, vt, vr, ve, .int .i64 st.begun, .int .i64 st.clock] 106 (0, 0))
 rootTag : own r = some (1, 0, 0, 0)
 places : Row w own (2, 0, 0, 0) 183 4 vp st.places placeC
 txns : Row w own (3, 0, 0, 0) 162 19 vt st.txns (txnC g)
 recs : Row w own (4, 0, 0, 0) 108 10 vr st.recs recC
 ended : Row w own (5, 0, 0, 0) 173 4 ve st.ended endC
 olds : ∀ t ∈ st.txns, Row w own (6, t.who) 171 2 (g t.who).1 t.olds itemV
 puts : ∀ t ∈ st.txns, Row w own (7, t.who) 3 1 (g t.who).2.1 t.puts (fun n => [.int .i64 n])
 told : ∀ t ∈ st.txns, t.ready = true → Row w own (8, t.who) 94 2 (g t.who).2.2 t.told.items itemV
 toldV : ∀ t ∈ st.txns, (g t.who).2.2.oneCell' = true
 old : ∀ k, own k ≠ none → k < w.heap.size
def Rep (w : World) (r : Nat) (st : RS) (own : Own) : Prop := ∃ g vp vt vr ve, Mem w r st own g vp vt vr ve
theorem flatMap_len {α : Type} (f : α → List Value) (size : Nat) : ∀ l : List α, (∀ x, (f x).length = size) → (l.flatMap f).length = l.length * size
 | [], _ => by simp
 | a :: l, h => by rw [List.flatMap_cons, List.length_append, flatMap_len f size l h, h a, List.length_cons, Nat.add_mul]; omega
theorem flatMap_get {α : Type} (f : α → List Value) (size : Nat) (h : ∀ x, (f x).length = size) : ∀ (l : List α) (k j : Nat) (x : α), l[k]? = some x → j < size → (l.flatMap f)[k * size + j]? = (f x)[j]?
 | [], k, j, x, hx, _ => by simp at hx
 | a :: l, 0, j, x, hx, hj => by
  simp at hx; subst hx
  rw [List.flatMap_cons, List.getElem?_append_left (by rw [h]; omega)]; simp
 | a :: l, k + 1, j, x, hx, hj => by
  have hx' : l[k]? = some x := by simpa using hx
  rw [List.flatMap_cons, List.getElem?_append_right (by rw [h, Nat.add_mul]; omega), h, show (k + 1) * size + j - size = k * size + j by rw [Nat.add_mul]; omega]
  exact flatMap_get f size h l k j x hx' hj
theorem Row.at {α : Type} {w : World} {own : Own} {tag : Tag} {e size : Nat} {v : Value} {l : List α} {f : α → List Value} (h : Row w own tag e size v l f) (hf : ∀ x, (f x).length = size) :
  (l = [] ∧ v = .slice none 0 0) ∨ ∃ b cap, v = .slice (some ⟨b, 0, none⟩) l.length cap ∧ own b = some tag ∧ b < w.heap.size ∧ l.length ≤ maxLen ∧ (∀ k x, l[k]? = some x → w.rangeAt b (k * size) (f x)) ∧ ∀ j, w.frozen? ⟨b, j, none⟩ = false := by
 obtain ⟨⟨hlen, hv⟩, ht⟩ := h
 rcases hv with ⟨rfl, hn⟩ | ⟨b, cap, cur, rfl, _, hg, hnc, hm, hcs, htk⟩
 ·left; exact ⟨List.eq_nil_of_length_eq_zero hn, rfl⟩
 ·right
  refine ⟨b, cap, rfl, ht b rfl, (Array.getElem?_eq_some_iff.1 hg).1, by omega, ?_, fun j => frozen_of_row w b j cur e hg⟩
  intro k x hx j u hj
  have hj' : j < size := by rw [← hf x]; exact (List.getElem?_eq_some_iff.1 hj).1
  have hk : k < l.length := (List.getElem?_eq_some_iff.1 hx).1
  have hkj : k * size + j < l.length * size := by
   have : (k + 1) * size ≤ l.length * size := Nat.mul_le_mul_right _ hk
   rw [Nat.add_mul] at this; omega
  rw [cell_of_row w b _ cur e (0, 0) hg]
  have := flatMap_get f size hf l k j x hx hj'
  rw [← htk, List.getElem?_take_of_lt hkj, hj] at this
  simpa using this
theorem Row.form {α : Type} {w : World} {own : Own} {tag : Tag} {e size : Nat} {v : Value} {l : List α} {f : α → List Value} (h : Row w own tag e size v l f) (hf : ∀ x, (f x).length = size) :
  ∃ ao cap, v = .slice ao l.length cap ∧ l.length ≤ maxLen ∧ ∀ k x, l[k]? = some x → ∃ b, ao = some ⟨b, 0, none⟩ ∧ own b = some tag ∧ b < w.heap.size ∧ w.rangeAt b (k * size) (f x) ∧ ∀ j, w.frozen? ⟨b, j, none⟩ = false := by
 rcases h.at hf with ⟨rfl, rfl⟩ | ⟨b, cap, rfl, ht, hb, hm, hc, hz⟩
 ·exact ⟨_, _, rfl, Nat.zero_le _, fun k x hx => by simp at hx⟩
 ·exact ⟨_, _, rfl, hm, fun k x hx => ⟨b, rfl, ht, hb, hc k x hx, hz⟩⟩
theorem rangeAt_below {w w' : World} {B b o : Nat} {cs : List Value} (h : w.rangeAt b o cs) (hb : Below B w w') (hlt : b < B) : w'.rangeAt b o cs := fun j u hj => (hb.cell (p := ⟨b, o + j, none⟩) hlt).trans (h j u hj)
theorem len_txnC (g : Gh) (t : Tx) : (txnC g t).length = 19 := by simp [txnC, stepC]
theorem len_itemC (x : Int × Int) : (itemV x).length = 2 := rfl
theorem Row.below {α : Type} {w w' : World} {own : Own} {tag : Tag} {e size : Nat} {v : Value} {l : List α} {f : α → List Value} (h : Row w own tag e size v l f) (hb : Below w.heap.size w w') : Row w' own tag e size v l f :=
 ⟨h.1.kept (row := none) ⟨hb.os, hb.tape, hb.output, hb.size, fun k hk _ => hb.block k hk⟩ (by cases hv : v.ownBlock <;> simp), h.2⟩
theorem Mem.below {w w' : World} {r : Nat} {st : RS} {own : Own} {g : Gh} {vp vt vr ve : Value} (h : Mem w r st own g vp vt vr ve) (hb : Below w.heap.size w w') : Mem w' r st own g vp vt vr ve where
 root := by rw [hb.block r (h.old r (by rw [h.rootTag]; simp))]; exact h.root
 rootTag := h.rootTag
 places := h.places.below hb
 txns := h.txns.below hb
 recs := h.recs.below hb
 ended := h.ended.below hb
 olds := fun t ht => (h.olds t ht).below hb
 puts := fun t ht => (h.puts t ht).below hb
 told := fun t ht hr => (h.told t ht hr).below hb
 toldV := h.toldV
 old := fun k hk => Nat.lt_of_lt_of_le (h.old k hk) hb.size
theorem Rep.below {w w' : World} {r : Nat} {st : RS} {own : Own} (h : Rep w r st own) (hb : Below w.heap.size w w') : Rep w' r st own := by
 obtain ⟨g, vp, vt, vr, ve, m⟩ := h
 exact ⟨g, vp, vt, vr, ve, m.below hb⟩
structure Kin (W : World) where
 w : World
 h : Below W.heap.size W w
theorem kin_some (W : World) : Nonempty (Kin W) := ⟨⟨W, Below.refl _ _⟩⟩
theorem kin_cell {W : World} {p : Addr} {v : Value} (h : W.cell? p = some v) : ∀ x : Kin W, x.w.cell? p = some v := fun x => cell_later x.h h
theorem wp_region_kin {P : Program} {id : Nat} {Q : Exit → Act → World → Prop} {a : Act} {W : World} {l : List Oper} (hm : P.follows .mixedOrders = true) (hB : Region.lexB .any l.toArray = true)
  (h : wpQuiet P l.toArray (fun w' => ∃ x : Kin W, w' = x.w) (fun a' => ∀ w', (∃ x : Kin W, w' = x.w) → Q .normal a' w') l a) : (Code.region id l.toArray true).wp P Q a W :=
 wp_region_quiet (C := fun w' => ∃ x : Kin W, w' = x.w) hm hB ⟨⟨W.drew, (Below.refl _ _).drew⟩, rfl⟩ (by simpa using h)
theorem Calls.kin {P : Program} {f : FuncId} {args : Array Value} {W : World} {x : Kin W} {v : Value}
  (h : Calls P f args x.w fun e w' => e = .returned v ∧ Below x.w.heap.size x.w w') : Calls P f args x.w fun e w'' => e = .returned v ∧ ∃ y : Kin W, w'' = y.w :=
 h.mono fun _ w' ⟨he, hb⟩ => ⟨he, ⟨w', x.h.trans (hb.mono x.h.size)⟩, rfl⟩
theorem ownsRow_lower {w : World} {B B' e size : Nat} {v : Value} {n : Nat} {xs : List Value} (h : w.ownsRow B e size v n xs) (hB : B' ≤ B) : w.ownsRow B' e size v n xs := by
 obtain ⟨hl, ho⟩ := h
 refine ⟨hl, ?_⟩
 rcases ho with h | ⟨b, c, d, e1, e2, e3⟩
 ·exact .inl h
 ·exact .inr ⟨b, c, d, e1, by omega, e3⟩
theorem ownsRow_below {w w' : World} {B e size : Nat} {v : Value} {n : Nat} {xs : List Value} (h : w.ownsRow B e size v n xs) (hb : Below w.heap.size w w') : w'.ownsRow B e size v n xs :=
 h.kept (row := none) ⟨hb.os, hb.tape, hb.output, hb.size, fun k hk _ => hb.block k hk⟩ (by cases hv : v.ownBlock <;> simp)
end Go.Proofs.Ytpbcplfpjcacfaa
namespace Go.Proofs.Ytpbcplfpjcacfaa
open Go.RowKit
attribute [local go_sem ↓] Go.wp_at_zero Go.wp_at_succ
set_option maxRecDepth 100000
set_option maxHeartbeats 8000000
def sameW (a b c d e f : Int) : Bool := decide (a = d ∧ b = e ∧ c = f)
def liveIx (x : Wh) : List Tx → Nat → Int
 | [], _ => -1
 | t :: l, k => if t.who = x then (k : Int) else liveIx x l (k + 1)
def RS.live (st : RS) (x : Wh) : Int := liveIx x st.txns 0
theorem drop_at {α : Type} {l : List α} {k : Nat} {x : α} (h : l[k]? = some x) : l.drop k = x :: l.drop (k + 1) := by
 obtain ⟨hk, rfl⟩ := List.getElem?_eq_some_iff.1 h
 exact List.drop_eq_getElem_cons hk
theorem sameW_t {a b c d e f : Int} (h : (a, b, c) = ((d, e, f) : Wh)) : sameW a b c d e f = true := by simp at h; simp [sameW, h]
theorem sameW_f {a b c d e f : Int} (h : ¬ (a, b, c) = ((d, e, f) : Wh)) : sameW a b c d e f = false := by simp at h; simpa [sameW] using h
def valIx (a : Lab) (key : Int) : List Plc → Int
 | [] => -1
 | p :: l => if p.at_ = a ∧ p.key = key then p.value else valIx a key l
def RS.val (st : RS) (a : Lab) (key : Int) : Int := valIx a key st.places
theorem sameL_t {a b c d : Int} (h : (a, b) = ((c, d) : Lab)) : sameL a b c d = true := by simp at h; simp [sameL, h]
def oldIx (key : Int) : List (Int × Int) → Option Int
 | [] => none
 | o :: l => if o.1 = key then some o.2 else oldIx key l
def commIx (a : Lab) (key : Int) : List Tx → Option Int
 | [] => none
 | t :: l => if t.who.lab = a then (match oldIx key t.olds with | some v => some v | none => commIx a key l) else commIx a key l
def RS.comm (st : RS) (a : Lab) (key : Int) : Int := (commIx a key st.txns).getD (st.val a key)
theorem commIx_other {a : Lab} {key : Int} {t : Tx} {l : List Tx} (h : ¬ t.who.lab = a) : commIx a key (t :: l) = commIx a key l := by rw [commIx, if_neg h]
theorem commIx_none {a : Lab} {key : Int} {t : Tx} {l : List Tx} (h : oldIx key t.olds = none) : commIx a key (t :: l) = commIx a key l := by
 rw [commIx]; split
 ·rw [h]
 ·rfl
theorem commIx_some {a : Lab} {key v : Int} {t : Tx} {l : List Tx} (h : t.who.lab = a) (h2 : oldIx key t.olds = some v) : commIx a key (t :: l) = some v := by
 rw [commIx, if_pos h, h2]
end Go.Proofs.Ytpbcplfpjcacfaa
namespace Go.Proofs.Ytpbcplfpjcacfaa
open Go.RowKit
set_option maxRecDepth 100000
set_option maxHeartbeats 8000000
def lookPick (st : RS) (a : Lab) (k : Nat) : Option (Int × Int) := if 0 ≤ st.comm a k then some ((k : Int), st.comm a k) else none
def RS.lookTo (st : RS) (a : Lab) (n : Nat) : List (Int × Int) := (List.range n).filterMap (lookPick st a)
def meetB (a b : Rc) : Bool := sameL a.at_.1 a.at_.2 b.at_.1 b.at_.2 && decide (a.lo ≤ b.hi) && decide (b.lo ≤ a.hi) && (a.write || b.write)
def coverB (a b : Rc) : Bool := !a.waits && sameL a.at_.1 a.at_.2 b.at_.1 b.at_.2 && decide (a.lo ≤ b.lo) && decide (b.hi ≤ a.hi) && (a.write || !b.write)
def hindB (a r : Rc) : Bool :=
 if sameW a.who.1 a.who.2.1 a.who.2.2 r.who.1 r.who.2.1 r.who.2.2 || !sameL a.who.1 a.who.2.1 r.at_.1 r.at_.2 || !meetB a r then false
 else if !a.waits then true else sameL r.who.1 r.who.2.1 r.at_.1 r.at_.2 && decide (a.came < r.came)
theorem below2r {w : World} {o1 o2 : Obj} : Below w.heap.size w ((w.alloc o1).alloc o2) := ((Below.refl _ _).alloc (Nat.le_refl _) _).alloc (by simp) _
def RS.hindered (st : RS) (r : Rc) : Bool := st.recs.any (fun a => hindB a r)
def isWt (x : Wh) (c : Rc) : Bool := c.waits && sameW c.who.1 c.who.2.1 c.who.2.2 x.1 x.2.1 x.2.2
def RS.waitRec (st : RS) (x : Wh) : Option Rc := st.recs.find? (isWt x)
def forP (y : Wh) (q c : Rc) : Bool := sameW c.who.1 c.who.2.1 c.who.2.2 y.1 y.2.1 y.2.2 && hindB c q
def RS.waitsFor (st : RS) (x y : Wh) : Bool := match st.waitRec x with
 | none => false
 | some q => sameL q.at_.1 q.at_.2 x.1 x.2.1 && st.recs.any (forP y q)
def ansV (code why : Int) (v : Value) : Value := .agg #[.int .i64 code, .int .i64 why, v]
def inB (l : List Int) (n : Int) : Bool := l.any (fun x => x == n)
def takIx (a : Lab) (key : Int) (l : List Tx) : Bool := l.any (fun t => sameL t.who.1 t.who.2.1 a.1 a.2 && inB t.puts key)
def RS.taken (st : RS) (a : Lab) (key : Int) : Bool := decide (0 ≤ st.comm a key) || takIx a key st.txns
section
variable {P : Program} {ops : Array Oper} {Q : Exit → Act → World → Prop} {md : Region.Mode} {S : World → Prop} {z : Nat}
def wpAnyZ (P : Program) (md : Region.Mode) (ops : Array Oper) (Q : Exit → Act → World → Prop) (S : World → Prop) (z : Nat) : Nat → Array Bool → Act → World → Prop
 | 0, listed, a, w => Region.ready md ops listed = [] ∧ Q .normal a w
 | fuel + 1, listed, a, w =>
  (Region.ready md ops listed = [] → Q .normal a w) ∧
  ∀ i ∈ Region.ready md ops listed, wpOp P ops Q i (fun a' w' => (i ≠ z → S w') ∧ wpAnyZ P md ops Q S z fuel (listed.setIfInBounds i true) a' w') a w
theorem wpAny_of_Z : ∀ (fuel : Nat) (listed : Array Bool) (a : Act) (w : World), wpAnyZ P md ops Q S z fuel listed a w → wpAny P md ops Q fuel listed a w
 | 0, _, _, _, h => h
 | fuel + 1, _, _, _, h => ⟨h.1, fun i hi => wpOp_mono (fun a' w' h' => wpAny_of_Z fuel _ a' w' h'.2) (h.2 i hi)⟩
def edgeB (md : Region.Mode) (ops : Array Oper) (z i : Nat) : Bool :=
 match ops[z]? with
 | none => false
 | some oz => oz.after.any (fun e => Region.binds md e && e.on == i)
theorem edgeB_spec {i : Nat} (h : edgeB md ops z i = true) {listed : Array Bool} (hz : z ∈ Region.ready md ops listed) : listed.getD i false = true := by
 obtain ⟨_, oz, hoz, hall⟩ := mem_ready.1 hz
 unfold edgeB at h
 rw [hoz] at h
 obtain ⟨e, he, h2⟩ := Array.any_eq_true'.1 h
 simp only [Bool.and_eq_true, beq_iff_eq] at h2
 have := hall e he h2.1
 rw [h2.2] at this
 exact this
theorem wpAnyZ_first {i : Nat} (hlast : edgeB md ops z i = true) {oi : Oper} {v : Value} (hi : ops[i]? = some oi) (hsel : ∀ (j : Nat) (o : Oper) cs b, ops[j]? = some o → o.op ≠ .select cs b)
  (hQ : ∀ c a w, Q (.panic c) (a.put oi.dst v) w → Q (.panic c) a w) :
  ∀ (fuel : Nat) (listed : Array Bool) (a : Act) (w : World),
   (∀ j oj, ops[j]? = some oj → j ≠ i → listed.getD j true = false → (∀ e ∈ oj.after, Region.binds md e = true → e.on ≠ i) → oi.apart ops oj = true) →
   i ∈ Region.ready md ops listed → YieldsIf P ops S oi v a → S w →
   wpAnyZ P md ops Q S z fuel (listed.setIfInBounds i true) (a.put oi.dst v) w → wpAnyZ P md ops Q S z (fuel + 1) listed a w := by
 intro fuel
 induction fuel with
 | zero =>
  intro listed a w _ hr hy hS H
  refine ⟨fun h => (by rw [h] at hr; cases hr), fun j hj => ?_⟩
  by_cases hji : j = i
  ·subst hji; exact hy.wpOp hi hS ⟨fun _ => hS, H⟩
  ·have := ready_mono hj hji
   rw [H.1] at this
   cases this
 | succ fuel ih =>
  intro listed a w hfree hr hy hS H
  refine ⟨fun h => (by rw [h] at hr; cases hr), fun j hj => ?_⟩
  by_cases hji : j = i
  ·subst hji; exact hy.wpOp hi hS ⟨fun _ => hS, H⟩
  ·have h1 := H.2 j (ready_mono hj hji)
   obtain ⟨hjun, oj, hoj, hall⟩ := mem_ready.1 hj
   have hjz : j ≠ z := fun e => by
    subst e
    have h2 := edgeB_spec hlast hj
    have h0 := (mem_ready.1 hr).1
    rcases Nat.lt_or_ge i listed.size with h' | h'
    ·simp [h'] at h0 h2; rw [h0] at h2; cases h2
    ·simp [Array.getElem?_eq_none h'] at h2
   have hnot : ∀ e ∈ oj.after, Region.binds md e = true → e.on ≠ i := fun e he hb heq => by
    have h1 := hall e he hb
    have h0 := (mem_ready.1 hr).1
    rw [heq] at h1
    rcases Nat.lt_or_ge i listed.size with h' | h'
    ·simp [h'] at h0 h1; rw [h0] at h1; cases h1
    ·simp [Array.getElem?_eq_none h'] at h1
   have h2 := wpOp_putIf hoj (hfree j oj hoj hji hjun hnot) (fun cs b => hsel i oi cs b hi) (fun cs b => hsel j oj cs b hoj) hQ hy h1
   have hfree' : ∀ k ok, ops[k]? = some ok → k ≠ i → (listed.setIfInBounds j true).getD k true = false →
     (∀ e ∈ ok.after, Region.binds md e = true → e.on ≠ i) → oi.apart ops ok = true := fun k ok hk hki hun hno => by
    refine hfree k ok hk hki ?_ hno
    by_cases hjk : j = k
    ·subst hjk; exact hjun
    ·rw [getD_set_ne true hjk] at hun; exact hun
   refine wpOp_mono (fun a' w' h3 => ⟨h3.2.1, ih (listed.setIfInBounds j true) a' w' hfree' (ready_mono hr (Ne.symm hji)) h3.1 (h3.2.1 hjz) ?_⟩) h2
   rw [Array.setIfInBounds_comm _ _ hji]
   exact h3.2.2
theorem wpAnyZ_take {i : Nat} (hlast : edgeB md ops z i = true) {oi : Oper} {v : Value} {fuel : Nat} {listed : Array Bool} {a : Act} {w : World} (hi : ops[i]? = some oi)
  (hs : Region.noSelect ops = true) (hf : Region.free md ops listed i = true) (hr : (Region.ready md ops listed).contains i = true)
  (hQ : ∀ c a w, Q (.panic c) (a.put oi.dst v) w → Q (.panic c) a w) (hS : S w) (hy : YieldsIf P ops S oi v a)
  (h : wpAnyZ P md ops Q S z fuel (listed.setIfInBounds i true) (a.put oi.dst v) w) : wpAnyZ P md ops Q S z (fuel + 1) listed a w :=
 wpAnyZ_first hlast hi (Region.noSelect_spec hs) hQ fuel listed a w (Region.free_spec hi hf) (by simpa using hr) hy hS h
theorem zT {i : Nat} {oi : Oper} {v : Value} {fuel : Nat} {listed : Array Bool} {a : Act} {w : World} (hb : (edgeB md ops z i && (Region.noSelect ops && (Region.free md ops listed i && (Region.ready md ops listed).contains i))) = true) (hi : ops[i]? = some oi)
  (hQ : ∀ c a w, Q (.panic c) (a.put oi.dst v) w → Q (.panic c) a w) (hS : S w) (hy : YieldsIf P ops S oi v a)
  (h : wpAnyZ P md ops Q S z fuel (listed.setIfInBounds i true) (a.put oi.dst v) w) : wpAnyZ P md ops Q S z (fuel + 1) listed a w := by
 simp only [Bool.and_eq_true] at hb
 exact wpAnyZ_take hb.1 hi hb.2.1 hb.2.2.1 hb.2.2.2 hQ hS hy h
theorem z1 {α : Type} {xs : List α} {i : Nat} (h : i < xs.toArray.size) : xs.toArray[i] = xs[i]'(by simpa using h) := rfl
theorem z2 {α : Type} {a : α} {bs : List α} (h : 0 < (a :: bs).length) : (a :: bs)[0] = a := rfl
theorem z3 {α : Type} {a : α} {bs : List α} {i : Nat} (h : i + 1 < (a :: bs).length) : (a :: bs)[i + 1] = bs[i]'(by simpa using h) := rfl
theorem z4 {α : Type} {l : List α} {i : Nat} {a : α} : l.toArray.setIfInBounds i a = (l.set i a).toArray := by simp
theorem z5 {α : Type} {a b : α} {bs : List α} : (a :: bs).set 0 b = b :: bs := rfl
theorem z6 {α : Type} {a b : α} {bs : List α} {i : Nat} : (a :: bs).set (i + 1) b = a :: bs.set i b := rfl
theorem wpAnyZ_one {i : Nat} {o : Oper} {fuel : Nat} {listed : Array Bool} {a : Act} {w : World} (hr : Region.ready md ops listed = [i]) (ho : ops[i]? = some o)
  (h : ∀ K' : Act → World → Prop, Shut (∀ a w, (i ≠ z → S w) → wpAnyZ P md ops Q S z fuel (listed.setIfInBounds i true) a w → K' a w) → if Region.wanted o (yielded ops a.tmps) = true then Oper.wp P o a w K' Q else K' (a.put o.dst undef) w) :
  wpAnyZ P md ops Q S z (fuel + 1) listed a w :=
 ⟨fun h0 => by (rw [hr] at h0; cases h0), fun j hj => by
  rw [hr] at hj
  rcases List.mem_cons.1 hj with rfl | hj
  ·exact wpOp_step ho (fun K' hK => h K' (fun a w hS hW => hK a w ⟨hS, hW⟩))
  ·cases hj⟩
theorem wpAnyZ_done {listed : Array Bool} {a : Act} {w : World} (hr : Region.ready md ops listed = []) (h : Q .normal a w) :
  ∀ fuel, wpAnyZ P md ops Q S z fuel listed a w
 | 0 => ⟨hr, h⟩
 | _ + 1 => ⟨fun _ => h, by rw [hr]; simp⟩
theorem wp_region_Z {id : Nat} {a : Act} {w : World} (hm : P.follows .mixedOrders = true)
  (h : wpAnyZ P .any ops Q S z ops.size (Array.replicate ops.size false) a w.drew) : (Code.region id ops true).wp P Q a w :=
 wp_region_any hm (wpAny_of_Z _ _ _ _ h)
end
end Go.Proofs.Ytpbcplfpjcacfaa
