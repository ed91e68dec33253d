import Derived.Test.YtpbcplfpjcacfaaSame
import Derived.Deep.RegionHeld3
import Derived.Deep.DrawnRows
namespace Go.Proofs.Ytpbcplfpjcacfaa
open Go.RowKit

/-! The document's store, as plain data, and how it lies in memory. -/
abbrev Lab := Int × Int
abbrev Wh := Int × Int × Int
def Wh.lab (x : Wh) : Lab := (x.1, x.2.1)
structure Stp where
  who : Wh
  op : Int
  at_ : Lab
  key : Int
  to_ : Int
  value : Int
structure Ans where
  code : Int
  why : Int
  items : List (Int × Int)
structure Plc where
  at_ : Lab
  key : Int
  value : Int
structure Rc where
  who : Wh
  at_ : Lab
  lo : Int
  hi : Int
  write : Bool
  waits : Bool
  came : Int
structure Tx where
  who : Wh
  nth : Int
  olds : List (Int × Int)
  puts : List Int
  step : Stp
  ready : Bool
  told : Ans
structure RS where
  k : Int
  v : Int
  c : Int
  places : List Plc
  txns : List Tx
  recs : List Rc
  ended : List (Wh × Int)
  begun : Int
  clock : Int

abbrev iV (n : Int) : Value := .int .i64 n
def labV (l : Lab) : Value := .agg #[.int .i64 l.1, .int .i64 l.2]
def whoV (x : Wh) : Value := .agg #[.int .i64 x.1, .int .i64 x.2.1, .int .i64 x.2.2]
def placeC (p : Plc) : List Value := [.int .i64 p.at_.1, .int .i64 p.at_.2, .int .i64 p.key, .int .i64 p.value]
def recC (r : Rc) : List Value := [.int .i64 r.who.1, .int .i64 r.who.2.1, .int .i64 r.who.2.2, .int .i64 r.at_.1, .int .i64 r.at_.2, .int .i64 r.lo, .int .i64 r.hi, .bool r.write, .bool r.waits, .int .i64 r.came]
def endC (x : Wh × Int) : List Value := [.int .i64 x.1.1, .int .i64 x.1.2.1, .int .i64 x.1.2.2, .int .i64 x.2]
def stepC (x : Stp) : List Value := [.int .i64 x.who.1, .int .i64 x.who.2.1, .int .i64 x.who.2.2, .int .i64 x.op, .int .i64 x.at_.1, .int .i64 x.at_.2, .int .i64 x.key, .int .i64 x.to_, .int .i64 x.value]
abbrev Gh := Wh → Value × Value × Value
def txnC (g : Gh) (t : Tx) : List Value :=
  [.int .i64 t.who.1, .int .i64 t.who.2.1, .int .i64 t.who.2.2, .int .i64 t.nth, (g t.who).1, (g t.who).2.1] ++ stepC t.step ++ [.bool t.ready, .int .i64 t.told.code, .int .i64 t.told.why, (g t.who).2.2]

abbrev Tag := Nat × Wh
abbrev Own := Nat → Option Tag
/-- A slice of whatever elements, in a block of its own that bears this tag. -/
def Row {α : Type} (w : World) (own : Own) (tag : Tag) (e size : Nat) (v : Value) (l : List α) (f : α → List Value) : Prop :=
  w.ownsRow 0 e size v l.length (l.flatMap f) ∧ ∀ b, v.ownBlock = some b → own b = some tag

structure Mem (w : World) (r : Nat) (st : RS) (own : Own) (g : Gh) (vp vt vr ve : Value) : Prop where
  root : w.heap[r]? = some (.cells #[.int .i64 st.k, .int .i64 st.v, .int .i64 st.c, vp, vt, vr, ve, .int .i64 st.begun, .int .i64 st.clock] 106 (0, 0))
  rootTag : own r = some (1, 0, 0, 0)
  places : Row w own (2, 0, 0, 0) 183 4 vp st.places placeC
  txns : Row w own (3, 0, 0, 0) 162 19 vt st.txns (txnC g)
  recs : Row w own (4, 0, 0, 0) 108 10 vr st.recs recC
  ended : Row w own (5, 0, 0, 0) 173 4 ve st.ended endC
  olds : ∀ t ∈ st.txns, Row w own (6, t.who) 171 2 (g t.who).1 t.olds itemV
  puts : ∀ t ∈ st.txns, Row w own (7, t.who) 3 1 (g t.who).2.1 t.puts (fun n => [.int .i64 n])
  told : ∀ t ∈ st.txns, t.ready = true → Row w own (8, t.who) 94 2 (g t.who).2.2 t.told.items itemV
  toldV : ∀ t ∈ st.txns, (g t.who).2.2.oneCell' = true
  old : ∀ k, own k ≠ none → k < w.heap.size
def Rep (w : World) (r : Nat) (st : RS) (own : Own) : Prop := ∃ g vp vt vr ve, Mem w r st own g vp vt vr ve

theorem flatMap_len {α : Type} (f : α → List Value) (size : Nat) : ∀ l : List α, (∀ x, (f x).length = size) → (l.flatMap f).length = l.length * size
  | [], _ => by simp
  | a :: l, h => by rw [List.flatMap_cons, List.length_append, flatMap_len f size l h, h a, List.length_cons, Nat.add_mul]; omega
theorem flatMap_get {α : Type} (f : α → List Value) (size : Nat) (h : ∀ x, (f x).length = size) : ∀ (l : List α) (k j : Nat) (x : α), l[k]? = some x → j < size → (l.flatMap f)[k * size + j]? = (f x)[j]?
  | [], k, j, x, hx, _ => by simp at hx
  | a :: l, 0, j, x, hx, hj => by
    simp at hx; subst hx
    rw [List.flatMap_cons, List.getElem?_append_left (by rw [h]; omega)]; simp
  | a :: l, k + 1, j, x, hx, hj => by
    have hx' : l[k]? = some x := by simpa using hx
    rw [List.flatMap_cons, List.getElem?_append_right (by rw [h, Nat.add_mul]; omega), h, show (k + 1) * size + j - size = k * size + j by rw [Nat.add_mul]; omega]
    exact flatMap_get f size h l k j x hx' hj
/-- An element of a row: the slice's form, and the element's cells. -/
theorem Row.at {α : Type} {w : World} {own : Own} {tag : Tag} {e size : Nat} {v : Value} {l : List α} {f : α → List Value} (h : Row w own tag e size v l f) (hf : ∀ x, (f x).length = size) :
    (l = [] ∧ v = .slice none 0 0) ∨ ∃ b cap, v = .slice (some ⟨b, 0, none⟩) l.length cap ∧ own b = some tag ∧ b < w.heap.size ∧ l.length ≤ maxLen ∧ (∀ k x, l[k]? = some x → w.rangeAt b (k * size) (f x)) ∧ ∀ j, w.frozen? ⟨b, j, none⟩ = false := by
  obtain ⟨⟨hlen, hv⟩, ht⟩ := h
  rcases hv with ⟨rfl, hn⟩ | ⟨b, cap, cur, rfl, _, hg, hnc, hm, hcs, htk⟩
  · left; exact ⟨List.eq_nil_of_length_eq_zero hn, rfl⟩
  · right
    refine ⟨b, cap, rfl, ht b rfl, (Array.getElem?_eq_some_iff.1 hg).1, by omega, ?_, fun j => frozen_of_row w b j cur e hg⟩
    intro k x hx j u hj
    have hj' : j < size := by rw [← hf x]; exact (List.getElem?_eq_some_iff.1 hj).1
    have hk : k < l.length := (List.getElem?_eq_some_iff.1 hx).1
    have hkj : k * size + j < l.length * size := by
      have : (k + 1) * size ≤ l.length * size := Nat.mul_le_mul_right _ hk
      rw [Nat.add_mul] at this; omega
    rw [cell_of_row w b _ cur e (0, 0) hg]
    have := flatMap_get f size hf l k j x hx hj'
    rw [← htk, List.getElem?_take_of_lt hkj, hj] at this
    simpa using this
/-- The same, whether or not there is an element. -/
theorem Row.form {α : Type} {w : World} {own : Own} {tag : Tag} {e size : Nat} {v : Value} {l : List α} {f : α → List Value} (h : Row w own tag e size v l f) (hf : ∀ x, (f x).length = size) :
    ∃ ao cap, v = .slice ao l.length cap ∧ l.length ≤ maxLen ∧ ∀ k x, l[k]? = some x → ∃ b, ao = some ⟨b, 0, none⟩ ∧ own b = some tag ∧ b < w.heap.size ∧ w.rangeAt b (k * size) (f x) ∧ ∀ j, w.frozen? ⟨b, j, none⟩ = false := by
  rcases h.at hf with ⟨rfl, rfl⟩ | ⟨b, cap, rfl, ht, hb, hm, hc, hz⟩
  · exact ⟨_, _, rfl, Nat.zero_le _, fun k x hx => by simp at hx⟩
  · exact ⟨_, _, rfl, hm, fun k x hx => ⟨b, rfl, ht, hb, hc k x hx, hz⟩⟩
theorem rangeAt_below {w w' : World} {B b o : Nat} {cs : List Value} (h : w.rangeAt b o cs) (hb : Below B w w') (hlt : b < B) : w'.rangeAt b o cs := fun j u hj => (hb.cell (p := ⟨b, o + j, none⟩) hlt).trans (h j u hj)
theorem root_cell {w : World} {r : Nat} {C : Array Value} {t : Nat} (h : w.heap[r]? = some (.cells C t (0, 0))) (j : Nat) : w.cell? ⟨r, j, none⟩ = C[j]? := cell_of_row w r j C t (0, 0) h
theorem len_txnC (g : Gh) (t : Tx) : (txnC g t).length = 19 := by simp [txnC, stepC]
theorem len_recC (r : Rc) : (recC r).length = 10 := rfl
theorem len_placeC (p : Plc) : (placeC p).length = 4 := rfl
theorem len_endC (x : Wh × Int) : (endC x).length = 4 := rfl
theorem len_itemC (x : Int × Int) : (itemV x).length = 2 := rfl

/-- Nothing of the store has turned. -/
theorem Row.below {α : Type} {w w' : World} {own : Own} {tag : Tag} {e size : Nat} {v : Value} {l : List α} {f : α → List Value} (h : Row w own tag e size v l f) (hb : Below w.heap.size w w') : Row w' own tag e size v l f :=
  ⟨h.1.kept (row := none) ⟨hb.os, hb.tape, hb.output, hb.size, fun k hk _ => hb.block k hk⟩ (by cases hv : v.ownBlock <;> simp), h.2⟩
theorem Mem.below {w w' : World} {r : Nat} {st : RS} {own : Own} {g : Gh} {vp vt vr ve : Value} (h : Mem w r st own g vp vt vr ve) (hb : Below w.heap.size w w') : Mem w' r st own g vp vt vr ve where
  root := by rw [hb.block r (h.old r (by rw [h.rootTag]; simp))]; exact h.root
  rootTag := h.rootTag
  places := h.places.below hb
  txns := h.txns.below hb
  recs := h.recs.below hb
  ended := h.ended.below hb
  olds := fun t ht => (h.olds t ht).below hb
  puts := fun t ht => (h.puts t ht).below hb
  told := fun t ht hr => (h.told t ht hr).below hb
  toldV := h.toldV
  old := fun k hk => Nat.lt_of_lt_of_le (h.old k hk) hb.size
theorem Rep.below {w w' : World} {r : Nat} {st : RS} {own : Own} (h : Rep w r st own) (hb : Below w.heap.size w w') : Rep w' r st own := by
  obtain ⟨g, vp, vt, vr, ve, m⟩ := h
  exact ⟨g, vp, vt, vr, ve, m.below hb⟩
/-! A region that draws its order, whose operations read and whose callees read or make memory: walked once, in the order of the text: the class of worlds in which nothing that was there has turned. -/
structure Kin (W : World) where
  w : World
  h : Below W.heap.size W w
theorem kin_some (W : World) : Nonempty (Kin W) := ⟨⟨W, Below.refl _ _⟩⟩
theorem kin_cell {W : World} {p : Addr} {v : Value} (h : W.cell? p = some v) : ∀ x : Kin W, x.w.cell? p = some v := fun x => cell_later x.h h
theorem wp_region_kin {P : Program} {id : Nat} {Q : Exit → Act → World → Prop} {a : Act} {W : World} {l : List Oper} (hm : P.follows .mixedOrders = true) (hB : Region.lexB .any l.toArray = true)
    (h : wpQuiet P l.toArray (fun w' => ∃ x : Kin W, w' = x.w) (fun a' => ∀ w', (∃ x : Kin W, w' = x.w) → Q .normal a' w') l a) : (Code.region id l.toArray true).wp P Q a W :=
  wp_region_quiet (C := fun w' => ∃ x : Kin W, w' = x.w) hm hB ⟨⟨W.drew, (Below.refl _ _).drew⟩, rfl⟩ (by simpa using h)
theorem Calls.kin {P : Program} {f : FuncId} {args : Array Value} {W : World} {x : Kin W} {v : Value}
    (h : Calls P f args x.w fun e w' => e = .returned v ∧ Below x.w.heap.size x.w w') : Calls P f args x.w fun e w'' => e = .returned v ∧ ∃ y : Kin W, w'' = y.w :=
  h.mono fun _ w' ⟨he, hb⟩ => ⟨he, ⟨w', x.h.trans (hb.mono x.h.size)⟩, rfl⟩
theorem ownsRow_lower {w : World} {B B' e size : Nat} {v : Value} {n : Nat} {xs : List Value} (h : w.ownsRow B e size v n xs) (hB : B' ≤ B) : w.ownsRow B' e size v n xs := by
  obtain ⟨hl, ho⟩ := h
  refine ⟨hl, ?_⟩
  rcases ho with h | ⟨b, c, d, e1, e2, e3⟩
  · exact .inl h
  · exact .inr ⟨b, c, d, e1, by omega, e3⟩
theorem ownsRow_below {w w' : World} {B e size : Nat} {v : Value} {n : Nat} {xs : List Value} (h : w.ownsRow B e size v n xs) (hb : Below w.heap.size w w') : w'.ownsRow B e size v n xs :=
  h.kept (row := none) ⟨hb.os, hb.tape, hb.output, hb.size, fun k hk _ => hb.block k hk⟩ (by cases hv : v.ownBlock <;> simp)
end Go.Proofs.Ytpbcplfpjcacfaa
