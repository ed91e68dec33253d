import Derived.Test.YtpbcplfpjcacfaaS08
namespace Go.Proofs.Ytpbcplfpjcacfaa
open Go.RowKit
set_option maxRecDepth 100000
set_option maxHeartbeats 8000000
def ownNew (own : Own) (v : Value) (t : Tag) : Own := fun b => if v.ownBlock = some b then some t else own b
theorem new_root {wE w2 : World} {own : Own} {r j ty e size n : Nat} {v : Value} {t0 : Tag} {xs : List Value} {C : Array Value}
  (hroot : wE.heap[r]? = some (.cells C ty (0, 0))) (hrt : own r = some (1, 0, 0, 0)) (hold : ∀ k, own k ≠ none → k < wE.heap.size)
  (hb : Below wE.heap.size wE w2) (hown : w2.ownsRow wE.heap.size e size v n xs) :
  Chg own wE (w2.setCell ⟨r, j, none⟩ v) (ownNew own v t0) ∧
  (∀ b t, own b = some t → t ≠ (1, 0, 0, 0) → (w2.setCell ⟨r, j, none⟩ v).heap[b]? = wE.heap[b]?) ∧
  (w2.setCell ⟨r, j, none⟩ v).heap[r]? = some (.cells (C.setIfInBounds j v) ty (0, 0)) ∧
  ((w2.setCell ⟨r, j, none⟩ v).ownsRow 0 e size v n xs ∧ ∀ b, v.ownBlock = some b → ownNew own v t0 b = some t0) ∧
  (∀ k, ownNew own v t0 k ≠ none → k < (w2.setCell ⟨r, j, none⟩ v).heap.size) := by
 have hrlt : r < wE.heap.size := (Array.getElem?_eq_some_iff.1 hroot).1
 have hge : ∀ b, v.ownBlock = some b → wE.heap.size ≤ b ∧ b < w2.heap.size := fun b h => hown.lt b h
 have hext : ∀ k t, own k = some t → ownNew own v t0 k = some t := by
  intro k t hk
  unfold ownNew
  split
  ·rename_i h; have := (hge k h).1; have := hold k (by rw [hk]; simp); omega
  ·exact hk
 refine ⟨⟨?_, ?_, ?_, ?_, ?_, hext, ?_⟩, ?_, ?_, ⟨?_, ?_⟩, ?_⟩
 ·exact hb.os
 ·exact hb.tape
 ·exact hb.output
 ·simpa using hb.size
 ·intro k hk hn
  rw [heap_setCell_ne _ _ _ _ _ (fun e => by rw [e, hrt] at hn; cases hn)]
  exact hb.block k hk
 ·intro k hk
  unfold ownNew at hk
  split at hk
  ·rename_i h; exact .inr (hge k h).1
  ·exact .inl hk
 ·intro b t h1 h2
  rw [heap_setCell_ne _ _ _ _ _ (fun e => by rw [e, hrt] at h1; exact h2 (Option.some.inj h1).symm)]
  exact hb.block b (hold b (by rw [h1]; simp))
 ·exact heap_setCell_same w2 r j C ty v (by rw [hb.block r hrlt]; exact hroot)
 ·obtain ⟨hl, ho⟩ := hown
  refine ⟨hl, ?_⟩
  rcases ho with h | ⟨b, c, d, e1, e2, e3, e4⟩
  ·exact .inl h
  ·exact .inr ⟨b, c, d, e1, Nat.zero_le _, by rw [heap_setCell_ne _ _ _ _ _ (by omega)]; exact e3, e4⟩
 ·intro b h
  simp [ownNew, h]
 ·intro k hk
  unfold ownNew at hk
  split at hk
  ·rename_i h; have := (hge k h).2; simpa using this
  ·have := hold k hk; have := hb.size; simp; omega
theorem Mem.txns_new {wE w2 : World} {r : Nat} {st : RS} {own : Own} {g : Gh} {vp vt vr ve v : Value} {l : List Tx} (P : Mem wE r st own g vp vt vr ve) (hl : ∀ t ∈ l, t ∈ st.txns)
  (hb : Below wE.heap.size wE w2) (hown : w2.ownsRow wE.heap.size 162 19 v l.length (l.flatMap (txnC g))) :
  Mem (w2.setCell ⟨r, 4, none⟩ v) r { st with txns := l } (ownNew own v (3, 0, 0, 0)) g vp v vr ve ∧ Chg own wE (w2.setCell ⟨r, 4, none⟩ v) (ownNew own v (3, 0, 0, 0)) ∧
   (∀ b t, own b = some t → t ≠ (1, 0, 0, 0) → (w2.setCell ⟨r, 4, none⟩ v).heap[b]? = wE.heap[b]?) := by
 obtain ⟨hchg, hkeep, hroot', hrow', hold'⟩ := new_root (j := 4) (t0 := (3, 0, 0, 0)) P.root P.rootTag P.old hb hown
 refine ⟨?_, hchg, hkeep⟩
 exact {
  root := by simpa using hroot'
  rootTag := hchg.ext _ _ P.rootTag
  places := P.places.frame (fun b hb => hkeep b _ hb (by decide)) (fun b hb => hchg.ext b _ hb)
  txns := hrow'
  recs := P.recs.frame (fun b hb => hkeep b _ hb (by decide)) (fun b hb => hchg.ext b _ hb)
  ended := P.ended.frame (fun b hb => hkeep b _ hb (by decide)) (fun b hb => hchg.ext b _ hb)
  olds := fun t ht => (P.olds t (hl t ht)).frame (fun b hb => hkeep b _ hb (by intro h; cases h)) (fun b hb => hchg.ext b _ hb)
  puts := fun t ht => (P.puts t (hl t ht)).frame (fun b hb => hkeep b _ hb (by intro h; cases h)) (fun b hb => hchg.ext b _ hb)
  told := fun t ht hr => (P.told t (hl t ht) hr).frame (fun b hb => hkeep b _ hb (by intro h; cases h)) (fun b hb => hchg.ext b _ hb)
  toldV := fun t ht => P.toldV t (hl t ht)
  old := hold' }
theorem Mem.recs_new {wE w2 : World} {r : Nat} {st : RS} {own : Own} {g : Gh} {vp vt vr ve v : Value} {l : List Rc} (P : Mem wE r st own g vp vt vr ve)
  (hb : Below wE.heap.size wE w2) (hown : w2.ownsRow wE.heap.size 108 10 v l.length (l.flatMap recC)) :
  Mem (w2.setCell ⟨r, 5, none⟩ v) r { st with recs := l } (ownNew own v (4, 0, 0, 0)) g vp vt v ve ∧ Chg own wE (w2.setCell ⟨r, 5, none⟩ v) (ownNew own v (4, 0, 0, 0)) ∧
   (∀ b t, own b = some t → t ≠ (1, 0, 0, 0) → (w2.setCell ⟨r, 5, none⟩ v).heap[b]? = wE.heap[b]?) := by
 obtain ⟨hchg, hkeep, hroot', hrow', hold'⟩ := new_root (j := 5) (t0 := (4, 0, 0, 0)) P.root P.rootTag P.old hb hown
 refine ⟨?_, hchg, hkeep⟩
 exact {
  root := by simpa using hroot'
  rootTag := hchg.ext _ _ P.rootTag
  places := P.places.frame (fun b hb => hkeep b _ hb (by decide)) (fun b hb => hchg.ext b _ hb)
  txns := P.txns.frame (fun b hb => hkeep b _ hb (by decide)) (fun b hb => hchg.ext b _ hb)
  recs := hrow'
  ended := P.ended.frame (fun b hb => hkeep b _ hb (by decide)) (fun b hb => hchg.ext b _ hb)
  olds := fun t ht => (P.olds t ht).frame (fun b hb => hkeep b _ hb (by intro h; cases h)) (fun b hb => hchg.ext b _ hb)
  puts := fun t ht => (P.puts t ht).frame (fun b hb => hkeep b _ hb (by intro h; cases h)) (fun b hb => hchg.ext b _ hb)
  told := fun t ht hr => (P.told t ht hr).frame (fun b hb => hkeep b _ hb (by intro h; cases h)) (fun b hb => hchg.ext b _ hb)
  toldV := P.toldV
  old := hold' }
theorem Mem.ended_app {wr W w1 : World} {r : Nat} {st : RS} {own : Own} {g : Gh} {vp vt vr : Value} {ao : Option Addr} {cap gg cap' H : Nat} {x : Wh × Int}
  (P : Mem wr r st own g vp vt vr (.slice ao st.ended.length cap))
  (hWb : ∀ k, k < wr.heap.size → W.heap[k]? = wr.heap[k]?) (hWs : wr.heap.size ≤ W.heap.size) (hWo : W.os = wr.os) (hWt : W.tape = wr.tape) (hWp : W.output = wr.output)
  (hgrow : W.grownBy w1 (Value.slice ao st.ended.length cap).ownBlock)
  (hown1 : w1.ownsRow 0 173 4 (.slice (some ⟨gg, 0, none⟩) (st.ended.length + 1) cap') (st.ended.length + 1) (st.ended.flatMap endC ++ endC x))
  (hat : (Value.slice ao st.ended.length cap).ownBlock = some gg ∨ gg = H) (hH : wr.heap.size ≤ H) (hlt : gg < w1.heap.size) :
  ∃ own', Rep (w1.setCell ⟨r, 6, none⟩ (.slice (some ⟨gg, 0, none⟩) (st.ended.length + 1) cap')) r { st with ended := st.ended ++ [x] } own' ∧
   Chg own wr (w1.setCell ⟨r, 6, none⟩ (.slice (some ⟨gg, 0, none⟩) (st.ended.length + 1) cap')) own' := by
 obtain ⟨hchg, hkeep, hroot', hrow', hold'⟩ := grow_root (j := 6) (H := H) (x := x) (f := endC) P.root P.rootTag (t0 := (5, 0, 0, 0)) (by decide) P.old P.ended.2 hWb hWs hWo hWt hWp hgrow hown1 hat hH hlt
 refine ⟨_, ⟨g, vp, vt, vr, .slice (some ⟨gg, 0, none⟩) (st.ended.length + 1) cap', ?_⟩, hchg⟩
 exact {
  root := by simpa using hroot'
  rootTag := hchg.ext _ _ P.rootTag
  places := P.places.frame (fun b hb => hkeep b _ hb (by decide) (by decide)) (fun b hb => hchg.ext b _ hb)
  txns := P.txns.frame (fun b hb => hkeep b _ hb (by decide) (by decide)) (fun b hb => hchg.ext b _ hb)
  recs := P.recs.frame (fun b hb => hkeep b _ hb (by decide) (by decide)) (fun b hb => hchg.ext b _ hb)
  ended := hrow'
  olds := fun t ht => (P.olds t ht).frame (fun b hb => hkeep b _ hb (by intro h; cases h) (by intro h; cases h)) (fun b hb => hchg.ext b _ hb)
  puts := fun t ht => (P.puts t ht).frame (fun b hb => hkeep b _ hb (by intro h; cases h) (by intro h; cases h)) (fun b hb => hchg.ext b _ hb)
  told := fun t ht hr => (P.told t ht hr).frame (fun b hb => hkeep b _ hb (by intro h; cases h) (by intro h; cases h)) (fun b hb => hchg.ext b _ hb)
  toldV := P.toldV
  old := hold' }
theorem run_buildSlice_one {P : Program} (t elem : TypeId) (i : TypeInfo) (z : Value) (size : Nat) (hu : P.underlying t = some (.slice elem)) (hi : P.info? elem = some i) (hz : i.zero = some z) (hs : i.size = size) (_hzs : z.cells.size = size) (h0 : 0 < size) (h24 : size ≤ 16777216) (cs : Array Value) (hc : cs.size = size) (w : World) :
  (Instr.buildSlice t 1 #[(0, .agg cs)]).run P w = .ok (.slice (some ⟨w.heap.size, 0, none⟩) 1 1) (w.alloc (.cells cs elem)) := by
 have hf := Go.Great.fill_whole h0 [.agg cs] ((Array.range (1 * size)).map (z.cells[· % z.cells.size]!)) (by intro v hv; simp at hv; subst hv; exact hc) (by simp)
 have e : (([Value.agg cs].zipIdx 0).map fun x => (x.2, x.1)) = [(0, Value.agg cs)] := rfl
 rw [e] at hf
 have e2 : ([Value.agg cs].flatMap fun v => v.cells.toList).toArray = cs := by simp [Value.cells]
 rw [e2] at hf
 have h1 : ¬ (1 * size > 2 ^ 24) := by omega
 have h2 : ¬ (1 * size = 0) := by omega
 have hs1 : (sizeOf elem).run P w = .ok size w := by simp [sizeOf, typeInfo, hi, hs]
 have hz1 : (zeroValue elem).run P w = .ok z w := by simp [zeroValue, typeInfo, hi, hz]
 unfold Instr.buildSlice
 simp only [Sem.run_bind, run_underlying hu, Result.andThen_ok, hs1, if_neg h1, if_neg h2, hz1, Sem.run_pure, hf, newRow]
 simp
theorem wpList_buildSlice_one {P : Program} {ops : Array Oper} {rest : List Oper} {o : Oper} {a : Act} {w : World} {Q : Exit → Act → World → Prop} (hg : o.guard = none) (t : TypeId) (x : Operand) (ho : o.op = .buildSlice t 1 #[(0, x)])
  (elem : TypeId) (i : TypeInfo) (z : Value) (size : Nat) (hu : P.underlying t = some (.slice elem)) (hi : P.info? elem = some i) (hz : i.zero = some z) (hs : i.size = size) (hzs : z.cells.size = size) (h0 : 0 < size) (h24 : size ≤ 16777216) (cs : Array Value) (hx : a.eval x = .agg cs) (hc : cs.size = size)
  (h : wpList P ops Q rest (a.put o.dst (.slice (some ⟨w.heap.size, 0, none⟩) 1 1)) (w.alloc (.cells cs elem))) : wpList P ops Q (o :: rest) a w := by
 refine wpList_plain hg fun K hK => ?_
 unfold Oper.wp execOp
 simp only [ho, List.map_toArray, List.map_cons, List.map_nil, hx, Sem.run_bind, run_buildSlice_one t elem i z size hu hi hz hs hzs h0 h24 cs hc w, Result.andThen_ok]
 exact hK _ _ h
end Go.Proofs.Ytpbcplfpjcacfaa
