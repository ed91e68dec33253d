import Derived.Test.YtpbcplfpjcacfaaR20
namespace Go.Proofs.Ytpbcplfpjcacfaa
open Go.ChangeShapes Go.WideShapes Go.ChangeAt Go.RowKit Go.Joins Go.Deep
set_option maxRecDepth 100000
set_option maxHeartbeats 8000000
section
variable {H : Type} {enc : TypeId × Value → H} {w : World} {base b0 : Nat} {spare : Nat → Bool} {held : Bool} {r : Reach} {v : Value} {d : DataW H} {p : List MemPlace}
theorem open_who (hv : Value.okWide Try.prog w r b0 28 v) (h : DataW.Trod enc Try.prog w base spare held 28 v d p) :
  ∃ a b c : Int, v = .agg #[.int .i64 a, .int .i64 b, .int .i64 c] := by
 obtain ⟨cs, rfl, _⟩ := okWide_struct Try.underlying28 hv
 obtain ⟨fuel, hf⟩ := h
 obtain ⟨a, b, c, e⟩ := trod_who hf
 refine ⟨a, b, c, ?_⟩
 cases cs with
 | mk l => simp [Value.cells] at e; rw [e]
end
end Go.Proofs.Ytpbcplfpjcacfaa
namespace Go.Proofs.Ytpbcplfpjcacfaa
open Go.RowKit
attribute [local go_sem ↓] Go.wp_at_zero Go.wp_at_succ
set_option maxRecDepth 100000
set_option maxHeartbeats 8000000
theorem infoOp : (Try.prog.info? 32).map (fun i => (i.zero, i.size, i.bytes)) = some (some (.agg #[.bool false, .int .i64 0, .int .i64 0, .int .i64 0, .int .i64 0, .int .i64 0, .int .i64 0, .int .i64 0, .int .i64 0, .int .i64 0]), 10, 80) := by kernel_rfl
theorem script_of_row {w : World} {B : Nat} {v : Value} {l : List Ent} (h : w.ownsRow B 32 10 v l.length (l.flatMap entC)) : isScript w v l := by
 have hr : Row w (fun b => if v.ownBlock = some b then some (0, 0, 0, 0) else none) (0, 0, 0, 0) 32 10 v l entC := ⟨ownsRow_lower h (Nat.zero_le _), fun b hb => by simp [hb]⟩
 obtain ⟨ao, cap, e, hm, hel⟩ := hr.form len_entC
 refine ⟨ao, cap, e, hm, fun i o hi => ?_⟩
 obtain ⟨b, h1, _, h2, h3, _⟩ := hel i o hi
 exact ⟨b, 0, h1, h2, by rw [Nat.zero_add]; exact h3⟩
theorem ten_new (w : World) (l : List Value) (c n : Nat) (hn : n = w.heap.size) : ∀ j u, l[j]? = some u → (w.alloc (.cells l.toArray c)).cell? ((⟨n, 0, none⟩ : Addr).add j) = some u := by
 subst hn
 intro j u hj
 have := heap_alloc_new w (.cells l.toArray c (0, 0))
 rw [show (⟨w.heap.size, 0, none⟩ : Addr).add j = ⟨w.heap.size, j, none⟩ by simp [Addr.add]; exact fun h => h.symm, cell_of_row _ _ j _ _ _ this]
 simpa using hj
theorem map_take_succ {l : List Ent} {f : Ent → Ent} {n : Nat} {o : Ent} (h : l[n]? = some o) : (l.map f).take (n + 1) = (l.map f).take n ++ [f o] := by
 rw [List.take_add_one, List.getElem?_map, h]; rfl
theorem op_cells {w : World} {g ty : Nat} {x0 x1 x2 x3 x4 x5 x6 x7 x8 x9 : Value} (h : w.heap[g]? = some (.cells #[x0, x1, x2, x3, x4, x5, x6, x7, x8, x9] ty (0, 0))) :
  w.cell? ⟨g, 0, none⟩ = some x0 ∧ w.cell? ⟨g, 1, none⟩ = some x1 ∧ w.cell? ⟨g, 2, none⟩ = some x2 ∧ w.cell? ⟨g, 3, none⟩ = some x3 ∧ w.cell? ⟨g, 4, none⟩ = some x4 ∧ w.cell? ⟨g, 5, none⟩ = some x5 ∧ w.cell? ⟨g, 6, none⟩ = some x6 ∧ w.cell? ⟨g, 7, none⟩ = some x7 ∧ w.cell? ⟨g, 8, none⟩ = some x8 ∧ w.cell? ⟨g, 9, none⟩ = some x9 ∧ w.frozen? ⟨g, 1, none⟩ = false ∧ w.frozen? ⟨g, 2, none⟩ = false ∧ w.frozen? ⟨g, 3, none⟩ = false := by
 refine ⟨?_, ?_, ?_, ?_, ?_, ?_, ?_, ?_, ?_, ?_, frozen_of_row w g 1 _ _ h, frozen_of_row w g 2 _ _ h, frozen_of_row w g 3 _ _ h⟩
 all_goals (rw [cell_of_row w g _ _ _ (0, 0) h]; rfl)
def soloE (y : Wh) (o : Ent) : Ent := if properB o.step && !o.look then ⟨o.look, ⟨y, o.step.op, o.step.at_, o.step.key, o.step.to_, o.step.value⟩⟩ else o
theorem soloE_yes {y : Wh} {o : Ent} (h1 : properB o.step = true) (h2 : o.look = false) : soloE y o = ⟨false, ⟨y, o.step.op, o.step.at_, o.step.key, o.step.to_, o.step.value⟩⟩ := by
 unfold soloE; rw [h1, h2]; rfl
theorem soloE_no {y : Wh} {o : Ent} (h : properB o.step = false ∨ o.look = true) : soloE y o = o := by
 unfold soloE
 rcases h with h | h <;> rw [h] <;> simp
theorem solo_walk (P : Pgm) (D : P.Doc) (k v c a b d : Int) (sv : Value) (script : List Ent) (w : World) (hsc : isScript w sv script) (hlen : script.length * 80 ≤ 140737488351232) :
  Calls Try.prog 4 #[.agg #[.int .i64 k, .int .i64 v, .int .i64 c], .agg #[.int .i64 a, .int .i64 b, .int .i64 d], sv] w fun e w' => e = .returned (.bool true) ∧ Below w.heap.size w w' := by
 obtain ⟨ao, cap, rfl, hmax, hel⟩ := hsc
 obtain ⟨i0, hi0, hz0, hs0, hb0⟩ := info_all infoOp
 unfold maxLen at hmax
 have HE : Hid (∀ i o, script[i]? = some o → ∃ b off, ao = some ⟨b, off, none⟩ ∧ b < w.heap.size ∧ w.rangeAt b (off + i * 10) (entC o)) := hel
 clear hel
 go_enter Try.func4, Try.ntmps4
 go_wp2_with fail
 have hB0 : Below w.heap.size w ((w.alloc (.cells #[.int .i64 k, .int .i64 v, .int .i64 c] 23)).alloc (.cells #[.int .i64 a, .int .i64 b, .int .i64 d] 28)) := below2r
 generalize hW : (w.alloc (.cells #[.int .i64 k, .int .i64 v, .int .i64 c] 23)).alloc (.cells #[.int .i64 a, .int .i64 b, .int .i64 d] 28) = W at *
 have hWs : W.heap.size = w.heap.size + 2 := by subst hW; simp
 have g0 : W.cell? ⟨w.heap.size, 0, none⟩ = some (.int .i64 k) := by subst hW; rw [World.cell?_alloc_lt _ _ _ (by simp)]; simp
 have g1 : W.cell? ⟨w.heap.size, 1, none⟩ = some (.int .i64 v) := by subst hW; rw [World.cell?_alloc_lt _ _ _ (by simp)]; simp
 have g2 : W.cell? ⟨w.heap.size, 2, none⟩ = some (.int .i64 c) := by subst hW; rw [World.cell?_alloc_lt _ _ _ (by simp)]; simp
 have g3 : W.cell? ⟨w.heap.size + 1, 0, none⟩ = some (.int .i64 a) := by subst hW; simp
 have g4 : W.cell? ⟨w.heap.size + 1, 1, none⟩ = some (.int .i64 b) := by subst hW; simp
 have g5 : W.cell? ⟨w.heap.size + 1, 2, none⟩ = some (.int .i64 d) := by subst hW; simp
 have HWs : Hid (W.heap.size = w.heap.size + 2) := hWs
 have HBW : Hid (Below w.heap.size w W) := hB0
 clear hW hWs hB0
 go_loopw [7, 8] (fun vl i wr => ∃ (n : Nat) (q : Value), q = vl ∧ n ≤ script.length ∧ i = .int .i64 n ∧ Hid (wr.ownsRow W.heap.size 32 10 q n (((script.map (soloE (a, b, d))).take n).flatMap entC)) ∧ Hid (Below W.heap.size W wr)) (fun _ i _ => script.length - (intOf i).toNat)
 case atStart => exact ⟨0, _, rfl, Nat.zero_le _, rfl, World.ownsRow_nil _ _ _ _, Below.refl _ _⟩
 case round =>
  obtain ⟨n, vl, rfl, hn, rfl, hown, hB⟩ := hrel
  have hz := hB.out.size
  have e0 : wr.cell? ⟨w.heap.size, 0, none⟩ = some (.int .i64 k) := cell_later hB.out g0
  have e1 : wr.cell? ⟨w.heap.size, 1, none⟩ = some (.int .i64 v) := cell_later hB.out g1
  have e2 : wr.cell? ⟨w.heap.size, 2, none⟩ = some (.int .i64 c) := cell_later hB.out g2
  have e3 : wr.cell? ⟨w.heap.size + 1, 0, none⟩ = some (.int .i64 a) := cell_later hB.out g3
  have e4 : wr.cell? ⟨w.heap.size + 1, 1, none⟩ = some (.int .i64 b) := cell_later hB.out g4
  have e5 : wr.cell? ⟨w.heap.size + 1, 2, none⟩ = some (.int .i64 d) := cell_later hB.out g5
  have hzz : w.heap.size + 1 < wr.heap.size := by have := HWs.out; omega
  by_cases hlt : n < script.length
  ·have hg := List.getElem?_eq_getElem hlt
   generalize script[n] = o at hg
   obtain ⟨bs, off, rfl, hbl, hrg⟩ := HE.out n o hg
   have Hst : Hid ((script.map (soloE (a, b, d))).take (n + 1) = (script.map (soloE (a, b, d))).take n ++ [soloE (a, b, d) o]) := map_take_succ hg
   have hrg' : wr.rangeAt bs (off + n * 10) [.bool o.look, .int .i64 o.step.who.1, .int .i64 o.step.who.2.1, .int .i64 o.step.who.2.2, .int .i64 o.step.op, .int .i64 o.step.at_.1, .int .i64 o.step.at_.2, .int .i64 o.step.key, .int .i64 o.step.to_, .int .i64 o.step.value] := rangeAt_below (rangeAt_below hrg HBW.out hbl) hB.out (by have := HWs.out; omega)
   have zn : (n : Int) < (script.length : Int) := by omega
   clear hrg hg
   have hpr := proper_any o.step
   unfold stepV at hpr
   cases hpp : properB o.step with
   | false =>
    rw [hpp] at hpr
    have Hcs : Hid (entC (soloE (a, b, d) o) = [.bool o.look, .int .i64 o.step.who.1, .int .i64 o.step.who.2.1, .int .i64 o.step.who.2.2, .int .i64 o.step.op, .int .i64 o.step.at_.1, .int .i64 o.step.at_.2, .int .i64 o.step.key, .int .i64 o.step.to_, .int .i64 o.step.value]) := by unfold Hid; rw [soloE_no (.inl hpp)]; rfl
    clear hpp
    go_wp2_with (first | (refine wpList_load_mid rfl 32 _ rfl bs (off + n * 10) rfl _ _ hrg' Try.underlying32 rfl size32 ?_))
    have hBA : Below wr.heap.size wr (wr.alloc (.cells #[.bool o.look, .int .i64 o.step.who.1, .int .i64 o.step.who.2.1, .int .i64 o.step.who.2.2, .int .i64 o.step.op, .int .i64 o.step.at_.1, .int .i64 o.step.at_.2, .int .i64 o.step.key, .int .i64 o.step.to_, .int .i64 o.step.value] 32)) := (Below.refl _ _).alloc (Nat.le_refl _) _
    have hNA : (wr.alloc (.cells #[.bool o.look, .int .i64 o.step.who.1, .int .i64 o.step.who.2.1, .int .i64 o.step.who.2.2, .int .i64 o.step.op, .int .i64 o.step.at_.1, .int .i64 o.step.at_.2, .int .i64 o.step.key, .int .i64 o.step.to_, .int .i64 o.step.value] 32)).heap[wr.heap.size]? = some (.cells #[.bool o.look, .int .i64 o.step.who.1, .int .i64 o.step.who.2.1, .int .i64 o.step.who.2.2, .int .i64 o.step.op, .int .i64 o.step.at_.1, .int .i64 o.step.at_.2, .int .i64 o.step.key, .int .i64 o.step.to_, .int .i64 o.step.value] 32 (0, 0)) := heap_alloc_new wr _
    refine (hpr _).mono ?_
    rintro e w4 ⟨rfl, hb4⟩
    have hB4 : Below wr.heap.size wr w4 := hBA.trans (hb4.mono hBA.size)
    have hN4 : w4.heap[wr.heap.size]? = _ := (hb4.block wr.heap.size (by simp)).trans hNA
    have hz4 : wr.heap.size < w4.heap.size := (Array.getElem?_eq_some_iff.1 hN4).1
    obtain ⟨x0, x1, x2, x3, x4, x5, x6, x7, x8, x9, f1, f2, f3⟩ := op_cells hN4
    have t3 := cell_later hB4 e3
    have t4 := cell_later hB4 e4
    have t5 := cell_later hB4 e5
    have HO4 := ownsRow_below hown.out hB4
    have HB4 : Hid (Below W.heap.size W w4) := hB.out.trans (hB4.mono hz)
    have hz5 : W.heap.size ≤ w4.heap.size := by omega
    clear hNA hN4 hBA hb4 hB4
    go_wp2_with (first | (at_builtin; refine wpList_append_own _ rfl _ _ 33 rfl W.heap.size 32 i0 (.agg #[.bool false, .int .i64 0, .int .i64 0, .int .i64 0, .int .i64 0, .int .i64 0, .int .i64 0, .int .i64 0, .int .i64 0, .int .i64 0]) 10 80 Try.underlying33 hi0 hz0 hs0 hb0 rfl (by decide) _ _ _ rfl (HO4.alloc _) ⟨w4.heap.size, 0, none⟩ 1 1 (entC (soloE (a, b, d) o)) rfl rfl ?c1 ?c2 ?c3 ?c4 ?c5 ?_))
    case c1 => (have Hq := Hcs.out; rw [Hq]; exact ten_new _ _ 32 _ (by simp))
    case c2 => intro u hu; simp [entC, stepC] at hu; rcases hu with rfl | rfl | rfl | rfl | rfl | rfl | rfl | rfl | rfl | rfl <;> rfl
    case c3 => unfold maxLen; omega
    case c4 => omega
    case c5 => simp; omega
    intro v' w1 hown' hgrow _
    have HB1 : Hid (Below W.heap.size W w1) := (HB4.out.alloc hz5 _).grown hgrow (by simp; omega) (fun k hk => (HO4.lt k hk).1)
    have HO1 : Hid (w1.ownsRow W.heap.size 32 10 v' (n + 1) (((script.map (soloE (a, b, d))).take (n + 1)).flatMap entC)) := by
     unfold Hid; rw [Hst.out, List.flatMap_append]; simpa using hown'
    clear hown' hgrow hown
    go_wp2
    go_roundw
    case rel => exact ⟨n + 1, _, rfl, by omega, by go_num, HO1, HB1⟩
    case measure => simp [intOf]; omega
   | true =>
    rw [hpp] at hpr
    cases hll : o.look with
    | true =>
     have Hcs : Hid (entC (soloE (a, b, d) o) = [.bool true, .int .i64 o.step.who.1, .int .i64 o.step.who.2.1, .int .i64 o.step.who.2.2, .int .i64 o.step.op, .int .i64 o.step.at_.1, .int .i64 o.step.at_.2, .int .i64 o.step.key, .int .i64 o.step.to_, .int .i64 o.step.value]) := by unfold Hid; rw [soloE_no (.inr hll)]; simp [entC, stepC, hll]
     rw [hll] at hrg'
     clear hpp hll
     go_wp2_with (first | (refine wpList_load_mid rfl 32 _ rfl bs (off + n * 10) rfl _ _ hrg' Try.underlying32 rfl size32 ?_))
     have hBA : Below wr.heap.size wr (wr.alloc (.cells #[.bool true, .int .i64 o.step.who.1, .int .i64 o.step.who.2.1, .int .i64 o.step.who.2.2, .int .i64 o.step.op, .int .i64 o.step.at_.1, .int .i64 o.step.at_.2, .int .i64 o.step.key, .int .i64 o.step.to_, .int .i64 o.step.value] 32)) := (Below.refl _ _).alloc (Nat.le_refl _) _
     have hNA : (wr.alloc (.cells #[.bool true, .int .i64 o.step.who.1, .int .i64 o.step.who.2.1, .int .i64 o.step.who.2.2, .int .i64 o.step.op, .int .i64 o.step.at_.1, .int .i64 o.step.at_.2, .int .i64 o.step.key, .int .i64 o.step.to_, .int .i64 o.step.value] 32)).heap[wr.heap.size]? = some (.cells #[.bool true, .int .i64 o.step.who.1, .int .i64 o.step.who.2.1, .int .i64 o.step.who.2.2, .int .i64 o.step.op, .int .i64 o.step.at_.1, .int .i64 o.step.at_.2, .int .i64 o.step.key, .int .i64 o.step.to_, .int .i64 o.step.value] 32 (0, 0)) := heap_alloc_new wr _
     refine (hpr _).mono ?_
     rintro e w4 ⟨rfl, hb4⟩
     have hB4 : Below wr.heap.size wr w4 := hBA.trans (hb4.mono hBA.size)
     have hN4 : w4.heap[wr.heap.size]? = _ := (hb4.block wr.heap.size (by simp)).trans hNA
     have hz4 : wr.heap.size < w4.heap.size := (Array.getElem?_eq_some_iff.1 hN4).1
     obtain ⟨x0, x1, x2, x3, x4, x5, x6, x7, x8, x9, f1, f2, f3⟩ := op_cells hN4
     have t3 := cell_later hB4 e3
     have t4 := cell_later hB4 e4
     have t5 := cell_later hB4 e5
     have HO4 := ownsRow_below hown.out hB4
     have HB4 : Hid (Below W.heap.size W w4) := hB.out.trans (hB4.mono hz)
     have hz5 : W.heap.size ≤ w4.heap.size := by omega
     clear hNA hN4 hBA hb4 hB4
     go_wp2_with (first | (at_builtin; refine wpList_append_own _ rfl _ _ 33 rfl W.heap.size 32 i0 (.agg #[.bool false, .int .i64 0, .int .i64 0, .int .i64 0, .int .i64 0, .int .i64 0, .int .i64 0, .int .i64 0, .int .i64 0, .int .i64 0]) 10 80 Try.underlying33 hi0 hz0 hs0 hb0 rfl (by decide) _ _ _ rfl (HO4.alloc _) ⟨w4.heap.size, 0, none⟩ 1 1 (entC (soloE (a, b, d) o)) rfl rfl ?c1 ?c2 ?c3 ?c4 ?c5 ?_))
     case c1 => (have Hq := Hcs.out; rw [Hq]; exact ten_new _ _ 32 _ (by simp))
     case c2 => intro u hu; simp [entC, stepC] at hu; rcases hu with rfl | rfl | rfl | rfl | rfl | rfl | rfl | rfl | rfl | rfl <;> rfl
     case c3 => unfold maxLen; omega
     case c4 => omega
     case c5 => simp; omega
     intro v' w1 hown' hgrow _
     have HB1 : Hid (Below W.heap.size W w1) := (HB4.out.alloc hz5 _).grown hgrow (by simp; omega) (fun k hk => (HO4.lt k hk).1)
     have HO1 : Hid (w1.ownsRow W.heap.size 32 10 v' (n + 1) (((script.map (soloE (a, b, d))).take (n + 1)).flatMap entC)) := by
      unfold Hid; rw [Hst.out, List.flatMap_append]; simpa using hown'
     clear hown' hgrow hown
     go_wp2
     go_roundw
     case rel => exact ⟨n + 1, _, rfl, by omega, by go_num, HO1, HB1⟩
     case measure => simp [intOf]; omega
    | false =>
     have Hcs : Hid (entC (soloE (a, b, d) o) = [.bool false, .int .i64 a, .int .i64 b, .int .i64 d, .int .i64 o.step.op, .int .i64 o.step.at_.1, .int .i64 o.step.at_.2, .int .i64 o.step.key, .int .i64 o.step.to_, .int .i64 o.step.value]) := by unfold Hid; rw [soloE_yes hpp hll]; rfl
     rw [hll] at hrg'
     clear hpp hll
     go_wp2_with (first | (refine wpList_load_mid rfl 32 _ rfl bs (off + n * 10) rfl _ _ hrg' Try.underlying32 rfl size32 ?_))
     have hBA : Below wr.heap.size wr (wr.alloc (.cells #[.bool false, .int .i64 o.step.who.1, .int .i64 o.step.who.2.1, .int .i64 o.step.who.2.2, .int .i64 o.step.op, .int .i64 o.step.at_.1, .int .i64 o.step.at_.2, .int .i64 o.step.key, .int .i64 o.step.to_, .int .i64 o.step.value] 32)) := (Below.refl _ _).alloc (Nat.le_refl _) _
     have hNA : (wr.alloc (.cells #[.bool false, .int .i64 o.step.who.1, .int .i64 o.step.who.2.1, .int .i64 o.step.who.2.2, .int .i64 o.step.op, .int .i64 o.step.at_.1, .int .i64 o.step.at_.2, .int .i64 o.step.key, .int .i64 o.step.to_, .int .i64 o.step.value] 32)).heap[wr.heap.size]? = some (.cells #[.bool false, .int .i64 o.step.who.1, .int .i64 o.step.who.2.1, .int .i64 o.step.who.2.2, .int .i64 o.step.op, .int .i64 o.step.at_.1, .int .i64 o.step.at_.2, .int .i64 o.step.key, .int .i64 o.step.to_, .int .i64 o.step.value] 32 (0, 0)) := heap_alloc_new wr _
     refine (hpr _).mono ?_
     rintro e w4 ⟨rfl, hb4⟩
     have hB4 : Below wr.heap.size wr w4 := hBA.trans (hb4.mono hBA.size)
     have hN4 : w4.heap[wr.heap.size]? = _ := (hb4.block wr.heap.size (by simp)).trans hNA
     have hz4 : wr.heap.size < w4.heap.size := (Array.getElem?_eq_some_iff.1 hN4).1
     obtain ⟨x0, x1, x2, x3, x4, x5, x6, x7, x8, x9, f1, f2, f3⟩ := op_cells hN4
     have t3 := cell_later hB4 e3
     have t4 := cell_later hB4 e4
     have t5 := cell_later hB4 e5
     have HO4 := ownsRow_below hown.out hB4
     have HB4 : Hid (Below W.heap.size W w4) := hB.out.trans (hB4.mono hz)
     have hz5 : W.heap.size ≤ w4.heap.size := by omega
     have hne : ∀ k, vl.ownBlock = some k → k < wr.heap.size := fun k hk => (hown.out.lt k hk).2
     have OW4 : (((w4.setCell ⟨wr.heap.size, 1, none⟩ (.int .i64 a)).setCell ⟨wr.heap.size, 2, none⟩ (.int .i64 b)).setCell ⟨wr.heap.size, 3, none⟩ (.int .i64 d)).ownsRow W.heap.size 32 10 vl n (((script.map (soloE (a, b, d))).take n).flatMap entC) := ownsRow_frame HO4 (fun k hk => by have := hne k hk; rw [heap_setCell_ne _ _ _ _ _ (by omega), heap_setCell_ne _ _ _ _ _ (by omega), heap_setCell_ne _ _ _ _ _ (by omega)])
     have BW4 : Below W.heap.size W (((w4.setCell ⟨wr.heap.size, 1, none⟩ (.int .i64 a)).setCell ⟨wr.heap.size, 2, none⟩ (.int .i64 b)).setCell ⟨wr.heap.size, 3, none⟩ (.int .i64 d)) := ((HB4.out.setCell hz _).setCell hz _).setCell hz _
     clear hNA hN4 hBA hb4 hB4
     go_wp2_with (first | (at_builtin; refine wpList_append_own _ rfl _ _ 33 rfl W.heap.size 32 i0 (.agg #[.bool false, .int .i64 0, .int .i64 0, .int .i64 0, .int .i64 0, .int .i64 0, .int .i64 0, .int .i64 0, .int .i64 0, .int .i64 0]) 10 80 Try.underlying33 hi0 hz0 hs0 hb0 rfl (by decide) _ _ _ rfl (OW4.alloc _) ⟨w4.heap.size, 0, none⟩ 1 1 (entC (soloE (a, b, d) o)) rfl rfl ?c1 ?c2 ?c3 ?c4 ?c5 ?_))
     case c1 => (have Hq := Hcs.out; rw [Hq]; exact ten_new _ _ 32 _ (by simp))
     case c2 => intro u hu; simp [entC, stepC] at hu; rcases hu with rfl | rfl | rfl | rfl | rfl | rfl | rfl | rfl | rfl | rfl <;> rfl
     case c3 => unfold maxLen; omega
     case c4 => omega
     case c5 => simp; omega
     intro v' w1 hown' hgrow _
     have HB1 : Hid (Below W.heap.size W w1) := (BW4.alloc (by simpa using hz5) _).grown hgrow (by simp; omega) (fun k hk => (OW4.lt k hk).1)
     have HO1 : Hid (w1.ownsRow W.heap.size 32 10 v' (n + 1) (((script.map (soloE (a, b, d))).take (n + 1)).flatMap entC)) := by
      unfold Hid; rw [Hst.out, List.flatMap_append]; simpa using hown'
     clear hown' hgrow hown
     go_wp2
     go_roundw
     case rel => exact ⟨n + 1, _, rfl, by omega, by go_num, HO1, HB1⟩
     case measure => simp [intOf]; omega
  ·have e : n = script.length := by omega
   subst e
   have hf : (script.map (soloE (a, b, d))).take script.length = script.map (soloE (a, b, d)) := List.take_of_length_le (by simp)
   have hs : isScript wr vl (script.map (soloE (a, b, d))) := by
    have := hown.out
    rw [hf, show script.length = (script.map (soloE (a, b, d))).length by simp] at this
    exact script_of_row this
   have hp := bothPlay P D k v c vl (script.map (soloE (a, b, d))) wr hs (by simp; omega)
   have HP : Hid (type_of% hp) := hp
   clear hp hs hf hown
   go_wp2_with fail
   refine HP.out.mono ?_
   rintro e w1 ⟨rfl, hb1⟩
   go_wp2
   go_ret
   exact ⟨rfl, (HBW.out.trans (hB.out.mono HBW.out.size)).trans (hb1.mono (by have := HWs.out; omega))⟩
end Go.Proofs.Ytpbcplfpjcacfaa
namespace Go.Proofs.Ytpbcplfpjcacfaa
open Go.ChangeShapes Go.WideShapes Go.ChangeAt Go.RowKit Go.Joins Go.Deep
set_option linter.unusedVariables false
set_option maxRecDepth 100000
set_option maxHeartbeats 8000000
theorem solo_lifted (P : Pgm) (D : P.Doc) (os : Os) (started : os.Started) (H : Type) (enc : TypeId × Value → H) :
  ReturnsInHanded {} Try.checked os 4 .any (Rows.soloSpec.pre6 enc Try.prog Try.f4 Rows.soloRow.domain false) (Rows.soloSpec.post enc Try.prog Try.f4 false true false false) := by
 refine returnsInHanded_of_change_sized (C := Try.checked) tryOwn started (by kernel_rfl) Try.func4
  (ChangeSpec.witness6 (enc := enc) (C := Try.checked) false ⟨#[], #[.agg #[.int .i64 0, .int .i64 0, .int .i64 0], .agg #[.int .i64 0, .int .i64 0, .int .i64 0], .slice none 0 0], []⟩ 8 (by kernel_rfl) (by kernel_rfl) (by kernel_rfl) (by kernel_rfl)) ?_
 intro W base args ds gs before hval0 hW hcnd hsz0 _
 have hsz : (DataW.weightsEach Try.prog (Try.f4.params.toList ++ Rows.soloSpec.plain.varTypes Try.prog) (ds ++ gs)).all (· ≤ reachBytes) = true := hsz0
 have hval : ∀ (j : Nat) t v, Try.f4.params[j]? = some t → args[j]? = some v → Value.okWide Try.prog W .any base t v := hval0
 have hW' := hW
 obtain ⟨p, q, hA0, hV, rfl, hfz, hnd⟩ := hW
 have hA : DataW.TrodAll enc Try.prog W 0 (fun _ => true) true Try.f4.params.toList args.toList ds p := hA0
 rw [Try.params4] at hA hval hsz
 obtain ⟨v0, vs0, d0, ds0, p0, q0, hargs, rfl, rfl, h0, r0⟩ := trodAll_cons hA
 obtain ⟨v1, vs1, d1, ds1, p1, q1, rfl, rfl, rfl, h1, r1⟩ := trodAll_cons r0
 obtain ⟨v2, vs2, d2, ds2, p2, q2, rfl, rfl, rfl, h2, r2⟩ := trodAll_cons r1
 obtain ⟨rfl, rfl, rfl⟩ := trodAll_nil r2
 obtain rfl : args = #[v0, v1, v2] := by cases args; simp_all
 obtain ⟨rfl, rfl⟩ := trodVars_none hV
 have lt0 : ∀ x ∈ p0, x.block < W.heap.size := by obtain ⟨m, hm⟩ := h0; exact DataW.trod_lt m _ _ _ hm
 have lt1 : ∀ x ∈ p1, x.block < W.heap.size := by obtain ⟨m, hm⟩ := h1; exact DataW.trod_lt m _ _ _ hm
 have lt2 : ∀ x ∈ p2, x.block < W.heap.size := by obtain ⟨m, hm⟩ := h2; exact DataW.trod_lt m _ _ _ hm
 obtain ⟨a, b, c, rfl⟩ := open_config (hval 0 23 v0 rfl rfl) h0
 obtain ⟨l, m, o, rfl⟩ := open_who (hval 1 28 v1 rfl rfl) h1
 obtain ⟨script, hsc, hd2⟩ := open_ops (hval 2 33 v2 rfl rfl) h2
 have hlen : script.length * 80 ≤ 140737488351232 := by
  rcases hd2 with ⟨rfl, rfl⟩ | ⟨es, s, rfl, e⟩
  ·simp
  ·have := sized_slice hsz (j := 2) (t := 33) (e := 32) rfl rfl Try.underlying33
   rw [bytesOp, e] at this
   simp only [reachBytes] at this
   have h2 : script.length * 80 ≤ (script.length + s.length) * 80 := Nat.mul_le_mul_right _ (Nat.le_add_right _ _)
   omega
 clear hA0 hval0
 refine (solo_walk P D a b c l m o v2 script W hsc hlen).mono fun e W' ⟨he, bel⟩ => ?_
 subst he
 exact ⟨_, rfl, _, _, _, [], _, [], hW', trodAll_mk1 (shut_bool Try.underlying4 _), (trodAll_cons_mk (Below.trod tryLaid (by kernel_rfl) (of_decide_eq_true (by kernel_rfl)) h0 bel lt0) (trodAll_cons_mk (Below.trod tryLaid (by kernel_rfl) (of_decide_eq_true (by kernel_rfl)) h1 bel lt1) (trodAll_cons_mk (Below.trod tryLaid (by kernel_rfl) (of_decide_eq_true (by kernel_rfl)) h2 bel lt2) trodAll_mk0))), rfl, bel.frame _, fun h => by cases h⟩
theorem solo_over (P : Pgm) (D : P.Doc) : Rows.soloRow.holds Try.pinned (OpenSpec.ofChange Rows.soloSpec) :=
 OpenClaim.holds_of_wide 4 Try.f4 rfl rfl rfl rfl rfl rfl rfl ⟨rfl, rfl, rfl, rfl, rfl⟩ rfl rfl rfl rfl rfl (by kernel_rfl) Try.func4 (by kernel_rfl)
  (of_decide_eq_true (by kernel_rfl)) (by unfold Func.isWrapper; first | (rw [if_pos (by decide +kernel)]; kernel_rfl) | (rw [if_neg (by decide +kernel)]; exact ⟨rfl, rfl⟩))
  (fun os started H enc _ => solo_lifted P D os started H enc)
theorem solo_said (P : Pgm) (D : P.Doc) : Rows.SoloSaid := solo_over P D
theorem solo_holds : Rows.SoloSaid := solo_said thePgm theDoc
#print axioms solo_holds
end Go.Proofs.Ytpbcplfpjcacfaa
