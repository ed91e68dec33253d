import Derived.Test.YtpbcplfpjcacfaaR20
namespace Go.Proofs.Ytpbcplfpjcacfaa
open Go.ChangeShapes Go.WideShapes Go.ChangeAt Go.RowKit Go.Joins Go.Deep
set_option maxRecDepth 100000
set_option maxHeartbeats 8000000
section
variable {H : Type} {enc : TypeId × Value → H} {w : World} {base b0 : Nat} {spare : Nat → Bool} {held : Bool} {r : Reach} {v : Value} {d : DataW H} {p : List MemPlace}
theorem open_label (hv : Value.okWide Try.prog w r b0 25 v) (h : DataW.Trod enc Try.prog w base spare held 25 v d p) :
  ∃ a b : Int, v = .agg #[.int .i64 a, .int .i64 b] := by
 obtain ⟨c0, c1, y0, y1, m, rfl, rfl, rfl, hy0, hy1⟩ := open_agg2 Try.underlying25 (by kernel_rfl) cellsLabel hv h
 obtain ⟨a, e0, rfl, wa⟩ := DataW.trod_int Try.underlying3 hy0
 obtain ⟨b, e1, rfl, wb⟩ := DataW.trod_int Try.underlying3 hy1
 simp at e0 e1
 exact ⟨a, b, by rw [e0, e1]⟩
end
end Go.Proofs.Ytpbcplfpjcacfaa
namespace Go.Proofs.Ytpbcplfpjcacfaa
open Go.RowKit
attribute [local go_sem ↓] Go.wp_at_zero Go.wp_at_succ
set_option maxRecDepth 100000
set_option maxHeartbeats 8000000
theorem infoOp : (Try.prog.info? 32).map (fun i => (i.zero, i.size, i.bytes)) = some (some (.agg #[.bool false, .int .i64 0, .int .i64 0, .int .i64 0, .int .i64 0, .int .i64 0, .int .i64 0, .int .i64 0, .int .i64 0, .int .i64 0]), 10, 80) := by kernel_rfl
theorem script_of_row {w : World} {B : Nat} {v : Value} {l : List Ent} (h : w.ownsRow B 32 10 v l.length (l.flatMap entC)) : isScript w v l := by
 have hr : Row w (fun b => if v.ownBlock = some b then some (0, 0, 0, 0) else none) (0, 0, 0, 0) 32 10 v l entC := ⟨ownsRow_lower h (Nat.zero_le _), fun b hb => by simp [hb]⟩
 obtain ⟨ao, cap, e, hm, hel⟩ := hr.form len_entC
 refine ⟨ao, cap, e, hm, fun i o hi => ?_⟩
 obtain ⟨b, h1, _, h2, h3, _⟩ := hel i o hi
 exact ⟨b, 0, h1, h2, by rw [Nat.zero_add]; exact h3⟩
theorem ten_new (w : World) (l : List Value) (c n : Nat) (hn : n = w.heap.size) : ∀ j u, l[j]? = some u → (w.alloc (.cells l.toArray c)).cell? ((⟨n, 0, none⟩ : Addr).add j) = some u := by
 subst hn
 intro j u hj
 have := heap_alloc_new w (.cells l.toArray c (0, 0))
 rw [show (⟨w.heap.size, 0, none⟩ : Addr).add j = ⟨w.heap.size, j, none⟩ by simp [Addr.add]; exact fun h => h.symm, cell_of_row _ _ j _ _ _ this]
 simpa using hj
def levelE (a b : Int) (o : Ent) : Ent := ⟨o.look, ⟨(a, b, o.step.who.2.2), o.step.op, (a, b), o.step.key, o.step.to_, o.step.value⟩⟩
theorem map_take_succ {l : List Ent} {f : Ent → Ent} {n : Nat} {o : Ent} (h : l[n]? = some o) : (l.map f).take (n + 1) = (l.map f).take n ++ [f o] := by
 rw [List.take_add_one, List.getElem?_map, h]; rfl
theorem level_walk (P : Pgm) (D : P.Doc) (k v c a b : Int) (sv : Value) (script : List Ent) (w : World) (hsc : isScript w sv script) (hlen : script.length * 80 ≤ 140737488351232) :
  Calls Try.prog 6 #[.agg #[.int .i64 k, .int .i64 v, .int .i64 c], .agg #[.int .i64 a, .int .i64 b], sv] w fun e w' => e = .returned (.bool true) ∧ Below w.heap.size w w' := by
 obtain ⟨ao, cap, rfl, hmax, hel⟩ := hsc
 obtain ⟨i0, hi0, hz0, hs0, hb0⟩ := info_all infoOp
 unfold maxLen at hmax
 have HE : Hid (∀ i o, script[i]? = some o → ∃ b off, ao = some ⟨b, off, none⟩ ∧ b < w.heap.size ∧ w.rangeAt b (off + i * 10) (entC o)) := hel
 clear hel
 go_enter Try.func6, Try.ntmps6
 go_wp2_with fail
 have hB0 : Below w.heap.size w ((w.alloc (.cells #[.int .i64 k, .int .i64 v, .int .i64 c] 23)).alloc (.cells #[.int .i64 a, .int .i64 b] 25)) := below2r
 generalize hW : (w.alloc (.cells #[.int .i64 k, .int .i64 v, .int .i64 c] 23)).alloc (.cells #[.int .i64 a, .int .i64 b] 25) = W at *
 have hWs : W.heap.size = w.heap.size + 2 := by subst hW; simp
 have g0 : W.cell? ⟨w.heap.size, 0, none⟩ = some (.int .i64 k) := by subst hW; rw [World.cell?_alloc_lt _ _ _ (by simp)]; simp
 have g1 : W.cell? ⟨w.heap.size, 1, none⟩ = some (.int .i64 v) := by subst hW; rw [World.cell?_alloc_lt _ _ _ (by simp)]; simp
 have g2 : W.cell? ⟨w.heap.size, 2, none⟩ = some (.int .i64 c) := by subst hW; rw [World.cell?_alloc_lt _ _ _ (by simp)]; simp
 have g3 : W.cell? ⟨w.heap.size + 1, 0, none⟩ = some (.int .i64 a) := by subst hW; simp
 have g4 : W.cell? ⟨w.heap.size + 1, 1, none⟩ = some (.int .i64 b) := by subst hW; simp
 have HWs : Hid (W.heap.size = w.heap.size + 2) := hWs
 have HBW : Hid (Below w.heap.size w W) := hB0
 clear hW hWs hB0
 go_loopw [7, 8] (fun vl i wr => ∃ (n : Nat) (q : Value), q = vl ∧ n ≤ script.length ∧ i = .int .i64 n ∧ Hid (wr.ownsRow W.heap.size 32 10 q n (((script.map (levelE a b)).take n).flatMap entC)) ∧ Hid (Below W.heap.size W wr)) (fun _ i _ => script.length - (intOf i).toNat)
 case atStart => exact ⟨0, _, rfl, Nat.zero_le _, rfl, World.ownsRow_nil _ _ _ _, Below.refl _ _⟩
 case round =>
  obtain ⟨n, vl, rfl, hn, rfl, hown, hB⟩ := hrel
  have hz := hB.out.size
  have e0 : wr.cell? ⟨w.heap.size, 0, none⟩ = some (.int .i64 k) := cell_later hB.out g0
  have e1 : wr.cell? ⟨w.heap.size, 1, none⟩ = some (.int .i64 v) := cell_later hB.out g1
  have e2 : wr.cell? ⟨w.heap.size, 2, none⟩ = some (.int .i64 c) := cell_later hB.out g2
  have e3 : wr.cell? ⟨w.heap.size + 1, 0, none⟩ = some (.int .i64 a) := cell_later hB.out g3
  have e4 : wr.cell? ⟨w.heap.size + 1, 1, none⟩ = some (.int .i64 b) := cell_later hB.out g4
  have hzz : w.heap.size + 1 < wr.heap.size := by have := HWs.out; omega
  by_cases hlt : n < script.length
  ·have hg := List.getElem?_eq_getElem hlt
   generalize script[n] = o at hg
   obtain ⟨bs, off, rfl, hbl, hrg⟩ := HE.out n o hg
   have Hst : Hid ((script.map (levelE a b)).take (n + 1) = (script.map (levelE a b)).take n ++ [levelE a b o]) := map_take_succ hg
   have hrg' : wr.rangeAt bs (off + n * 10) [.bool o.look, .int .i64 o.step.who.1, .int .i64 o.step.who.2.1, .int .i64 o.step.who.2.2, .int .i64 o.step.op, .int .i64 o.step.at_.1, .int .i64 o.step.at_.2, .int .i64 o.step.key, .int .i64 o.step.to_, .int .i64 o.step.value] := rangeAt_below (rangeAt_below hrg HBW.out hbl) hB.out (by have := HWs.out; omega)
   have zn : (n : Int) < (script.length : Int) := by omega
   clear hrg hg
   go_wp2_with (first | (refine wpList_load_mid rfl 32 _ rfl bs (off + n * 10) rfl _ _ hrg' Try.underlying32 rfl size32 ?_) |
    (at_builtin; refine wpList_append_own _ rfl _ _ 33 rfl W.heap.size 32 i0 (.agg #[.bool false, .int .i64 0, .int .i64 0, .int .i64 0, .int .i64 0, .int .i64 0, .int .i64 0, .int .i64 0, .int .i64 0, .int .i64 0]) 10 80 Try.underlying33 hi0 hz0 hs0 hb0 rfl (by decide) _ _ _ rfl ((hown.out.alloc _).alloc _) ⟨wr.heap.size + 1, 0, none⟩ 1 1 (entC (levelE a b o)) rfl rfl ?c1 ?c2 ?c3 ?c4 ?c5 ?_))
   case c1 => exact ten_new (wr.alloc _) (entC (levelE a b o)) 32 _ (by simp)
   case c2 => intro u hu; simp [entC, stepC, levelE] at hu; rcases hu with rfl | rfl | rfl | rfl | rfl | rfl | rfl | rfl | rfl | rfl <;> rfl
   case c3 => unfold maxLen; omega
   case c4 => omega
   case c5 => simp; omega
   intro v' w1 hown' hgrow _
   have HB1 : Hid (Below W.heap.size W w1) := ((hB.out.alloc hz _).alloc (by simp; omega) _).grown hgrow (by simp; omega) (fun k hk => (hown.out.lt k hk).1)
   have HO1 : Hid (w1.ownsRow W.heap.size 32 10 v' (n + 1) (((script.map (levelE a b)).take (n + 1)).flatMap entC)) := by
    unfold Hid; rw [Hst.out, List.flatMap_append]; simpa using hown'
   clear hown' hgrow hown
   go_wp2
   go_roundw
   case rel => exact ⟨n + 1, _, rfl, by omega, by go_num, HO1, HB1⟩
   case measure => simp [intOf]; omega
  ·have e : n = script.length := by omega
   subst e
   have hf : (script.map (levelE a b)).take script.length = script.map (levelE a b) := List.take_of_length_le (by simp)
   have hs : isScript wr vl (script.map (levelE a b)) := by
    have := hown.out
    rw [hf, show script.length = (script.map (levelE a b)).length by simp] at this
    exact script_of_row this
   have hp := bothPlay P D k v c vl (script.map (levelE a b)) wr hs (by simp; omega)
   have HP : Hid (type_of% hp) := hp
   clear hp hs hf hown
   go_wp2_with fail
   refine HP.out.mono ?_
   rintro e w1 ⟨rfl, hb1⟩
   go_wp2
   go_ret
   exact ⟨rfl, (HBW.out.trans (hB.out.mono HBW.out.size)).trans (hb1.mono (by have := HWs.out; omega))⟩
end Go.Proofs.Ytpbcplfpjcacfaa
namespace Go.Proofs.Ytpbcplfpjcacfaa
open Go.ChangeShapes Go.WideShapes Go.ChangeAt Go.RowKit Go.Joins Go.Deep
set_option linter.unusedVariables false
set_option maxRecDepth 100000
set_option maxHeartbeats 8000000
theorem level_lifted (P : Pgm) (D : P.Doc) (os : Os) (started : os.Started) (H : Type) (enc : TypeId × Value → H) :
  ReturnsInHanded {} Try.checked os 6 .any (Rows.levelSpec.pre6 enc Try.prog Try.f6 Rows.levelRow.domain false) (Rows.levelSpec.post enc Try.prog Try.f6 false true false false) := by
 refine returnsInHanded_of_change_sized (C := Try.checked) tryOwn started (by kernel_rfl) Try.func6
  (ChangeSpec.witness6 (enc := enc) (C := Try.checked) false ⟨#[], #[.agg #[.int .i64 0, .int .i64 0, .int .i64 0], .agg #[.int .i64 0, .int .i64 0], .slice none 0 0], []⟩ 8 (by kernel_rfl) (by kernel_rfl) (by kernel_rfl) (by kernel_rfl)) ?_
 intro W base args ds gs before hval0 hW hcnd hsz0 _
 have hsz : (DataW.weightsEach Try.prog (Try.f6.params.toList ++ Rows.levelSpec.plain.varTypes Try.prog) (ds ++ gs)).all (· ≤ reachBytes) = true := hsz0
 have hval : ∀ (j : Nat) t v, Try.f6.params[j]? = some t → args[j]? = some v → Value.okWide Try.prog W .any base t v := hval0
 have hW' := hW
 obtain ⟨p, q, hA0, hV, rfl, hfz, hnd⟩ := hW
 have hA : DataW.TrodAll enc Try.prog W 0 (fun _ => true) true Try.f6.params.toList args.toList ds p := hA0
 rw [Try.params6] at hA hval hsz
 obtain ⟨v0, vs0, d0, ds0, p0, q0, hargs, rfl, rfl, h0, r0⟩ := trodAll_cons hA
 obtain ⟨v1, vs1, d1, ds1, p1, q1, rfl, rfl, rfl, h1, r1⟩ := trodAll_cons r0
 obtain ⟨v2, vs2, d2, ds2, p2, q2, rfl, rfl, rfl, h2, r2⟩ := trodAll_cons r1
 obtain ⟨rfl, rfl, rfl⟩ := trodAll_nil r2
 obtain rfl : args = #[v0, v1, v2] := by cases args; simp_all
 obtain ⟨rfl, rfl⟩ := trodVars_none hV
 have lt0 : ∀ x ∈ p0, x.block < W.heap.size := by obtain ⟨m, hm⟩ := h0; exact DataW.trod_lt m _ _ _ hm
 have lt1 : ∀ x ∈ p1, x.block < W.heap.size := by obtain ⟨m, hm⟩ := h1; exact DataW.trod_lt m _ _ _ hm
 have lt2 : ∀ x ∈ p2, x.block < W.heap.size := by obtain ⟨m, hm⟩ := h2; exact DataW.trod_lt m _ _ _ hm
 obtain ⟨a, b, c, rfl⟩ := open_config (hval 0 23 v0 rfl rfl) h0
 obtain ⟨l, m, rfl⟩ := open_label (hval 1 25 v1 rfl rfl) h1
 obtain ⟨script, hsc, hd2⟩ := open_ops (hval 2 33 v2 rfl rfl) h2
 have hlen : script.length * 80 ≤ 140737488351232 := by
  rcases hd2 with ⟨rfl, rfl⟩ | ⟨es, s, rfl, e⟩
  ·simp
  ·have := sized_slice hsz (j := 2) (t := 33) (e := 32) rfl rfl Try.underlying33
   rw [bytesOp, e] at this
   simp only [reachBytes] at this
   have h2 : script.length * 80 ≤ (script.length + s.length) * 80 := Nat.mul_le_mul_right _ (Nat.le_add_right _ _)
   omega
 clear hA0 hval0
 refine (level_walk P D a b c l m v2 script W hsc hlen).mono fun e W' ⟨he, bel⟩ => ?_
 subst he
 exact ⟨_, rfl, _, _, _, [], _, [], hW', trodAll_mk1 (shut_bool Try.underlying4 _), (trodAll_cons_mk (Below.trod tryLaid (by kernel_rfl) (of_decide_eq_true (by kernel_rfl)) h0 bel lt0) (trodAll_cons_mk (Below.trod tryLaid (by kernel_rfl) (of_decide_eq_true (by kernel_rfl)) h1 bel lt1) (trodAll_cons_mk (Below.trod tryLaid (by kernel_rfl) (of_decide_eq_true (by kernel_rfl)) h2 bel lt2) trodAll_mk0))), rfl, bel.frame _, fun h => by cases h⟩
theorem level_over (P : Pgm) (D : P.Doc) : Rows.levelRow.holds Try.pinned (OpenSpec.ofChange Rows.levelSpec) :=
 OpenClaim.holds_of_wide 6 Try.f6 rfl rfl rfl rfl rfl rfl rfl ⟨rfl, rfl, rfl, rfl, rfl⟩ rfl rfl rfl rfl rfl (by kernel_rfl) Try.func6 (by kernel_rfl)
  (of_decide_eq_true (by kernel_rfl)) (by unfold Func.isWrapper; first | (rw [if_pos (by decide +kernel)]; kernel_rfl) | (rw [if_neg (by decide +kernel)]; exact ⟨rfl, rfl⟩))
  (fun os started H enc _ => level_lifted P D os started H enc)
theorem level_said (P : Pgm) (D : P.Doc) : Rows.LevelSaid := level_over P D
theorem level_holds : Rows.LevelSaid := level_said thePgm theDoc
#print axioms level_holds
end Go.Proofs.Ytpbcplfpjcacfaa
