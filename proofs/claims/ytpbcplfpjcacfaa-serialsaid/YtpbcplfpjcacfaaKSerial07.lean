import Derived.Test.YtpbcplfpjcacfaaKSerial06
namespace Go.Proofs.Ytpbcplfpjcacfaa
open Go.RowKit
attribute [local go_sem ↓] Go.wp_at_zero Go.wp_at_succ
set_option maxRecDepth 100000
set_option maxHeartbeats 8000000
theorem serial_walk (P : Pgm) (J : P.S → (Nat → Pd) → (Nat → Int) → Prop) (hst : Stepping P J (fun r => r = true)) (hlk : ∀ {N s ps vals}, P.Ok N s → J s ps vals → ∀ n, n < 32 → P.look s (labK n) = seenL vals n 0 16)
  (k v c : Int) (sv : Value) (script : List Stp) (w : World) (hk : i64B k) (hv : i64B v) (hc : i64B c) (hsc : isSteps w sv script) (hlen : script.length + 1000 < 2000000000000)
  (s0 : P.S) (hs0 : s0 = P.start (1 + pickZ k 16) (1 + pickZ v 4) (1 + pickZ c 32)) (ho : P.Opens s0 (0, 0, 0)) (hj0 : J (P.open3 s0 (0, 0, 0)) (fun _ => pd0) (updV (fun _ => -1) 7 77)) :
  Calls Try.prog 10 #[.agg #[.int .i64 k, .int .i64 v, .int .i64 c], sv] w fun e w' => e = .returned (.bool true) ∧ Below w.heap.size w w' := by
 obtain ⟨ao, cap, rfl, hmax, hel⟩ := hsc
 unfold maxLen at hmax
 have HE : Hid (type_of% hel) := hel
 have HF : Hid (∀ W, Calls Try.prog 25 #[.agg #[.int .i64 k, .int .i64 v, .int .i64 c]] W fun e w' => e = .returned (.agg #[.int .i64 (1 + pickZ k 16), .int .i64 (1 + pickZ v 4), .int .i64 (1 + pickZ c 32)]) ∧ Below W.heap.size W w') := fun W => fits_any k v c W hk hv hc
 have HO : Hid (∀ W, Calls Try.prog 26 #[.agg #[.int .i64 (1 + pickZ k 16), .int .i64 (1 + pickZ v 4), .int .i64 (1 + pickZ c 32)], .agg #[.int .i64 0, .int .i64 0, .int .i64 0]] W (OpenPost P W (P.open3 s0 (0, 0, 0)))) := fun W => by
  subst hs0
  exact opened_any P _ _ _ (0, 0, 0) W (may_fits k v c) (by decide) ho
 have hO0 : P.Ok 3 (P.open3 s0 (0, 0, 0)) := by
  have := P.open3_ok (0, 0, 0) (P.okStart (may_fits k v c))
  rw [hs0]; exact this
 have HO0 : Hid (P.Ok 3 (P.open3 s0 (0, 0, 0))) := hO0
 have HJ0 : Hid (type_of% hj0) := hj0
 have HST : Hid (Stepping P J (fun r => r = true)) := hst
 have HLKX : Hid (∀ N s ps vals, P.Ok N s → J s ps vals → ∀ n, n < 32 → P.look s (labK n) = seenL vals n 0 16) := fun _ _ _ _ => hlk
 clear hlk
 generalize P.open3 s0 (0, 0, 0) = s3 at *
 generalize 1 + pickZ k 16 = fk at *
 generalize 1 + pickZ v 4 = fv at *
 generalize 1 + pickZ c 32 = fc at *
 clear hel hO0 hs0 ho hk hv hc hj0 hst
 go_enter Try.func10, Try.ntmps10
 go_upto_region 2 with fail
 have hA : Below w.heap.size w ((w.alloc (.cells #[.int .i64 k, .int .i64 v, .int .i64 c] 23)).alloc (.cells #[.int .i64 0, .int .i64 0, .int .i64 0] 28)) := below2r
 go_region_held3 (fun w' => w'.cell? ⟨w.heap.size, 0, none⟩ = some (.int .i64 k) ∧ w'.cell? ⟨w.heap.size, 1, none⟩ = some (.int .i64 v) ∧ w'.cell? ⟨w.heap.size, 2, none⟩ = some (.int .i64 c) ∧ w'.cell? ⟨w.heap.size + 1, 0, none⟩ = some (.int .i64 0) ∧ w'.cell? ⟨w.heap.size + 1, 1, none⟩ = some (.int .i64 0) ∧ w'.cell? ⟨w.heap.size + 1, 2, none⟩ = some (.int .i64 0)) (first | go_keep | (go_split_ands; (repeat' constructor) <;> exact cell_later (by assumption) (by assumption)))
  (first | (go_at_call 25; refine (HF.out _).mono ?_; rintro e w2 ⟨rfl, hb2⟩) | (go_at_call 26; refine (HO.out _).mono ?_; rintro e w3 ⟨p, own, rfl, hb3, hfr, hrep⟩))
 have HB3 : Hid (Below w.heap.size w w3) := ((hA.drew.trans (hb2.mono hA.drew.size)).trans (hb3.mono (Nat.le_trans hA.drew.size hb2.size)))
 have HR3 : Hid (P.Rep w3 p s3 own) := hrep
 have HF3 : Hid (∀ q, own q ≠ none → w.heap.size ≤ q) := fun q hq => by have := hfr q hq; have := hb2.size; simp at this; omega
 clear hb2 hb3 hfr hrep hA
 go_wp2_with fail
 refine (newBook_any _).mono ?_
 rintro e w4 ⟨rfl, hb4, hat⟩
 have HB4 : Hid (Below w.heap.size w w4) := HB3.out.trans (hb4.mono HB3.out.size)
 have hown : ∀ q, own q ≠ none → own0 w3.heap.size q = none := fun q hq => by
  cases e : own0 w3.heap.size q with
  | none => rfl
  | some t => have := own0_at (r := w3.heap.size) (k := q) (by rw [e]; simp); have := P.old HR3.out q hq; omega
 have hob : ∀ q, own0 w3.heap.size q ≠ none → w.heap.size ≤ q := fun q hq => by have := own0_at hq; have := HB3.out.size; omega
 have HR4 : Hid (P.Rep w4 p s3 own) := P.below HR3.out hb4
 obtain ⟨hs4, m4, hpl4⟩ := hat
 have hc7 : w4.cell? ⟨w3.heap.size, 1543, none⟩ = some (.int .i64 (-1)) := m4.val 7 (by omega)
 have hf7 : w4.frozen? ⟨w3.heap.size, 1543, none⟩ = false := (m4.there (o := 1536) (n := 8) (by omega) 7 (by omega)).2
 have hb7 : w3.heap.size < w4.heap.size := m4.old _ (by rw [m4.tag]; simp)
 have m5 : BkMem (w4.setCell ⟨w3.heap.size, 1543, none⟩ (.int .i64 77)) w3.heap.size hs4 (updV (fun _ => -1) 7 77) (own0 w3.heap.size) := m4.setVal (j := 7) (by omega) 77
 have II : Hid (BookInv P J w.heap.size p w3.heap.size 3 (w4.setCell ⟨w3.heap.size, 1543, none⟩ (.int .i64 77))) := by
  refine ⟨s3, fun _ => pd0, updV (fun _ => -1) 7 77, own, own0 w3.heap.size, P.frame HR4.out (fun q hq => heap_setCell_ne _ _ _ _ _ (fun e => ?_)) (by simp), HO0.out, HJ0.out, BkFit.zero.mono (by omega), ⟨hs4, m5, hpl4⟩, hown, HF3.out, hob⟩
  have := hown q hq
  rw [e] at this
  simp [own0] at this
 have HB5 : Hid (Below w.heap.size w (w4.setCell ⟨w3.heap.size, 1543, none⟩ (.int .i64 77))) := HB4.out.setCell HB3.out.size _
 clear m4 m5 hpl4 hb4 hown hob
 go_upto_region 7 with fail
 generalize w4.setCell ⟨w3.heap.size, 1543, none⟩ (.int .i64 77) = w5 at *
 clear hc7 hf7 hb7
 generalize w3.heap.size = gb at *
 go_wp2_with fail
 go_loopw [7, 9] (fun ok i wr => ∃ n : Nat, n ≤ script.length ∧ i = .int .i64 n ∧ ok = .bool true ∧ Hid (BookInv P J w.heap.size p gb (3 + n) wr) ∧ Hid (Below w.heap.size w wr)) (fun _ i _ => script.length - (intOf i).toNat)
 case atStart => exact ⟨0, Nat.zero_le _, rfl, rfl, II, HB5⟩
 case round =>
  obtain ⟨n, hn, rfl, rfl, In, hB⟩ := hrel
  have hz := hB.out.size
  by_cases hlt : n < script.length
  ·have hg := List.getElem?_eq_getElem hlt
   generalize script[n] = x at hg
   obtain ⟨bs, off, rfl, hbl, hrg⟩ := HE.out n x hg
   have hrg' : wr.rangeAt bs (off + n * 9) [.int .i64 x.who.1, .int .i64 x.who.2.1, .int .i64 x.who.2.2, .int .i64 x.op, .int .i64 x.at_.1, .int .i64 x.at_.2, .int .i64 x.key, .int .i64 x.to_, .int .i64 x.value] := rangeAt_below hrg hB.out hbl
   have HRG : Hid (w.rangeAt bs (off + n * 9) (stepC x)) := hrg
   have zn : (n : Int) < (script.length : Int) := by omega
   obtain ⟨s, ps, vals, oP, oB, A⟩ := In.out
   have hd := A.does HST.out hz (by omega) x
   generalize (P.act s x).2 = an at *
   unfold stepV at hd
   have HD : Hid (type_of% hd) := hd
   clear hrg hg hd A
   go_wp2_with (first | (refine wpList_load_mid rfl 30 _ rfl bs (off + n * 9) rfl _ _ hrg' Try.underlying30 rfl sizeStep ?_))
   refine HD.out.mono ?_
   rintro e w6 ⟨aq, cq, oC, rfl, hmid, hb6, _⟩
   have HM6 : Hid (BookMid P J (fun r => r = true) w.heap.size p gb (3 + n) x an aq cq oC w6) := hmid
   have HB6 : Hid (Below w.heap.size w w6) := hB.out.trans hb6
   clear hmid hb6 HD hrg'
   go_upto_region 11 with fail
   have hA6 : Below w6.heap.size w6 (w6.alloc (.cells #[.int .i64 an.code, .int .i64 an.why, .slice aq an.items.length cq] 66)) := (Below.refl _ _).alloc (Nat.le_refl _) _
   have hY6 : (w6.alloc (.cells #[.int .i64 an.code, .int .i64 an.why, .slice aq an.items.length cq] 66)).heap[w6.heap.size]? = some (.cells #[.int .i64 an.code, .int .i64 an.why, .slice aq an.items.length cq] 66 (0, 0)) := heap_alloc_new w6 _
   have HM7 : Hid (BookMid P J (fun r => r = true) w.heap.size p gb (3 + n) x an aq cq oC (w6.alloc (.cells #[.int .i64 an.code, .int .i64 an.why, .slice aq an.items.length cq] 66))) := HM6.out.below hA6
   have HB7 : Hid (Below w.heap.size w (w6.alloc (.cells #[.int .i64 an.code, .int .i64 an.why, .slice aq an.items.length cq] 66))) := HB6.out.trans (hA6.mono HB6.out.size)
   have HOC : Hid (oC w6.heap.size = none) := HM6.out.free (Nat.le_refl _)
   have zg : w6.heap.size < (w6.alloc (.cells #[.int .i64 an.code, .int .i64 an.why, .slice aq an.items.length cq] 66)).heap.size := (Array.getElem?_eq_some_iff.1 hY6).1
   generalize w6.alloc (.cells #[.int .i64 an.code, .int .i64 an.why, .slice aq an.items.length cq] 66) = w7 at *
   generalize w6.heap.size = ga at *
   have HY7 : Hid (type_of% hY6) := hY6
   clear hA6 hY6
   refine wp_region_Z (z := 7) (S := fun W => W.cell? ⟨bs, off + n * 9, none⟩ = some (.int .i64 x.who.1) ∧ W.cell? ⟨bs, off + n * 9 + 1, none⟩ = some (.int .i64 x.who.2.1) ∧ W.cell? ⟨bs, off + n * 9 + 2, none⟩ = some (.int .i64 x.who.2.2) ∧ W.cell? ⟨bs, off + n * 9 + 3, none⟩ = some (.int .i64 x.op) ∧ W.cell? ⟨bs, off + n * 9 + 4, none⟩ = some (.int .i64 x.at_.1) ∧ W.cell? ⟨bs, off + n * 9 + 5, none⟩ = some (.int .i64 x.at_.2) ∧ W.cell? ⟨bs, off + n * 9 + 6, none⟩ = some (.int .i64 x.key) ∧ W.cell? ⟨bs, off + n * 9 + 7, none⟩ = some (.int .i64 x.to_) ∧ W.cell? ⟨bs, off + n * 9 + 8, none⟩ = some (.int .i64 x.value) ∧ W.cell? ⟨ga, 0, none⟩ = some (.int .i64 an.code) ∧ W.cell? ⟨ga, 1, none⟩ = some (.int .i64 an.why) ∧ W.cell? ⟨ga, 2, none⟩ = some (.slice aq an.items.length cq)) (by kernel_rfl) ?_
   have hBd : Below w7.heap.size w7 w7.drew := (Below.refl _ _).drew
   have hS : w7.drew.cell? ⟨bs, off + n * 9, none⟩ = some (.int .i64 x.who.1) ∧ w7.drew.cell? ⟨bs, off + n * 9 + 1, none⟩ = some (.int .i64 x.who.2.1) ∧ w7.drew.cell? ⟨bs, off + n * 9 + 2, none⟩ = some (.int .i64 x.who.2.2) ∧ w7.drew.cell? ⟨bs, off + n * 9 + 3, none⟩ = some (.int .i64 x.op) ∧ w7.drew.cell? ⟨bs, off + n * 9 + 4, none⟩ = some (.int .i64 x.at_.1) ∧ w7.drew.cell? ⟨bs, off + n * 9 + 5, none⟩ = some (.int .i64 x.at_.2) ∧ w7.drew.cell? ⟨bs, off + n * 9 + 6, none⟩ = some (.int .i64 x.key) ∧ w7.drew.cell? ⟨bs, off + n * 9 + 7, none⟩ = some (.int .i64 x.to_) ∧ w7.drew.cell? ⟨bs, off + n * 9 + 8, none⟩ = some (.int .i64 x.value) ∧ w7.drew.cell? ⟨ga, 0, none⟩ = some (.int .i64 an.code) ∧ w7.drew.cell? ⟨ga, 1, none⟩ = some (.int .i64 an.why) ∧ w7.drew.cell? ⟨ga, 2, none⟩ = some (.slice aq an.items.length cq) := by
    obtain ⟨x0, x1, x2, x3, x4, x5, x6, x7, x8⟩ := rangeAt_step (rangeAt_below HRG.out HB7.out hbl)
    obtain ⟨n0, n1, n2, _, _, _⟩ := ans_cells HY7.out
    exact ⟨x0, x1, x2, x3, x4, x5, x6, x7, x8, n0, n1, n2⟩
   refine zT (i := 0) (v := ?v1) (by decide +kernel) rfl (fun _ _ _ h => h) hS (.inl ⟨by rfl, ?y1⟩) ?_
   case y1 => (rintro wz ⟨zs0, zs1, zs2, zs3, zs4, zs5, zs6, zs7, zs8, zs9, zs10, zs11⟩; go_simp <;> with_reducible rfl)
   simp only [Act.put, z1, z2, z4, z5, z6]
   refine zT (i := 1) (v := ?v2) (by decide +kernel) rfl (fun _ _ _ h => h) hS (.inl ⟨by rfl, ?y2⟩) ?_
   case y2 => (rintro wz ⟨zs0, zs1, zs2, zs3, zs4, zs5, zs6, zs7, zs8, zs9, zs10, zs11⟩; go_simp <;> with_reducible rfl)
   simp only [Act.put, z1, z2, z3, z4, z5, z6]
   refine zT (i := 2) (v := ?v3) (by decide +kernel) rfl (fun _ _ _ h => h) hS (.inl ⟨by rfl, ?y3⟩) ?_
   case y3 => (rintro wz ⟨zs0, zs1, zs2, zs3, zs4, zs5, zs6, zs7, zs8, zs9, zs10, zs11⟩; go_simp <;> with_reducible rfl)
   simp only [Act.put, z1, z2, z3, z4, z5, z6]
   refine zT (i := 3) (v := ?v4) (by decide +kernel) rfl (fun _ _ _ h => h) hS (.inl ⟨by rfl, ?y4⟩) ?_
   case y4 => (rintro wz ⟨zs0, zs1, zs2, zs3, zs4, zs5, zs6, zs7, zs8, zs9, zs10, zs11⟩; go_simp <;> with_reducible rfl)
   simp only [Act.put, z1, z2, z3, z4, z5, z6]
   refine zT (i := 4) (v := ?v5) (by decide +kernel) rfl (fun _ _ _ h => h) hS (.inl ⟨by rfl, ?y5⟩) ?_
   case y5 => (rintro wz ⟨zs0, zs1, zs2, zs3, zs4, zs5, zs6, zs7, zs8, zs9, zs10, zs11⟩; go_simp <;> with_reducible rfl)
   simp only [Act.put, z1, z2, z3, z4, z5, z6]
   refine zT (i := 5) (v := ?v6) (by decide +kernel) rfl (fun _ _ _ h => h) hS (.inl ⟨by rfl, ?y6⟩) ?_
   case y6 => (rintro wz ⟨zs0, zs1, zs2, zs3, zs4, zs5, zs6, zs7, zs8, zs9, zs10, zs11⟩; go_simp <;> with_reducible rfl)
   simp only [Act.put, z1, z2, z3, z4, z5, z6]
   refine wpAnyZ_one (i := 6) (by decide +kernel) rfl (fun K hK => ?_)
   go_simp
   refine ((HM7.out.below hBd).told (by simpa using HB7.out.size) (by omega)).mono ?_
   rintro e w8 ⟨r, rfl, rfl, hinv, hb8, hsame⟩
   have hB8 : Below w.heap.size w w8 := (HB7.out.trans (hBd.mono HB7.out.size)).trans hb8
   have hS : w8.cell? ⟨bs, off + n * 9, none⟩ = some (.int .i64 x.who.1) ∧ w8.cell? ⟨bs, off + n * 9 + 1, none⟩ = some (.int .i64 x.who.2.1) ∧ w8.cell? ⟨bs, off + n * 9 + 2, none⟩ = some (.int .i64 x.who.2.2) ∧ w8.cell? ⟨bs, off + n * 9 + 3, none⟩ = some (.int .i64 x.op) ∧ w8.cell? ⟨bs, off + n * 9 + 4, none⟩ = some (.int .i64 x.at_.1) ∧ w8.cell? ⟨bs, off + n * 9 + 5, none⟩ = some (.int .i64 x.at_.2) ∧ w8.cell? ⟨bs, off + n * 9 + 6, none⟩ = some (.int .i64 x.key) ∧ w8.cell? ⟨bs, off + n * 9 + 7, none⟩ = some (.int .i64 x.to_) ∧ w8.cell? ⟨bs, off + n * 9 + 8, none⟩ = some (.int .i64 x.value) ∧ w8.cell? ⟨ga, 0, none⟩ = some (.int .i64 an.code) ∧ w8.cell? ⟨ga, 1, none⟩ = some (.int .i64 an.why) ∧ w8.cell? ⟨ga, 2, none⟩ = some (.slice aq an.items.length cq) := by
    obtain ⟨x0, x1, x2, x3, x4, x5, x6, x7, x8⟩ := rangeAt_step (rangeAt_below HRG.out hB8 hbl)
    obtain ⟨n0, n1, n2, _, _, _⟩ := ans_cells ((hsame ga zg HOC.out).trans HY7.out)
    exact ⟨x0, x1, x2, x3, x4, x5, x6, x7, x8, n0, n1, n2⟩
   have I8 : Hid (BookInv P J w.heap.size p gb (3 + (n + 1)) w8) := hinv
   have HB8 : Hid (Below w.heap.size w w8) := hB8
   clear hinv hb8 hsame hB8
   refine hK _ _ (fun _ => hS) ?_
   clear hK
   refine wpAnyZ_one (i := 7) (by decide +kernel) rfl (fun K hK => ?_)
   go_simp
   refine hK _ _ (fun h => absurd rfl h) ?_
   clear hK
   refine wpAnyZ_done (by decide +kernel) ?_ _
   go_wp2
   go_roundw
   case rel => exact ⟨n + 1, by omega, by go_num, rfl, I8, HB8⟩
   case measure => simp [intOf]; omega
  ·have e : n = script.length := by omega
   subst e
   obtain ⟨wE, hwE⟩ : ∃ u, u = wr := ⟨_, rfl⟩
   subst hwE
   obtain ⟨s, ps, vals, oP, oB, A⟩ := In.out
   have HLK : Hid (∀ n, n < 32 → P.look s (labK n) = seenL vals n 0 16) := HLKX.out _ _ _ _ A.ok A.j
   have HOK : Hid (P.Ok (3 + script.length) s) := A.ok
   have HRP : Hid (P.Rep wE p s oP) := A.rep
   have HBK : Hid (BkAt wE gb ps vals oB) := A.bk
   clear A
   go_wp2_with fail
   go_loopw [11] (fun i wr => ∃ m : Nat, m ≤ 32 ∧ i = .int .i64 m ∧ Hid (Below wE.heap.size wE wr)) (fun i _ => 32 - (intOf i).toNat)
   case atStart => exact ⟨0, Nat.zero_le _, rfl, Below.refl _ _⟩
   case round =>
    obtain ⟨m, hm, rfl, hBm⟩ := hrel
    have hzm := hBm.out.size
    by_cases hlm : m < 32
    ·have hlm' : (m : Int) < 32 := by omega
     have hll : labB ((m : Int) / 8) ((m : Int) % 8) = true := labB_mk (by omega)
     have hlk' : P.look s ((m : Int) / 8, (m : Int) % 8) = seenL vals m 0 16 := by
      have : labK m = ((m : Int) / 8, (m : Int) % 8) := by unfold labK; simp
      rw [← this]; exact HLK.out m hlm
     have hlb := fun W => label_any (m : Int) W (by omega) (by omega)
     have H1 : Hid (∀ W, Below wE.heap.size wE W → Calls Try.prog 31 #[.pointer (some ⟨p, 0, none⟩), .agg #[.int .i64 ((m : Int) / 8), .int .i64 ((m : Int) % 8)]] W fun e w' => ∃ v, e = .returned (.tuple #[v, .int .i64 0]) ∧ w'.ownsRow W.heap.size 94 2 v (seenL vals m 0 16).length (itemsV (seenL vals m 0 16)) ∧ Below W.heap.size W w') := by
      intro W h; have := P.lookYes ((m : Int) / 8) ((m : Int) % 8) (P.below HRP.out h) HOK.out hll; rw [hlk'] at this; exact this
     have H2 : Hid (∀ W, Below wE.heap.size wE W → Calls Try.prog 35 #[.pointer (some ⟨gb, 1536, none⟩), .int .i64 (m : Int), .int .i64 ((0 : Nat) : Int), .int .i64 ((15 : Nat) : Int)] W fun e w' => ∃ v, e = .returned v ∧ w'.ownsRow W.heap.size 94 2 v (seenL vals m 0 16).length (itemsV (seenL vals m 0 16)) ∧ Below W.heap.size W w') := by
      intro W h
      obtain ⟨hs, mm, _⟩ := HBK.out.below h
      exact seen_any gb vals m 0 15 W hlm (by omega) (by omega) mm.val (mm.old gb (by rw [mm.tag]; simp))
     clear hll hlk'
     go_wp2_with fail
     refine (hlb _).mono ?_
     rintro e u1 ⟨rfl, hbu1⟩
     have t1 := hBm.out.trans (hbu1.mono hzm)
     go_wp2_with fail
     refine (H1.out _ t1).mono ?_
     rintro e u2 ⟨v1, rfl, hv1, hbu2⟩
     have t2 := t1.trans (hbu2.mono t1.size)
     go_wp2_with fail
     refine (H2.out _ t2).mono ?_
     rintro e u3 ⟨v2, rfl, hv2, hbu3⟩
     have t3 := t2.trans (hbu3.mono t2.size)
     have hs := ksameItems_any _ _ _ _ u3 (isItems_kept (ownsRow_items hv1) hbu3) (ownsRow_items hv2)
     rw [decide_eq_true rfl] at hs
     have HS : Hid (type_of% hs) := hs
     have HB3' : Hid (Below wE.heap.size wE u3) := t3
     clear hs hv1 hv2 t1 t2 t3 hbu1 hbu2 hbu3 hlb
     go_wp2_with fail
     refine HS.out.mono ?_
     rintro e u5 ⟨rfl, hb5⟩
     have HB5' : Hid (Below wE.heap.size wE u5) := HB3'.out.trans (hb5.mono HB3'.out.size)
     clear hb5
     go_wp2
     go_roundw
     case rel => exact ⟨m + 1, by omega, by go_num, HB5'⟩
     case measure => simp [intOf]; omega
    ·go_wp2
     go_ret
     exact ⟨rfl, hB.out.trans (hBm.out.mono hz)⟩
end Go.Proofs.Ytpbcplfpjcacfaa
namespace Go.Proofs.Ytpbcplfpjcacfaa
open Go.RowKit
set_option maxRecDepth 100000
set_option maxHeartbeats 8000000
theorem serial_true {k v c : Int} (hk : i64B k) (hv : i64B v) (hc : i64B c) {sv : Value} {script : List Stp} {w : World} (hsc : isSteps w sv script) (hlen : script.length + 1000 < 2000000000000) :
  Calls Try.prog 10 #[.agg #[.int .i64 k, .int .i64 v, .int .i64 c], sv] w fun e w' => e = .returned (.bool true) ∧ Below w.heap.size w w' := by
 have hmay := may_fits k v c
 obtain ⟨ho, _⟩ := pair_opens thePgm theDoc hmay first_ok
 refine serial_walk (thePgm.pair theDoc) (fun s ps vals => SOk s.1 ps vals) (fun N s ps vals x ok h => ?_) (fun ok h n hn => ser_look ok h n hn) k v c sv script w hk hv hc hsc hlen _ rfl ho (sok_open hmay)
 rw [pair_ans ok x]
 exact ser_do h x
end Go.Proofs.Ytpbcplfpjcacfaa
namespace Go.Proofs.Ytpbcplfpjcacfaa
open Go.ChangeShapes Go.WideShapes Go.ChangeAt Go.RowKit Go.Joins Go.Deep
set_option linter.unusedVariables false
set_option maxRecDepth 100000
set_option maxHeartbeats 8000000
theorem serialF_lifted (os : Os) (started : os.Started) (H : Type) (enc : TypeId × Value → H) :
  ReturnsInHanded {} Try.checked os 10 .any (Rows.serialSpec.pre6 enc Try.prog Try.f10 Rows.serialRow.domain false) (Rows.serialSpec.post enc Try.prog Try.f10 false true false false) := by
 refine returnsInHanded_of_change_sized (C := Try.checked) tryOwn started (by kernel_rfl) Try.func10
  (ChangeSpec.witness6 (enc := enc) (C := Try.checked) false ⟨#[], #[.agg #[.int .i64 0, .int .i64 0, .int .i64 0], .slice none 0 0], []⟩ 8 (by kernel_rfl) (by kernel_rfl) (by kernel_rfl) (by kernel_rfl)) ?_
 intro W base args ds gs before hval0 hW hcnd hsz0 _
 have hsz : (DataW.weightsEach Try.prog (Try.f10.params.toList ++ Rows.serialSpec.plain.varTypes Try.prog) (ds ++ gs)).all (· ≤ reachBytes) = true := hsz0
 have hval : ∀ (j : Nat) t v, Try.f10.params[j]? = some t → args[j]? = some v → Value.okWide Try.prog W .any base t v := hval0
 have hW' := hW
 obtain ⟨p, q, hA0, hV, rfl, hfz, hnd⟩ := hW
 have hA : DataW.TrodAll enc Try.prog W 0 (fun _ => true) true Try.f10.params.toList args.toList ds p := hA0
 rw [Try.params10] at hA hval hsz
 obtain ⟨v0, vs0, d0, ds0, p0, q0, hargs, rfl, rfl, h0, r0⟩ := trodAll_cons hA
 obtain ⟨v1, vs1, d1, ds1, p1, q1, rfl, rfl, rfl, h1, r1⟩ := trodAll_cons r0
 obtain ⟨rfl, rfl, rfl⟩ := trodAll_nil r1
 obtain rfl : args = #[v0, v1] := by cases args; simp_all
 obtain ⟨rfl, rfl⟩ := trodVars_none hV
 have lt0 : ∀ x ∈ p0, x.block < W.heap.size := by obtain ⟨m, hm⟩ := h0; exact DataW.trod_lt m _ _ _ hm
 have lt1 : ∀ x ∈ p1, x.block < W.heap.size := by obtain ⟨m, hm⟩ := h1; exact DataW.trod_lt m _ _ _ hm
 obtain ⟨a, b, c, rfl, ia, ib, ic⟩ := open_configB (hval 0 23 v0 rfl rfl) h0
 obtain ⟨script, hsc, hd1⟩ := open_steps (hval 1 59 v1 rfl rfl) h1
 have hlen1 : script.length * 72 ≤ 140737488351232 := by
  rcases hd1 with ⟨rfl, rfl⟩ | ⟨es, s, rfl, e⟩
  ·simp
  ·have := sized_slice hsz (j := 1) (t := 59) (e := 30) rfl rfl Try.underlying59
   rw [bytesStep, e] at this
   simp only [reachBytes] at this
   have h2 : script.length * 72 ≤ (script.length + s.length) * 72 := Nat.mul_le_mul_right _ (Nat.le_add_right _ _)
   omega
 clear hA0 hval0
 refine (serial_true ia ib ic hsc (by omega)).mono fun e W' ⟨he, bel⟩ => ?_
 subst he
 exact ⟨_, rfl, _, _, _, [], _, [], hW', trodAll_mk1 (shut_bool Try.underlying4 _), (trodAll_cons_mk (Below.trod tryLaid (by kernel_rfl) (of_decide_eq_true (by kernel_rfl)) h0 bel lt0) (trodAll_cons_mk (Below.trod tryLaid (by kernel_rfl) (of_decide_eq_true (by kernel_rfl)) h1 bel lt1) trodAll_mk0)), rfl, bel.frame _, fun h => by cases h⟩
theorem serialF_over : Rows.serialRow.holds Try.pinned (OpenSpec.ofChange Rows.serialSpec) :=
 OpenClaim.holds_of_wide 10 Try.f10 rfl rfl rfl rfl rfl rfl rfl ⟨rfl, rfl, rfl, rfl, rfl⟩ rfl rfl rfl rfl rfl (by kernel_rfl) Try.func10 (by kernel_rfl)
  (of_decide_eq_true (by kernel_rfl)) (by unfold Func.isWrapper; first | (rw [if_pos (by decide +kernel)]; kernel_rfl) | (rw [if_neg (by decide +kernel)]; exact ⟨rfl, rfl⟩))
  (fun os started H enc _ => serialF_lifted os started H enc)
theorem serial_said : Rows.SerialSaid := serialF_over
theorem serial_holds : Rows.SerialSaid := serial_said
#print axioms serial_holds
end Go.Proofs.Ytpbcplfpjcacfaa
