import Derived.Test.YtpbcplfpjcacfaaS04
namespace Go.Proofs.Ytpbcplfpjcacfaa
open Go.RowKit
set_option linter.unusedSimpArgs false
set_option maxRecDepth 100000
set_option maxHeartbeats 8000000
theorem Rep.free {w : World} {r : Nat} {st : RS} {own : Own} (h : Rep w r st own) {b j : Nat} (hb : own b = none) (u : Value) : Rep (w.setCell ⟨b, j, none⟩ u) r st own := by
 obtain ⟨g, vp, vt, vr, ve, P⟩ := h
 have k : ∀ c t, own c = some t → (w.setCell ⟨b, j, none⟩ u).heap[c]? = w.heap[c]? := fun c t hc => heap_setCell_ne _ _ _ _ _ (fun e => by rw [e, hb] at hc; cases hc)
 refine ⟨g, vp, vt, vr, ve, ?_⟩
 exact {
  root := by rw [k r _ P.rootTag]; exact P.root
  rootTag := P.rootTag
  places := P.places.frame (fun c hc => k c _ hc) (fun _ h => h)
  txns := P.txns.frame (fun c hc => k c _ hc) (fun _ h => h)
  recs := P.recs.frame (fun c hc => k c _ hc) (fun _ h => h)
  ended := P.ended.frame (fun c hc => k c _ hc) (fun _ h => h)
  olds := fun t ht => (P.olds t ht).frame (fun c hc => k c _ hc) (fun _ h => h)
  puts := fun t ht => (P.puts t ht).frame (fun c hc => k c _ hc) (fun _ h => h)
  told := fun t ht hr => (P.told t ht hr).frame (fun c hc => k c _ hc) (fun _ h => h)
  toldV := P.toldV
  old := fun c hc => by have := P.old c hc; simpa using this }
theorem Chg.free {own own' : Own} {w w' : World} (h : Chg own w w' own') {b j : Nat} (hb : w.heap.size ≤ b) (u : Value) : Chg own w (w'.setCell ⟨b, j, none⟩ u) own' :=
 ⟨h.os, h.tape, h.output, by simpa using h.size, fun k hk hn => by rw [heap_setCell_ne _ _ _ _ _ (by omega)]; exact h.block k hk hn, h.ext, h.fresh⟩
theorem Chg.none' {own own' : Own} {w w' : World} (h : Chg own w w' own') {b : Nat} (hb : own b = none) (hlt : b < w.heap.size) : own' b = none := by
 cases hq : own' b with
 | none => rfl
 | some t =>
  rcases h.fresh b (by rw [hq]; simp) with h1 | h1
  ·exact absurd hb h1
  ·omega
theorem step_cells {w : World} {b : Nat} {ty : Nat} {x : Stp} (h : w.heap[b]? = some (.cells #[.int .i64 x.who.1, .int .i64 x.who.2.1, .int .i64 x.who.2.2, .int .i64 x.op, .int .i64 x.at_.1, .int .i64 x.at_.2, .int .i64 x.key, .int .i64 x.to_, .int .i64 x.value] ty (0, 0))) :
  w.cell? ⟨b, 0, none⟩ = some (.int .i64 x.who.1) ∧ w.cell? ⟨b, 1, none⟩ = some (.int .i64 x.who.2.1) ∧ w.cell? ⟨b, 2, none⟩ = some (.int .i64 x.who.2.2) ∧ w.cell? ⟨b, 3, none⟩ = some (.int .i64 x.op) ∧ w.cell? ⟨b, 4, none⟩ = some (.int .i64 x.at_.1) ∧
  w.cell? ⟨b, 5, none⟩ = some (.int .i64 x.at_.2) ∧ w.cell? ⟨b, 6, none⟩ = some (.int .i64 x.key) ∧ w.cell? ⟨b, 7, none⟩ = some (.int .i64 x.to_) ∧ w.cell? ⟨b, 8, none⟩ = some (.int .i64 x.value) := by
 refine ⟨?_, ?_, ?_, ?_, ?_, ?_, ?_, ?_, ?_⟩ <;> (rw [cell_of_row w b _ _ _ _ h]; rfl)
theorem works_del (r : Nat) (st : RS) (own : Own) (x : Stp) (n : Nat) (t : Tx) (w : World) (hm : Rep w r st own) (hu : st.uniq) (hn : st.txns[n]? = some t) (ht : t.who = x.who) (hpl : st.places.length < 4294967296) (hol : t.olds.length < 4294967296) (hop : x.op = 5) :
  Calls Try.prog 112 #[.pointer (some ⟨r, 0, none⟩), stepV x] w fun e w' => e = .returned (ansV 0 0 (.slice none 0 0)) ∧ ∃ own', Rep w' r (st.writeT n t x.key (-1)) own' ∧ Chg own w w' own' := by
 obtain ⟨xw, xop, xa, xk, xt, xv⟩ := x
 simp only at hop ht ⊢
 subst hop
 have HL : Hid (st.live (xw.1, xw.2.1, xw.2.2) = (n : Int)) := live_at hn ht hu
 have hol0 : ∀ k, own k ≠ none → k < w.heap.size := by obtain ⟨g, vp, vt, vr, ve, m⟩ := hm; exact m.old
 have hno : ∀ k, w.heap.size ≤ k → own k = none := fun k hk => by
  cases hq : own k with
  | none => rfl
  | some t => have := hol0 k (by rw [hq]; simp); omega
 have Hn : Hid (st.txns[n]? = some t) := hn
 have Ht : Hid (t.who = xw) := ht
 have Hno : Hid (∀ k, w.heap.size ≤ k → own k = none) := hno
 clear hn ht hno hol0
 unfold stepV ansV
 go_enter Try.func112, Try.ntmps112
 go_wp2_with fail
 have hA : Below w.heap.size w ((w.alloc (.cells #[.int .i64 xw.1, .int .i64 xw.2.1, .int .i64 xw.2.2, .int .i64 5, .int .i64 xa.1, .int .i64 xa.2, .int .i64 xk, .int .i64 xt, .int .i64 xv] 30)).alloc (.cells #[.int .i64 0, .int .i64 0, .slice none 0 0] 66)) := below2r
 refine (live_any r st own xw.1 xw.2.1 xw.2.2 _ (hm.below hA)).mono ?_
 rintro e w1 ⟨rfl, hb1⟩
 rw [HL.out]
 have hB1 : Below w.heap.size w w1 := hA.trans (hb1.mono hA.size)
 have hz1 : w.heap.size + 2 ≤ w1.heap.size := by have := hb1.size; simp at this; omega
 have hX : w1.heap[w.heap.size]? = some (.cells #[.int .i64 xw.1, .int .i64 xw.2.1, .int .i64 xw.2.2, .int .i64 5, .int .i64 xa.1, .int .i64 xa.2, .int .i64 xk, .int .i64 xt, .int .i64 xv] 30 (0, 0)) := by
  rw [hb1.block _ (by simp; omega), Below.heap_alloc _ _ _ (by simp)]; exact heap_alloc_new w _
 have hR : w1.heap[w.heap.size + 1]? = some (.cells #[.int .i64 0, .int .i64 0, .slice none 0 0] 66 (0, 0)) := by
  rw [hb1.block _ (by simp)]
  have := heap_alloc_new (w.alloc (.cells #[.int .i64 xw.1, .int .i64 xw.2.1, .int .i64 xw.2.2, .int .i64 5, .int .i64 xa.1, .int .i64 xa.2, .int .i64 xk, .int .i64 xt, .int .i64 xv] 30)) (.cells #[.int .i64 0, .int .i64 0, .slice none 0 0] 66 (0, 0))
  simpa using this
 obtain ⟨c0, c1, c2, c3, c4, c5, c6, c7, c8⟩ := step_cells (x := ⟨xw, 5, xa, xk, xt, xv⟩) hX
 simp only at c0 c1 c2 c3 c4 c5 c6 c7 c8
 have hm1 := hm.below hB1
 clear hb1 hA
 go_wp2_with fail
 refine (write_any r st own n t xk (-1) _ hm1 hu Hn.out hpl hol).mono ?_
 rintro e w2 ⟨rfl, own', hrep, hchg⟩
 have hfree : own' (w.heap.size + 1) = none := hchg.none' (Hno.out _ (by omega)) (by omega)
 have hR2 : w2.heap[w.heap.size + 1]? = some (.cells #[.int .i64 0, .int .i64 0, .slice none 0 0] 66 (0, 0)) := by rw [hchg.block _ (by omega) (Hno.out _ (by omega))]; exact hR
 obtain ⟨d0, d1, d2, f0, f1, f2⟩ := ans_cells hR2
 have hst := ans_stored (.int .i64 0) (.int .i64 0) (.slice none 0 0) hR2
 have hrep' := ((hrep.free (j := 0) hfree (.int .i64 0)).free (j := 1) hfree (.int .i64 0)).free (j := 2) hfree (.slice none 0 0)
 have hch0 := (Chg.of_below (own := own) hB1).trans hchg
 have hch' := ((hch0.free (b := w.heap.size + 1) (j := 0) (by omega) (.int .i64 0)).free (b := w.heap.size + 1) (j := 1) (by omega) (.int .i64 0)).free (b := w.heap.size + 1) (j := 2) (by omega) (.slice none 0 0)
 have HS : Hid ((((w2.setCell ⟨w.heap.size + 1, 0, none⟩ (.int .i64 0)).setCell ⟨w.heap.size + 1, 1, none⟩ (.int .i64 0)).setCell ⟨w.heap.size + 1, 2, none⟩ (.slice none 0 0)).heap[w.heap.size + 1]? = some (.cells #[.int .i64 0, .int .i64 0, .slice none 0 0] 66 (0, 0))) := hst
 clear hst hR2 hR hX hrep hchg hch0 c0 c1 c2 c3 c4 c5 c6 c7 c8
 go_wp2
 exact ret_ans Try.results112 rfl HS.out rfl ⟨rfl, own', hrep', hch'⟩
end Go.Proofs.Ytpbcplfpjcacfaa
namespace Go.Proofs.Ytpbcplfpjcacfaa
open Go.RowKit
set_option maxRecDepth 100000
set_option maxHeartbeats 8000000
theorem waitsFor_is {r : Nat} {st : RS} {own : Own} {x y : Wh} {v : Bool} {w : World} (h : st.waitsFor x y = v) (hm : Rep w r st own) :
  Calls Try.prog 133 #[.pointer (some ⟨r, 0, none⟩), .agg #[.int .i64 x.1, .int .i64 x.2.1, .int .i64 x.2.2], .agg #[.int .i64 y.1, .int .i64 y.2.1, .int .i64 y.2.2]] w fun e w' => e = .returned (.bool v) ∧ Below w.heap.size w w' := by
 subst h; exact waitsFor_any r st own x y w hm
theorem leads_any (r : Nat) (st : RS) (own : Own) : ∀ (n : Nat) (s : Int) (x y : Wh) (w : World), s = (n : Int) → n ≤ 4 → Rep w r st own →
  Calls Try.prog 129 #[.pointer (some ⟨r, 0, none⟩), .agg #[.int .i64 x.1, .int .i64 x.2.1, .int .i64 x.2.2], .agg #[.int .i64 y.1, .int .i64 y.2.1, .int .i64 y.2.2], .int .i64 s] w fun e w' => e = .returned (.bool (st.leads n x y)) ∧ Below w.heap.size w w' := by
 intro n
 induction n with
 | zero =>
  intro s x y w hs _ hm
  subst hs
  go_enter Try.func129, Try.ntmps129
  go_wp2
  go_ret
  exact ⟨ret_bool rfl, below2r⟩
 | succ n ih =>
  intro s x y w hs hn hrep
  have s0 : (s == 0) = false := by simp; omega
  have s1 : 0 ≤ s := by omega
  have s2 : s ≤ 4 := by omega
  have HS : Hid (s = (n : Int) + 1) := by unfold Hid; omega
  have Hih : Hid (type_of% ih) := ih
  have hn' : n ≤ 4 := by omega
  clear hs ih hn
  go_enter Try.func129, Try.ntmps129
  go_wp2_with fail
  have hA : Below w.heap.size w ((w.alloc (.cells #[.int .i64 x.1, .int .i64 x.2.1, .int .i64 x.2.2] 28)).alloc (.cells #[.int .i64 y.1, .int .i64 y.2.1, .int .i64 y.2.2] 28)) := below2r
  have hbx := box2 w #[.int .i64 x.1, .int .i64 x.2.1, .int .i64 x.2.2] #[.int .i64 y.1, .int .i64 y.2.1, .int .i64 y.2.2] 28 28
  have hzA : Hid (((w.alloc (.cells #[.int .i64 x.1, .int .i64 x.2.1, .int .i64 x.2.2] 28)).alloc (.cells #[.int .i64 y.1, .int .i64 y.2.1, .int .i64 y.2.2] 28)).heap.size = w.heap.size + 2) := by unfold Hid; simp
  generalize (w.alloc (.cells #[.int .i64 x.1, .int .i64 x.2.1, .int .i64 x.2.2] 28)).alloc (.cells #[.int .i64 y.1, .int .i64 y.2.1, .int .i64 y.2.2] 28) = wA at *
  cases hwf : st.waitsFor x y
  ·refine (waitsFor_is hwf (hrep.below hA)).mono ?_
   rintro e w1 ⟨rfl, hb1⟩
   have hB1 : Below w.heap.size w w1 := hA.trans (hb1.mono hA.size)
   have hz1 : w.heap.size + 2 ≤ w1.heap.size := by have := hb1.size; have := hzA.out; omega
   have hxb : ∀ j, w1.cell? ⟨w.heap.size, j, none⟩ = #[Value.int .i64 x.1, .int .i64 x.2.1, .int .i64 x.2.2][j]? := fun j => by rw [hb1.cell (p := ⟨w.heap.size, j, none⟩) (by have := hzA.out; simp; omega)]; exact (hbx j).1
   have hyb : ∀ j, w1.cell? ⟨w.heap.size + 1, j, none⟩ = #[Value.int .i64 y.1, .int .i64 y.2.1, .int .i64 y.2.2][j]? := fun j => by rw [hb1.cell (p := ⟨w.heap.size + 1, j, none⟩) (by have := hzA.out; simp; omega)]; exact (hbx j).2
   have x0 : w1.cell? ⟨w.heap.size, 0, none⟩ = some (.int .i64 x.1) := hxb 0
   have x1 : w1.cell? ⟨w.heap.size, 1, none⟩ = some (.int .i64 x.2.1) := hxb 1
   have x2 : w1.cell? ⟨w.heap.size, 2, none⟩ = some (.int .i64 x.2.2) := hxb 2
   have z0 : w1.cell? ⟨w.heap.size + 1, 0, none⟩ = some (.int .i64 y.1) := hyb 0
   have z1 : w1.cell? ⟨w.heap.size + 1, 1, none⟩ = some (.int .i64 y.2.1) := hyb 1
   have z2 : w1.cell? ⟨w.heap.size + 1, 2, none⟩ = some (.int .i64 y.2.2) := hyb 2
   clear hb1 hxb hyb hbx hA hzA
   go_wp2_with fail
   go_loopw [10] (fun i wr => ∃ k : Nat, k ≤ 4 ∧ i = .int .i64 k ∧ Hid (∀ j, j < k → ledP st n x y j = false) ∧ Below w1.heap.size w1 wr) (fun i _ => 4 - (intOf i).toNat)
   case atStart => exact ⟨0, Nat.zero_le _, rfl, fun j hj => by omega, Below.refl _ _⟩
   case round =>
    obtain ⟨k, hk, rfl, Hl, hnx⟩ := hrel
    have hz2 := hnx.size
    have p0 := cell_later hnx x0
    have p1 := cell_later hnx x1
    have p2 := cell_later hnx x2
    have q0 := cell_later hnx z0
    have q1 := cell_later hnx z1
    have q2 := cell_later hnx z2
    by_cases hlt : k < 4
    ·have zk : (k : Int) ≤ 3 := by omega
     have l0 : w.heap.size < wr.heap.size := by omega
     have l1 : w.heap.size + 1 < wr.heap.size := by omega
     go_wp2_with fail
     have hA2 : Below wr.heap.size wr (wr.alloc (.cells #[.int .i64 x.1, .int .i64 x.2.1, .int .i64 (k : Int)] 28)) := (Below.refl _ _).alloc (Nat.le_refl _) _
     have hB2 : Below w.heap.size w (wr.alloc (.cells #[.int .i64 x.1, .int .i64 x.2.1, .int .i64 (k : Int)] 28)) := hB1.trans ((hnx.trans (hA2.mono hz2)).mono hB1.size)
     have hN : (wr.alloc (.cells #[.int .i64 x.1, .int .i64 x.2.1, .int .i64 (k : Int)] 28)).heap[wr.heap.size]? = some (.cells #[.int .i64 x.1, .int .i64 x.2.1, .int .i64 (k : Int)] 28 (0, 0)) := heap_alloc_new wr _
     have hz3 : Hid ((wr.alloc (.cells #[.int .i64 x.1, .int .i64 x.2.1, .int .i64 (k : Int)] 28)).heap.size = wr.heap.size + 1) := by unfold Hid; simp
     generalize wr.alloc (.cells #[.int .i64 x.1, .int .i64 x.2.1, .int .i64 (k : Int)] 28) = wM at *
     cases hwk : st.waitsFor x (x.1, x.2.1, (k : Int))
     ·refine (waitsFor_is (y := (x.1, x.2.1, (k : Int))) hwk (hrep.below hB2)).mono ?_
      rintro e w3 ⟨rfl, hb3⟩
      have hB3 : Below w1.heap.size w1 w3 := hnx.trans ((hA2.trans (hb3.mono hA2.size)).mono hz2)
      go_wp2
      go_roundw
      case rel =>
       refine ⟨k + 1, by omega, by go_num, fun j hj => ?_, hB3⟩
       rcases Nat.lt_or_ge j k with h | h
       ·exact Hl.out j h
       ·have : j = k := by omega
        subst this
        unfold ledP; rw [hwk, Bool.false_and]
      case measure => simp [intOf]; omega
     ·refine (waitsFor_is (y := (x.1, x.2.1, (k : Int))) hwk (hrep.below hB2)).mono ?_
      rintro e w3 ⟨rfl, hb3⟩
      have hB3 : Below w1.heap.size w1 w3 := hnx.trans ((hA2.trans (hb3.mono hA2.size)).mono hz2)
      have hB3w : Below w.heap.size w w3 := hB1.trans (hB3.mono hB1.size)
      have hN3 : w3.heap[wr.heap.size]? = some (.cells #[.int .i64 x.1, .int .i64 x.2.1, .int .i64 (k : Int)] 28 (0, 0)) := by rw [hb3.block _ (by have := hz3.out; omega)]; exact hN
      obtain ⟨m0, m1, m2, _, _, _⟩ := ans_cells hN3
      have t0 := cell_later hB3 z0
      have t1 := cell_later hB3 z1
      have t2 := cell_later hB3 z2
      clear hb3 hN hN3
      go_wp2_with fail
      cases hld : st.leads n (x.1, x.2.1, (k : Int)) y
      ·have hcall := Hih.out (s - 1) (x.1, x.2.1, (k : Int)) y w3 (by rw [HS.out]; omega) hn' (hrep.below hB3w)
       rw [hld] at hcall
       refine hcall.mono ?_
       clear hcall
       rintro e w4 ⟨rfl, hb4⟩
       have hB4 : Below w1.heap.size w1 w4 := hB3.trans (hb4.mono hB3.size)
       go_wp2
       go_roundw
       case rel =>
        refine ⟨k + 1, by omega, by go_num, fun j hj => ?_, hB4⟩
        rcases Nat.lt_or_ge j k with h | h
        ·exact Hl.out j h
        ·have : j = k := by omega
         subst this
         unfold ledP; rw [hld, Bool.and_false]
       case measure => simp [intOf]; omega
      ·have hcall := Hih.out (s - 1) (x.1, x.2.1, (k : Int)) y w3 (by rw [HS.out]; omega) hn' (hrep.below hB3w)
       rw [hld] at hcall
       refine hcall.mono ?_
       clear hcall
       rintro e w4 ⟨rfl, hb4⟩
       have hB4 : Below w.heap.size w w4 := hB3w.trans (hb4.mono hB3w.size)
       go_wp2
       go_ret
       refine ⟨ret_bool ?_, hB4⟩
       rw [leads_succ, hwf, Bool.false_or]
       symm
       rw [List.any_eq_true]
       exact ⟨k, by simpa using hlt, by unfold ledP; rw [hwk, hld]; rfl⟩
    ·have e : k = 4 := by omega
     subst e
     go_wp2
     go_ret
     refine ⟨ret_bool ?_, hB1.trans (hnx.mono hB1.size)⟩
     rw [leads_succ, hwf, Bool.false_or]
     symm
     rw [List.any_eq_false]
     intro j hj
     rw [Hl.out j (by simpa using hj)]; simp
  ·refine (waitsFor_is hwf (hrep.below hA)).mono ?_
   rintro e w1 ⟨rfl, hb1⟩
   have hB1 : Below w.heap.size w w1 := hA.trans (hb1.mono hA.size)
   go_wp2
   go_ret
   exact ⟨ret_bool (by rw [leads_succ, hwf, Bool.true_or]), hB1⟩
end Go.Proofs.Ytpbcplfpjcacfaa
