import Derived.Test.YtpbcplfpjcacfaaD24
namespace Go.Proofs.Ytpbcplfpjcacfaa
open Go.RowKit
set_option maxRecDepth 100000
set_option maxHeartbeats 8000000
theorem commit_is {w : World} {p q n : Nat} {a : Wh} {s : PS} {own : Own} {G : PG} (m : PMem w p s own G) (hq : q < 32) (hn : n < 4) (ha : a = whoOf q n) (F : s.Fit) :
  Calls Try.prog 58 #[.pointer (some ⟨p, 0, none⟩), .agg #[.int .i64 a.1, .int .i64 a.2.1, .int .i64 a.2.2]] w (AQ own w p (s.commitT q n).1 (s.commitT q n).2) := by
 have M : Hid (PMem w p s own G) := m
 have HF : Hid s.Fit := F
 have hp := m.lt
 have zn : (n : Int) < 4 := by omega
 have HA : Hid (a = whoOf q n) := ha
 clear m F
 obtain ⟨a0, a1, a2⟩ := a
 simp only [whoOf, Prod.mk.injEq] at ha
 obtain ⟨h0, h1, h2⟩ := ha
 subst h2
 have Ha : Hid ((a0, a1) = labOf q) := by show _ = _; rw [h0, h1]
 have hlab : labB a0 a1 = true := by rw [h0, h1]; exact labOf_ok hq
 have hpl : plOf (a0, a1) = q := by rw [Ha.out]; exact plOf_labOf hq
 clear h0 h1
 have HP : Hid (s.commitT q n = ((s.setI q (((s.t q).ses n).wr.over (s.t q).items)).finishT q n, ⟨0, 0, []⟩)) := rfl
 go_enter Try.func58, Try.ntmps58
 go_upto_region 1 with fail
 obtain ⟨B1, L0, L1⟩ := entryW (w := w) (a := (a0, a1, (n : Int)))
 unfold whoObj ansObj at *
 simp only at *
 generalize (w.alloc _).alloc _ = W1 at *
 have hs1 : w.heap.size + 1 < W1.heap.size := (Array.getElem?_eq_some_iff.1 L1.out).1
 obtain ⟨r0, r1, r2⟩ := who_cells L0.out
 go_wp2_with fail
 refine (tier_is (a := (a0, a1)) hlab hpl).mono ?_
 rintro e w2 ⟨rfl, hb2⟩
 have B2 : Hid (Below w.heap.size w w2) := B1.out.trans (hb2.mono B1.out.size)
 have L02 : Hid (w2.heap[w.heap.size]? = _) := (hb2.block _ (by omega)).trans L0.out
 have L12 : Hid (ansBlk w2 (w.heap.size + 1) 0 0 (.slice none 0 0)) := (hb2.block _ (by omega)).trans L1.out
 have hs2 : w.heap.size + 1 < w2.heap.size := Nat.lt_of_lt_of_le hs1 hb2.size
 clear r0 r1 r2 L0 L1 hb2 B1
 obtain ⟨s0, s1, s2⟩ := who_cells L02.out
 go_upto_region 2 with fail
 have kne := kin_some w2
 have kx2 := kin_cell s2
 refine wp_region_kin (by kernel_rfl) (by kernel_rfl) ?_
 repeat (first | go_big_quiet_step (fail) | quiet_step (fail))
 refine wpQuiet_nil ?_
 intro _ hw'
 obtain ⟨xq, hw''⟩ := hw'
 subst hw''
 have B3 : Hid (Below w.heap.size w xq.w) := B2.out.trans (xq.h.mono B2.out.size)
 have L03 : Hid (xq.w.heap[w.heap.size]? = _) := (xq.h.block _ (by omega)).trans L02.out
 have L13 : Hid (ansBlk xq.w (w.heap.size + 1) 0 0 (.slice none 0 0)) := (xq.h.block _ (by omega)).trans L12.out
 have hs3 : w.heap.size + 1 < xq.w.heap.size := Nat.lt_of_lt_of_le hs2 xq.h.size
 clear kne kx2 s0 s1 s2 L02 L12
 generalize xq.w = w3 at *
 have M3 : Hid (PMem w3 p s own G) := M.out.below B3.out
 have HS : Hid (∀ W, Below w3.heap.size w3 W → W.rangeAt p (tO q) (tabV (s.t q).items)) := fun W hB => (M3.out.below hB).items q hq
 have hS := HS.out w3.drew (Below.refl _ _).drew
 generalize hTT : (s.t q).items = T at *
 go_upto_region 3 with fail
 refine wp_region_Z (z := 11) (S := fun W => W.rangeAt p (tO q) (tabV T)) (by kernel_rfl) ?_
 refine zC 9 (i := 0) (v := ?v1) (by decide +kernel) rfl (fun _ _ _ h => h) hS (.inl ⟨by rfl, ?y1⟩) ?_
 case y1 => (intro wz zs0; go_simp <;> with_reducible rfl)
 simp only [Act.put, z1, z2, z4]
 refine zC 9 (i := 1) (v := ?v2) (by decide +kernel) rfl (fun _ _ _ h => h) hS (.inl ⟨by rfl, ?y2⟩) ?_
 case y2 => (intro wz zs0; go_simp <;> with_reducible rfl)
 simp only [Act.put, z1, z2, z3, z4, z5, z6]
 refine zC 9 (i := 2) (v := ?v3) (by decide +kernel) rfl (fun _ _ _ h => h) hS (.inl ⟨by rfl, ?y3⟩) ?_
 case y3 => (intro wz zs0; go_simp <;> with_reducible rfl)
 simp only [Act.put, z1, z2, z3, z4, z5, z6]
 refine zC 9 (i := 3) (v := ?v4) (by decide +kernel) rfl (fun _ _ _ h => h) hS (.inl ⟨by rfl, ?y4⟩) ?_
 case y4 => (intro wz zs0; go_simp <;> with_reducible rfl)
 simp only [Act.put, z1, z2, z3, z4, z5, z6]
 refine zC 9 (i := 4) (v := ?v5) (by decide +kernel) rfl (fun _ _ _ h => h) hS (.inl ⟨by rfl, ?y5⟩) ?_
 case y5 => (intro wz zs0; go_simp <;> with_reducible rfl)
 simp only [Act.put, z1, z2, z3, z4, z5, z6]
 refine zC 9 (i := 5) (v := ?v6) (by decide +kernel) rfl (fun _ _ _ h => h) hS (.inl ⟨by rfl, ?y6⟩) ?_
 case y6 => (intro wz zs0; go_simp <;> with_reducible rfl)
 simp only [Act.put, z1, z2, z3, z4, z5, z6]
 refine zC 9 (i := 6) (v := ?v7) (by decide +kernel) rfl (fun _ _ _ h => h) hS (.inl ⟨by rfl, ?y7⟩) ?_
 case y7 => (intro wz zs0; go_simp <;> with_reducible rfl)
 simp only [Act.put, z1, z2, z3, z4, z5, z6]
 refine wpAnyZ_takeC 9 (i := 7) (v := .agg (tabV T).toArray) (by decide +kernel) rfl (by decide +kernel) (by decide +kernel) (by decide +kernel) (by decide +kernel) (fun _ _ _ h => h) hS (yieldsIf_load_mid (by rfl) 122 _ rfl p (tO q) (by rfl) (tabV T) _ (fun W h => h) Try.underlying122 rfl (by rw [len_tabV]; exact size_tab)) ?_
 simp only [Act.put, List.setIfInBounds_toArray]
 refine wpAnyZ_one (i := 8) (by decide +kernel) rfl (fun K hK => ?_)
 go_simp
 refine (over_is (f := T) (ses_wr ((M3.out.below (Below.refl _ _).drew).sesAt hq hn)) (M3.out.below (Below.refl _ _).drew).lt).mono ?_
 rintro e w5 ⟨rfl, hb5⟩
 have hb5' : Below w3.heap.size w3 w5 := (Below.refl _ _).drew.trans hb5
 have M5 : Hid (PMem w5 p s own G) := M3.out.below hb5'
 have CG5 : Hid (ChgQ own w w5 own) := ChgQ.of_below (B3.out.trans (hb5'.mono B3.out.size))
 have L05 : Hid (w5.heap[w.heap.size]? = _) := (hb5'.block _ (by omega)).trans L03.out
 have L15 : Hid (ansBlk w5 (w.heap.size + 1) 0 0 (.slice none 0 0)) := (hb5'.block _ (by omega)).trans L13.out
 have hS5 := HS.out w5 hb5'
 have HT : Hid (w5.there p (tO q) (tabV (((s.t q).ses n).wr.over T)).toArray.size) := M5.out.there (by rw [List.size_toArray, len_tabV]; unfold tO; omega)
 obtain ⟨m6, cg6⟩ := M5.out.setItems hq (((s.t q).ses n).wr.over T)
 refine hK _ _ (fun _ => hS5) ?_
 clear hK
 refine wpAnyZ_one (i := 9) (by decide +kernel) rfl (fun K hK => ?_)
 go_simp
 refine hK _ _ (fun _ => hS5) ?_
 clear hK
 refine wpAnyZ_one (i := 10) (by decide +kernel) rfl (fun K hK => ?_)
 go_simp
 refine hK _ _ (fun _ => hS5) ?_
 clear hK
 refine wpAnyZ_one (i := 11) (by decide +kernel) rfl (fun K hK => ?_)
 rw [if_pos (by rfl)]
 refine wp_store_mid 122 _ _ rfl p (tO q) (tabV (((s.t q).ses n).wr.over T)).toArray rfl rfl HT.out (by rw [List.size_toArray, len_tabV]; exact size_tab) (tab_one _) (hK _ _ (fun h => absurd rfl h) ?_)
 clear hK
 refine wpAnyZ_done (by decide +kernel) ?_ _
 simp only
 have M6 : Hid (PMem (w5.setCells p (tO q) (tabV (((s.t q).ses n).wr.over T))) p (s.setI q (((s.t q).ses n).wr.over T)) own G) := m6
 have CG6 : Hid (ChgQ own w (w5.setCells p (tO q) (tabV (((s.t q).ses n).wr.over T))) own) := CG5.out.trans cg6
 have L06 : Hid ((w5.setCells p (tO q) (tabV (((s.t q).ses n).wr.over T))).heap[w.heap.size]? = _) := (setCells_other _ _ _ _ (by omega)).trans L05.out
 have L16 : Hid (ansBlk (w5.setCells p (tO q) (tabV (((s.t q).ses n).wr.over T))) (w.heap.size + 1) 0 0 (.slice none 0 0)) := (setCells_other _ _ _ _ (by omega)).trans L15.out
 clear m6 cg6 hS hS5 HS HT hb5 hb5' L03 L13 L05 L15 M5 CG5
 generalize w5.setCells p (tO q) (tabV (((s.t q).ses n).wr.over T)) = W6 at *
 have HF6 : Hid (s.setI q (((s.t q).ses n).wr.over T)).Fit := HF.out.setT ((HF.out.tr q hq).same rfl rfl (fun _ _ => rfl) (fun _ _ => rfl))
 generalize s.setI q (((s.t q).ses n).wr.over T) = s6 at *
 obtain ⟨c0, c1, c2⟩ := who_cells L06.out
 have hz6 : w.heap.size + 1 < W6.heap.size := (Array.getElem?_eq_some_iff.1 L16.out).1
 go_wp2_with fail
 refine (finish_is (a := (a0, a1, (n : Int))) M6.out hq hn HA.out HF6.out).mono ?_
 generalize s6.finishT q n = sF at *
 rintro e w7 ⟨rfl, hmv⟩
 obtain ⟨b0, b1, b2⟩ := moved_chain CG6.out (b := w.heap.size + 1) (by omega) (M.out.off (by omega)) L16.out hmv 0 0
 obtain ⟨e0, e1, e2, f0, f1, f2⟩ := ans_cells b0
 have A1 : Hid (ansBlk _ _ _ _ _) := b1
 have A2 : Hid (AQ _ _ _ _ _ _ _) := b2
 clear b0 b1 b2 hmv c0 c1 c2
 go_wp2
 refine ret_ans Try.results58 rfl A1.out rfl ?_
 rw [HP.out]; exact A2.out
theorem begin_is {w : World} {p q n : Nat} {a : Wh} {s : PS} {own : Own} {G : PG} (m : PMem w p s own G) (hq : q < 32) (ha : a = whoOf q n) (F : s.Fit) :
  Calls Try.prog 56 #[.pointer (some ⟨p, 0, none⟩), .agg #[.int .i64 a.1, .int .i64 a.2.1, .int .i64 a.2.2]] w (AQ own w p (s.beginT q n).1 (s.beginT q n).2) := by
 have M : Hid (PMem w p s own G) := m
 have hp := m.lt
 have h4 : (s.t q).begun.length ≤ 4 := (F.short q hq).1
 have HNO : Hid (∀ k, w.heap.size ≤ k → own k = none) := fun k hk => m.off hk
 clear m F
 obtain ⟨a0, a1, a2⟩ := a
 simp only [whoOf, Prod.mk.injEq] at ha
 obtain ⟨h0, h1, h2⟩ := ha
 subst h2
 have Ha : Hid ((a0, a1) = labOf q) := by show _ = _; rw [h0, h1]
 have hlab : labB a0 a1 = true := by rw [h0, h1]; exact labOf_ok hq
 have hpl : plOf (a0, a1) = q := by rw [Ha.out]; exact plOf_labOf hq
 clear h0 h1
 go_enter Try.func56, Try.ntmps56
 go_upto_region 1 with fail
 obtain ⟨B1, L0, L1⟩ := entryW (w := w) (a := (a0, a1, (n : Int)))
 unfold whoObj ansObj at *
 simp only at *
 generalize (w.alloc _).alloc _ = W1 at *
 have hs1 : w.heap.size + 1 < W1.heap.size := (Array.getElem?_eq_some_iff.1 L1.out).1
 obtain ⟨r0, r1, r2⟩ := who_cells L0.out
 go_wp2_with fail
 refine (tier_is (a := (a0, a1)) hlab hpl).mono ?_
 rintro e w2 ⟨rfl, hb2⟩
 have B2 : Hid (Below w.heap.size w w2) := B1.out.trans (hb2.mono B1.out.size)
 have L02 : Hid (w2.heap[w.heap.size]? = _) := (hb2.block _ (by omega)).trans L0.out
 have L12 : Hid (ansBlk w2 (w.heap.size + 1) 0 0 (.slice none 0 0)) := (hb2.block _ (by omega)).trans L1.out
 have hs2 : w.heap.size + 1 < w2.heap.size := Nat.lt_of_lt_of_le hs1 hb2.size
 clear r0 r1 r2 L0 L1 hb2 B1
 have M2 : Hid (PMem w2 p s own G) := M.out.below B2.out
 obtain ⟨s0, s1, s2⟩ := who_cells L02.out
 obtain ⟨e0, e1, e2, f0, f1, f2⟩ := ans_cells L12.out
 cases hlv : hasB (s.t q).begun n
 ·go_wp2_with fail
  refine (isLive_is M2.out hq hlv).mono ?_
  rintro e w3 ⟨rfl, rfl⟩
  have hrow := M2.out.begR q hq
  obtain ⟨ao, cap, hv, hmax⟩ := hrow.lens len_natC
  have hc := M2.out.begC hq
  have HV : Hid (G.b q = .slice ao (s.t q).begun.length cap) := hv
  rw [hv] at hc
  obtain ⟨_, kv, _⟩ := M2.out.keysC
  clear hv hrow hmax
  have kne := kin_some w2
  have kk := kin_cell kv
  have kc := kin_cell hc
  go_upto_region 4 with fail
  refine wp_region_kin (by kernel_rfl) (by kernel_rfl) ?_
  repeat (first | go_big_quiet_step (fail) | quiet_step (fail))
  refine wpQuiet_nil ?_
  intro _ hw'
  obtain ⟨xq, hw''⟩ := hw'
  subst hw''
  have B3 : Hid (Below w.heap.size w xq.w) := B2.out.trans (xq.h.mono B2.out.size)
  have L03 : Hid (xq.w.heap[w.heap.size]? = _) := (xq.h.block _ (by omega)).trans L02.out
  have L13 : Hid (ansBlk xq.w (w.heap.size + 1) 0 0 (.slice none 0 0)) := (xq.h.block _ (by omega)).trans L12.out
  clear kne kk kc kv hc s0 s1 s2 e0 e1 e2 f0 f1 f2
  generalize xq.w = w3 at *
  have hs3 : w.heap.size + 1 < w3.heap.size := (Array.getElem?_eq_some_iff.1 L13.out).1
  have M3 : Hid (PMem w3 p s own G) := M.out.below B3.out
  obtain ⟨e0, e1, e2, f0, f1, f2⟩ := ans_cells L13.out
  by_cases hfull : s.v ≤ ((s.t q).begun.length : Int)
  ·have HP : Hid (s.beginT q n = (s, ⟨4, 0, []⟩)) := by show _ = _; unfold PS.beginT; rw [hlv]; simp [hfull]
   obtain ⟨a1, a2⟩ := still_chain M.out B3.out (b := w.heap.size + 1) (by omega) L13.out 4 0
   have A1 : Hid (ansBlk _ _ _ _ _) := a1
   have A2 : Hid (AQ _ _ _ _ _ _ _) := a2
   clear a1 a2
   go_wp2
   refine ret_ans Try.results56 rfl A1.out rfl ?_
   rw [HP.out]; exact A2.out
  ·have HP : Hid (s.beginT q n = (s.setB q ((s.t q).begun ++ [n]), ⟨0, 0, []⟩)) := by show _ = _; unfold PS.beginT; rw [hlv]; simp [hfull]
   have hfz := M3.out.froz (tO q + 348)
   have hc := M3.out.begC hq
   rw [HV.out] at hc
   have hrow := M3.out.begR q hq
   rw [HV.out] at hrow
   have HROW : Hid (Row w3 own (begTag q) 3 1 (.slice ao (s.t q).begun.length cap) (s.t q).begun natC) := hrow
   obtain ⟨_, _, d2⟩ := who_cells L03.out
   have hp3 := M3.out.lt
   have hsz3 : w.heap.size < w3.heap.size := by omega
   clear hrow e0 e1 e2 f0 f1 f2
   obtain ⟨i0, hi0, hz0, hs0, hb0⟩ := info_all infoI
   go_upto_region 6 with fail
   have hS : (fun W : World => W.cell? ⟨p, tO q + 348, none⟩ = some (.slice ao (s.t q).begun.length cap) ∧ W.cell? ⟨w.heap.size, 2, none⟩ = some (.int .i64 (n : Int))) w3.drew := ⟨hc, d2⟩
   refine wp_region_Z (z := 11) (S := fun W => W.cell? ⟨p, tO q + 348, none⟩ = some (.slice ao (s.t q).begun.length cap) ∧ W.cell? ⟨w.heap.size, 2, none⟩ = some (.int .i64 (n : Int))) (by kernel_rfl) ?_
   refine zC 9 (i := 0) (v := ?v1) (by decide +kernel) rfl (fun _ _ _ h => h) hS (.inl ⟨by rfl, ?y1⟩) ?_
   case y1 => (rintro wz ⟨zs0, zs1⟩; go_simp <;> with_reducible rfl)
   simp only [Act.put, z1, z2, z4]
   refine zC 9 (i := 1) (v := ?v2) (by decide +kernel) rfl (fun _ _ _ h => h) hS (.inl ⟨by rfl, ?y2⟩) ?_
   case y2 => (rintro wz ⟨zs0, zs1⟩; go_simp <;> with_reducible rfl)
   simp only [Act.put, z1, z2, z3, z4, z5, z6]
   refine zC 9 (i := 2) (v := ?v3) (by decide +kernel) rfl (fun _ _ _ h => h) hS (.inl ⟨by rfl, ?y3⟩) ?_
   case y3 => (rintro wz ⟨zs0, zs1⟩; go_simp <;> with_reducible rfl)
   simp only [Act.put, z1, z2, z3, z4, z5, z6]
   refine zC 9 (i := 3) (v := ?v4) (by decide +kernel) rfl (fun _ _ _ h => h) hS (.inl ⟨by rfl, ?y4⟩) ?_
   case y4 => (rintro wz ⟨zs0, zs1⟩; go_simp <;> with_reducible rfl)
   simp only [Act.put, z1, z2, z3, z4, z5, z6]
   refine zC 9 (i := 4) (v := ?v5) (by decide +kernel) rfl (fun _ _ _ h => h) hS (.inl ⟨by rfl, ?y5⟩) ?_
   case y5 => (rintro wz ⟨zs0, zs1⟩; go_simp <;> with_reducible rfl)
   simp only [Act.put, z1, z2, z3, z4, z5, z6]
   refine zC 9 (i := 5) (v := ?v6) (by decide +kernel) rfl (fun _ _ _ h => h) hS (.inl ⟨by rfl, ?y6⟩) ?_
   case y6 => (rintro wz ⟨zs0, zs1⟩; go_simp <;> with_reducible rfl)
   simp only [Act.put, z1, z2, z3, z4, z5, z6]
   refine zC 9 (i := 6) (v := ?v7) (by decide +kernel) rfl (fun _ _ _ h => h) hS (.inl ⟨by rfl, ?y7⟩) ?_
   case y7 => (rintro wz ⟨zs0, zs1⟩; go_simp <;> with_reducible rfl)
   simp only [Act.put, z1, z2, z3, z4, z5, z6]
   have hx4 : (w3.alloc (.cells #[.int .i64 (n : Int)] 3)).drew.cell? ⟨p, tO q + 348, none⟩ = some (.slice ao (s.t q).begun.length cap) := by
    rw [World.cell?_drew, World.cell?_alloc_lt _ _ _ (by exact hp3)]; exact hc
   have hxk : (w3.alloc (.cells #[.int .i64 (n : Int)] 3)).drew.cell? ⟨w.heap.size, 2, none⟩ = some (.int .i64 (n : Int)) := by
    rw [World.cell?_drew, World.cell?_alloc_lt _ _ _ (by exact hsz3)]; exact d2
   refine wpAnyZ_one (i := 7) (by decide +kernel) rfl (fun K hK => ?_)
   go_simp
   refine hK _ _ (fun _ => ⟨hx4, hxk⟩) ?_
   clear hK
   refine wpAnyZ_one (i := 8) (by decide +kernel) rfl (fun K hK => ?_)
   refine step_append_lies _ (by rfl) _ _ _ (by rfl) 0 3 i0 _ 1 8 Try.underlying49 hi0 hz0 hs0 hb0 rfl (by omega) (.slice ao (s.t q).begun.length cap) (s.t q).begun.length ((s.t q).begun.flatMap natC) (by rfl) ((HROW.out.1.alloc _).drew)
    ⟨w3.heap.size, 0, none⟩ 1 1 [.int .i64 (n : Int)] (by rfl) (by rfl) (World.news_of_block (cs := #[.int .i64 (n : Int)]) (t := 3) (fr := (0, 0)) (heap_alloc_new w3 _)) (by simp [Value.oneCell'])
    (by omega) (by unfold maxLen; omega) (by omega) (Nat.zero_le _) (w3.heap.size + 1) (by simp) ?_
   intro gg cap' w4 hown1 hgrow hat hlt1
   simp only [Act.put, List.getElem_toArray, List.getElem_cons_zero, List.getElem_cons_succ, List.setIfInBounds_toArray, List.set_cons_zero, List.set_cons_succ]
   have nr : (Value.slice ao (s.t q).begun.length cap).ownBlock ≠ some p := fun e => by
    have := HROW.out.2 p e; rw [M3.out.tag] at this; simp [rootTag, begTag] at this
   have nx : (Value.slice ao (s.t q).begun.length cap).ownBlock ≠ some w.heap.size := fun e => by
    have := HROW.out.2 _ e; rw [HNO.out _ (Nat.le_refl _)] at this; cases this
   have q4 : w4.cell? ⟨p, tO q + 348, none⟩ = some (.slice ao (s.t q).begun.length cap) := hgrow.cell hx4 (Ne.symm nr)
   have qk : w4.cell? ⟨w.heap.size, 2, none⟩ = some (.int .i64 (n : Int)) := hgrow.cell hxk (Ne.symm nx)
   have fo : w4.frozen? ⟨p, tO q + 348, none⟩ = false := by
    rw [World.frozen?_of_block (hgrow.block p (by simp; omega) (Ne.symm nr))]
    rw [World.frozen?_drew, World.frozen?_alloc_past _ _ _ (by omega)]; exact hfz
   refine hK _ _ (fun _ => ⟨q4, qk⟩) ?_
   clear hK
   refine wpAnyZ_one (i := 9) (by decide +kernel) rfl (fun K hK => ?_)
   go_simp
   refine hK _ _ (fun _ => ⟨q4, qk⟩) ?_
   clear hK
   refine wpAnyZ_one (i := 10) (by decide +kernel) rfl (fun K hK => ?_)
   go_simp
   refine hK _ _ (fun _ => ⟨q4, qk⟩) ?_
   clear hK
   refine wpAnyZ_one (i := 11) (by decide +kernel) rfl (fun K hK => ?_)
   go_simp
   refine hK _ _ (fun h => absurd rfl h) ?_
   clear hK
   refine wpAnyZ_done (by decide +kernel) ?_ _
   rw [← HV.out] at hgrow hat
   obtain ⟨m5, cg5⟩ := M3.out.appBeg hq (W := (w3.alloc (.cells #[.int .i64 (n : Int)] 3)).drew) (x := n) (H := w3.heap.size + 1) (fun k hk => Below.heap_alloc _ _ _ hk) (by simp) rfl rfl rfl hgrow hown1 hat (by omega) hlt1
   have hmv : Moved own w3 p (s.setB q ((s.t q).begun ++ [n])) (w4.setCell ⟨p, tO q + 348, none⟩ (.slice (some ⟨gg, 0, none⟩) ((s.t q).begun.length + 1) cap')) := ⟨_, _, m5, cg5⟩
   obtain ⟨b0, b1, b2⟩ := moved_chain (ChgQ.of_below B3.out) (b := w.heap.size + 1) (by omega) (M.out.off (by omega)) L13.out hmv 0 0
   clear hown1 hgrow hat q4 qk fo m5 cg5 hx4 hxk hc hfz hS d2
   generalize w4.setCell ⟨p, tO q + 348, none⟩ (.slice (some ⟨gg, 0, none⟩) ((s.t q).begun.length + 1) cap') = W5 at *
   obtain ⟨e0, e1, e2, f0, f1, f2⟩ := ans_cells b0
   have A1 : Hid (ansBlk _ _ _ _ _) := b1
   have A2 : Hid (AQ _ _ _ _ _ _ _) := b2
   clear b0 b1 b2 hmv
   go_wp2
   refine ret_ans Try.results56 rfl A1.out rfl ?_
   rw [HP.out]; exact A2.out
 ·have HP : Hid (s.beginT q n = (s, ⟨6, 0, []⟩)) := by show _ = _; unfold PS.beginT; rw [hlv]; rfl
  obtain ⟨a1, a2⟩ := still_chain M.out B2.out (b := w.heap.size + 1) (by omega) L12.out 6 0
  have A1 : Hid (ansBlk _ _ _ _ _) := a1
  have A2 : Hid (AQ _ _ _ _ _ _ _) := a2
  clear a1 a2
  go_wp2_with fail
  refine (isLive_is M2.out hq hlv).mono ?_
  rintro e w3 ⟨rfl, rfl⟩
  go_wp2
  refine ret_ans Try.results56 rfl A1.out rfl ?_
  rw [HP.out]; exact A2.out
end Go.Proofs.Ytpbcplfpjcacfaa
