import Derived.Test.YtpbcplfpjcacfaaD11
namespace Go.Proofs.Ytpbcplfpjcacfaa
open Go.RowKit
set_option maxRecDepth 100000
set_option maxHeartbeats 8000000
theorem joinT_is (s : PS) (q n : Nat) (x : Stp) : (s.setS q n { (s.t q).ses n with req := x }).setQ q ((s.t q).queue ++ [n]) = s.setT q ((s.t q).joinT n x) := by
 unfold PS.setS PS.setQ
 rw [setT_t, setT_setT]
 rfl
theorem ChgQ.toD {own own' : Own} {w w' : World} (h : ChgQ own w w' own') : ChgD own w w' own' := ⟨h.os, h.tape, h.output, h.size, h.block, h.fresh⟩
def MovedD (own : Own) (w : World) (p : Nat) (s : PS) (w' : World) : Prop := ∃ own' G', PMem w' p s own' G' ∧ ChgD own w w' own'
theorem join_is {w : World} {p q n : Nat} {x : Stp} {s : PS} {own : Own} {G : PG} (m : PMem w p s own G) (hq : q < 32) (hn : n < 4) (hx : x.who.2.2 = (n : Int)) (h2 : (s.t q).queue.length ≤ 4) :
  Calls Try.prog 79 #[.pointer (some ⟨p, tO q, none⟩), stepV x] w fun e w' => e = .returned (.tuple #[]) ∧ MovedD own w p (s.setT q ((s.t q).joinT n x)) w' := by
 obtain ⟨⟨x0, x1, x2⟩, x3, ⟨x4, x5⟩, x6, x7, x8⟩ := x
 simp only at hx
 subst hx
 have M : Hid (PMem w p s own G) := m
 have hp := m.lt
 have zn : (n : Int) < 4 := by omega
 clear m
 unfold stepV
 go_enter Try.func79, Try.ntmps79
 go_upto_region 1 with fail
 have B1 : Hid (Below w.heap.size w (w.alloc (stpObj ⟨(x0, x1, (n : Int)), x3, (x4, x5), x6, x7, x8⟩))) := (Below.refl _ _).alloc (Nat.le_refl _) _
 have L0 : Hid ((w.alloc (stpObj ⟨(x0, x1, (n : Int)), x3, (x4, x5), x6, x7, x8⟩)).heap[w.heap.size]? = some (.cells (stepC ⟨(x0, x1, (n : Int)), x3, (x4, x5), x6, x7, x8⟩).toArray 30 (0, 0))) := heap_alloc_new w _
 unfold stpObj at *
 simp only at *
 generalize w.alloc _ = W1 at *
 obtain ⟨r0, r1, r2, r3, r4, r5, r6, r7, r8⟩ := stp_cells (loc_stp L0.out)
 simp only [Nat.zero_add] at r0 r1 r2 r3 r4 r5 r6 r7 r8
 have M1 : Hid (PMem W1 p s own G) := M.out.below B1.out
 have HS2 : Hid (∀ W, Below W1.heap.size W1 W → W.cell? ⟨w.heap.size, 0, none⟩ = some (.int .i64 x0) ∧ W.cell? ⟨w.heap.size, 1, none⟩ = some (.int .i64 x1) ∧ W.cell? ⟨w.heap.size, 2, none⟩ = some (.int .i64 (n : Int)) ∧ W.cell? ⟨w.heap.size, 3, none⟩ = some (.int .i64 x3) ∧ W.cell? ⟨w.heap.size, 4, none⟩ = some (.int .i64 x4) ∧ W.cell? ⟨w.heap.size, 5, none⟩ = some (.int .i64 x5) ∧ W.cell? ⟨w.heap.size, 6, none⟩ = some (.int .i64 x6) ∧ W.cell? ⟨w.heap.size, 7, none⟩ = some (.int .i64 x7) ∧ W.cell? ⟨w.heap.size, 8, none⟩ = some (.int .i64 x8)) := fun W hB => ⟨cell_later hB r0, cell_later hB r1, cell_later hB r2, cell_later hB r3, cell_later hB r4, cell_later hB r5, cell_later hB r6, cell_later hB r7, cell_later hB r8⟩
 have hS := HS2.out W1.drew (Below.refl _ _).drew
 have HT : Hid (W1.drew.there p (tO q + 32 + n * 79 + 65) 9) := (M1.out.below (Below.refl _ _).drew).sesFits hq hn (by decide)
 refine wp_region_Z (z := 9) (S := fun W => W.cell? ⟨w.heap.size, 0, none⟩ = some (.int .i64 x0) ∧ W.cell? ⟨w.heap.size, 1, none⟩ = some (.int .i64 x1) ∧ W.cell? ⟨w.heap.size, 2, none⟩ = some (.int .i64 (n : Int)) ∧ W.cell? ⟨w.heap.size, 3, none⟩ = some (.int .i64 x3) ∧ W.cell? ⟨w.heap.size, 4, none⟩ = some (.int .i64 x4) ∧ W.cell? ⟨w.heap.size, 5, none⟩ = some (.int .i64 x5) ∧ W.cell? ⟨w.heap.size, 6, none⟩ = some (.int .i64 x6) ∧ W.cell? ⟨w.heap.size, 7, none⟩ = some (.int .i64 x7) ∧ W.cell? ⟨w.heap.size, 8, none⟩ = some (.int .i64 x8)) (by kernel_rfl) ?_
 refine zT (i := 0) (v := ?v1) (by decide +kernel) rfl (fun _ _ _ h => h) hS (.inl ⟨by rfl, ?y1⟩) ?_
 case y1 => (rintro wz ⟨zs0, zs1, zs2, zs3, zs4, zs5, zs6, zs7, zs8⟩; go_simp <;> with_reducible rfl)
 simp only [Act.put, z1, z2, z4, z5, z6]
 refine zT (i := 1) (v := ?v2) (by decide +kernel) rfl (fun _ _ _ h => h) hS (.inl ⟨by rfl, ?y2⟩) ?_
 case y2 => (rintro wz ⟨zs0, zs1, zs2, zs3, zs4, zs5, zs6, zs7, zs8⟩; go_simp <;> with_reducible rfl)
 simp only [Act.put, z1, z2, z3, z4, z5, z6]
 refine zT (i := 2) (v := ?v3) (by decide +kernel) rfl (fun _ _ _ h => h) hS (.inl ⟨by rfl, ?y3⟩) ?_
 case y3 => (rintro wz ⟨zs0, zs1, zs2, zs3, zs4, zs5, zs6, zs7, zs8⟩; go_simp <;> with_reducible rfl)
 simp only [Act.put, z1, z2, z3, z4, z5, z6]
 refine zT (i := 3) (v := ?v4) (by decide +kernel) rfl (fun _ _ _ h => h) hS (.inl ⟨by rfl, ?y4⟩) ?_
 case y4 => (rintro wz ⟨zs0, zs1, zs2, zs3, zs4, zs5, zs6, zs7, zs8⟩; go_simp <;> with_reducible rfl)
 simp only [Act.put, z1, z2, z3, z4, z5, z6]
 refine zT (i := 4) (v := ?v5) (by decide +kernel) rfl (fun _ _ _ h => h) hS (.inl ⟨by rfl, ?y5⟩) ?_
 case y5 => (rintro wz ⟨zs0, zs1, zs2, zs3, zs4, zs5, zs6, zs7, zs8⟩; go_simp <;> with_reducible rfl)
 simp only [Act.put, z1, z2, z3, z4, z5, z6]
 refine wpAnyZ_one (i := 5) (by decide +kernel) rfl (fun K hK => ?_)
 go_simp
 refine hK _ _ (fun _ => hS) ?_
 clear hK
 refine wpAnyZ_one (i := 6) (by decide +kernel) rfl (fun K hK => ?_)
 go_simp
 refine hK _ _ (fun _ => hS) ?_
 clear hK
 refine wpAnyZ_one (i := 7) (by decide +kernel) rfl (fun K hK => ?_)
 go_simp
 refine hK _ _ (fun _ => hS) ?_
 clear hK
 refine wpAnyZ_one (i := 8) (by decide +kernel) rfl (fun K hK => ?_)
 go_simp
 refine hK _ _ (fun _ => hS) ?_
 clear hK
 refine wpAnyZ_one (i := 9) (by decide +kernel) rfl (fun K hK => ?_)
 rw [if_pos (by rfl)]
 refine wp_store_mid 30 _ _ rfl p (tO q + 32 + n * 79 + 65) (stepC ⟨(x0, x1, (n : Int)), x3, (x4, x5), x6, x7, x8⟩).toArray rfl rfl HT.out size_step (stp_one _) (hK _ _ (fun h => absurd rfl h) ?_)
 clear hK
 refine wpAnyZ_done (by decide +kernel) ?_ _
 simp only
 obtain ⟨m2, cg2⟩ := (M1.out.below (Below.refl _ _).drew).setReq hq hn ⟨(x0, x1, (n : Int)), x3, (x4, x5), x6, x7, x8⟩
 have L2 : Hid ((W1.drew.setCells p (tO q + 32 + n * 79 + 65) (stepC ⟨(x0, x1, (n : Int)), x3, (x4, x5), x6, x7, x8⟩)).heap[w.heap.size]? = _) := (setCells_other _ _ _ _ (by omega)).trans L0.out
 have M2 : Hid (PMem (W1.drew.setCells p (tO q + 32 + n * 79 + 65) (stepC ⟨(x0, x1, (n : Int)), x3, (x4, x5), x6, x7, x8⟩)) p _ own _) := m2
 have CG2 : Hid (ChgQ own w (W1.drew.setCells p (tO q + 32 + n * 79 + 65) (stepC ⟨(x0, x1, (n : Int)), x3, (x4, x5), x6, x7, x8⟩)) own) := (ChgQ.of_below (B1.out.drew)).trans cg2
 clear m2 cg2 L0 HT hS HS2 M1 r0 r1 r2 r3 r4 r5 r6 r7 r8 B1
 generalize W1.drew.setCells p (tO q + 32 + n * 79 + 65) (stepC ⟨(x0, x1, (n : Int)), x3, (x4, x5), x6, x7, x8⟩) = W2 at *
 have HJ : Hid ((s.setS q n { (s.t q).ses n with req := ⟨(x0, x1, (n : Int)), x3, (x4, x5), x6, x7, x8⟩ }).setQ q ((s.t q).queue ++ [n]) = s.setT q ((s.t q).joinT n ⟨(x0, x1, (n : Int)), x3, (x4, x5), x6, x7, x8⟩)) := joinT_is s q n _
 have E2 : Hid (((s.setS q n { (s.t q).ses n with req := ⟨(x0, x1, (n : Int)), x3, (x4, x5), x6, x7, x8⟩ }).t q).queue = (s.t q).queue) := by show _ = _; unfold PS.setS; rw [setT_t]; rfl
 generalize s.setS q n { (s.t q).ses n with req := ⟨(x0, x1, (n : Int)), x3, (x4, x5), x6, x7, x8⟩ } = s2 at *
 generalize G.setS q n (G.s q n) = G2 at *
 obtain ⟨_, _, d2, _⟩ := stp_cells (loc_stp L2.out)
 simp only [Nat.zero_add] at d2
 have hrow := M2.out.queR q hq
 obtain ⟨ao, cap, hv, hmax⟩ := hrow.lens len_natC
 have hc := M2.out.queC hq
 have hfz := M2.out.froz (tO q + 349)
 have HV : Hid (G2.q q = .slice ao (s2.t q).queue.length cap) := hv
 rw [hv] at hc hrow
 have HROW : Hid (Row W2 own (queTag q) 3 1 (.slice ao (s2.t q).queue.length cap) (s2.t q).queue natC) := hrow
 have hl4 : (s2.t q).queue.length ≤ 4 := by rw [E2.out]; exact h2
 have hp2 := M2.out.lt
 have hsz2 : w.heap.size < W2.heap.size := (Array.getElem?_eq_some_iff.1 L2.out).1
 have HNO : Hid (∀ k, w.heap.size ≤ k → own k = none) := fun k hk => M.out.off hk
 clear hv hrow hmax
 obtain ⟨i0, hi0, hz0, hs0, hb0⟩ := info_all infoI
 go_upto_region 2 with fail
 have hS : (fun W : World => W.cell? ⟨p, tO q + 349, none⟩ = some (.slice ao (s2.t q).queue.length cap) ∧ W.cell? ⟨w.heap.size, 2, none⟩ = some (.int .i64 (n : Int))) W2.drew := ⟨hc, d2⟩
 refine wp_region_Z (z := 12) (S := fun W => W.cell? ⟨p, tO q + 349, none⟩ = some (.slice ao (s2.t q).queue.length cap) ∧ W.cell? ⟨w.heap.size, 2, none⟩ = some (.int .i64 (n : Int))) (by kernel_rfl) ?_
 refine zT (i := 0) (v := ?v6) (by decide +kernel) rfl (fun _ _ _ h => h) hS (.inl ⟨by rfl, ?y6⟩) ?_
 case y6 => (rintro wz ⟨zs0, zs1⟩; go_simp <;> with_reducible rfl)
 simp only [Act.put, z1, z2, z4]
 refine zT (i := 1) (v := ?v7) (by decide +kernel) rfl (fun _ _ _ h => h) hS (.inl ⟨by rfl, ?y7⟩) ?_
 case y7 => (rintro wz ⟨zs0, zs1⟩; go_simp <;> with_reducible rfl)
 simp only [Act.put, z1, z2, z3, z4, z5, z6]
 refine zT (i := 2) (v := ?v8) (by decide +kernel) rfl (fun _ _ _ h => h) hS (.inl ⟨by rfl, ?y8⟩) ?_
 case y8 => (rintro wz ⟨zs0, zs1⟩; go_simp <;> with_reducible rfl)
 simp only [Act.put, z1, z2, z3, z4, z5, z6]
 refine zT (i := 3) (v := ?v9) (by decide +kernel) rfl (fun _ _ _ h => h) hS (.inl ⟨by rfl, ?y9⟩) ?_
 case y9 => (rintro wz ⟨zs0, zs1⟩; go_simp <;> with_reducible rfl)
 simp only [Act.put, z1, z2, z3, z4, z5, z6]
 refine zT (i := 4) (v := ?v10) (by decide +kernel) rfl (fun _ _ _ h => h) hS (.inl ⟨by rfl, ?y10⟩) ?_
 case y10 => (rintro wz ⟨zs0, zs1⟩; go_simp <;> with_reducible rfl)
 simp only [Act.put, z1, z2, z3, z4, z5, z6]
 refine zT (i := 5) (v := ?v11) (by decide +kernel) rfl (fun _ _ _ h => h) hS (.inl ⟨by rfl, ?y11⟩) ?_
 case y11 => (rintro wz ⟨zs0, zs1⟩; go_simp <;> with_reducible rfl)
 simp only [Act.put, z1, z2, z3, z4, z5, z6]
 refine zT (i := 6) (v := ?v12) (by decide +kernel) rfl (fun _ _ _ h => h) hS (.inl ⟨by rfl, ?y12⟩) ?_
 case y12 => (rintro wz ⟨zs0, zs1⟩; go_simp <;> with_reducible rfl)
 simp only [Act.put, z1, z2, z3, z4, z5, z6]
 refine zT (i := 7) (v := ?v13) (by decide +kernel) rfl (fun _ _ _ h => h) hS (.inl ⟨by rfl, ?y13⟩) ?_
 case y13 => (rintro wz ⟨zs0, zs1⟩; go_simp <;> with_reducible rfl)
 simp only [Act.put, z1, z2, z3, z4, z5, z6]
 have hx4 : (W2.alloc (.cells #[.int .i64 (n : Int)] 3)).drew.cell? ⟨p, tO q + 349, none⟩ = some (.slice ao (s2.t q).queue.length cap) := by
  rw [World.cell?_drew, World.cell?_alloc_lt _ _ _ (by exact hp2)]; exact hc
 have hxk : (W2.alloc (.cells #[.int .i64 (n : Int)] 3)).drew.cell? ⟨w.heap.size, 2, none⟩ = some (.int .i64 (n : Int)) := by
  rw [World.cell?_drew, World.cell?_alloc_lt _ _ _ (by exact hsz2)]; exact d2
 refine wpAnyZ_one (i := 8) (by decide +kernel) rfl (fun K hK => ?_)
 go_simp
 refine hK _ _ (fun _ => ⟨hx4, hxk⟩) ?_
 clear hK
 refine wpAnyZ_one (i := 9) (by decide +kernel) rfl (fun K hK => ?_)
 refine step_append_lies _ (by rfl) _ _ _ (by rfl) 0 3 i0 _ 1 8 Try.underlying49 hi0 hz0 hs0 hb0 rfl (by omega) (.slice ao (s2.t q).queue.length cap) (s2.t q).queue.length ((s2.t q).queue.flatMap natC) (by rfl) ((HROW.out.1.alloc _).drew)
  ⟨W2.heap.size, 0, none⟩ 1 1 [.int .i64 (n : Int)] (by rfl) (by rfl) (World.news_of_block (cs := #[.int .i64 (n : Int)]) (t := 3) (fr := (0, 0)) (heap_alloc_new W2 _)) (by simp [Value.oneCell'])
  (by omega) (by unfold maxLen; omega) (by omega) (Nat.zero_le _) (W2.heap.size + 1) (by simp) ?_
 intro gg cap' w4 hown1 hgrow hat hlt1
 simp only [Act.put, List.getElem_toArray, List.getElem_cons_zero, List.getElem_cons_succ, List.setIfInBounds_toArray, List.set_cons_zero, List.set_cons_succ]
 have nr : (Value.slice ao (s2.t q).queue.length cap).ownBlock ≠ some p := fun e => by
  have := HROW.out.2 p e; rw [M2.out.tag] at this; simp [rootTag, queTag] at this
 have nx : (Value.slice ao (s2.t q).queue.length cap).ownBlock ≠ some w.heap.size := fun e => by
  have := HROW.out.2 _ e; rw [HNO.out _ (Nat.le_refl _)] at this; cases this
 have q4 : w4.cell? ⟨p, tO q + 349, none⟩ = some (.slice ao (s2.t q).queue.length cap) := hgrow.cell hx4 (Ne.symm nr)
 have qk : w4.cell? ⟨w.heap.size, 2, none⟩ = some (.int .i64 (n : Int)) := hgrow.cell hxk (Ne.symm nx)
 have fo : w4.frozen? ⟨p, tO q + 349, none⟩ = false := by
  rw [World.frozen?_of_block (hgrow.block p (by simp; omega) (Ne.symm nr))]
  rw [World.frozen?_drew, World.frozen?_alloc_past _ _ _ (by omega)]; exact hfz
 refine hK _ _ (fun _ => ⟨q4, qk⟩) ?_
 clear hK
 refine wpAnyZ_one (i := 10) (by decide +kernel) rfl (fun K hK => ?_)
 go_simp
 refine hK _ _ (fun _ => ⟨q4, qk⟩) ?_
 clear hK
 refine wpAnyZ_one (i := 11) (by decide +kernel) rfl (fun K hK => ?_)
 go_simp
 refine hK _ _ (fun _ => ⟨q4, qk⟩) ?_
 clear hK
 refine wpAnyZ_one (i := 12) (by decide +kernel) rfl (fun K hK => ?_)
 go_simp
 refine hK _ _ (fun h => absurd rfl h) ?_
 clear hK
 refine wpAnyZ_done (by decide +kernel) ?_ _
 rw [← HV.out] at hgrow hat
 obtain ⟨m5, cg5⟩ := M2.out.appQue hq (W := (W2.alloc (.cells #[.int .i64 (n : Int)] 3)).drew) (x := n) (H := W2.heap.size + 1) (fun k hk => Below.heap_alloc _ _ _ hk) (by simp) rfl rfl rfl hgrow hown1 hat (by omega) hlt1
 refine bodyPost_end (v := .tuple #[]) (by simp [results, Try.results79, go_sem]) rfl ⟨rfl, ?_⟩
 rw [E2.out, HJ.out] at m5
 rw [E2.out] at cg5
 rw [E2.out]
 exact ⟨_, _, m5, CG2.out.toD.trans cg5⟩
end Go.Proofs.Ytpbcplfpjcacfaa
