import Derived.Test.YtpbcplfpjcacfaaD26
namespace Go.Proofs.Ytpbcplfpjcacfaa
open Go.RowKit
set_option maxRecDepth 100000
set_option maxHeartbeats 8000000
theorem AQ.toA {own : Own} {w W : World} {p : Nat} {s : PS} {a : Ans} {e : Ending} (h : AQ own w p s a e W) : APost own w (fun w' o => PRep w' p s o) a e W := by
 obtain ⟨v, o, G, h1, h2, h3, h4, h5⟩ := h
 exact ⟨v, o, h1, h2, ⟨G, h3⟩, h4.toD, fun b hb => ⟨(h5 b hb).1, (h5 b hb).2.elim (fun h => .inl h.1) .inr⟩⟩
theorem chgD_free {own own' : Own} {w w1 : World} {b o : Nat} (h : ChgD own w w1 own') (hb : w.heap.size ≤ b) (cs : List Value) : ChgD own w (w1.setCells b o cs) own' := by
 have hkb := World.keptBut_setCells b (may := fun _ => True) cs o w1 (fun _ _ => trivial)
 have hs : ∀ k, k < w.heap.size → (w1.setCells b o cs).heap[k]? = w1.heap[k]? := fun k hk => setCells_other _ _ _ _ (by omega)
 exact ⟨hkb.1.trans h.os, (setCells_tape _ _ _).trans h.tape, hkb.2.1.trans h.output, by rw [setCells_size]; exact h.size, fun k hk hn => (hs k hk).trans (h.block k hk hn), h.fresh⟩
theorem ad_chain {own own1 : Own} {w W1 W : World} {p b : Nat} {s' : PS} {a : Ans} {e : Ending} (cg : ChgD own w W1 own1) (hb : w.heap.size ≤ b) (ho1 : own1 b = none) (hblk : ansBlk W1 b 0 0 (.slice none 0 0)) (h : AQ own1 W1 p s' a e W) :
  ∃ ao cap, e = .returned (ansV a.code a.why (.slice ao a.items.length cap)) ∧ ansBlk W b 0 0 (.slice none 0 0) ∧ ansBlk (ansW W b a.code a.why (.slice ao a.items.length cap)) b a.code a.why (.slice ao a.items.length cap) ∧
   APost own w (fun w' o => PRep w' p s' o) a (.returned (ansV a.code a.why (.slice ao a.items.length cap))) (ansW W b a.code a.why (.slice ao a.items.length cap)) := by
 obtain ⟨v, o2, G2, rfl, hrow, m2, cg2, hv⟩ := h
 obtain ⟨ao, cap, rfl⟩ := ownsRow_form hrow
 have hb1 : b < W1.heap.size := (Array.getElem?_eq_some_iff.1 hblk).1
 have ho2 : o2 b = none := cg2.off hb1 ho1
 have hW : ansBlk W b 0 0 (.slice none 0 0) := (cg2.block b hb1 ho1).trans hblk
 have hvb : ∀ k, (Value.slice ao a.items.length cap).ownBlock = some k → k ≠ b := fun k hk e => by
  subst e
  rcases (hv k hk).2 with h | h
  ·exact h.1 ho1
  ·omega
 have hWW : ansW W b a.code a.why (.slice ao a.items.length cap) = W.setCells b 0 [.int .i64 a.code, .int .i64 a.why, .slice ao a.items.length cap] := rfl
 refine ⟨ao, cap, rfl, hW, ans_stored _ _ _ hW, _, o2, rfl, ?_, ⟨G2, ?_⟩, ?_, ?_⟩
 ·rw [hWW]; exact ownsRow_frame hrow (fun k hk => setCells_other _ _ _ _ (hvb k hk))
 ·rw [hWW]; exact m2.free ho2 _
 ·rw [hWW]; exact chgD_free (cg.trans cg2.toD) hb _
 ·intro k hk
  refine ⟨(hv k hk).1, ?_⟩
  rcases (hv k hk).2 with h | h
  ·exact cg.fresh k h.1
  ·exact .inr (Nat.le_trans cg.size h)
theorem AQ.next {own own1 : Own} {w W W2 : World} {p b : Nat} {s2 : PS} {a : Ans} {v : Value} (hrow : W.ownsRow 0 94 2 v a.items.length (itemsV a.items)) (cg : ChgQ own w W own1) (hv : ∀ b, v.ownBlock = some b → own1 b = none ∧ ((own b ≠ none ∧ ∀ x, own b ≠ some (5, x)) ∨ w.heap.size ≤ b)) (h : Moved own1 W p s2 W2) (hb : b < W.heap.size) (ho : own1 b = none) :
  AQ own w p s2 a (.returned (ansV a.code a.why v)) W2 ∧ W2.heap[b]? = W.heap[b]? := by
 obtain ⟨o2, G2, m2, cg2⟩ := h
 refine ⟨⟨v, o2, G2, rfl, ownsRow_frame hrow (fun k hk => cg2.block k (ownsRow_lt hrow k hk) (hv k hk).1), m2, cg.trans cg2, fun k hk => ⟨cg2.off (ownsRow_lt hrow k hk) (hv k hk).1, (hv k hk).2⟩⟩, cg2.block b hb ho⟩
theorem Tr.Fit.joinT {q n : Nat} {t : Tr} {x : Stp} (F : t.Fit q) (hn : n < 4) (hnq : hasB t.queue n = false) (hl : t.lockTo 4 + 1 ≤ 32) (hx : ReqFit q n x) : (t.joinT n x).Fit q := by
 have hnot : n ∉ t.queue := fun h => by
  have : hasB t.queue n = true := by unfold hasB; rw [List.any_eq_true]; exact ⟨n, h, by simp⟩
  rw [this] at hnq; cases hnq
 refine ⟨F.begN, F.begL, ?_, ?_, ?_, ?_⟩
 ·show (t.queue ++ [n]).Nodup
  rw [List.nodup_append]
  refine ⟨F.queN, by simp, fun a ha b hb e => ?_⟩
  simp at hb; subst hb; subst e; exact hnot ha
 ·intro m hm
  rcases List.mem_append.1 hm with h | h
  ·exact F.queL m h
  ·simp at h; omega
 ·intro m hm
  show ReqFit q m (upd t.ses n _ m).req
  by_cases e : m = n
  ·subst e; rw [upd_same]; exact hx
  ·rw [upd_ne _ _ e]
   rcases List.mem_append.1 hm with h | h
   ·exact F.req m h
   ·simp at h; exact absurd h e
 ·rw [lockTo4] at hl ⊢
  have h2 : ∀ m, ((t.joinT n x).ses m).locks = (t.ses m).locks := fun m => by
   show (upd t.ses n _ m).locks = _
   unfold upd; split
   ·rename_i e; rw [e]
   ·rfl
  rw [h2, h2, h2, h2]
  show (t.queue ++ [n]).length + _ ≤ 32
  rw [List.length_append]
  simp only [List.length_singleton]
  omega
theorem joinT_ses (t : Tr) (n : Nat) (x : Stp) : ((t.joinT n x).ses n).req = x := by show (upd t.ses n _ n).req = x; rw [upd_same]
theorem joinT_mem (t : Tr) (n : Nat) (x : Stp) : n ∈ (t.joinT n x).queue := by show n ∈ t.queue ++ [n]; simp
theorem may_wr {x : Stp} {q n : Nat} (hw : x.who = whoOf q n) (hm : x.may = true) : (lkOf x).wr = true → x.at_ = labOf q := fun h => by
 unfold Stp.may at hm
 rw [if_pos (by simpa [lkOf] using h)] at hm
 unfold sameL at hm
 have := of_decide_eq_true hm
 rw [hw] at this
 exact Prod.ext this.1 this.2
def AskPost (own : Own) (w : World) (p : Nat) (s : PS) (a : Ans) (e : Ending) (w' : World) : Prop := APost own w (fun w' o => PRep w' p s o) a e w'
theorem ask_is {w : World} {p q n : Nat} {x : Stp} {s : PS} {own : Own} {G : PG} (m : PMem w p s own G) (hq : q < 32) (hn : n < 4) (hx : ReqOk q n x) (F : s.Fit) (hnq : hasB (s.t q).queue n = false) :
  Calls Try.prog 59 #[.pointer (some ⟨p, 0, none⟩), stepV x] w (AskPost own w p (s.askT q n x).1 (s.askT q n x).2) := by
 have M : Hid (PMem w p s own G) := m
 have HF : Hid s.Fit := F
 have HX : Hid (ReqOk q n x) := hx
 have hp := m.lt
 have zn : (n : Int) < 4 := by omega
 have HNQ : Hid (hasB (s.t q).queue n = false) := hnq
 have HNO : Hid (∀ k, w.heap.size ≤ k → own k = none) := fun k hk => m.off hk
 clear m F hnq
 have h32 : (s.t q).lockTo 4 ≤ 32 := (HF.out.tr q hq).lock
 have hqq : (s.t q).queue.length ≤ 4 := (HF.out.short q hq).2
 have HC : Hid (s.c ≤ 32) := HF.out.c
 obtain ⟨hw, hk, hl⟩ := hx
 have hlab : labB x.who.1 x.who.2.1 = true := by rw [hw]; exact labOf_ok hq
 have hpl : plOf (x.who.1, x.who.2.1) = q := by rw [hw]; exact plOf_labOf hq
 have h22 : x.who.2.2 = (n : Int) := by rw [hw]; rfl
 have HW : Hid (x.who = whoOf q n) := hw
 have HALL : Hid (∀ w', Calls Try.prog 74 #[stepV x] w' (BoolPost w' x.may)) := fun w' => allowed_is rfl hlab hl w'
 clear hw hk
 have HK : Hid (s.askT q n x = if x.may = false then (s, ⟨3, 0, []⟩) else if ((s.t q).ses n).covB (lkOf x) then s.grantT q n x else if s.c ≤ ((s.t q).lockTo 4 : Int) then (s, ⟨4, 0, []⟩) else if (s.setT q ((s.t q).joinT n x)).hindB q n then (s.setT q ((s.t q).joinT n x)).ringsT q n else (((s.setT q ((s.t q).joinT n x)).admitT q n).1.settleT, ((s.setT q ((s.t q).joinT n x)).admitT q n).2)) := rfl
 generalize s.askT q n x = AT at *
 have hz : stepV x = .agg #[.int .i64 x.who.1, .int .i64 x.who.2.1, .int .i64 (n : Int), .int .i64 x.op, .int .i64 x.at_.1, .int .i64 x.at_.2, .int .i64 x.key, .int .i64 x.to_, .int .i64 x.value] := by unfold stepV; rw [h22]
 rw [hz]
 have HZ : Hid (stepV x = .agg #[.int .i64 x.who.1, .int .i64 x.who.2.1, .int .i64 (n : Int), .int .i64 x.op, .int .i64 x.at_.1, .int .i64 x.at_.2, .int .i64 x.key, .int .i64 x.to_, .int .i64 x.value]) := hz
 have HSTP : Hid (stepC x = [.int .i64 x.who.1, .int .i64 x.who.2.1, .int .i64 (n : Int), .int .i64 x.op, .int .i64 x.at_.1, .int .i64 x.at_.2, .int .i64 x.key, .int .i64 x.to_, .int .i64 x.value]) := by show _ = _; unfold stepC; rw [h22]
 have H22 : Hid (x.who.2.2 = (n : Int)) := h22
 clear h22 hz
 go_enter Try.func59, Try.ntmps59
 go_upto_region 1 with fail
 obtain ⟨B1, L0, L1⟩ := entry2 (w := w) (x := x)
 unfold stpObj ansObj at *
 rw [H22.out] at B1 L0 L1
 generalize (w.alloc _).alloc _ = W1 at *
 have hs1 : w.heap.size + 1 < W1.heap.size := (Array.getElem?_eq_some_iff.1 L1.out).1
 have HCE : Hid (∀ W : World, W.heap[w.heap.size]? = some (.cells (stepC x).toArray 30 (0, 0)) → W.cell? ⟨w.heap.size, 0, none⟩ = some (.int .i64 x.who.1) ∧ W.cell? ⟨w.heap.size, 1, none⟩ = some (.int .i64 x.who.2.1) ∧ W.cell? ⟨w.heap.size, 2, none⟩ = some (.int .i64 (n : Int)) ∧ W.cell? ⟨w.heap.size, 3, none⟩ = some (.int .i64 x.op) ∧ W.cell? ⟨w.heap.size, 4, none⟩ = some (.int .i64 x.at_.1) ∧ W.cell? ⟨w.heap.size, 5, none⟩ = some (.int .i64 x.at_.2) ∧ W.cell? ⟨w.heap.size, 6, none⟩ = some (.int .i64 x.key) ∧ W.cell? ⟨w.heap.size, 7, none⟩ = some (.int .i64 x.to_) ∧ W.cell? ⟨w.heap.size, 8, none⟩ = some (.int .i64 x.value)) := fun W h => by
  have := stp_cells (loc_stp h)
  simp only [Nat.zero_add] at this
  rw [H22.out] at this
  exact this
 obtain ⟨r0, r1, r2, r3, r4, r5, r6, r7, r8⟩ := HCE.out _ L0.out
 have HALL1 : Hid (∀ w', Calls Try.prog 74 #[.agg #[.int .i64 x.who.1, .int .i64 x.who.2.1, .int .i64 (n : Int), .int .i64 x.op, .int .i64 x.at_.1, .int .i64 x.at_.2, .int .i64 x.key, .int .i64 x.to_, .int .i64 x.value]] w' (BoolPost w' x.may)) := fun w' => by have := HALL.out w'; rw [HZ.out] at this; exact this
 have HASK : Hid (∀ w', Calls Try.prog 75 #[.agg #[.int .i64 x.who.1, .int .i64 x.who.2.1, .int .i64 (n : Int), .int .i64 x.op, .int .i64 x.at_.1, .int .i64 x.at_.2, .int .i64 x.key, .int .i64 x.to_, .int .i64 x.value]] w' fun e w'' => e = .returned (lkV (lkOf x)) ∧ Below w'.heap.size w' w'') := fun w' => by have := asked_any x w'; rw [HZ.out] at this; exact this
 have HGR : Hid (∀ w', PMem w' p s own G → Calls Try.prog 77 #[.pointer (some ⟨p, 0, none⟩), .agg #[.int .i64 x.who.1, .int .i64 x.who.2.1, .int .i64 (n : Int), .int .i64 x.op, .int .i64 x.at_.1, .int .i64 x.at_.2, .int .i64 x.key, .int .i64 x.to_, .int .i64 x.value]] w' (AQ own w' p (s.grantT q n x).1 (s.grantT q n x).2)) := fun w' hm => by have := grant_is hm hq hn HX.out.who HX.out.key HX.out.lab; rw [HZ.out] at this; exact this
 have HJN : Hid (∀ w', PMem w' p s own G → Calls Try.prog 79 #[.pointer (some ⟨p, tO q, none⟩), .agg #[.int .i64 x.who.1, .int .i64 x.who.2.1, .int .i64 (n : Int), .int .i64 x.op, .int .i64 x.at_.1, .int .i64 x.at_.2, .int .i64 x.key, .int .i64 x.to_, .int .i64 x.value]] w' fun e w'' => e = .returned (.tuple #[]) ∧ MovedD own w' p (s.setT q ((s.t q).joinT n x)) w'') := fun w' hm => by have := join_is hm hq hn H22.out hqq; rw [HZ.out] at this; exact this
 have HWO : Hid ((x.who.1, x.who.2.1, (n : Int)) = whoOf q n) := by show _ = _; rw [← H22.out]; exact HW.out
 clear HALL HZ
 cases hm : x.may
 ·rw [hm] at HALL1 HK
  go_wp2_with fail
  refine (HALL1.out _).mono ?_
  rintro e w2 ⟨rfl, hb2⟩
  have B2 : Hid (Below w.heap.size w w2) := B1.out.trans (hb2.mono B1.out.size)
  have L12 : Hid (ansBlk w2 (w.heap.size + 1) 0 0 (.slice none 0 0)) := (hb2.block _ (by omega)).trans L1.out
  clear r0 r1 r2 r3 r4 r5 r6 r7 r8 hb2
  obtain ⟨a1, a2⟩ := still_chain M.out B2.out (b := w.heap.size + 1) (by omega) L12.out 3 0
  obtain ⟨e0, e1, e2, f0, f1, f2⟩ := ans_cells L12.out
  have A1 : Hid (ansBlk _ _ _ _ _) := a1
  have A2 : Hid (APost _ _ _ _ _ _) := a2.toA
  clear a1 a2
  go_wp2
  refine ret_ans Try.results59 rfl A1.out rfl ?_
  rw [HK.out]; exact A2.out
 ·have RF : Hid (ReqFit q n x) := ⟨HX.out, may_wr HW.out hm⟩
  have HK2 : Hid (AT = if ((s.t q).ses n).covB (lkOf x) then s.grantT q n x else if s.c ≤ ((s.t q).lockTo 4 : Int) then (s, ⟨4, 0, []⟩) else if (s.setT q ((s.t q).joinT n x)).hindB q n then (s.setT q ((s.t q).joinT n x)).ringsT q n else (((s.setT q ((s.t q).joinT n x)).admitT q n).1.settleT, ((s.setT q ((s.t q).joinT n x)).admitT q n).2)) := by
   show _ = _
   have := HK.out
   rw [if_neg (by rw [hm]; simp)] at this; exact this
  rw [hm] at HALL1
  clear HK
  go_wp2_with fail
  refine (HALL1.out _).mono ?_
  rintro e w2 ⟨rfl, hb2⟩
  have B2 : Hid (Below w.heap.size w w2) := B1.out.trans (hb2.mono B1.out.size)
  have L02 : Hid (w2.heap[w.heap.size]? = some (.cells (stepC x).toArray 30 (0, 0))) := (hb2.block _ (by omega)).trans L0.out
  have L12 : Hid (ansBlk w2 (w.heap.size + 1) 0 0 (.slice none 0 0)) := (hb2.block _ (by omega)).trans L1.out
  have hs2 : w.heap.size + 1 < w2.heap.size := Nat.lt_of_lt_of_le hs1 hb2.size
  clear r0 r1 r2 r3 r4 r5 r6 r7 r8 hb2 L0 L1 B1 HALL1
  obtain ⟨r0, r1, r2, r3, r4, r5, r6, r7, r8⟩ := HCE.out _ L02.out
  go_wp2_with fail
  refine (tier_is (a := (x.who.1, x.who.2.1)) hlab hpl).mono ?_
  rintro e w3 ⟨rfl, hb3⟩
  have B3 : Hid (Below w.heap.size w w3) := B2.out.trans (hb3.mono B2.out.size)
  have L03 : Hid (w3.heap[w.heap.size]? = some (.cells (stepC x).toArray 30 (0, 0))) := (hb3.block _ (by omega)).trans L02.out
  have L13 : Hid (ansBlk w3 (w.heap.size + 1) 0 0 (.slice none 0 0)) := (hb3.block _ (by omega)).trans L12.out
  have hs3 : w.heap.size + 1 < w3.heap.size := Nat.lt_of_lt_of_le hs2 hb3.size
  clear r0 r1 r2 r3 r4 r5 r6 r7 r8 hb3 L02 L12 B2
  obtain ⟨r0, r1, r2, r3, r4, r5, r6, r7, r8⟩ := HCE.out _ L03.out
  have kne := kin_some w3
  have kx2 := kin_cell r2
  go_upto_region 4 with fail
  refine wp_region_kin (by kernel_rfl) (by kernel_rfl) ?_
  repeat (first | go_big_quiet_step (fail) | quiet_step (fail))
  refine wpQuiet_nil ?_
  intro _ hw'
  obtain ⟨xq, hw''⟩ := hw'
  subst hw''
  have B4 : Hid (Below w.heap.size w xq.w) := B3.out.trans (xq.h.mono B3.out.size)
  have L04 : Hid (xq.w.heap[w.heap.size]? = some (.cells (stepC x).toArray 30 (0, 0))) := (xq.h.block _ (by omega)).trans L03.out
  have L14 : Hid (ansBlk xq.w (w.heap.size + 1) 0 0 (.slice none 0 0)) := (xq.h.block _ (by omega)).trans L13.out
  have hs4 : w.heap.size + 1 < xq.w.heap.size := Nat.lt_of_lt_of_le hs3 xq.h.size
  clear kne kx2 r0 r1 r2 r3 r4 r5 r6 r7 r8 L03 L13 B3
  generalize xq.w = w4 at *
  obtain ⟨r0, r1, r2, r3, r4, r5, r6, r7, r8⟩ := HCE.out _ L04.out
  go_wp2_with fail
  refine (HASK.out _).mono ?_
  rintro e w5 ⟨rfl, hb5⟩
  have HLK : Hid (∀ W, PMem W p s own G → ∀ b, ((s.t q).ses n).covB (lkOf x) = b → Calls Try.prog 76 #[.pointer (some ⟨p, tO q + 32 + n * 79, none⟩), lkV (lkOf x)] W fun e w' => e = .returned (.bool b) ∧ Below W.heap.size W w') := fun W hm b hb => sesCov_at hm hq hn hb
  generalize lkOf x = r at *
  unfold lkV at *
  have B6 : Hid (Below w.heap.size w (w5.alloc (lkObj r))) := (B4.out.trans (hb5.mono B4.out.size)).alloc (Nat.le_trans B4.out.size hb5.size) _
  have L06 : Hid ((w5.alloc (lkObj r)).heap[w.heap.size]? = some (.cells (stepC x).toArray 30 (0, 0))) := (heap_alloc_old (by have := hb5.size; omega)).trans ((hb5.block _ (by omega)).trans L04.out)
  have L16 : Hid (ansBlk (w5.alloc (lkObj r)) (w.heap.size + 1) 0 0 (.slice none 0 0)) := (heap_alloc_old (by have := hb5.size; omega)).trans ((hb5.block _ (by omega)).trans L14.out)
  have LK6 : Hid ((w5.alloc (lkObj r)).heap[w5.heap.size]? = some (.cells #[.int .i64 r.at_.1, .int .i64 r.at_.2, .int .i64 r.lo, .int .i64 r.hi, .bool r.wr] 148 (0, 0))) := heap_alloc_new w5 _
  clear r0 r1 r2 r3 r4 r5 r6 r7 r8 hb5 L04 L14 B4
  unfold lkObj at *
  go_upto_region 6 with fail
  generalize w5.alloc _ = W6 at *
  have hs6 : w.heap.size + 1 < W6.heap.size := (Array.getElem?_eq_some_iff.1 L16.out).1
  have hl6 : w5.heap.size < W6.heap.size := (Array.getElem?_eq_some_iff.1 LK6.out).1
  obtain ⟨c0, c1, c2, c3, c4⟩ := lk_cells LK6.out
  cases hcv : ((s.t q).ses n).covB r
  ·have HK3 : Hid (AT = if s.c ≤ ((s.t q).lockTo 4 : Int) then (s, ⟨4, 0, []⟩) else if (s.setT q ((s.t q).joinT n x)).hindB q n then (s.setT q ((s.t q).joinT n x)).ringsT q n else (((s.setT q ((s.t q).joinT n x)).admitT q n).1.settleT, ((s.setT q ((s.t q).joinT n x)).admitT q n).2)) := by
    show _ = _
    have := HK2.out
    rw [if_neg (by rw [hcv]; simp)] at this; exact this
   go_wp2_with fail
   refine (HLK.out W6 (M.out.below B6.out) false hcv).mono ?_
   rintro e w7 ⟨rfl, hb7⟩
   have B7 : Hid (Below w.heap.size w w7) := B6.out.trans (hb7.mono B6.out.size)
   have L07 : Hid (w7.heap[w.heap.size]? = some (.cells (stepC x).toArray 30 (0, 0))) := (hb7.block _ (by omega)).trans L06.out
   have L17 : Hid (ansBlk w7 (w.heap.size + 1) 0 0 (.slice none 0 0)) := (hb7.block _ (by omega)).trans L16.out
   have hs7 : w.heap.size + 1 < w7.heap.size := Nat.lt_of_lt_of_le hs6 hb7.size
   clear c0 c1 c2 c3 c4 hb7 L06 L16 LK6
   have M7 : Hid (PMem w7 p s own G) := M.out.below B7.out
   obtain ⟨_, _, kc⟩ := M7.out.keysC
   have kne := kin_some w7
   have kk := kin_cell kc
   have HTn : Hid (∀ x : Kin w7, Calls Try.prog 78 #[.pointer (some ⟨p, tO q, none⟩)] x.w fun e w' => e = .returned (.int .i64 ((s.t q).lockTo 4 : Nat)) ∧ Below x.w.heap.size x.w w') := fun x => (locks_is (M7.out.below x.h) hq h32).mono fun e w' ⟨h1, h2⟩ => ⟨h1, by subst h2; exact Below.refl _ _⟩
   go_upto_region 8 with fail
   refine wp_region_kin (by kernel_rfl) (by kernel_rfl) ?_
   repeat (first | go_big_quiet_step ((go_at_call 78; exact Calls.kin (HTn.out _))) | quiet_step ((go_at_call 78; exact Calls.kin (HTn.out _))))
   refine wpQuiet_nil ?_
   intro _ hw'
   obtain ⟨xq8, hw''⟩ := hw'
   subst hw''
   have B8 : Hid (Below w.heap.size w xq8.w) := B7.out.trans (xq8.h.mono B7.out.size)
   have L08 : Hid (xq8.w.heap[w.heap.size]? = some (.cells (stepC x).toArray 30 (0, 0))) := (xq8.h.block _ (by omega)).trans L07.out
   have L18 : Hid (ansBlk xq8.w (w.heap.size + 1) 0 0 (.slice none 0 0)) := (xq8.h.block _ (by omega)).trans L17.out
   clear kne kk HTn kc L07 L17 B7
   generalize xq8.w = w8 at *
   have hs8 : w.heap.size + 1 < w8.heap.size := (Array.getElem?_eq_some_iff.1 L18.out).1
   by_cases hfull : s.c ≤ ((s.t q).lockTo 4 : Int)
   ·have HK4 : Hid (AT = (s, ⟨4, 0, []⟩)) := by show _ = _; have := HK3.out; rw [if_pos hfull] at this; exact this
    obtain ⟨a1, a2⟩ := still_chain M.out B8.out (b := w.heap.size + 1) (by omega) L18.out 4 0
    obtain ⟨e0, e1, e2, f0, f1, f2⟩ := ans_cells L18.out
    have A1 : Hid (ansBlk _ _ _ _ _) := a1
    have A2 : Hid (APost _ _ _ _ _ _) := a2.toA
    clear a1 a2
    go_wp2
    refine ret_ans Try.results59 rfl A1.out rfl ?_
    rw [HK4.out]; exact A2.out
   ·have HK4 : Hid (AT = if (s.setT q ((s.t q).joinT n x)).hindB q n then (s.setT q ((s.t q).joinT n x)).ringsT q n else (((s.setT q ((s.t q).joinT n x)).admitT q n).1.settleT, ((s.setT q ((s.t q).joinT n x)).admitT q n).2)) := by show _ = _; have := HK3.out; rw [if_neg hfull] at this; exact this
    have FJ : Hid (s.setT q ((s.t q).joinT n x)).Fit := by
     have hc := HC.out
     exact HF.out.setT ((HF.out.tr q hq).joinT hn HNQ.out (by omega) RF.out)
    have HRJ : Hid ((((s.setT q ((s.t q).joinT n x)).t q).ses n).req = x) := by show _ = _; rw [setT_t, joinT_ses]
    have HMJ : Hid (n ∈ ((s.setT q ((s.t q).joinT n x)).t q).queue) := by show _ ∈ _; rw [setT_t]; exact joinT_mem _ _ _
    obtain ⟨r0, r1, r2, r3, r4, r5, r6, r7, r8⟩ := HCE.out _ L08.out
    have HJ8 := HJN.out w8 (M.out.below B8.out)
    have HJ : Hid (Calls _ _ _ _ _) := HJ8
    clear HJ8
    generalize s.setT q ((s.t q).joinT n x) = SJ at *
    go_wp2_with fail
    refine HJ.out.mono ?_
    rintro e w9 ⟨rfl, own9, G9, m9, cg9⟩
    have M9 : Hid (PMem w9 p SJ own9 G9) := m9
    have CG9 : Hid (ChgD own w w9 own9) := (ChgD.of_below B8.out).trans cg9
    have L09 : Hid (w9.heap[w.heap.size]? = some (.cells (stepC x).toArray 30 (0, 0))) := (cg9.block _ (by omega) (HNO.out _ (Nat.le_refl _))).trans L08.out
    have L19 : Hid (ansBlk w9 (w.heap.size + 1) 0 0 (.slice none 0 0)) := (cg9.block _ (by omega) (HNO.out _ (by omega))).trans L18.out
    have N9 : Hid (own9 (w.heap.size + 1) = none ∧ own9 w.heap.size = none) := ⟨cg9.off (HNO.out _ (by omega)) (by omega), cg9.off (HNO.out _ (Nat.le_refl _)) (by omega)⟩
    clear r0 r1 r2 r3 r4 r5 r6 r7 r8 m9 cg9 L08 L18 HJ
    have hs9 : w.heap.size + 1 < w9.heap.size := (Array.getElem?_eq_some_iff.1 L19.out).1
    obtain ⟨r0, r1, r2, r3, r4, r5, r6, r7, r8⟩ := HCE.out _ L09.out
    have hlx : labB ((SJ.t q).ses n).req.at_.1 ((SJ.t q).ses n).req.at_.2 = true := by rw [HRJ.out]; exact HX.out.lab
    cases hh : SJ.hindB q n
    ·have HK5 : Hid (AT = ((SJ.admitT q n).1.settleT, (SJ.admitT q n).2)) := by show _ = _; have := HK4.out; rw [if_neg (by rw [hh]; simp)] at this; exact this
     go_wp2_with fail
     refine (isHind_is (a := (x.who.1, x.who.2.1, (n : Int))) M9.out hq hn HWO.out hlx hh).mono ?_
     rintro e w10 ⟨rfl, hb10⟩
     have M10 : Hid (PMem w10 p SJ own9 G9) := M9.out.below hb10
     have CG10 : Hid (ChgD own w w10 own9) := CG9.out.trans (ChgD.of_below hb10)
     have L010 : Hid (w10.heap[w.heap.size]? = some (.cells (stepC x).toArray 30 (0, 0))) := (hb10.block _ (by omega)).trans L09.out
     have L110 : Hid (ansBlk w10 (w.heap.size + 1) 0 0 (.slice none 0 0)) := (hb10.block _ (by omega)).trans L19.out
     have hs10 : w.heap.size + 1 < w10.heap.size := Nat.lt_of_lt_of_le hs9 hb10.size
     clear r0 r1 r2 r3 r4 r5 r6 r7 r8 hb10 L09 L19
     obtain ⟨r0, r1, r2, r3, r4, r5, r6, r7, r8⟩ := HCE.out _ L010.out
     go_wp2_with fail
     refine (admit_is (a := (x.who.1, x.who.2.1, (n : Int))) M10.out hq hn HWO.out (by rw [HRJ.out]; exact HX.out) FJ.out.short ((FJ.out.tr q hq).locks hn)).mono ?_
     rintro e w11 ⟨v, own11, G11, rfl, hrow, m11, cg11, hv⟩
     have FA : Hid (SJ.admitT q n).1.Fit := FJ.out.admitT hq HMJ.out
     generalize SJ.admitT q n = SA at *
     obtain ⟨ao, cap, rfl⟩ := ownsRow_form hrow
     have B12 : Hid (Below w11.heap.size w11 (w11.alloc (.cells #[.int .i64 SA.2.code, .int .i64 SA.2.why, .slice ao SA.2.items.length cap] 66))) := (Below.refl _ _).alloc (Nat.le_refl _) _
     have LA : Hid (ansBlk (w11.alloc (.cells #[.int .i64 SA.2.code, .int .i64 SA.2.why, .slice ao SA.2.items.length cap] 66)) w11.heap.size SA.2.code SA.2.why (.slice ao SA.2.items.length cap)) := heap_alloc_new w11 _
     have M11 : Hid (PMem w11 p SA.1 own11 G11) := m11
     have HR11 : Hid (w11.ownsRow 0 94 2 (.slice ao SA.2.items.length cap) SA.2.items.length (itemsV SA.2.items)) := hrow
     have CG11 : Hid (ChgQ own9 w10 w11 own11) := cg11
     have HV11 : Hid (∀ b, (Value.slice ao SA.2.items.length cap).ownBlock = some b → own11 b = none ∧ ((own9 b ≠ none ∧ ∀ x, own9 b ≠ some (5, x)) ∨ w10.heap.size ≤ b)) := hv
     have hz11 := cg11.size
     clear m11 hrow cg11 hv r0 r1 r2 r3 r4 r5 r6 r7 r8
     unfold ansV
     go_upto_region 14 with fail
     generalize w11.alloc _ = W12 at *
     have hz12 : w11.heap.size < W12.heap.size := (Array.getElem?_eq_some_iff.1 LA.out).1
     have M12 : Hid (PMem W12 p SA.1 own11 G11) := M11.out.below B12.out
     have CG12 : Hid (ChgQ own9 w10 W12 own11) := CG11.out.trans (ChgQ.of_below B12.out)
     have HR12 : Hid (W12.ownsRow 0 94 2 (.slice ao SA.2.items.length cap) SA.2.items.length (itemsV SA.2.items)) := ownsRow_below HR11.out B12.out
     go_wp2_with fail
     refine (settle_is M12.out FA.out).mono ?_
     generalize SA.1.settleT = ST at *
     rintro e w13 ⟨rfl, hmv⟩
     obtain ⟨haq, hblk⟩ := AQ.next (a := SA.2) HR12.out CG12.out HV11.out hmv hz12 (M11.out.off (Nat.le_refl _))
     have LA13 : ansBlk w13 w11.heap.size SA.2.code SA.2.why (.slice ao SA.2.items.length cap) := hblk.trans LA.out
     obtain ⟨ao', cap', e', b0, b1, b2⟩ := ad_chain CG10.out (b := w.heap.size + 1) (by omega) N9.out.1 L110.out haq
     have ev : (Value.slice ao SA.2.items.length cap) = .slice ao' SA.2.items.length cap' := by
      unfold ansV at e'
      injection e' with e'
      injection e' with e'
      simpa using e'
     rw [← ev] at b1 b2
     obtain ⟨e0, e1, e2, f0, f1, f2⟩ := ans_cells b0
     obtain ⟨g0, g1, g2, _, _, _⟩ := ans_cells LA13
     have A1 : Hid (ansBlk _ _ _ _ _) := b1
     have A2 : Hid (APost _ _ _ _ _ _) := b2
     have hz13 : w11.heap.size < w13.heap.size := (Array.getElem?_eq_some_iff.1 LA13).1
     clear b0 b1 b2 hmv haq hblk LA13 e' ev
     go_wp2
     refine ret_ans Try.results59 rfl A1.out rfl ?_
     rw [HK5.out]; exact A2.out
    ·have HK5 : Hid (AT = SJ.ringsT q n) := by show _ = _; have := HK4.out; rw [if_pos hh] at this; exact this
     go_wp2_with fail
     refine (isHind_is (a := (x.who.1, x.who.2.1, (n : Int))) M9.out hq hn HWO.out hlx hh).mono ?_
     rintro e w10 ⟨rfl, hb10⟩
     have M10 : Hid (PMem w10 p SJ own9 G9) := M9.out.below hb10
     have CG10 : Hid (ChgD own w w10 own9) := CG9.out.trans (ChgD.of_below hb10)
     have L010 : Hid (w10.heap[w.heap.size]? = some (.cells (stepC x).toArray 30 (0, 0))) := (hb10.block _ (by omega)).trans L09.out
     have L110 : Hid (ansBlk w10 (w.heap.size + 1) 0 0 (.slice none 0 0)) := (hb10.block _ (by omega)).trans L19.out
     have hs10 : w.heap.size + 1 < w10.heap.size := Nat.lt_of_lt_of_le hs9 hb10.size
     clear r0 r1 r2 r3 r4 r5 r6 r7 r8 hb10 L09 L19
     obtain ⟨r0, r1, r2, r3, r4, r5, r6, r7, r8⟩ := HCE.out _ L010.out
     go_wp2_with fail
     refine (rings_is (a := (x.who.1, x.who.2.1, (n : Int))) M10.out hq hn HWO.out FJ.out).mono ?_
     generalize SJ.ringsT q n = RT at *
     intro e w11 haq
     obtain ⟨ao, cap, rfl, b0, b1, b2⟩ := ad_chain CG10.out (b := w.heap.size + 1) (by omega) N9.out.1 L110.out haq
     obtain ⟨e0, e1, e2, f0, f1, f2⟩ := ans_cells b0
     have A1 : Hid (ansBlk _ _ _ _ _) := b1
     have A2 : Hid (APost _ _ _ _ _ _) := b2
     clear b0 b1 b2 haq r0 r1 r2 r3 r4 r5 r6 r7 r8
     unfold ansV
     go_wp2
     refine ret_ans Try.results59 rfl A1.out rfl ?_
     rw [HK5.out]; exact A2.out
  ·have HK3 : Hid (AT = s.grantT q n x) := by show _ = _; have := HK2.out; rw [if_pos hcv] at this; exact this
   go_wp2_with fail
   refine (HLK.out W6 (M.out.below B6.out) true hcv).mono ?_
   rintro e w7 ⟨rfl, hb7⟩
   have B7 : Hid (Below w.heap.size w w7) := B6.out.trans (hb7.mono B6.out.size)
   have L07 : Hid (w7.heap[w.heap.size]? = some (.cells (stepC x).toArray 30 (0, 0))) := (hb7.block _ (by omega)).trans L06.out
   have L17 : Hid (ansBlk w7 (w.heap.size + 1) 0 0 (.slice none 0 0)) := (hb7.block _ (by omega)).trans L16.out
   have hs7 : w.heap.size + 1 < w7.heap.size := Nat.lt_of_lt_of_le hs6 hb7.size
   clear c0 c1 c2 c3 c4 hb7 L06 L16 LK6
   obtain ⟨r0, r1, r2, r3, r4, r5, r6, r7, r8⟩ := HCE.out _ L07.out
   go_wp2_with fail
   refine (HGR.out w7 (M.out.below B7.out)).mono ?_
   generalize s.grantT q n x = GT at *
   intro e w8 haq
   obtain ⟨ao, cap, rfl, b0, b1, b2⟩ := ad_chain (ChgD.of_below B7.out) (b := w.heap.size + 1) (by omega) (HNO.out _ (by omega)) L17.out haq
   obtain ⟨e0, e1, e2, f0, f1, f2⟩ := ans_cells b0
   have A1 : Hid (ansBlk _ _ _ _ _) := b1
   have A2 : Hid (APost _ _ _ _ _ _) := b2
   clear b0 b1 b2 haq r0 r1 r2 r3 r4 r5 r6 r7 r8
   unfold ansV
   go_wp2
   refine ret_ans Try.results59 rfl A1.out rfl ?_
   rw [HK3.out]; exact A2.out
end Go.Proofs.Ytpbcplfpjcacfaa
