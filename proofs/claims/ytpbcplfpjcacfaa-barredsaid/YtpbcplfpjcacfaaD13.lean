import Derived.Test.YtpbcplfpjcacfaaD12
namespace Go.Proofs.Ytpbcplfpjcacfaa
open Go.RowKit
set_option maxRecDepth 100000
set_option maxHeartbeats 8000000
theorem wrC_at0 (x : Wrt) {k : Nat} (hk : k < 16) : (wrC x)[k]? = some (.bool (x.touched k)) := by
 unfold wrC; rw [List.getElem?_append_left (by rw [len_flagC]; exact hk)]; exact flagC_at _ hk
theorem wrC_at2 (x : Wrt) {k : Nat} (hk : k < 16) : (wrC x)[48 + k]? = some (.bool (x.put k)) := by
 unfold wrC
 rw [List.getElem?_append_right (by rw [len_flagC]; omega), List.getElem?_append_right (by rw [len_flagC, len_tabV]; omega), len_flagC, len_tabV, show 48 + k - 16 - 32 = k by omega]
 exact flagC_at _ hk
section
variable {w : World} {p q n k : Nat} {s : PS} {own : Own} {G : PG}
theorem PMem.touchC (m : PMem w p s own G) (hq : q < 32) (hn : n < 4) (hk : k < 16) : w.cell? ⟨p, tO q + 32 + n * 79 + 1 + k, none⟩ = some (.bool (((s.t q).ses n).wr.touched k)) :=
 ses_wr (m.sesAt hq hn) k _ (wrC_at0 _ hk)
theorem PMem.putC (m : PMem w p s own G) (hq : q < 32) (hn : n < 4) (hk : k < 16) : w.cell? ⟨p, tO q + 32 + n * 79 + 1 + 48 + k, none⟩ = some (.bool (((s.t q).ses n).wr.put k)) := by
 have := ses_wr (m.sesAt hq hn) (48 + k) _ (wrC_at2 _ hk)
 rw [← Nat.add_assoc] at this
 exact this
theorem PMem.setTouch (m : PMem w p s own G) (hq : q < 32) (hn : n < 4) (hk : k < 16) (b : Bool) : PMem (w.setCell ⟨p, tO q + 32 + n * 79 + 1 + k, none⟩ (.bool b)) p (s.setW q n { ((s.t q).ses n).wr with touched := upd ((s.t q).ses n).wr.touched k b }) own (G.setS q n (G.s q n)) ∧ ChgQ own w (w.setCell ⟨p, tO q + 32 + n * 79 + 1 + k, none⟩ (.bool b)) own := by
 have := m.put1 hq hn { (s.t q).ses n with wr := { ((s.t q).ses n).wr with touched := upd ((s.t q).ses n).wr.touched k b } } (i := 1 + k) (v := .bool b) (by omega) (sesC_wr _ _ _ k _ (by omega) (wrC_touched _ hk b)) rfl rfl
 rw [← Nat.add_assoc] at this
 exact this
theorem PMem.setPut (m : PMem w p s own G) (hq : q < 32) (hn : n < 4) (hk : k < 16) (b : Bool) : PMem (w.setCell ⟨p, tO q + 32 + n * 79 + 1 + 48 + k, none⟩ (.bool b)) p (s.setW q n { ((s.t q).ses n).wr with put := upd ((s.t q).ses n).wr.put k b }) own (G.setS q n (G.s q n)) ∧ ChgQ own w (w.setCell ⟨p, tO q + 32 + n * 79 + 1 + 48 + k, none⟩ (.bool b)) own := by
 have := m.put1 hq hn { (s.t q).ses n with wr := { ((s.t q).ses n).wr with put := upd ((s.t q).ses n).wr.put k b } } (i := 1 + (48 + k)) (v := .bool b) (by omega) (sesC_wr _ _ _ (48 + k) _ (by omega) (wrC_put _ b)) rfl rfl
 rw [← Nat.add_assoc, ← Nat.add_assoc] at this
 exact this
theorem PMem.setLeft (m : PMem w p s own G) (hq : q < 32) (hn : n < 4) (hk : k < 16) (v : Option Int) : PMem (w.setCells p (tO q + 32 + n * 79 + 1 + 16 + k * 2) [.bool v.isSome, .int .i64 (v.getD 0)]) p (s.setW q n { ((s.t q).ses n).wr with left := upd ((s.t q).ses n).wr.left k v }) own (G.setS q n (G.s q n)) ∧ ChgQ own w (w.setCells p (tO q + 32 + n * 79 + 1 + 16 + k * 2) [.bool v.isSome, .int .i64 (v.getD 0)]) own := by
 obtain ⟨A, Z, e1, e2, e3⟩ := tabV_split ((s.t q).ses n).wr.left hk v
 have hs : slotV (upd ((s.t q).ses n).wr.left k v) k = [.bool v.isSome, .int .i64 (v.getD 0)] := by unfold slotV; rw [upd_same]
 rw [hs] at e2
 have h := m.putSes hq hn { (s.t q).ses n with wr := { ((s.t q).ses n).wr with left := upd ((s.t q).ses n).wr.left k v } } (G.s q n) (1 + (16 + k * 2)) [.bool v.isSome, .int .i64 (v.getD 0)]
  (A := [(G.s q n).1] ++ (flagC ((s.t q).ses n).wr.touched ++ A)) (M := slotV ((s.t q).ses n).wr.left k) (Z := Z ++ (flagC ((s.t q).ses n).wr.put ++ (stepC ((s.t q).ses n).req ++ ([.bool ((s.t q).ses n).came] ++ (outC ((s.t q).ses n).out (G.s q n).2 ++ [.int .i64 ((s.t q).ses n).ended])))))
  (by simp [sesC, wrC, e1]) (by simp [sesC, wrC, e2]) (by simp [len_flagC, e3]; omega) rfl (fun _ _ h _ _ => h) (fun _ _ h => h) (m.lockR q hq n hn) (m.outR q hq n hn)
 rw [← Nat.add_assoc, ← Nat.add_assoc] at h
 exact h
end
theorem setW_setW (s : PS) (q n : Nat) (x y : Wrt) : (s.setW q n x).setW q n y = s.setW q n y := by
 unfold PS.setW; rw [setS_at, setS_setS]
theorem setW_wr (s : PS) (q n : Nat) (x : Wrt) : (((s.setW q n x).t q).ses n).wr = x := by
 unfold PS.setW; rw [setS_at]
theorem size_slot : (Try.prog.info? 119).map (·.size) = some 2 := by kernel_rfl
theorem slot_one (b : Bool) (v : Int) : (#[.bool b, .int .i64 v] : Array Value).all (·.oneCell') = true := all_oneCell_toArray (cs := [.bool b, .int .i64 v]) (by simp [Value.oneCell'])
theorem wrPut_is {w : World} {p q n k : Nat} {v : Int} {s : PS} {own : Own} {G : PG} (m : PMem w p s own G) (hq : q < 32) (hn : n < 4) (hk : k < 16) :
  Calls Try.prog 119 #[.pointer (some ⟨p, tO q + 32 + n * 79 + 1, none⟩), .int .i64 k, .int .i64 v] w fun e w' => e = .returned (.tuple #[]) ∧ Moved own w p (s.setW q n (((s.t q).ses n).wr.putT k v)) w' := by
 have M : Hid (PMem w p s own G) := m
 have hp := m.lt
 have c0 := m.touchC hq hn hk
 have f0 := m.froz (tO q + 32 + n * 79 + 1 + k)
 have zk : (k : Int) < 16 := by omega
 obtain ⟨m1, cg1⟩ := m.setTouch hq hn hk true
 have M1 : Hid (PMem _ _ _ _ _) := m1
 have CG1 : Hid (ChgQ _ _ _ _) := cg1
 clear m m1 cg1
 go_enter Try.func119, Try.ntmps119
 go_wp2_with fail
 refine (isKey_any k w (by omega)).mono ?_
 rintro e w1 ⟨rfl, rfl⟩
 go_upto_region 2 with fail
 generalize w.setCell ⟨p, tO q + 32 + n * 79 + 1 + k, none⟩ (.bool true) = W1 at *
 have c1 := M1.out.putC hq hn hk
 have f1 := M1.out.froz (tO q + 32 + n * 79 + 1 + 48 + k)
 have hp1 := M1.out.lt
 obtain ⟨m2, cg2⟩ := M1.out.setPut hq hn hk true
 rw [setW_wr, setW_setW] at m2
 have M2 : Hid (PMem _ _ _ _ _) := m2
 have CG2 : Hid (ChgQ _ _ _ _) := CG1.out.trans cg2
 clear m2 cg2 c0 f0
 go_upto_region 3 with fail
 generalize W1.setCell ⟨p, tO q + 32 + n * 79 + 1 + 48 + k, none⟩ (.bool true) = W2 at *
 have hp2 := M2.out.lt
 obtain ⟨m3, cg3⟩ := M2.out.setLeft hq hn hk (some v)
 rw [setW_wr, setW_setW] at m3
 have M3 : Hid (PMem _ _ _ _ _) := m3
 have CG3 : Hid (ChgQ _ _ _ _) := CG2.out.trans cg3
 have HT : Hid (W2.there p (tO q + 32 + n * 79 + 1 + 16 + k * 2) 2) := M2.out.there (by unfold tO; omega)
 clear m3 cg3 c1 f1
 go_wp2_with (first | (refine wpList_store_mid rfl 119 _ _ rfl p (tO q + 32 + n * 79 + 1 + 16 + k * 2) #[.bool true, .int .i64 v] rfl rfl HT.out size_slot (slot_one _ _) ?_))
 refine bodyPost_end (v := .tuple #[]) (by simp [results, Try.results119, go_sem]) rfl ⟨rfl, ?_⟩
 exact ⟨_, _, M3.out, CG3.out⟩
theorem wrDel_is {w : World} {p q n k : Nat} {s : PS} {own : Own} {G : PG} (m : PMem w p s own G) (hq : q < 32) (hn : n < 4) (hk : k < 16) :
  Calls Try.prog 98 #[.pointer (some ⟨p, tO q + 32 + n * 79 + 1, none⟩), .int .i64 k] w fun e w' => e = .returned (.tuple #[]) ∧ Moved own w p (s.setW q n (((s.t q).ses n).wr.delT k)) w' := by
 have M : Hid (PMem w p s own G) := m
 have hp := m.lt
 have c0 := m.touchC hq hn hk
 have f0 := m.froz (tO q + 32 + n * 79 + 1 + k)
 have zk : (k : Int) < 16 := by omega
 obtain ⟨m1, cg1⟩ := m.setTouch hq hn hk true
 have M1 : Hid (PMem _ _ _ _ _) := m1
 have CG1 : Hid (ChgQ _ _ _ _) := cg1
 clear m m1 cg1
 go_enter Try.func98, Try.ntmps98
 go_wp2_with fail
 refine (isKey_any k w (by omega)).mono ?_
 rintro e w1 ⟨rfl, rfl⟩
 go_upto_region 2 with fail
 generalize w.setCell ⟨p, tO q + 32 + n * 79 + 1 + k, none⟩ (.bool true) = W1 at *
 have hp1 := M1.out.lt
 obtain ⟨m3, cg3⟩ := M1.out.setLeft hq hn hk none
 rw [setW_wr, setW_setW] at m3
 have M3 : Hid (PMem _ _ _ _ _) := m3
 have CG3 : Hid (ChgQ _ _ _ _) := CG1.out.trans cg3
 have HT : Hid (W1.there p (tO q + 32 + n * 79 + 1 + 16 + k * 2) 2) := M1.out.there (by unfold tO; omega)
 clear m3 cg3 c0 f0
 go_wp2_with (first | (refine wpList_store_mid rfl 119 _ _ rfl p (tO q + 32 + n * 79 + 1 + 16 + k * 2) #[.bool false, .int .i64 0] rfl rfl HT.out size_slot (slot_one _ _) ?_))
 refine bodyPost_end (v := .tuple #[]) (by simp [results, Try.results98, go_sem]) rfl ⟨rfl, ?_⟩
 exact ⟨_, _, M3.out, CG3.out⟩
def Wrt.overTo (x : Wrt) (f : Nat → Option Int) (k : Nat) : Nat → Option Int := fun j => if j < k ∧ x.touched j = true then x.left j else f j
theorem overTo_zero (x : Wrt) (f : Nat → Option Int) : x.overTo f 0 = f := by funext j; simp [Wrt.overTo]
theorem overTo_hit (x : Wrt) (f : Nat → Option Int) {k : Nat} (h : x.touched k = true) : x.overTo f (k + 1) = upd (x.overTo f k) k (x.left k) := by
 funext j
 unfold Wrt.overTo upd
 by_cases e : j = k
 ·subst e; simp [h]
 ·simp only [e, if_false]
  by_cases hj : j < k
  ·simp [hj, show j < k + 1 by omega]
  ·simp [hj, show ¬ j < k + 1 by omega]
theorem overTo_miss (x : Wrt) (f : Nat → Option Int) {k : Nat} (h : x.touched k = false) : x.overTo f (k + 1) = x.overTo f k := by
 funext j
 unfold Wrt.overTo
 by_cases e : j = k
 ·subst e; simp [h]
 ·by_cases hj : j < k
  ·simp [hj, show j < k + 1 by omega]
  ·simp [hj, show ¬ j < k + 1 by omega]
theorem tabV_cong {f g : Nat → Option Int} (h : ∀ k, k < 16 → f k = g k) : tabV f = tabV g := by
 unfold tabV
 refine flatMap_cg (fun k hk => ?_)
 unfold slotV
 rw [h k (List.mem_range.1 hk)]
theorem overTo_all (x : Wrt) (f : Nat → Option Int) : tabV (x.overTo f 16) = tabV (x.over f) := tabV_cong (fun k hk => by unfold Wrt.overTo Wrt.over; simp [hk])
theorem size_tab : (Try.prog.info? 122).map (·.size) = some 32 := by kernel_rfl
theorem size_flag : (Try.prog.info? 117).map (·.size) = some 16 := by kernel_rfl
theorem size_bool : (Try.prog.info? 4).map (·.size) = some 1 := by kernel_rfl
def TabAt (w : World) (b : Nat) (f : Nat → Option Int) : Prop := (∃ C, w.heap[b]? = some (.cells C 122 (0, 0)) ∧ C.size = 32) ∧ w.rangeAt b 0 (tabV f)
theorem TabAt.there {w : World} {b : Nat} {f : Nat → Option Int} (h : TabAt w b f) {o n : Nat} (hn : o + n ≤ 32) : w.there b o n := fun j hj => by
 obtain ⟨C, hC, hz⟩ := h.1
 refine ⟨?_, frozen_of_row w b _ C _ hC⟩
 rw [cell_of_row w b _ C _ _ hC, Array.getElem?_eq_getElem (by omega)]; rfl
theorem TabAt.frame {w w' : World} {b : Nat} {f : Nat → Option Int} (h : TabAt w b f) (hk : w'.heap[b]? = w.heap[b]?) : TabAt w' b f :=
 ⟨by rw [hk]; exact h.1, fun j u hj => (cell_of_same hk _).trans (h.2 j u hj)⟩
theorem TabAt.set {w : World} {b k : Nat} {f : Nat → Option Int} (h : TabAt w b f) (hk : k < 16) (v : Option Int) : TabAt (w.setCells b (k * 2) [.bool v.isSome, .int .i64 (v.getD 0)]) b (upd f k v) := by
 obtain ⟨C, hC, hz⟩ := h.1
 obtain ⟨C', hC', hz'⟩ := setCells_root [.bool v.isSome, .int .i64 (v.getD 0)] (k * 2) w C hC
 obtain ⟨A, Z, e1, e2, e3⟩ := tabV_split f hk v
 have hs : slotV (upd f k v) k = [.bool v.isSome, .int .i64 (v.getD 0)] := by unfold slotV; rw [upd_same]
 rw [hs] at e2
 refine ⟨⟨C', hC', by omega⟩, ?_⟩
 have := rangeAt_splice h.2 e1 e2 e3 rfl (h.there (by simp; omega))
 rw [Nat.zero_add] at this
 exact this
theorem TabAt.new {w : World} {f : Nat → Option Int} : TabAt (w.alloc (.cells (tabV f).toArray 122)) w.heap.size f :=
 ⟨⟨_, heap_alloc_new w _, by rw [List.size_toArray, len_tabV]⟩, fun j u hj => by
  rw [cell_of_row _ _ _ _ _ _ (heap_alloc_new w _), Nat.zero_add]; simpa using hj⟩
theorem index_flag (f : Nat → Bool) (k : Nat) (h : k < 16) (w : World) :
  (Instr.index 117 (.agg (flagC f).toArray) (.int .i64 k)).run Try.prog w = .ok (.bool (f k)) w := by
 obtain ⟨i, hi, hs⟩ := info_of size_bool
 simp [Instr.index, asIntOf, run_underlying Try.underlying117, sizeOf, typeInfo, hi, hs, part]
 rw [if_pos h, flagC_at f h]
 rfl
theorem tab_one (f : Nat → Option Int) : (tabV f).toArray.all (·.oneCell') = true := all_oneCell_toArray (by
 intro v hv
 unfold tabV at hv
 obtain ⟨k, _, hk⟩ := List.mem_flatMap.1 hv
 simp [slotV] at hk
 rcases hk with rfl | rfl <;> rfl)
theorem left_cells {w : World} {p o k : Nat} {x : Wrt} (h : w.rangeAt p o (wrC x)) (hk : k < 16) : w.cell? ⟨p, o + 16 + k * 2, none⟩ = some (.bool (x.left k).isSome) ∧ w.cell? ⟨p, o + 16 + k * 2 + 1, none⟩ = some (.int .i64 ((x.left k).getD 0)) := by
 obtain ⟨a, b⟩ := tabV_get x.left k hk
 have e : ∀ j, j < 32 → (wrC x)[16 + j]? = (tabV x.left)[j]? := fun j hj => by
  unfold wrC
  rw [List.getElem?_append_right (by rw [len_flagC]; omega), len_flagC, List.getElem?_append_left (by rw [len_tabV]; omega), Nat.add_sub_cancel_left]
 constructor
 ·have := h (16 + 2 * k) _ ((e _ (by omega)).trans a)
  rw [show o + 16 + k * 2 = o + (16 + 2 * k) by omega]; exact this
 ·have := h (16 + (2 * k + 1)) _ ((e _ (by omega)).trans b)
  rw [show o + 16 + k * 2 + 1 = o + (16 + (2 * k + 1)) by omega]; exact this
theorem below_setCells {B b : Nat} {a : World} (hb : B ≤ b) : ∀ (vs : List Value) (o : Nat) (w : World), Below B a w → Below B a (w.setCells b o vs)
 | [], _, _, h => h
 | v :: vs, o, _, h => below_setCells hb vs (o + 1) _ (h.setCell (p := ⟨b, o, none⟩) hb v)
def TabPost (w : World) (f : Nat → Option Int) (e : Ending) (w' : World) : Prop := e = .returned (.agg (tabV f).toArray) ∧ Below w.heap.size w w'
theorem over_is {w : World} {p o : Nat} {x : Wrt} {f : Nat → Option Int} (hr : w.rangeAt p o (wrC x)) (hp : p < w.heap.size) :
  Calls Try.prog 73 #[.pointer (some ⟨p, o, none⟩), .agg (tabV f).toArray] w (TabPost w (x.over f)) := by
 have HR : Hid (w.rangeAt p o (wrC x)) := hr
 have hfl : w.rangeAt p o (flagC x.touched) := fun j u hj => hr j u (by
  have : j < 16 := by rw [← len_flagC x.touched]; exact (List.getElem?_eq_some_iff.1 hj).1
  unfold wrC; rw [List.getElem?_append_left (by rw [len_flagC]; exact this)]; exact hj)
 clear hr
 go_enter Try.func73, Try.ntmps73
 go_upto_region 1 with fail
 have hsz : (w.alloc (.cells (tabV f).toArray 122)).heap.size = w.heap.size + 1 := by simp
 have T1 : Hid (TabAt ((w.alloc (.cells (tabV f).toArray 122)).alloc (.cells (tabV (fun _ => none)).toArray 122)) w.heap.size f) := TabAt.new.frame (heap_alloc_old (by simp))
 have T2 : Hid (TabAt ((w.alloc (.cells (tabV f).toArray 122)).alloc (.cells (tabV (fun _ => none)).toArray 122)) (w.heap.size + 1) (fun _ => none)) := by
  show TabAt _ _ _
  rw [← hsz]; exact TabAt.new
 have B1 : Hid (Below w.heap.size w ((w.alloc (.cells (tabV f).toArray 122)).alloc (.cells (tabV (fun _ => none)).toArray 122))) := below2r
 rw [show (.cells #[Value.bool false, Value.int IntKind.i64 0, Value.bool false, Value.int IntKind.i64 0, Value.bool false, Value.int IntKind.i64 0, Value.bool false, Value.int IntKind.i64 0, Value.bool false, Value.int IntKind.i64 0, Value.bool false, Value.int IntKind.i64 0, Value.bool false, Value.int IntKind.i64 0, Value.bool false, Value.int IntKind.i64 0, Value.bool false, Value.int IntKind.i64 0, Value.bool false, Value.int IntKind.i64 0, Value.bool false, Value.int IntKind.i64 0, Value.bool false, Value.int IntKind.i64 0, Value.bool false, Value.int IntKind.i64 0, Value.bool false, Value.int IntKind.i64 0, Value.bool false, Value.int IntKind.i64 0, Value.bool false, Value.int IntKind.i64 0] 122 : Obj) = .cells (tabV (fun _ => none)).toArray 122 from rfl]
 clear hsz
 generalize (w.alloc (.cells (tabV f).toArray 122)).alloc (.cells (tabV (fun _ => none)).toArray 122) = W1 at *
 have hfl1 : W1.rangeAt p o (flagC x.touched) := rangeAt_below hfl B1.out hp
 clear hfl
 go_wp2_with (first | (refine wpList_load_mid rfl 117 _ rfl p o rfl (flagC x.touched) _ hfl1 Try.underlying117 rfl (by rw [len_flagC]; exact size_flag) ?_))
 clear hfl1
 have hI0 : Hid (TabAt W1 w.heap.size (x.overTo f 0)) := by show TabAt _ _ _; rw [overTo_zero]; exact T1.out
 go_loopw [11] (fun i wr => ∃ k : Nat, k ≤ 16 ∧ i = .int .i64 k ∧ Hid (TabAt wr w.heap.size (x.overTo f k)) ∧ Hid (TabAt wr (w.heap.size + 1) (fun _ => none)) ∧ Hid (Below w.heap.size w wr)) (fun i _ => 16 - (intOf i).toNat)
 case atStart => exact ⟨0, Nat.zero_le _, rfl, hI0, T2, B1⟩
 case round =>
  obtain ⟨k, hk, rfl, I1, I2, IB⟩ := hrel
  by_cases hlt : k < 16
  ·have zk : (k : Int) < 16 := by omega
   have hix := index_flag x.touched k hlt
   cases ht : x.touched k
   ·rw [ht] at hix
    have J1 : Hid (TabAt wr w.heap.size (x.overTo f (k + 1))) := by show TabAt _ _ _; rw [overTo_miss x f ht]; exact I1.out
    go_wp2
    go_roundw
    case rel => exact ⟨k + 1, by omega, by go_num, J1, I2, IB⟩
    case measure => simp [intOf]; omega
   ·rw [ht] at hix
    obtain ⟨l0, l1⟩ := left_cells (rangeAt_below HR.out IB.out hp) hlt
    have J1 : Hid (TabAt (wr.setCells w.heap.size (k * 2) [.bool (x.left k).isSome, .int .i64 ((x.left k).getD 0)]) w.heap.size (x.overTo f (k + 1))) := by show TabAt _ _ _; rw [overTo_hit x f ht]; exact I1.out.set hlt _
    have J2 : Hid (TabAt (wr.setCells w.heap.size (k * 2) [.bool (x.left k).isSome, .int .i64 ((x.left k).getD 0)]) (w.heap.size + 1) (fun _ => none)) := I2.out.frame (setCells_other _ _ _ _ (by omega))
    have JB : Hid (Below w.heap.size w (wr.setCells w.heap.size (k * 2) [.bool (x.left k).isSome, .int .i64 ((x.left k).getD 0)])) := below_setCells (Nat.le_refl _) _ _ _ IB.out
    have HT : Hid (wr.there w.heap.size (k * 2) 2) := I1.out.there (by omega)
    go_wp2_with (first | (refine wpList_store_mid rfl 119 _ _ rfl w.heap.size (k * 2) #[.bool (x.left k).isSome, .int .i64 ((x.left k).getD 0)] rfl rfl HT.out size_slot (slot_one _ _) ?_))
    go_roundw
    case rel => exact ⟨k + 1, by omega, by go_num, J1, J2, JB⟩
    case measure => simp [intOf]; omega
  ·have e : k = 16 := by omega
   subst e
   have HT : Hid (wr.there (w.heap.size + 1) 0 (tabV (x.over f)).length) := I2.out.there (by rw [len_tabV]; omega)
   have hr16 : wr.rangeAt w.heap.size 0 (tabV (x.over f)) := by rw [← overTo_all]; exact I1.out.2
   go_wp2_with (first | (refine wpList_load_mid rfl 122 _ rfl w.heap.size 0 rfl (tabV (x.over f)) _ hr16 Try.underlying122 rfl (by rw [len_tabV]; exact size_tab) ?_) | (refine wpList_store_mid rfl 122 _ _ rfl (w.heap.size + 1) 0 (tabV (x.over f)).toArray rfl rfl HT.out (by rw [List.size_toArray, len_tabV]; exact size_tab) (tab_one _) ?_))
   have hl := run_loadVar_mid (P := Try.prog) (wr.setCells (w.heap.size + 1) 0 (tabV (x.over f))) (w.heap.size + 1) 0 122 (tabV (x.over f)) _ (World.rangeAt_setCells_same wr _ 0 _ HT.out) Try.underlying122 rfl (by rw [len_tabV]; exact size_tab)
   exact bodyPost_ret (v := .agg (tabV (x.over f)).toArray) (by simp [results, Try.results73, hl, Act.put, asAddr]) rfl ⟨rfl, below_setCells (by omega) _ _ _ IB.out⟩
section
variable {P : Program} {ops : Array Oper} {Q : Exit → Act → World → Prop} {md : Region.Mode} {S : World → Prop} {z : Nat}
def Closd (md : Region.Mode) (ops : Array Oper) (listed : Array Bool) : Prop := ∀ j oj, ops[j]? = some oj → listed.getD j false = true → ∀ e ∈ oj.after, Region.binds md e = true → listed.getD e.on false = true
def closdB (md : Region.Mode) (ops : Array Oper) (listed : Array Bool) : Bool := (List.range ops.size).all fun j => match ops[j]? with
 | none => true
 | some o => !(listed.getD j false) || o.after.all (fun e => !Region.binds md e || listed.getD e.on false)
theorem closdB_spec {listed : Array Bool} (h : closdB md ops listed = true) : Closd md ops listed := by
 intro j oj hj hl e he hb
 unfold closdB at h
 rw [List.all_eq_true] at h
 have hlt : j < ops.size := (Array.getElem?_eq_some_iff.1 hj).1
 have h1 := h j (List.mem_range.2 hlt)
 rw [hj] at h1
 simp only [hl, Bool.not_true, Bool.false_or] at h1
 have h2 := Array.all_eq_true_iff_forall_mem.1 h1 e he
 simpa [hb] using h2
theorem getD_set_keep {listed : Array Bool} {i k : Nat} (h : listed.getD k false = true) : (listed.setIfInBounds i true).getD k false = true := by
 have hk : k < listed.size := by
  rcases Nat.lt_or_ge k listed.size with h' | h'
  ·exact h'
  ·simp [Array.getElem?_eq_none h'] at h
 by_cases e : i = k
 ·subst e; simp [hk]
 ·rw [getD_set_ne false e]; exact h
theorem Closd.step {listed : Array Bool} {i : Nat} (h : Closd md ops listed) (hi : i ∈ Region.ready md ops listed) : Closd md ops (listed.setIfInBounds i true) := by
 intro j oj hj hl e he hb
 refine getD_set_keep ?_
 by_cases hji : j = i
 ·subst hji
  obtain ⟨_, o, ho, hall⟩ := mem_ready.1 hi
  rw [hj] at ho
  cases ho
  exact hall e he hb
 ·rw [getD_set_ne false (fun e => hji e.symm)] at hl
  exact h j oj hj hl e he hb
def reachB (md : Region.Mode) (ops : Array Oper) (i : Nat) : Nat → Nat → Bool
 | 0, _ => false
 | f + 1, z => match ops[z]? with
  | none => false
  | some oz => oz.after.any (fun e => Region.binds md e && (e.on == i || reachB md ops i f e.on))
theorem reachB_spec {i : Nat} {listed : Array Bool} (hc : Closd md ops listed) : ∀ (f z : Nat), reachB md ops i f z = true → (∀ oz, ops[z]? = some oz → ∀ e ∈ oz.after, Region.binds md e = true → listed.getD e.on false = true) → listed.getD i false = true
 | 0, _, h, _ => by cases h
 | f + 1, z, h, hz => by
  unfold reachB at h
  cases ho : ops[z]? with
  | none => rw [ho] at h; cases h
  | some oz =>
   rw [ho] at h
   obtain ⟨e, he, h2⟩ := Array.any_eq_true'.1 h
   simp only [Bool.and_eq_true, Bool.or_eq_true, beq_iff_eq] at h2
   have h3 := hz oz ho e he h2.1
   rcases h2.2 with h4 | h4
   ·rw [h4] at h3; exact h3
   ·exact reachB_spec hc f e.on h4 (fun oz' ho' e' he' hb' => hc e.on oz' ho' h3 e' he' hb')
theorem wpAnyZ_firstC {i f : Nat} (hlast : reachB md ops i f z = true) {oi : Oper} {v : Value} (hi : ops[i]? = some oi) (hsel : ∀ (j : Nat) (o : Oper) cs b, ops[j]? = some o → o.op ≠ .select cs b)
  (hQ : ∀ c a w, Q (.panic c) (a.put oi.dst v) w → Q (.panic c) a w) :
  ∀ (fuel : Nat) (listed : Array Bool) (a : Act) (w : World), Closd md ops listed →
   (∀ j oj, ops[j]? = some oj → j ≠ i → listed.getD j true = false → (∀ e ∈ oj.after, Region.binds md e = true → e.on ≠ i) → oi.apart ops oj = true) →
   i ∈ Region.ready md ops listed → YieldsIf P ops S oi v a → S w →
   wpAnyZ P md ops Q S z fuel (listed.setIfInBounds i true) (a.put oi.dst v) w → wpAnyZ P md ops Q S z (fuel + 1) listed a w := by
 intro fuel
 induction fuel with
 | zero =>
  intro listed a w _ _ hr hy hS H
  refine ⟨fun h => (by rw [h] at hr; cases hr), fun j hj => ?_⟩
  by_cases hji : j = i
  ·subst hji; exact hy.wpOp hi hS ⟨fun _ => hS, H⟩
  ·have := ready_mono hj hji
   rw [H.1] at this
   cases this
 | succ fuel ih =>
  intro listed a w hcl hfree hr hy hS H
  refine ⟨fun h => (by rw [h] at hr; cases hr), fun j hj => ?_⟩
  by_cases hji : j = i
  ·subst hji; exact hy.wpOp hi hS ⟨fun _ => hS, H⟩
  ·have h1 := H.2 j (ready_mono hj hji)
   obtain ⟨hjun, oj, hoj, hall⟩ := mem_ready.1 hj
   have hjz : j ≠ z := fun e => by
    subst e
    have h2 := reachB_spec hcl f j hlast (fun oz ho e he hb => by
     rw [hoj] at ho; cases ho; exact hall e he hb)
    have h0 := (mem_ready.1 hr).1
    rcases Nat.lt_or_ge i listed.size with h' | h'
    ·simp [h'] at h0 h2; rw [h0] at h2; cases h2
    ·simp [Array.getElem?_eq_none h'] at h2
   have hnot : ∀ e ∈ oj.after, Region.binds md e = true → e.on ≠ i := fun e he hb heq => by
    have h1 := hall e he hb
    have h0 := (mem_ready.1 hr).1
    rw [heq] at h1
    rcases Nat.lt_or_ge i listed.size with h' | h'
    ·simp [h'] at h0 h1; rw [h0] at h1; cases h1
    ·simp [Array.getElem?_eq_none h'] at h1
   have h2 := wpOp_putIf hoj (hfree j oj hoj hji hjun hnot) (fun cs b => hsel i oi cs b hi) (fun cs b => hsel j oj cs b hoj) hQ hy h1
   have hfree' : ∀ k ok, ops[k]? = some ok → k ≠ i → (listed.setIfInBounds j true).getD k true = false →
     (∀ e ∈ ok.after, Region.binds md e = true → e.on ≠ i) → oi.apart ops ok = true := fun k ok hk hki hun hno => by
    refine hfree k ok hk hki ?_ hno
    by_cases hjk : j = k
    ·subst hjk; exact hjun
    ·rw [getD_set_ne true hjk] at hun; exact hun
   refine wpOp_mono (fun a' w' h3 => ⟨h3.2.1, ih (listed.setIfInBounds j true) a' w' (hcl.step hj) hfree' (ready_mono hr (Ne.symm hji)) h3.1 (h3.2.1 hjz) ?_⟩) h2
   rw [Array.setIfInBounds_comm _ _ hji]
   exact h3.2.2
theorem wpAnyZ_takeC {i : Nat} (f : Nat) (hlast : reachB md ops i f z = true) {oi : Oper} {v : Value} {fuel : Nat} {listed : Array Bool} {a : Act} {w : World} (hi : ops[i]? = some oi)
  (hc : closdB md ops listed = true) (hs : Region.noSelect ops = true) (hf : Region.free md ops listed i = true) (hr : (Region.ready md ops listed).contains i = true)
  (hQ : ∀ c a w, Q (.panic c) (a.put oi.dst v) w → Q (.panic c) a w) (hS : S w) (hy : YieldsIf P ops S oi v a)
  (h : wpAnyZ P md ops Q S z fuel (listed.setIfInBounds i true) (a.put oi.dst v) w) : wpAnyZ P md ops Q S z (fuel + 1) listed a w :=
 wpAnyZ_firstC hlast hi (Region.noSelect_spec hs) hQ fuel listed a w (closdB_spec hc) (Region.free_spec hi hf) (by simpa using hr) hy hS h
theorem zC {i : Nat} (f : Nat) {oi : Oper} {v : Value} {fuel : Nat} {listed : Array Bool} {a : Act} {w : World} (hb : (reachB md ops i f z && (closdB md ops listed && (Region.noSelect ops && (Region.free md ops listed i && (Region.ready md ops listed).contains i)))) = true) (hi : ops[i]? = some oi)
  (hQ : ∀ c a w, Q (.panic c) (a.put oi.dst v) w → Q (.panic c) a w) (hS : S w) (hy : YieldsIf P ops S oi v a)
  (h : wpAnyZ P md ops Q S z fuel (listed.setIfInBounds i true) (a.put oi.dst v) w) : wpAnyZ P md ops Q S z (fuel + 1) listed a w := by
 simp only [Bool.and_eq_true] at hb
 exact wpAnyZ_takeC f hb.1 hi hb.2.1 hb.2.2.1 hb.2.2.2.1 hb.2.2.2.2 hQ hS hy h
end
end Go.Proofs.Ytpbcplfpjcacfaa
