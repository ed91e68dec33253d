import Derived.Test.YtpbcplfpjcacfaaKSerial04
namespace Go.Proofs.Ytpbcplfpjcacfaa
open Go.RowKit
attribute [local go_sem ↓] Go.wp_at_zero Go.wp_at_succ
set_option maxRecDepth 100000
set_option maxHeartbeats 8000000
theorem told_begin (b : Nat) (ps : Nat → Pd) (vals : Nat → Int) (own : Own) (x : Stp) (a : Ans) (aq : Option Addr) (cq : Nat) (w : World) (TI : TellIn w b ps vals own a aq cq) (hp : properB x = true) (hc2 : ¬ a.code = 2) (hw0 : a.why = 0) (hop : x.op = 1) :
  Calls Try.prog 34 #[.pointer (some ⟨b, 0, none⟩), .agg #[.int .i64 x.who.1, .int .i64 x.who.2.1, .int .i64 x.who.2.2, .int .i64 x.op, .int .i64 x.at_.1, .int .i64 x.at_.2, .int .i64 x.key, .int .i64 x.to_, .int .i64 x.value], .agg #[.int .i64 a.code, .int .i64 a.why, .slice aq a.items.length cq]] w (ToldPost own w b ps vals x a) := by
 have Khc2 : Hid (¬ a.code = 2) := hc2
 have Khw0 : Hid (a.why = 0) := hw0
 have Khop : Hid (x.op = 1) := hop
 clear hc2 hw0 hop
 obtain ⟨⟨hs, m, hpl⟩, hrowa, hva, hlen, hgood⟩ := TI
 have HM : Hid (BkMem w b hs vals own) := m
 have HPL : Hid (∀ k, k < 128 → (hs k).pl = ps k) := hpl
 have HRA : Hid (type_of% hrowa) := hrowa
 have HVA : Hid (type_of% hva) := hva
 have HLN : Hid (type_of% hlen) := hlen
 have HGD : Hid (type_of% hgood) := hgood
 have hbl := m.old b (by rw [m.tag]; simp)
 have hA : Below w.heap.size w ((w.alloc (.cells #[.int .i64 x.who.1, .int .i64 x.who.2.1, .int .i64 x.who.2.2, .int .i64 x.op, .int .i64 x.at_.1, .int .i64 x.at_.2, .int .i64 x.key, .int .i64 x.to_, .int .i64 x.value] 30)).alloc (.cells #[.int .i64 a.code, .int .i64 a.why, .slice aq a.items.length cq] 66)) := below2r
 have hX : ((w.alloc (.cells #[.int .i64 x.who.1, .int .i64 x.who.2.1, .int .i64 x.who.2.2, .int .i64 x.op, .int .i64 x.at_.1, .int .i64 x.at_.2, .int .i64 x.key, .int .i64 x.to_, .int .i64 x.value] 30)).alloc (.cells #[.int .i64 a.code, .int .i64 a.why, .slice aq a.items.length cq] 66)).heap[w.heap.size]? = some (.cells (stepC x).toArray 30 (0, 0)) := by
  rw [Below.heap_alloc _ _ _ (by simp)]; exact heap_alloc_new w _
 have hY : ((w.alloc (.cells #[.int .i64 x.who.1, .int .i64 x.who.2.1, .int .i64 x.who.2.2, .int .i64 x.op, .int .i64 x.at_.1, .int .i64 x.at_.2, .int .i64 x.key, .int .i64 x.to_, .int .i64 x.value] 30)).alloc (.cells #[.int .i64 a.code, .int .i64 a.why, .slice aq a.items.length cq] 66)).heap[w.heap.size + 1]? = some (.cells #[.int .i64 a.code, .int .i64 a.why, .slice aq a.items.length cq] 66 (0, 0)) := by
  have := heap_alloc_new (w.alloc (.cells #[.int .i64 x.who.1, .int .i64 x.who.2.1, .int .i64 x.who.2.2, .int .i64 x.op, .int .i64 x.at_.1, .int .i64 x.at_.2, .int .i64 x.key, .int .i64 x.to_, .int .i64 x.value] 30)) (.cells #[.int .i64 a.code, .int .i64 a.why, .slice aq a.items.length cq] 66 (0, 0))
  simpa using this
 have hpr := properK_any x
 rw [hp] at hpr
 unfold stepV at hpr
 clear m hpl hrowa hva hlen hgood
 go_enter Try.func34, Try.ntmps34
 go_wp2_with fail
 refine (hpr _).mono ?_
 rintro e w1 ⟨rfl, hb1⟩
 have hB1 : Below w.heap.size w w1 := hA.trans (hb1.mono hA.size)
 have hX1 : w1.heap[w.heap.size]? = _ := (hb1.block w.heap.size (by simp; omega)).trans hX
 have hY1 : w1.heap[w.heap.size + 1]? = _ := (hb1.block (w.heap.size + 1) (by simp)).trans hY
 have HX1 : Hid (type_of% hX1) := hX1
 have HY1 : Hid (type_of% hY1) := hY1
 have HB1 : Hid (Below w.heap.size w w1) := hB1
 have M1 : Hid (BkMem w1 b hs vals own) := HM.out.below hB1
 obtain ⟨d0, d1, d2, _, _, _⟩ := ans_cells hY1
 obtain ⟨c0, c1, c2, c3, c4, c5, c6, c7, c8, _⟩ := step9_cells hX1
 have zx : w.heap.size < w1.heap.size := (Array.getElem?_eq_some_iff.1 hX1).1
 have zy : w.heap.size + 1 < w1.heap.size := (Array.getElem?_eq_some_iff.1 hY1).1
 have zb : b < w1.heap.size := by omega
 clear hA hX hY hb1 hB1 hX1 hY1 hpr
 obtain ⟨k, hk, hsz⟩ := properB_sess hp
 have hses := session_any x.who
 rw [hsz] at hses
 have hkt : (sessZ' x.who).toNat = k := by rw [hsz]; simp
 have zk : (k : Int) < 128 := by omega
 go_upto_region 4 with fail
 have kc0 := kin_cell c0
 have kc1 := kin_cell c1
 have kc2 := kin_cell c2
 have hki := kin_some w1
 refine wp_region_kin (by kernel_rfl) (by kernel_rfl) ?_
 repeat (first | go_big_quiet_step ((go_at_call 37; exact Calls.kin (hses _))) | quiet_step ((go_at_call 37; exact Calls.kin (hses _))))
 refine wpQuiet_nil ?_
 intro _ hw'
 obtain ⟨xq, hw''⟩ := hw'
 subst hw''
 have HBq : Hid (Below w1.heap.size w1 xq.w) := xq.h
 generalize xq.w = wq at *
 have hC0 : ChgD own w wq own := ChgD.of_below (HB1.out.trans (HBq.out.mono HB1.out.size))
 have HC0 : Hid (ChgD own w wq own) := hC0
 have Mq : Hid (BkMem wq b hs vals own) := M1.out.below HBq.out
 have e0 := cell_later HBq.out d0
 have e1 := cell_later HBq.out d1
 have e2 := cell_later HBq.out d2
 have f3 := cell_later HBq.out c3
 have HXq : Hid (wq.heap[w.heap.size]? = _) := (HBq.out.block w.heap.size zx).trans HX1.out
 have HYq : Hid (wq.heap[w.heap.size + 1]? = _) := (HBq.out.block (w.heap.size + 1) zy).trans HY1.out
 have zxq : w.heap.size < wq.heap.size := by have := HBq.out.size; omega
 have zyq : w.heap.size + 1 < wq.heap.size := by have := HBq.out.size; omega
 have zbq : b < wq.heap.size := by have := HBq.out.size; omega
 have HPS : Hid ((hs k).pl = ps k) := HPL.out k hk
 have hth := Mq.out.there (o := k * 12) (n := 12) (by omega)
 have HTH : Hid (type_of% hth) := hth
 have hbx : b ≠ w.heap.size := by omega
 have hby : b ≠ w.heap.size + 1 := by omega
 have HTP : Hid (tellP ps vals x a = (
  if a.code = 2 then (decide (a.why = 1) || decide (a.why = 2), updP ps k pd0, vals)
  else if a.why ≠ 0 then (false, ps, vals)
  else if x.op = 1 ∧ a.code = 0 then (true, updP ps k { pd0 with live := true }, vals)
  else if x.op = 7 ∧ a.code = 0 then (true, updP ps k pd0, vals)
  else if x.op = 6 ∧ a.code = 0 then ((replayP vals (ps k).done).1, updP ps k pd0, (replayP vals (ps k).done).2)
  else if x.op = 8 ∧ (ps k).open_ = true ∧ a.code ≠ 1 then ((noteP (updP ps k { ps k with open_ := false }) k (ps k).x a).1, (noteP (updP ps k { ps k with open_ := false }) k (ps k).x a).2, vals)
  else if (2 ≤ x.op ∧ x.op ≤ 5) ∧ a.code = 1 then (true, updP ps k { ps k with open_ := true, x := x }, vals)
  else if 2 ≤ x.op ∧ x.op ≤ 5 then ((noteP ps k x a).1, (noteP ps k x a).2, vals)
  else (true, ps, vals))) := by
  unfold Hid tellP
  rw [if_neg (by rw [hp]; simp)]
  simp only [hkt]
 have hpo := (proper_of hp).op
 clear hth kc0 kc1 kc2 hki c0 c1 c2 c3 c4 c5 c6 c7 c8 d0 d1 d2 hses hC0 xq
 have hc2 := Khc2.out
 have hw0 := Khw0.out
 have hop := Khop.out
 have HS0 : Hid (∀ h' : Hd, h'.dv = .slice none 0 0 → h'.done = [] → BkOut own w b (updP ps k h'.pl) vals (wq.setCells b (k * 12) (handC h'))) := fun h' g1 g2 => by
  obtain ⟨m1, m2⟩ := Mq.out.setBare hk h' g1 g2
  exact ⟨own, ⟨_, m1, upd_pl HPL.out⟩, HC0.out.trans m2, fun _ _ h => h⟩
 have H1 : Hid ((#[.bool true, .slice none 0 0, .bool false, .int .i64 0, .int .i64 0, .int .i64 0, .int .i64 0, .int .i64 0, .int .i64 0, .int .i64 0, .int .i64 0, .int .i64 0] : Array Value).all (·.oneCell') = true) := all_oneCell_toArray (cs := [.bool true, .slice none 0 0, .bool false, .int .i64 0, .int .i64 0, .int .i64 0, .int .i64 0, .int .i64 0, .int .i64 0, .int .i64 0, .int .i64 0, .int .i64 0]) (by simp [Value.oneCell'])
 have HZ1 : Hid (([.bool true, .slice none 0 0, .bool false, .int .i64 0, .int .i64 0, .int .i64 0, .int .i64 0, .int .i64 0, .int .i64 0, .int .i64 0, .int .i64 0, .int .i64 0] : List Value) = handC ⟨true, .slice none 0 0, [], false, zeroStp⟩) := rfl
 have hc2b : (a.code == 2) = false := by simpa using hc2
 rw [hw0] at e1
 rw [hop] at f3
 by_cases hc0 : a.code = 0
 ·rw [hc0] at e0
  have HF : Hid (BkOut own w b (updP ps k { pd0 with live := true }) vals (wq.setCells b (k * 12) (handC ⟨true, .slice none 0 0, [], false, zeroStp⟩))) := HS0.out ⟨true, .slice none 0 0, [], false, zeroStp⟩ rfl rfl
  have HT : Hid (tellP ps vals x a = (true, updP ps k { pd0 with live := true }, vals)) := by unfold Hid; rw [HTP.out, if_neg hc2, if_neg (by simp [hw0]), if_pos ⟨hop, hc0⟩]
  clear hc2 hc2b
  go_upto_region 26 with (refine wpList_store_mid rfl 80 _ _ rfl b (k * 12) #[.bool true, .slice none 0 0, .bool false, .int .i64 0, .int .i64 0, .int .i64 0, .int .i64 0, .int .i64 0, .int .i64 0, .int .i64 0, .int .i64 0, .int .i64 0] rfl rfl HTH.out sizeHand H1.out ?_)
  rw [HZ1.out]
  go_wp2
  go_ret
  unfold ToldPost
  rw [HT.out]
  exact ⟨rfl, HF.out⟩
 ·have hc0b : (a.code == 0) = false := by simpa using hc0
  have HT : Hid (tellP ps vals x a = (true, ps, vals)) := by unfold Hid; rw [HTP.out, if_neg hc2, if_neg (by simp [hw0]), if_neg (fun e => hc0 e.2), if_neg (by rw [hop]; simp), if_neg (by rw [hop]; simp), if_neg (by rw [hop]; simp), if_neg (by rw [hop]; simp), if_neg (by rw [hop]; simp)]
  have HF : Hid (BkOut own w b ps vals wq) := ⟨own, ⟨hs, Mq.out, HPL.out⟩, HC0.out, fun _ _ h => h⟩
  clear hc2 hc0
  go_wp2
  go_ret
  unfold ToldPost
  rw [HT.out]
  exact ⟨rfl, HF.out⟩
theorem told_abort (b : Nat) (ps : Nat → Pd) (vals : Nat → Int) (own : Own) (x : Stp) (a : Ans) (aq : Option Addr) (cq : Nat) (w : World) (TI : TellIn w b ps vals own a aq cq) (hp : properB x = true) (hc2 : ¬ a.code = 2) (hw0 : a.why = 0) (hop : x.op = 7) :
  Calls Try.prog 34 #[.pointer (some ⟨b, 0, none⟩), .agg #[.int .i64 x.who.1, .int .i64 x.who.2.1, .int .i64 x.who.2.2, .int .i64 x.op, .int .i64 x.at_.1, .int .i64 x.at_.2, .int .i64 x.key, .int .i64 x.to_, .int .i64 x.value], .agg #[.int .i64 a.code, .int .i64 a.why, .slice aq a.items.length cq]] w (ToldPost own w b ps vals x a) := by
 have Khc2 : Hid (¬ a.code = 2) := hc2
 have Khw0 : Hid (a.why = 0) := hw0
 have Khop : Hid (x.op = 7) := hop
 clear hc2 hw0 hop
 obtain ⟨⟨hs, m, hpl⟩, hrowa, hva, hlen, hgood⟩ := TI
 have HM : Hid (BkMem w b hs vals own) := m
 have HPL : Hid (∀ k, k < 128 → (hs k).pl = ps k) := hpl
 have HRA : Hid (type_of% hrowa) := hrowa
 have HVA : Hid (type_of% hva) := hva
 have HLN : Hid (type_of% hlen) := hlen
 have HGD : Hid (type_of% hgood) := hgood
 have hbl := m.old b (by rw [m.tag]; simp)
 have hA : Below w.heap.size w ((w.alloc (.cells #[.int .i64 x.who.1, .int .i64 x.who.2.1, .int .i64 x.who.2.2, .int .i64 x.op, .int .i64 x.at_.1, .int .i64 x.at_.2, .int .i64 x.key, .int .i64 x.to_, .int .i64 x.value] 30)).alloc (.cells #[.int .i64 a.code, .int .i64 a.why, .slice aq a.items.length cq] 66)) := below2r
 have hX : ((w.alloc (.cells #[.int .i64 x.who.1, .int .i64 x.who.2.1, .int .i64 x.who.2.2, .int .i64 x.op, .int .i64 x.at_.1, .int .i64 x.at_.2, .int .i64 x.key, .int .i64 x.to_, .int .i64 x.value] 30)).alloc (.cells #[.int .i64 a.code, .int .i64 a.why, .slice aq a.items.length cq] 66)).heap[w.heap.size]? = some (.cells (stepC x).toArray 30 (0, 0)) := by
  rw [Below.heap_alloc _ _ _ (by simp)]; exact heap_alloc_new w _
 have hY : ((w.alloc (.cells #[.int .i64 x.who.1, .int .i64 x.who.2.1, .int .i64 x.who.2.2, .int .i64 x.op, .int .i64 x.at_.1, .int .i64 x.at_.2, .int .i64 x.key, .int .i64 x.to_, .int .i64 x.value] 30)).alloc (.cells #[.int .i64 a.code, .int .i64 a.why, .slice aq a.items.length cq] 66)).heap[w.heap.size + 1]? = some (.cells #[.int .i64 a.code, .int .i64 a.why, .slice aq a.items.length cq] 66 (0, 0)) := by
  have := heap_alloc_new (w.alloc (.cells #[.int .i64 x.who.1, .int .i64 x.who.2.1, .int .i64 x.who.2.2, .int .i64 x.op, .int .i64 x.at_.1, .int .i64 x.at_.2, .int .i64 x.key, .int .i64 x.to_, .int .i64 x.value] 30)) (.cells #[.int .i64 a.code, .int .i64 a.why, .slice aq a.items.length cq] 66 (0, 0))
  simpa using this
 have hpr := properK_any x
 rw [hp] at hpr
 unfold stepV at hpr
 clear m hpl hrowa hva hlen hgood
 go_enter Try.func34, Try.ntmps34
 go_wp2_with fail
 refine (hpr _).mono ?_
 rintro e w1 ⟨rfl, hb1⟩
 have hB1 : Below w.heap.size w w1 := hA.trans (hb1.mono hA.size)
 have hX1 : w1.heap[w.heap.size]? = _ := (hb1.block w.heap.size (by simp; omega)).trans hX
 have hY1 : w1.heap[w.heap.size + 1]? = _ := (hb1.block (w.heap.size + 1) (by simp)).trans hY
 have HX1 : Hid (type_of% hX1) := hX1
 have HY1 : Hid (type_of% hY1) := hY1
 have HB1 : Hid (Below w.heap.size w w1) := hB1
 have M1 : Hid (BkMem w1 b hs vals own) := HM.out.below hB1
 obtain ⟨d0, d1, d2, _, _, _⟩ := ans_cells hY1
 obtain ⟨c0, c1, c2, c3, c4, c5, c6, c7, c8, _⟩ := step9_cells hX1
 have zx : w.heap.size < w1.heap.size := (Array.getElem?_eq_some_iff.1 hX1).1
 have zy : w.heap.size + 1 < w1.heap.size := (Array.getElem?_eq_some_iff.1 hY1).1
 have zb : b < w1.heap.size := by omega
 clear hA hX hY hb1 hB1 hX1 hY1 hpr
 obtain ⟨k, hk, hsz⟩ := properB_sess hp
 have hses := session_any x.who
 rw [hsz] at hses
 have hkt : (sessZ' x.who).toNat = k := by rw [hsz]; simp
 have zk : (k : Int) < 128 := by omega
 go_upto_region 4 with fail
 have kc0 := kin_cell c0
 have kc1 := kin_cell c1
 have kc2 := kin_cell c2
 have hki := kin_some w1
 refine wp_region_kin (by kernel_rfl) (by kernel_rfl) ?_
 repeat (first | go_big_quiet_step ((go_at_call 37; exact Calls.kin (hses _))) | quiet_step ((go_at_call 37; exact Calls.kin (hses _))))
 refine wpQuiet_nil ?_
 intro _ hw'
 obtain ⟨xq, hw''⟩ := hw'
 subst hw''
 have HBq : Hid (Below w1.heap.size w1 xq.w) := xq.h
 generalize xq.w = wq at *
 have hC0 : ChgD own w wq own := ChgD.of_below (HB1.out.trans (HBq.out.mono HB1.out.size))
 have HC0 : Hid (ChgD own w wq own) := hC0
 have Mq : Hid (BkMem wq b hs vals own) := M1.out.below HBq.out
 have e0 := cell_later HBq.out d0
 have e1 := cell_later HBq.out d1
 have e2 := cell_later HBq.out d2
 have f3 := cell_later HBq.out c3
 have HXq : Hid (wq.heap[w.heap.size]? = _) := (HBq.out.block w.heap.size zx).trans HX1.out
 have HYq : Hid (wq.heap[w.heap.size + 1]? = _) := (HBq.out.block (w.heap.size + 1) zy).trans HY1.out
 have zxq : w.heap.size < wq.heap.size := by have := HBq.out.size; omega
 have zyq : w.heap.size + 1 < wq.heap.size := by have := HBq.out.size; omega
 have zbq : b < wq.heap.size := by have := HBq.out.size; omega
 have HPS : Hid ((hs k).pl = ps k) := HPL.out k hk
 have hth := Mq.out.there (o := k * 12) (n := 12) (by omega)
 have HTH : Hid (type_of% hth) := hth
 have hbx : b ≠ w.heap.size := by omega
 have hby : b ≠ w.heap.size + 1 := by omega
 have HTP : Hid (tellP ps vals x a = (
  if a.code = 2 then (decide (a.why = 1) || decide (a.why = 2), updP ps k pd0, vals)
  else if a.why ≠ 0 then (false, ps, vals)
  else if x.op = 1 ∧ a.code = 0 then (true, updP ps k { pd0 with live := true }, vals)
  else if x.op = 7 ∧ a.code = 0 then (true, updP ps k pd0, vals)
  else if x.op = 6 ∧ a.code = 0 then ((replayP vals (ps k).done).1, updP ps k pd0, (replayP vals (ps k).done).2)
  else if x.op = 8 ∧ (ps k).open_ = true ∧ a.code ≠ 1 then ((noteP (updP ps k { ps k with open_ := false }) k (ps k).x a).1, (noteP (updP ps k { ps k with open_ := false }) k (ps k).x a).2, vals)
  else if (2 ≤ x.op ∧ x.op ≤ 5) ∧ a.code = 1 then (true, updP ps k { ps k with open_ := true, x := x }, vals)
  else if 2 ≤ x.op ∧ x.op ≤ 5 then ((noteP ps k x a).1, (noteP ps k x a).2, vals)
  else (true, ps, vals))) := by
  unfold Hid tellP
  rw [if_neg (by rw [hp]; simp)]
  simp only [hkt]
 have hpo := (proper_of hp).op
 clear hth kc0 kc1 kc2 hki c0 c1 c2 c3 c4 c5 c6 c7 c8 d0 d1 d2 hses hC0 xq
 have hc2 := Khc2.out
 have hw0 := Khw0.out
 have hop := Khop.out
 have HS0 : Hid (∀ h' : Hd, h'.dv = .slice none 0 0 → h'.done = [] → BkOut own w b (updP ps k h'.pl) vals (wq.setCells b (k * 12) (handC h'))) := fun h' g1 g2 => by
  obtain ⟨m1, m2⟩ := Mq.out.setBare hk h' g1 g2
  exact ⟨own, ⟨_, m1, upd_pl HPL.out⟩, HC0.out.trans m2, fun _ _ h => h⟩
 have H0 : Hid ((#[.bool false, .slice none 0 0, .bool false, .int .i64 0, .int .i64 0, .int .i64 0, .int .i64 0, .int .i64 0, .int .i64 0, .int .i64 0, .int .i64 0, .int .i64 0] : Array Value).all (·.oneCell') = true) := all_oneCell_toArray (cs := [.bool false, .slice none 0 0, .bool false, .int .i64 0, .int .i64 0, .int .i64 0, .int .i64 0, .int .i64 0, .int .i64 0, .int .i64 0, .int .i64 0, .int .i64 0]) (by simp [Value.oneCell'])
 have HZ0 : Hid (([.bool false, .slice none 0 0, .bool false, .int .i64 0, .int .i64 0, .int .i64 0, .int .i64 0, .int .i64 0, .int .i64 0, .int .i64 0, .int .i64 0, .int .i64 0] : List Value) = handC hd0) := rfl
 have hc2b : (a.code == 2) = false := by simpa using hc2
 rw [hw0] at e1
 rw [hop] at f3
 by_cases hc0 : a.code = 0
 ·rw [hc0] at e0
  have HF : Hid (BkOut own w b (updP ps k pd0) vals (wq.setCells b (k * 12) (handC hd0))) := HS0.out hd0 rfl rfl
  have HT : Hid (tellP ps vals x a = (true, updP ps k pd0, vals)) := by unfold Hid; rw [HTP.out, if_neg hc2, if_neg (by simp [hw0]), if_neg (by rw [hop]; simp), if_pos ⟨hop, hc0⟩]
  clear hc2 hc2b
  go_upto_region 26 with (refine wpList_store_mid rfl 80 _ _ rfl b (k * 12) #[.bool false, .slice none 0 0, .bool false, .int .i64 0, .int .i64 0, .int .i64 0, .int .i64 0, .int .i64 0, .int .i64 0, .int .i64 0, .int .i64 0, .int .i64 0] rfl rfl HTH.out sizeHand H0.out ?_)
  rw [HZ0.out]
  go_wp2
  go_ret
  unfold ToldPost
  rw [HT.out]
  exact ⟨rfl, HF.out⟩
 ·have hc0b : (a.code == 0) = false := by simpa using hc0
  have HT : Hid (tellP ps vals x a = (true, ps, vals)) := by unfold Hid; rw [HTP.out, if_neg hc2, if_neg (by simp [hw0]), if_neg (by rw [hop]; simp), if_neg (fun e => hc0 e.2), if_neg (by rw [hop]; simp), if_neg (by rw [hop]; simp), if_neg (by rw [hop]; simp), if_neg (by rw [hop]; simp)]
  have HF : Hid (BkOut own w b ps vals wq) := ⟨own, ⟨hs, Mq.out, HPL.out⟩, HC0.out, fun _ _ h => h⟩
  clear hc2 hc0
  go_wp2
  go_ret
  unfold ToldPost
  rw [HT.out]
  exact ⟨rfl, HF.out⟩
theorem told_commit (b : Nat) (ps : Nat → Pd) (vals : Nat → Int) (own : Own) (x : Stp) (a : Ans) (aq : Option Addr) (cq : Nat) (w : World) (TI : TellIn w b ps vals own a aq cq) (hp : properB x = true) (hc2 : ¬ a.code = 2) (hw0 : a.why = 0) (hop : x.op = 6) :
  Calls Try.prog 34 #[.pointer (some ⟨b, 0, none⟩), .agg #[.int .i64 x.who.1, .int .i64 x.who.2.1, .int .i64 x.who.2.2, .int .i64 x.op, .int .i64 x.at_.1, .int .i64 x.at_.2, .int .i64 x.key, .int .i64 x.to_, .int .i64 x.value], .agg #[.int .i64 a.code, .int .i64 a.why, .slice aq a.items.length cq]] w (ToldPost own w b ps vals x a) := by
 have Khc2 : Hid (¬ a.code = 2) := hc2
 have Khw0 : Hid (a.why = 0) := hw0
 have Khop : Hid (x.op = 6) := hop
 clear hc2 hw0 hop
 obtain ⟨⟨hs, m, hpl⟩, hrowa, hva, hlen, hgood⟩ := TI
 have HM : Hid (BkMem w b hs vals own) := m
 have HPL : Hid (∀ k, k < 128 → (hs k).pl = ps k) := hpl
 have HRA : Hid (type_of% hrowa) := hrowa
 have HVA : Hid (type_of% hva) := hva
 have HLN : Hid (type_of% hlen) := hlen
 have HGD : Hid (type_of% hgood) := hgood
 have hbl := m.old b (by rw [m.tag]; simp)
 have hA : Below w.heap.size w ((w.alloc (.cells #[.int .i64 x.who.1, .int .i64 x.who.2.1, .int .i64 x.who.2.2, .int .i64 x.op, .int .i64 x.at_.1, .int .i64 x.at_.2, .int .i64 x.key, .int .i64 x.to_, .int .i64 x.value] 30)).alloc (.cells #[.int .i64 a.code, .int .i64 a.why, .slice aq a.items.length cq] 66)) := below2r
 have hX : ((w.alloc (.cells #[.int .i64 x.who.1, .int .i64 x.who.2.1, .int .i64 x.who.2.2, .int .i64 x.op, .int .i64 x.at_.1, .int .i64 x.at_.2, .int .i64 x.key, .int .i64 x.to_, .int .i64 x.value] 30)).alloc (.cells #[.int .i64 a.code, .int .i64 a.why, .slice aq a.items.length cq] 66)).heap[w.heap.size]? = some (.cells (stepC x).toArray 30 (0, 0)) := by
  rw [Below.heap_alloc _ _ _ (by simp)]; exact heap_alloc_new w _
 have hY : ((w.alloc (.cells #[.int .i64 x.who.1, .int .i64 x.who.2.1, .int .i64 x.who.2.2, .int .i64 x.op, .int .i64 x.at_.1, .int .i64 x.at_.2, .int .i64 x.key, .int .i64 x.to_, .int .i64 x.value] 30)).alloc (.cells #[.int .i64 a.code, .int .i64 a.why, .slice aq a.items.length cq] 66)).heap[w.heap.size + 1]? = some (.cells #[.int .i64 a.code, .int .i64 a.why, .slice aq a.items.length cq] 66 (0, 0)) := by
  have := heap_alloc_new (w.alloc (.cells #[.int .i64 x.who.1, .int .i64 x.who.2.1, .int .i64 x.who.2.2, .int .i64 x.op, .int .i64 x.at_.1, .int .i64 x.at_.2, .int .i64 x.key, .int .i64 x.to_, .int .i64 x.value] 30)) (.cells #[.int .i64 a.code, .int .i64 a.why, .slice aq a.items.length cq] 66 (0, 0))
  simpa using this
 have hpr := properK_any x
 rw [hp] at hpr
 unfold stepV at hpr
 clear m hpl hrowa hva hlen hgood
 go_enter Try.func34, Try.ntmps34
 go_wp2_with fail
 refine (hpr _).mono ?_
 rintro e w1 ⟨rfl, hb1⟩
 have hB1 : Below w.heap.size w w1 := hA.trans (hb1.mono hA.size)
 have hX1 : w1.heap[w.heap.size]? = _ := (hb1.block w.heap.size (by simp; omega)).trans hX
 have hY1 : w1.heap[w.heap.size + 1]? = _ := (hb1.block (w.heap.size + 1) (by simp)).trans hY
 have HX1 : Hid (type_of% hX1) := hX1
 have HY1 : Hid (type_of% hY1) := hY1
 have HB1 : Hid (Below w.heap.size w w1) := hB1
 have M1 : Hid (BkMem w1 b hs vals own) := HM.out.below hB1
 obtain ⟨d0, d1, d2, _, _, _⟩ := ans_cells hY1
 obtain ⟨c0, c1, c2, c3, c4, c5, c6, c7, c8, _⟩ := step9_cells hX1
 have zx : w.heap.size < w1.heap.size := (Array.getElem?_eq_some_iff.1 hX1).1
 have zy : w.heap.size + 1 < w1.heap.size := (Array.getElem?_eq_some_iff.1 hY1).1
 have zb : b < w1.heap.size := by omega
 clear hA hX hY hb1 hB1 hX1 hY1 hpr
 obtain ⟨k, hk, hsz⟩ := properB_sess hp
 have hses := session_any x.who
 rw [hsz] at hses
 have hkt : (sessZ' x.who).toNat = k := by rw [hsz]; simp
 have zk : (k : Int) < 128 := by omega
 go_upto_region 4 with fail
 have kc0 := kin_cell c0
 have kc1 := kin_cell c1
 have kc2 := kin_cell c2
 have hki := kin_some w1
 refine wp_region_kin (by kernel_rfl) (by kernel_rfl) ?_
 repeat (first | go_big_quiet_step ((go_at_call 37; exact Calls.kin (hses _))) | quiet_step ((go_at_call 37; exact Calls.kin (hses _))))
 refine wpQuiet_nil ?_
 intro _ hw'
 obtain ⟨xq, hw''⟩ := hw'
 subst hw''
 have HBq : Hid (Below w1.heap.size w1 xq.w) := xq.h
 generalize xq.w = wq at *
 have hC0 : ChgD own w wq own := ChgD.of_below (HB1.out.trans (HBq.out.mono HB1.out.size))
 have HC0 : Hid (ChgD own w wq own) := hC0
 have Mq : Hid (BkMem wq b hs vals own) := M1.out.below HBq.out
 have e0 := cell_later HBq.out d0
 have e1 := cell_later HBq.out d1
 have e2 := cell_later HBq.out d2
 have f3 := cell_later HBq.out c3
 have HXq : Hid (wq.heap[w.heap.size]? = _) := (HBq.out.block w.heap.size zx).trans HX1.out
 have HYq : Hid (wq.heap[w.heap.size + 1]? = _) := (HBq.out.block (w.heap.size + 1) zy).trans HY1.out
 have zxq : w.heap.size < wq.heap.size := by have := HBq.out.size; omega
 have zyq : w.heap.size + 1 < wq.heap.size := by have := HBq.out.size; omega
 have zbq : b < wq.heap.size := by have := HBq.out.size; omega
 have HPS : Hid ((hs k).pl = ps k) := HPL.out k hk
 have hth := Mq.out.there (o := k * 12) (n := 12) (by omega)
 have HTH : Hid (type_of% hth) := hth
 have hbx : b ≠ w.heap.size := by omega
 have hby : b ≠ w.heap.size + 1 := by omega
 have HTP : Hid (tellP ps vals x a = (
  if a.code = 2 then (decide (a.why = 1) || decide (a.why = 2), updP ps k pd0, vals)
  else if a.why ≠ 0 then (false, ps, vals)
  else if x.op = 1 ∧ a.code = 0 then (true, updP ps k { pd0 with live := true }, vals)
  else if x.op = 7 ∧ a.code = 0 then (true, updP ps k pd0, vals)
  else if x.op = 6 ∧ a.code = 0 then ((replayP vals (ps k).done).1, updP ps k pd0, (replayP vals (ps k).done).2)
  else if x.op = 8 ∧ (ps k).open_ = true ∧ a.code ≠ 1 then ((noteP (updP ps k { ps k with open_ := false }) k (ps k).x a).1, (noteP (updP ps k { ps k with open_ := false }) k (ps k).x a).2, vals)
  else if (2 ≤ x.op ∧ x.op ≤ 5) ∧ a.code = 1 then (true, updP ps k { ps k with open_ := true, x := x }, vals)
  else if 2 ≤ x.op ∧ x.op ≤ 5 then ((noteP ps k x a).1, (noteP ps k x a).2, vals)
  else (true, ps, vals))) := by
  unfold Hid tellP
  rw [if_neg (by rw [hp]; simp)]
  simp only [hkt]
 have hpo := (proper_of hp).op
 clear hth kc0 kc1 kc2 hki c0 c1 c2 c3 c4 c5 c6 c7 c8 d0 d1 d2 hses hC0 xq
 have hc2 := Khc2.out
 have hw0 := Khw0.out
 have hop := Khop.out
 have H0 : Hid ((#[.bool false, .slice none 0 0, .bool false, .int .i64 0, .int .i64 0, .int .i64 0, .int .i64 0, .int .i64 0, .int .i64 0, .int .i64 0, .int .i64 0, .int .i64 0] : Array Value).all (·.oneCell') = true) := all_oneCell_toArray (cs := [.bool false, .slice none 0 0, .bool false, .int .i64 0, .int .i64 0, .int .i64 0, .int .i64 0, .int .i64 0, .int .i64 0, .int .i64 0, .int .i64 0, .int .i64 0]) (by simp [Value.oneCell'])
 have HZ0 : Hid (([.bool false, .slice none 0 0, .bool false, .int .i64 0, .int .i64 0, .int .i64 0, .int .i64 0, .int .i64 0, .int .i64 0, .int .i64 0, .int .i64 0, .int .i64 0] : List Value) = handC hd0) := rfl
 have hc2b : (a.code == 2) = false := by simpa using hc2
 rw [hw0] at e1
 rw [hop] at f3
 by_cases hc0 : a.code = 0
 ·rw [hc0] at e0
  obtain ⟨ad, cd, hdv⟩ := ownsRow_slice (Mq.out.row k hk).1
  have hd1 : wq.cell? ⟨b, k * 12 + 1, none⟩ = some (.slice ad (hs k).done.length cd) := by rw [← hdv]; exact (hand_cells (Mq.out.hand k hk)).2.1
  obtain ⟨m1, m2⟩ := Mq.out.setBare hk hd0 rfl rfl
  have hsame : ∀ q, q ≠ b → (wq.setCells b (k * 12) (handC hd0)).heap[q]? = wq.heap[q]? := fun q hq => setCells_other _ _ _ _ hq
  have hne : ∀ q t, own q = some t → t ≠ (1, 0, 0, 0) → q ≠ b := fun q t hq ht e => by
   rw [e, Mq.out.tag] at hq; exact ht (Option.some.inj hq).symm
  have hr1 : Row (wq.setCells b (k * 12) (handC hd0)) own (k + 10, 0, 0, 0) 156 10 (.slice ad (hs k).done.length cd) (hs k).done didC := by
   rw [← hdv]
   exact (Mq.out.row k hk).frame (fun q hq => hsame q (hne q _ hq (by intro c; injection c with c; omega))) (fun _ h => h)
  have hk1 : ∀ d ∈ (hs k).done, (wq.setCells b (k * 12) (handC hd0)).ownsRow 0 94 2 d.v d.items.length (itemsV d.items) ∧ ∀ q, d.v.ownBlock = some q → own q = some (9, 0, 0, 0) := fun d hd => by
   obtain ⟨g1, g2⟩ := Mq.out.kept k hk d hd
   exact ⟨ownsRow_frame g1 (fun q hq => hsame q (hne q _ (g2 q hq) (by intro c; cases c))), g2⟩
  have hdn : (hs k).done.map Did.pl = (ps k).done := congrArg Pd.done HPS.out
  have hg1 : ∀ d ∈ (hs k).done, ∃ p kn hn, Good0 d.x p kn hn := fun d hd => HGD.out k hk d.pl (by rw [← hdn]; exact List.mem_map.2 ⟨d, hd, rfl⟩)
  have hrp := replay_any b k (updH hs k hd0) vals own (hs k).done (.slice ad (hs k).done.length cd) _ m1 hr1 hk1 hg1
  rw [replayB_pl, hdn] at hrp
  have HRP : Hid (type_of% hrp) := hrp
  have HC2 : Hid (ChgD own w (wq.setCells b (k * 12) (handC hd0)) own) := HC0.out.trans m2
  have HT : Hid (tellP ps vals x a = ((replayP vals (ps k).done).1, updP ps k pd0, (replayP vals (ps k).done).2)) := by unfold Hid; rw [HTP.out, if_neg hc2, if_neg (by simp [hw0]), if_neg (by rw [hop]; simp), if_neg (by rw [hop]; simp), if_pos ⟨hop, hc0⟩]
  clear hc2 hc2b m1 m2 hr1 hk1 hg1 hrp hsame hne hdn
  go_upto_region 17 with (refine wpList_store_mid rfl 80 _ _ rfl b (k * 12) #[.bool false, .slice none 0 0, .bool false, .int .i64 0, .int .i64 0, .int .i64 0, .int .i64 0, .int .i64 0, .int .i64 0, .int .i64 0, .int .i64 0, .int .i64 0] rfl rfl HTH.out sizeHand H0.out ?_)
  rw [HZ0.out]
  go_wp2_with fail
  refine HRP.out.mono ?_
  rintro e w5 ⟨rfl, hs5, vals5, own5, m5, ch5, x5, rfl, hv5⟩
  have HF : Hid (BkOut own w b (updP ps k pd0) (replayP vals (ps k).done).2 w5) := ⟨own5, ⟨_, by rw [← hv5]; exact m5, upd_pl HPL.out⟩, HC2.out.trans ch5, x5⟩
  clear m5 ch5 x5 hv5
  go_wp2
  go_ret
  unfold ToldPost
  rw [HT.out]
  exact ⟨rfl, HF.out⟩
 ·have hc0b : (a.code == 0) = false := by simpa using hc0
  have HT : Hid (tellP ps vals x a = (true, ps, vals)) := by unfold Hid; rw [HTP.out, if_neg hc2, if_neg (by simp [hw0]), if_neg (by rw [hop]; simp), if_neg (by rw [hop]; simp), if_neg (fun e => hc0 e.2), if_neg (by rw [hop]; simp), if_neg (by rw [hop]; simp), if_neg (by rw [hop]; simp)]
  have HF : Hid (BkOut own w b ps vals wq) := ⟨own, ⟨hs, Mq.out, HPL.out⟩, HC0.out, fun _ _ h => h⟩
  clear hc2 hc0
  go_wp2
  go_ret
  unfold ToldPost
  rw [HT.out]
  exact ⟨rfl, HF.out⟩
theorem noted_out {own own0 : Own} {w0 w w' : World} {b k : Nat} {hs : Nat → Hd} {ps : Nat → Pd} {vals : Nat → Int} {x : Stp} {a : Ans} {v : Value} (hpl : ∀ q, q < 128 → (hs q).pl = ps q) (hk : k < 128) (hc : a.code = 0) (h0 : ChgD own w0 w own) (hP : BkPost own w b (fun hs' vals' => vals' = vals ∧ Noted hs hs' k ((hs k).done ++ [⟨x, v, a.items⟩])) w') (_ : own0 = own) :
  BkOut own w0 b (noteP ps k x a).2 vals w' ∧ (noteP ps k x a).1 = (hs k).live := by
 obtain ⟨hs', vals', own', m', ch, hx, rfl, N⟩ := hP
 have e : noteP ps k x a = ((ps k).live, updP ps k { ps k with done := (ps k).done ++ [(x, a.items)] }) := by unfold noteP; rw [if_pos hc]
 rw [e]
 refine ⟨⟨own', ⟨hs', m', fun q hq => ?_⟩, h0.trans ch, hx⟩, ?_⟩
 ·show (hs' q).pl = updP ps k { ps k with done := (ps k).done ++ [(x, a.items)] } q
  unfold updP
  split
  ·rename_i e; subst e
   have h1 := hpl q hk
   rw [← h1]
   unfold Hd.pl
   rw [N.live, N.opn, N.x, N.done, List.map_append]
   rfl
  ·rename_i e
   rw [N.rest q e]; exact hpl q hq
 ·show (ps k).live = _
  rw [← hpl k hk]; rfl
theorem noteP_else {ps : Nat → Pd} {k : Nat} {x : Stp} {a : Ans} (hc : ¬ a.code = 0) : noteP ps k x a = (((a.items.length : Int) == 0), ps) := by unfold noteP; rw [if_neg hc]
theorem there_cell {w : World} {b o n j : Nat} (h : w.there b o n) (hj : j < n) : w.frozen? ⟨b, o + j, none⟩ = false := (h j hj).2
theorem told_blocked (b : Nat) (ps : Nat → Pd) (vals : Nat → Int) (own : Own) (x : Stp) (a : Ans) (aq : Option Addr) (cq : Nat) (w : World) (TI : TellIn w b ps vals own a aq cq) (hp : properB x = true) (hc2 : ¬ a.code = 2) (hw0 : a.why = 0) (ho1 : 2 ≤ x.op) (ho2 : x.op ≤ 5) (hc1 : a.code = 1) :
  Calls Try.prog 34 #[.pointer (some ⟨b, 0, none⟩), .agg #[.int .i64 x.who.1, .int .i64 x.who.2.1, .int .i64 x.who.2.2, .int .i64 x.op, .int .i64 x.at_.1, .int .i64 x.at_.2, .int .i64 x.key, .int .i64 x.to_, .int .i64 x.value], .agg #[.int .i64 a.code, .int .i64 a.why, .slice aq a.items.length cq]] w (ToldPost own w b ps vals x a) := by
 have Khc2 : Hid (¬ a.code = 2) := hc2
 have Khw0 : Hid (a.why = 0) := hw0
 have Khc1 : Hid (a.code = 1) := hc1
 have Kho1 : Hid (2 ≤ x.op) := ho1
 have Kho2 : Hid (x.op ≤ 5) := ho2
 clear hc2 hw0 ho1 ho2 hc1
 obtain ⟨⟨hs, m, hpl⟩, hrowa, hva, hlen, hgood⟩ := TI
 have HM : Hid (BkMem w b hs vals own) := m
 have HPL : Hid (∀ k, k < 128 → (hs k).pl = ps k) := hpl
 have HRA : Hid (type_of% hrowa) := hrowa
 have HVA : Hid (type_of% hva) := hva
 have HLN : Hid (type_of% hlen) := hlen
 have HGD : Hid (type_of% hgood) := hgood
 have hbl := m.old b (by rw [m.tag]; simp)
 have hA : Below w.heap.size w ((w.alloc (.cells #[.int .i64 x.who.1, .int .i64 x.who.2.1, .int .i64 x.who.2.2, .int .i64 x.op, .int .i64 x.at_.1, .int .i64 x.at_.2, .int .i64 x.key, .int .i64 x.to_, .int .i64 x.value] 30)).alloc (.cells #[.int .i64 a.code, .int .i64 a.why, .slice aq a.items.length cq] 66)) := below2r
 have hX : ((w.alloc (.cells #[.int .i64 x.who.1, .int .i64 x.who.2.1, .int .i64 x.who.2.2, .int .i64 x.op, .int .i64 x.at_.1, .int .i64 x.at_.2, .int .i64 x.key, .int .i64 x.to_, .int .i64 x.value] 30)).alloc (.cells #[.int .i64 a.code, .int .i64 a.why, .slice aq a.items.length cq] 66)).heap[w.heap.size]? = some (.cells (stepC x).toArray 30 (0, 0)) := by
  rw [Below.heap_alloc _ _ _ (by simp)]; exact heap_alloc_new w _
 have hY : ((w.alloc (.cells #[.int .i64 x.who.1, .int .i64 x.who.2.1, .int .i64 x.who.2.2, .int .i64 x.op, .int .i64 x.at_.1, .int .i64 x.at_.2, .int .i64 x.key, .int .i64 x.to_, .int .i64 x.value] 30)).alloc (.cells #[.int .i64 a.code, .int .i64 a.why, .slice aq a.items.length cq] 66)).heap[w.heap.size + 1]? = some (.cells #[.int .i64 a.code, .int .i64 a.why, .slice aq a.items.length cq] 66 (0, 0)) := by
  have := heap_alloc_new (w.alloc (.cells #[.int .i64 x.who.1, .int .i64 x.who.2.1, .int .i64 x.who.2.2, .int .i64 x.op, .int .i64 x.at_.1, .int .i64 x.at_.2, .int .i64 x.key, .int .i64 x.to_, .int .i64 x.value] 30)) (.cells #[.int .i64 a.code, .int .i64 a.why, .slice aq a.items.length cq] 66 (0, 0))
  simpa using this
 have hpr := properK_any x
 rw [hp] at hpr
 unfold stepV at hpr
 clear m hpl hrowa hva hlen hgood
 go_enter Try.func34, Try.ntmps34
 go_wp2_with fail
 refine (hpr _).mono ?_
 rintro e w1 ⟨rfl, hb1⟩
 have hB1 : Below w.heap.size w w1 := hA.trans (hb1.mono hA.size)
 have hX1 : w1.heap[w.heap.size]? = _ := (hb1.block w.heap.size (by simp; omega)).trans hX
 have hY1 : w1.heap[w.heap.size + 1]? = _ := (hb1.block (w.heap.size + 1) (by simp)).trans hY
 have HX1 : Hid (type_of% hX1) := hX1
 have HY1 : Hid (type_of% hY1) := hY1
 have HB1 : Hid (Below w.heap.size w w1) := hB1
 have M1 : Hid (BkMem w1 b hs vals own) := HM.out.below hB1
 obtain ⟨d0, d1, d2, _, _, _⟩ := ans_cells hY1
 obtain ⟨c0, c1, c2, c3, c4, c5, c6, c7, c8, _⟩ := step9_cells hX1
 have zx : w.heap.size < w1.heap.size := (Array.getElem?_eq_some_iff.1 hX1).1
 have zy : w.heap.size + 1 < w1.heap.size := (Array.getElem?_eq_some_iff.1 hY1).1
 have zb : b < w1.heap.size := by omega
 clear hA hX hY hb1 hB1 hX1 hY1 hpr
 obtain ⟨k, hk, hsz⟩ := properB_sess hp
 have hses := session_any x.who
 rw [hsz] at hses
 have hkt : (sessZ' x.who).toNat = k := by rw [hsz]; simp
 have zk : (k : Int) < 128 := by omega
 go_upto_region 4 with fail
 have kc0 := kin_cell c0
 have kc1 := kin_cell c1
 have kc2 := kin_cell c2
 have hki := kin_some w1
 refine wp_region_kin (by kernel_rfl) (by kernel_rfl) ?_
 repeat (first | go_big_quiet_step ((go_at_call 37; exact Calls.kin (hses _))) | quiet_step ((go_at_call 37; exact Calls.kin (hses _))))
 refine wpQuiet_nil ?_
 intro _ hw'
 obtain ⟨xq, hw''⟩ := hw'
 subst hw''
 have HBq : Hid (Below w1.heap.size w1 xq.w) := xq.h
 generalize xq.w = wq at *
 have hC0 : ChgD own w wq own := ChgD.of_below (HB1.out.trans (HBq.out.mono HB1.out.size))
 have HC0 : Hid (ChgD own w wq own) := hC0
 have Mq : Hid (BkMem wq b hs vals own) := M1.out.below HBq.out
 have e0 := cell_later HBq.out d0
 have e1 := cell_later HBq.out d1
 have e2 := cell_later HBq.out d2
 have f3 := cell_later HBq.out c3
 have HXq : Hid (wq.heap[w.heap.size]? = _) := (HBq.out.block w.heap.size zx).trans HX1.out
 have HYq : Hid (wq.heap[w.heap.size + 1]? = _) := (HBq.out.block (w.heap.size + 1) zy).trans HY1.out
 have zxq : w.heap.size < wq.heap.size := by have := HBq.out.size; omega
 have zyq : w.heap.size + 1 < wq.heap.size := by have := HBq.out.size; omega
 have zbq : b < wq.heap.size := by have := HBq.out.size; omega
 have HPS : Hid ((hs k).pl = ps k) := HPL.out k hk
 have hth := Mq.out.there (o := k * 12) (n := 12) (by omega)
 have HTH : Hid (type_of% hth) := hth
 have hbx : b ≠ w.heap.size := by omega
 have hby : b ≠ w.heap.size + 1 := by omega
 have HTP : Hid (tellP ps vals x a = (
  if a.code = 2 then (decide (a.why = 1) || decide (a.why = 2), updP ps k pd0, vals)
  else if a.why ≠ 0 then (false, ps, vals)
  else if x.op = 1 ∧ a.code = 0 then (true, updP ps k { pd0 with live := true }, vals)
  else if x.op = 7 ∧ a.code = 0 then (true, updP ps k pd0, vals)
  else if x.op = 6 ∧ a.code = 0 then ((replayP vals (ps k).done).1, updP ps k pd0, (replayP vals (ps k).done).2)
  else if x.op = 8 ∧ (ps k).open_ = true ∧ a.code ≠ 1 then ((noteP (updP ps k { ps k with open_ := false }) k (ps k).x a).1, (noteP (updP ps k { ps k with open_ := false }) k (ps k).x a).2, vals)
  else if (2 ≤ x.op ∧ x.op ≤ 5) ∧ a.code = 1 then (true, updP ps k { ps k with open_ := true, x := x }, vals)
  else if 2 ≤ x.op ∧ x.op ≤ 5 then ((noteP ps k x a).1, (noteP ps k x a).2, vals)
  else (true, ps, vals))) := by
  unfold Hid tellP
  rw [if_neg (by rw [hp]; simp)]
  simp only [hkt]
 have hpo := (proper_of hp).op
 clear hth kc0 kc1 kc2 hki c0 c1 c2 c3 c4 c5 c6 c7 c8 d0 d1 d2 hses hC0 xq
 have hc2 := Khc2.out
 have hw0 := Khw0.out
 have ho1 := Kho1.out
 have hc1 := Khc1.out
 have ho2 := Kho2.out
 have hc2b : (a.code == 2) = false := by simpa using hc2
 rw [hw0] at e1
 have b1 : (x.op == 1) = false := by simp; omega
 have b7 : (x.op == 7) = false := by simp; omega
 have b6 : (x.op == 6) = false := by simp; omega
 have b8 : (x.op == 8) = false := by simp; omega
 have g0 := (step9_cells HXq.out).1
 have g1 := (step9_cells HXq.out).2.1
 have g2 := (step9_cells HXq.out).2.2.1
 have g3 := (step9_cells HXq.out).2.2.2.1
 have g4 := (step9_cells HXq.out).2.2.2.2.1
 have g5 := (step9_cells HXq.out).2.2.2.2.2.1
 have g6 := (step9_cells HXq.out).2.2.2.2.2.2.1
 have g7 := (step9_cells HXq.out).2.2.2.2.2.2.2.1
 have g8 := (step9_cells HXq.out).2.2.2.2.2.2.2.2.1
 rw [hc1] at e0
 have HT : Hid (tellP ps vals x a = (true, updP ps k { ps k with open_ := true, x := x }, vals)) := by unfold Hid; rw [HTP.out, if_neg hc2, if_neg (by simp [hw0]), if_neg (by omega), if_neg (by omega), if_neg (by omega), if_neg (by omega), if_pos ⟨⟨ho1, ho2⟩, hc1⟩]
 have i2 := (hand_cells (Mq.out.hand k hk)).2.2
 have fz2 : wq.frozen? ⟨b, k * 12 + 2, none⟩ = false := there_cell HTH.out (by omega)
 obtain ⟨m1, ch1⟩ := Mq.out.setOne hk true
 obtain ⟨m2, ch2⟩ := m1.setStep hk x
 have hth2 : (wq.setCell ⟨b, k * 12 + 2, none⟩ (.bool true)).there b (k * 12 + 3) 9 := m1.there (by omega)
 have HT2 : Hid (type_of% hth2) := hth2
 have HF : Hid (BkOut own w b (updP ps k { ps k with open_ := true, x := x }) vals ((wq.setCell ⟨b, k * 12 + 2, none⟩ (.bool true)).setCells b (k * 12 + 3) (stepC x))) := by
  refine ⟨own, ⟨_, m2, fun q hq => ?_⟩, (HC0.out.trans ch1).trans ch2, fun _ _ h => h⟩
  unfold updH updP
  by_cases e : q = k
  ·subst e
   simp only [if_true]
   rw [← HPL.out q hq]; rfl
  ·simp only [if_neg e]
   exact HPL.out q hq
 have HOS : Hid ((#[.int .i64 x.who.1, .int .i64 x.who.2.1, .int .i64 x.who.2.2, .int .i64 x.op, .int .i64 x.at_.1, .int .i64 x.at_.2, .int .i64 x.key, .int .i64 x.to_, .int .i64 x.value] : Array Value).all (·.oneCell') = true) := all_oneCell_toArray (cs := stepC x) (by simp [stepC, Value.oneCell'])
 have HXS : Hid ([.int .i64 x.who.1, .int .i64 x.who.2.1, .int .i64 x.who.2.2, .int .i64 x.op, .int .i64 x.at_.1, .int .i64 x.at_.2, .int .i64 x.key, .int .i64 x.to_, .int .i64 x.value] = stepC x) := rfl
 have n0 := (World.cell?_setCell_other wq ⟨b, k * 12 + 2, none⟩ ⟨w.heap.size, 0, none⟩ (.bool true) (by intro e; injection e with e; exact hbx e)).trans g0
 have n1 := (World.cell?_setCell_other wq ⟨b, k * 12 + 2, none⟩ ⟨w.heap.size, 1, none⟩ (.bool true) (by intro e; injection e with e; exact hbx e)).trans g1
 have n2 := (World.cell?_setCell_other wq ⟨b, k * 12 + 2, none⟩ ⟨w.heap.size, 2, none⟩ (.bool true) (by intro e; injection e with e; exact hbx e)).trans g2
 have n3 := (World.cell?_setCell_other wq ⟨b, k * 12 + 2, none⟩ ⟨w.heap.size, 3, none⟩ (.bool true) (by intro e; injection e with e; exact hbx e)).trans g3
 have n4 := (World.cell?_setCell_other wq ⟨b, k * 12 + 2, none⟩ ⟨w.heap.size, 4, none⟩ (.bool true) (by intro e; injection e with e; exact hbx e)).trans g4
 have n5 := (World.cell?_setCell_other wq ⟨b, k * 12 + 2, none⟩ ⟨w.heap.size, 5, none⟩ (.bool true) (by intro e; injection e with e; exact hbx e)).trans g5
 have n6 := (World.cell?_setCell_other wq ⟨b, k * 12 + 2, none⟩ ⟨w.heap.size, 6, none⟩ (.bool true) (by intro e; injection e with e; exact hbx e)).trans g6
 have n7 := (World.cell?_setCell_other wq ⟨b, k * 12 + 2, none⟩ ⟨w.heap.size, 7, none⟩ (.bool true) (by intro e; injection e with e; exact hbx e)).trans g7
 have n8 := (World.cell?_setCell_other wq ⟨b, k * 12 + 2, none⟩ ⟨w.heap.size, 8, none⟩ (.bool true) (by intro e; injection e with e; exact hbx e)).trans g8
 clear hc2 hc2b m1 m2 ch1 ch2 hth2
 go_upto_region 23 with fail
 generalize wq.setCell ⟨b, k * 12 + 2, none⟩ (.bool true) = wr at *
 clear g0 g1 g2 g3 g4 g5 g6 g7 g8 i2 fz2
 go_upto_region 26 with (refine wpList_store_mid rfl 30 _ _ rfl b (k * 12 + 3) #[.int .i64 x.who.1, .int .i64 x.who.2.1, .int .i64 x.who.2.2, .int .i64 x.op, .int .i64 x.at_.1, .int .i64 x.at_.2, .int .i64 x.key, .int .i64 x.to_, .int .i64 x.value] rfl rfl HT2.out sizeStep HOS.out ?_)
 rw [HXS.out]
 go_wp2
 go_ret
 unfold ToldPost
 rw [HT.out]
 exact ⟨rfl, HF.out⟩
theorem told_noted (b : Nat) (ps : Nat → Pd) (vals : Nat → Int) (own : Own) (x : Stp) (a : Ans) (aq : Option Addr) (cq : Nat) (w : World) (TI : TellIn w b ps vals own a aq cq) (hp : properB x = true) (hc2 : ¬ a.code = 2) (hw0 : a.why = 0) (ho1 : 2 ≤ x.op) (ho2 : x.op ≤ 5) (hc1 : ¬ a.code = 1) :
  Calls Try.prog 34 #[.pointer (some ⟨b, 0, none⟩), .agg #[.int .i64 x.who.1, .int .i64 x.who.2.1, .int .i64 x.who.2.2, .int .i64 x.op, .int .i64 x.at_.1, .int .i64 x.at_.2, .int .i64 x.key, .int .i64 x.to_, .int .i64 x.value], .agg #[.int .i64 a.code, .int .i64 a.why, .slice aq a.items.length cq]] w (ToldPost own w b ps vals x a) := by
 have Khc2 : Hid (¬ a.code = 2) := hc2
 have Khw0 : Hid (a.why = 0) := hw0
 have Khc1 : Hid (¬ a.code = 1) := hc1
 have Kho1 : Hid (2 ≤ x.op) := ho1
 have Kho2 : Hid (x.op ≤ 5) := ho2
 clear hc2 hw0 ho1 ho2 hc1
 obtain ⟨⟨hs, m, hpl⟩, hrowa, hva, hlen, hgood⟩ := TI
 have HM : Hid (BkMem w b hs vals own) := m
 have HPL : Hid (∀ k, k < 128 → (hs k).pl = ps k) := hpl
 have HRA : Hid (type_of% hrowa) := hrowa
 have HVA : Hid (type_of% hva) := hva
 have HLN : Hid (type_of% hlen) := hlen
 have HGD : Hid (type_of% hgood) := hgood
 have hbl := m.old b (by rw [m.tag]; simp)
 have hA : Below w.heap.size w ((w.alloc (.cells #[.int .i64 x.who.1, .int .i64 x.who.2.1, .int .i64 x.who.2.2, .int .i64 x.op, .int .i64 x.at_.1, .int .i64 x.at_.2, .int .i64 x.key, .int .i64 x.to_, .int .i64 x.value] 30)).alloc (.cells #[.int .i64 a.code, .int .i64 a.why, .slice aq a.items.length cq] 66)) := below2r
 have hX : ((w.alloc (.cells #[.int .i64 x.who.1, .int .i64 x.who.2.1, .int .i64 x.who.2.2, .int .i64 x.op, .int .i64 x.at_.1, .int .i64 x.at_.2, .int .i64 x.key, .int .i64 x.to_, .int .i64 x.value] 30)).alloc (.cells #[.int .i64 a.code, .int .i64 a.why, .slice aq a.items.length cq] 66)).heap[w.heap.size]? = some (.cells (stepC x).toArray 30 (0, 0)) := by
  rw [Below.heap_alloc _ _ _ (by simp)]; exact heap_alloc_new w _
 have hY : ((w.alloc (.cells #[.int .i64 x.who.1, .int .i64 x.who.2.1, .int .i64 x.who.2.2, .int .i64 x.op, .int .i64 x.at_.1, .int .i64 x.at_.2, .int .i64 x.key, .int .i64 x.to_, .int .i64 x.value] 30)).alloc (.cells #[.int .i64 a.code, .int .i64 a.why, .slice aq a.items.length cq] 66)).heap[w.heap.size + 1]? = some (.cells #[.int .i64 a.code, .int .i64 a.why, .slice aq a.items.length cq] 66 (0, 0)) := by
  have := heap_alloc_new (w.alloc (.cells #[.int .i64 x.who.1, .int .i64 x.who.2.1, .int .i64 x.who.2.2, .int .i64 x.op, .int .i64 x.at_.1, .int .i64 x.at_.2, .int .i64 x.key, .int .i64 x.to_, .int .i64 x.value] 30)) (.cells #[.int .i64 a.code, .int .i64 a.why, .slice aq a.items.length cq] 66 (0, 0))
  simpa using this
 have hpr := properK_any x
 rw [hp] at hpr
 unfold stepV at hpr
 clear m hpl hrowa hva hlen hgood
 go_enter Try.func34, Try.ntmps34
 go_wp2_with fail
 refine (hpr _).mono ?_
 rintro e w1 ⟨rfl, hb1⟩
 have hB1 : Below w.heap.size w w1 := hA.trans (hb1.mono hA.size)
 have hX1 : w1.heap[w.heap.size]? = _ := (hb1.block w.heap.size (by simp; omega)).trans hX
 have hY1 : w1.heap[w.heap.size + 1]? = _ := (hb1.block (w.heap.size + 1) (by simp)).trans hY
 have HX1 : Hid (type_of% hX1) := hX1
 have HY1 : Hid (type_of% hY1) := hY1
 have HB1 : Hid (Below w.heap.size w w1) := hB1
 have M1 : Hid (BkMem w1 b hs vals own) := HM.out.below hB1
 obtain ⟨d0, d1, d2, _, _, _⟩ := ans_cells hY1
 obtain ⟨c0, c1, c2, c3, c4, c5, c6, c7, c8, _⟩ := step9_cells hX1
 have zx : w.heap.size < w1.heap.size := (Array.getElem?_eq_some_iff.1 hX1).1
 have zy : w.heap.size + 1 < w1.heap.size := (Array.getElem?_eq_some_iff.1 hY1).1
 have zb : b < w1.heap.size := by omega
 clear hA hX hY hb1 hB1 hX1 hY1 hpr
 obtain ⟨k, hk, hsz⟩ := properB_sess hp
 have hses := session_any x.who
 rw [hsz] at hses
 have hkt : (sessZ' x.who).toNat = k := by rw [hsz]; simp
 have zk : (k : Int) < 128 := by omega
 go_upto_region 4 with fail
 have kc0 := kin_cell c0
 have kc1 := kin_cell c1
 have kc2 := kin_cell c2
 have hki := kin_some w1
 refine wp_region_kin (by kernel_rfl) (by kernel_rfl) ?_
 repeat (first | go_big_quiet_step ((go_at_call 37; exact Calls.kin (hses _))) | quiet_step ((go_at_call 37; exact Calls.kin (hses _))))
 refine wpQuiet_nil ?_
 intro _ hw'
 obtain ⟨xq, hw''⟩ := hw'
 subst hw''
 have HBq : Hid (Below w1.heap.size w1 xq.w) := xq.h
 generalize xq.w = wq at *
 have hC0 : ChgD own w wq own := ChgD.of_below (HB1.out.trans (HBq.out.mono HB1.out.size))
 have HC0 : Hid (ChgD own w wq own) := hC0
 have Mq : Hid (BkMem wq b hs vals own) := M1.out.below HBq.out
 have e0 := cell_later HBq.out d0
 have e1 := cell_later HBq.out d1
 have e2 := cell_later HBq.out d2
 have f3 := cell_later HBq.out c3
 have HXq : Hid (wq.heap[w.heap.size]? = _) := (HBq.out.block w.heap.size zx).trans HX1.out
 have HYq : Hid (wq.heap[w.heap.size + 1]? = _) := (HBq.out.block (w.heap.size + 1) zy).trans HY1.out
 have zxq : w.heap.size < wq.heap.size := by have := HBq.out.size; omega
 have zyq : w.heap.size + 1 < wq.heap.size := by have := HBq.out.size; omega
 have zbq : b < wq.heap.size := by have := HBq.out.size; omega
 have HPS : Hid ((hs k).pl = ps k) := HPL.out k hk
 have hth := Mq.out.there (o := k * 12) (n := 12) (by omega)
 have HTH : Hid (type_of% hth) := hth
 have hbx : b ≠ w.heap.size := by omega
 have hby : b ≠ w.heap.size + 1 := by omega
 have HTP : Hid (tellP ps vals x a = (
  if a.code = 2 then (decide (a.why = 1) || decide (a.why = 2), updP ps k pd0, vals)
  else if a.why ≠ 0 then (false, ps, vals)
  else if x.op = 1 ∧ a.code = 0 then (true, updP ps k { pd0 with live := true }, vals)
  else if x.op = 7 ∧ a.code = 0 then (true, updP ps k pd0, vals)
  else if x.op = 6 ∧ a.code = 0 then ((replayP vals (ps k).done).1, updP ps k pd0, (replayP vals (ps k).done).2)
  else if x.op = 8 ∧ (ps k).open_ = true ∧ a.code ≠ 1 then ((noteP (updP ps k { ps k with open_ := false }) k (ps k).x a).1, (noteP (updP ps k { ps k with open_ := false }) k (ps k).x a).2, vals)
  else if (2 ≤ x.op ∧ x.op ≤ 5) ∧ a.code = 1 then (true, updP ps k { ps k with open_ := true, x := x }, vals)
  else if 2 ≤ x.op ∧ x.op ≤ 5 then ((noteP ps k x a).1, (noteP ps k x a).2, vals)
  else (true, ps, vals))) := by
  unfold Hid tellP
  rw [if_neg (by rw [hp]; simp)]
  simp only [hkt]
 have hpo := (proper_of hp).op
 clear hth kc0 kc1 kc2 hki c0 c1 c2 c3 c4 c5 c6 c7 c8 d0 d1 d2 hses hC0 xq
 have hc2 := Khc2.out
 have hw0 := Khw0.out
 have ho1 := Kho1.out
 have hc1 := Khc1.out
 have ho2 := Kho2.out
 have hc2b : (a.code == 2) = false := by simpa using hc2
 rw [hw0] at e1
 have b1 : (x.op == 1) = false := by simp; omega
 have b7 : (x.op == 7) = false := by simp; omega
 have b6 : (x.op == 6) = false := by simp; omega
 have b8 : (x.op == 8) = false := by simp; omega
 have g0 := (step9_cells HXq.out).1
 have g1 := (step9_cells HXq.out).2.1
 have g2 := (step9_cells HXq.out).2.2.1
 have g3 := (step9_cells HXq.out).2.2.2.1
 have g4 := (step9_cells HXq.out).2.2.2.2.1
 have g5 := (step9_cells HXq.out).2.2.2.2.2.1
 have g6 := (step9_cells HXq.out).2.2.2.2.2.2.1
 have g7 := (step9_cells HXq.out).2.2.2.2.2.2.2.1
 have g8 := (step9_cells HXq.out).2.2.2.2.2.2.2.2.1
 have hc1b : (a.code == 1) = false := by simpa using hc1
 have hra : wq.ownsRow 0 94 2 (.slice aq a.items.length cq) a.items.length (itemsV a.items) := ownsRow_frame HRA.out (fun q hq => by
  have hl := HM.out.old q (by rw [HVA.out q hq]; simp)
  exact (HB1.out.trans (HBq.out.mono HB1.out.size)).block q hl)
 have HT : Hid (tellP ps vals x a = ((noteP ps k x a).1, (noteP ps k x a).2, vals)) := by unfold Hid; rw [HTP.out, if_neg hc2, if_neg (by simp [hw0]), if_neg (by omega), if_neg (by omega), if_neg (by omega), if_neg (by omega), if_neg (fun e => hc1 e.2), if_pos ⟨ho1, ho2⟩]
 by_cases hc0 : a.code = 0
 ·have hnt := note_doneW b k hs vals own x a aq cq wq Mq.out hk hc0 hra HVA.out (by
   have := HLN.out k hk
   rw [← HPL.out k hk] at this
   simpa [Hd.pl] using this)
  rw [hw0, hc0] at hnt
  rw [hc0] at e0
  have HN : Hid (type_of% hnt) := hnt
  have HCZ : Hid (a.code = 0) := hc0
  clear hc2 hc2b hc1 hnt hra hc0
  go_wp2_with fail
  refine HN.out.mono ?_
  rintro e w5 ⟨rfl, hP⟩
  obtain ⟨hf1, hf2⟩ := noted_out (own0 := own) HPL.out hk HCZ.out HC0.out hP rfl
  have HF : Hid (BkOut own w b (noteP ps k x a).2 vals w5) := hf1
  have HV : Hid ((noteP ps k x a).1 = (hs k).live) := hf2
  clear hf1 hf2 hP
  go_wp2
  go_ret
  unfold ToldPost
  rw [HT.out]
  exact ⟨by rw [HV.out]; rfl, HF.out⟩
 ·have hnt := note_else b k x a aq cq wq hc0
  rw [hw0] at hnt
  have HN : Hid (type_of% hnt) := hnt
  rw [noteP_else hc0] at HT
  clear hc2 hc1 hnt hra hc0
  go_wp2_with fail
  refine HN.out.mono ?_
  rintro e w5 ⟨rfl, hb5⟩
  have HF : Hid (BkOut own w b ps vals w5) := ⟨own, ⟨hs, Mq.out.below hb5, HPL.out⟩, HC0.out.trans (ChgD.of_below hb5), fun _ _ h => h⟩
  clear hb5
  go_wp2
  go_ret
  unfold ToldPost
  rw [HT.out]
  exact ⟨rfl, HF.out⟩
end Go.Proofs.Ytpbcplfpjcacfaa
