import Derived.Test.YtpbcplfpjcacfaaKBarred04
namespace Go.Proofs.Ytpbcplfpjcacfaa
open Go.RowKit
attribute [local go_sem ↓] Go.wp_at_zero Go.wp_at_succ
set_option maxRecDepth 100000
set_option maxHeartbeats 8000000
theorem sizeHand : (Try.prog.info? 80).map (·.size) = some 12 := by kernel_rfl
theorem properB_sess {x : Stp} (h : properB x = true) : ∃ k : Nat, k < 128 ∧ sessZ' x.who = (k : Int) := by
 have hp := proper_of h
 have h1 : labB x.who.1 x.who.2.1 = true ∧ 0 ≤ x.who.2.2 ∧ x.who.2.2 < 4 := ⟨labB_mk hp.who.1, hp.who.2.1, by have := hp.who.2.2; omega⟩
 obtain ⟨a, b⟩ := sessZ_pos h1
 exact ⟨(sessZ' x.who).toNat, by omega, by omega⟩
structure TellIn (w : World) (b : Nat) (ps : Nat → Pd) (vals : Nat → Int) (own : Own) (a : Ans) (aq : Option Addr) (cq : Nat) : Prop where
 at_ : BkAt w b ps vals own
 row : w.ownsRow 0 94 2 (.slice aq a.items.length cq) a.items.length (itemsV a.items)
 tag : ∀ q, (Value.slice aq a.items.length cq).ownBlock = some q → own q = some (9, 0, 0, 0)
 len : ∀ k, k < 128 → (ps k).done.length < 2000000000000
 good : ∀ k, k < 128 → ∀ e ∈ (ps k).done, ∃ p kn hn, Good0 e.1 p kn hn
def ToldPost (own : Own) (w : World) (b : Nat) (ps : Nat → Pd) (vals : Nat → Int) (x : Stp) (a : Ans) (e : Ending) (w' : World) : Prop := e = .returned (.bool (tellP ps vals x a).1) ∧ BkOut own w b (tellP ps vals x a).2.1 (tellP ps vals x a).2.2 w'
theorem told_bad (b : Nat) (ps : Nat → Pd) (vals : Nat → Int) (own : Own) (x : Stp) (a : Ans) (aq : Option Addr) (cq : Nat) (w : World) (TI : TellIn w b ps vals own a aq cq) (hp : properB x = false) :
  Calls Try.prog 34 #[.pointer (some ⟨b, 0, none⟩), .agg #[.int .i64 x.who.1, .int .i64 x.who.2.1, .int .i64 x.who.2.2, .int .i64 x.op, .int .i64 x.at_.1, .int .i64 x.at_.2, .int .i64 x.key, .int .i64 x.to_, .int .i64 x.value], .agg #[.int .i64 a.code, .int .i64 a.why, .slice aq a.items.length cq]] w (ToldPost own w b ps vals x a) := by
 obtain ⟨⟨hs, m, hpl⟩, hrowa, hva, hlen, hgood⟩ := TI
 have HM : Hid (BkMem w b hs vals own) := m
 have HPL : Hid (∀ k, k < 128 → (hs k).pl = ps k) := hpl
 have HRA : Hid (type_of% hrowa) := hrowa
 have HVA : Hid (type_of% hva) := hva
 have HLN : Hid (type_of% hlen) := hlen
 have HGD : Hid (type_of% hgood) := hgood
 have hbl := m.old b (by rw [m.tag]; simp)
 have hA : Below w.heap.size w ((w.alloc (.cells #[.int .i64 x.who.1, .int .i64 x.who.2.1, .int .i64 x.who.2.2, .int .i64 x.op, .int .i64 x.at_.1, .int .i64 x.at_.2, .int .i64 x.key, .int .i64 x.to_, .int .i64 x.value] 30)).alloc (.cells #[.int .i64 a.code, .int .i64 a.why, .slice aq a.items.length cq] 66)) := below2r
 have hX : ((w.alloc (.cells #[.int .i64 x.who.1, .int .i64 x.who.2.1, .int .i64 x.who.2.2, .int .i64 x.op, .int .i64 x.at_.1, .int .i64 x.at_.2, .int .i64 x.key, .int .i64 x.to_, .int .i64 x.value] 30)).alloc (.cells #[.int .i64 a.code, .int .i64 a.why, .slice aq a.items.length cq] 66)).heap[w.heap.size]? = some (.cells (stepC x).toArray 30 (0, 0)) := by
  rw [Below.heap_alloc _ _ _ (by simp)]; exact heap_alloc_new w _
 have hY : ((w.alloc (.cells #[.int .i64 x.who.1, .int .i64 x.who.2.1, .int .i64 x.who.2.2, .int .i64 x.op, .int .i64 x.at_.1, .int .i64 x.at_.2, .int .i64 x.key, .int .i64 x.to_, .int .i64 x.value] 30)).alloc (.cells #[.int .i64 a.code, .int .i64 a.why, .slice aq a.items.length cq] 66)).heap[w.heap.size + 1]? = some (.cells #[.int .i64 a.code, .int .i64 a.why, .slice aq a.items.length cq] 66 (0, 0)) := by
  have := heap_alloc_new (w.alloc (.cells #[.int .i64 x.who.1, .int .i64 x.who.2.1, .int .i64 x.who.2.2, .int .i64 x.op, .int .i64 x.at_.1, .int .i64 x.at_.2, .int .i64 x.key, .int .i64 x.to_, .int .i64 x.value] 30)) (.cells #[.int .i64 a.code, .int .i64 a.why, .slice aq a.items.length cq] 66 (0, 0))
  simpa using this
 have hpr := properK_any x
 rw [hp] at hpr
 unfold stepV at hpr
 clear m hpl hrowa hva hlen hgood
 go_enter Try.func34, Try.ntmps34
 go_wp2_with fail
 refine (hpr _).mono ?_
 rintro e w1 ⟨rfl, hb1⟩
 have hB1 : Below w.heap.size w w1 := hA.trans (hb1.mono hA.size)
 have hX1 : w1.heap[w.heap.size]? = _ := (hb1.block w.heap.size (by simp; omega)).trans hX
 have hY1 : w1.heap[w.heap.size + 1]? = _ := (hb1.block (w.heap.size + 1) (by simp)).trans hY
 have HX1 : Hid (type_of% hX1) := hX1
 have HY1 : Hid (type_of% hY1) := hY1
 have HB1 : Hid (Below w.heap.size w w1) := hB1
 have M1 : Hid (BkMem w1 b hs vals own) := HM.out.below hB1
 obtain ⟨d0, d1, d2, _, _, _⟩ := ans_cells hY1
 obtain ⟨c0, c1, c2, c3, c4, c5, c6, c7, c8, _⟩ := step9_cells hX1
 have zx : w.heap.size < w1.heap.size := (Array.getElem?_eq_some_iff.1 hX1).1
 have zy : w.heap.size + 1 < w1.heap.size := (Array.getElem?_eq_some_iff.1 hY1).1
 have zb : b < w1.heap.size := by omega
 clear hA hX hY hb1 hB1 hX1 hY1 hpr
 have HT : Hid (tellP ps vals x a = (((a.code == 9) && ((a.items.length : Int) == 0)), ps, vals)) := by unfold Hid tellP; rw [if_pos hp]; rfl
 have HF : Hid (BkOut own w b ps vals w1) := ⟨own, ⟨hs, M1.out, HPL.out⟩, ChgD.of_below HB1.out, fun _ _ h => h⟩
 cases h9 : (a.code == 9) with
 | false =>
  rw [h9] at HT
  go_wp2
  go_ret
  unfold ToldPost
  rw [HT.out]
  exact ⟨rfl, HF.out⟩
 | true =>
  rw [h9] at HT
  cases h0 : ((a.items.length : Int) == 0) with
  | false =>
   rw [h0] at HT
   go_wp2
   go_ret
   unfold ToldPost
   rw [HT.out]
   exact ⟨rfl, HF.out⟩
  | true =>
   rw [h0] at HT
   go_wp2
   go_ret
   unfold ToldPost
   rw [HT.out]
   exact ⟨rfl, HF.out⟩
theorem told_aborted (b : Nat) (ps : Nat → Pd) (vals : Nat → Int) (own : Own) (x : Stp) (a : Ans) (aq : Option Addr) (cq : Nat) (w : World) (TI : TellIn w b ps vals own a aq cq) (hp : properB x = true) (hc2 : a.code = 2) :
  Calls Try.prog 34 #[.pointer (some ⟨b, 0, none⟩), .agg #[.int .i64 x.who.1, .int .i64 x.who.2.1, .int .i64 x.who.2.2, .int .i64 x.op, .int .i64 x.at_.1, .int .i64 x.at_.2, .int .i64 x.key, .int .i64 x.to_, .int .i64 x.value], .agg #[.int .i64 a.code, .int .i64 a.why, .slice aq a.items.length cq]] w (ToldPost own w b ps vals x a) := by
 have Khc2 : Hid (a.code = 2) := hc2
 clear hc2
 obtain ⟨⟨hs, m, hpl⟩, hrowa, hva, hlen, hgood⟩ := TI
 have HM : Hid (BkMem w b hs vals own) := m
 have HPL : Hid (∀ k, k < 128 → (hs k).pl = ps k) := hpl
 have HRA : Hid (type_of% hrowa) := hrowa
 have HVA : Hid (type_of% hva) := hva
 have HLN : Hid (type_of% hlen) := hlen
 have HGD : Hid (type_of% hgood) := hgood
 have hbl := m.old b (by rw [m.tag]; simp)
 have hA : Below w.heap.size w ((w.alloc (.cells #[.int .i64 x.who.1, .int .i64 x.who.2.1, .int .i64 x.who.2.2, .int .i64 x.op, .int .i64 x.at_.1, .int .i64 x.at_.2, .int .i64 x.key, .int .i64 x.to_, .int .i64 x.value] 30)).alloc (.cells #[.int .i64 a.code, .int .i64 a.why, .slice aq a.items.length cq] 66)) := below2r
 have hX : ((w.alloc (.cells #[.int .i64 x.who.1, .int .i64 x.who.2.1, .int .i64 x.who.2.2, .int .i64 x.op, .int .i64 x.at_.1, .int .i64 x.at_.2, .int .i64 x.key, .int .i64 x.to_, .int .i64 x.value] 30)).alloc (.cells #[.int .i64 a.code, .int .i64 a.why, .slice aq a.items.length cq] 66)).heap[w.heap.size]? = some (.cells (stepC x).toArray 30 (0, 0)) := by
  rw [Below.heap_alloc _ _ _ (by simp)]; exact heap_alloc_new w _
 have hY : ((w.alloc (.cells #[.int .i64 x.who.1, .int .i64 x.who.2.1, .int .i64 x.who.2.2, .int .i64 x.op, .int .i64 x.at_.1, .int .i64 x.at_.2, .int .i64 x.key, .int .i64 x.to_, .int .i64 x.value] 30)).alloc (.cells #[.int .i64 a.code, .int .i64 a.why, .slice aq a.items.length cq] 66)).heap[w.heap.size + 1]? = some (.cells #[.int .i64 a.code, .int .i64 a.why, .slice aq a.items.length cq] 66 (0, 0)) := by
  have := heap_alloc_new (w.alloc (.cells #[.int .i64 x.who.1, .int .i64 x.who.2.1, .int .i64 x.who.2.2, .int .i64 x.op, .int .i64 x.at_.1, .int .i64 x.at_.2, .int .i64 x.key, .int .i64 x.to_, .int .i64 x.value] 30)) (.cells #[.int .i64 a.code, .int .i64 a.why, .slice aq a.items.length cq] 66 (0, 0))
  simpa using this
 have hpr := properK_any x
 rw [hp] at hpr
 unfold stepV at hpr
 clear m hpl hrowa hva hlen hgood
 go_enter Try.func34, Try.ntmps34
 go_wp2_with fail
 refine (hpr _).mono ?_
 rintro e w1 ⟨rfl, hb1⟩
 have hB1 : Below w.heap.size w w1 := hA.trans (hb1.mono hA.size)
 have hX1 : w1.heap[w.heap.size]? = _ := (hb1.block w.heap.size (by simp; omega)).trans hX
 have hY1 : w1.heap[w.heap.size + 1]? = _ := (hb1.block (w.heap.size + 1) (by simp)).trans hY
 have HX1 : Hid (type_of% hX1) := hX1
 have HY1 : Hid (type_of% hY1) := hY1
 have HB1 : Hid (Below w.heap.size w w1) := hB1
 have M1 : Hid (BkMem w1 b hs vals own) := HM.out.below hB1
 obtain ⟨d0, d1, d2, _, _, _⟩ := ans_cells hY1
 obtain ⟨c0, c1, c2, c3, c4, c5, c6, c7, c8, _⟩ := step9_cells hX1
 have zx : w.heap.size < w1.heap.size := (Array.getElem?_eq_some_iff.1 hX1).1
 have zy : w.heap.size + 1 < w1.heap.size := (Array.getElem?_eq_some_iff.1 hY1).1
 have zb : b < w1.heap.size := by omega
 clear hA hX hY hb1 hB1 hX1 hY1 hpr
 obtain ⟨k, hk, hsz⟩ := properB_sess hp
 have hses := session_any x.who
 rw [hsz] at hses
 have hkt : (sessZ' x.who).toNat = k := by rw [hsz]; simp
 have zk : (k : Int) < 128 := by omega
 go_upto_region 4 with fail
 have kc0 := kin_cell c0
 have kc1 := kin_cell c1
 have kc2 := kin_cell c2
 have hki := kin_some w1
 refine wp_region_kin (by kernel_rfl) (by kernel_rfl) ?_
 repeat (first | go_big_quiet_step ((go_at_call 37; exact Calls.kin (hses _))) | quiet_step ((go_at_call 37; exact Calls.kin (hses _))))
 refine wpQuiet_nil ?_
 intro _ hw'
 obtain ⟨xq, hw''⟩ := hw'
 subst hw''
 have HBq : Hid (Below w1.heap.size w1 xq.w) := xq.h
 generalize xq.w = wq at *
 have hC0 : ChgD own w wq own := ChgD.of_below (HB1.out.trans (HBq.out.mono HB1.out.size))
 have HC0 : Hid (ChgD own w wq own) := hC0
 have Mq : Hid (BkMem wq b hs vals own) := M1.out.below HBq.out
 have e0 := cell_later HBq.out d0
 have e1 := cell_later HBq.out d1
 have e2 := cell_later HBq.out d2
 have f3 := cell_later HBq.out c3
 have HXq : Hid (wq.heap[w.heap.size]? = _) := (HBq.out.block w.heap.size zx).trans HX1.out
 have HYq : Hid (wq.heap[w.heap.size + 1]? = _) := (HBq.out.block (w.heap.size + 1) zy).trans HY1.out
 have zxq : w.heap.size < wq.heap.size := by have := HBq.out.size; omega
 have zyq : w.heap.size + 1 < wq.heap.size := by have := HBq.out.size; omega
 have zbq : b < wq.heap.size := by have := HBq.out.size; omega
 have HPS : Hid ((hs k).pl = ps k) := HPL.out k hk
 have hth := Mq.out.there (o := k * 12) (n := 12) (by omega)
 have HTH : Hid (type_of% hth) := hth
 have hbx : b ≠ w.heap.size := by omega
 have hby : b ≠ w.heap.size + 1 := by omega
 have HTP : Hid (tellP ps vals x a = (
  if a.code = 2 then (decide (a.why = 1) || decide (a.why = 2), updP ps k pd0, vals)
  else if a.why ≠ 0 then (false, ps, vals)
  else if x.op = 1 ∧ a.code = 0 then (true, updP ps k { pd0 with live := true }, vals)
  else if x.op = 7 ∧ a.code = 0 then (true, updP ps k pd0, vals)
  else if x.op = 6 ∧ a.code = 0 then ((replayP vals (ps k).done).1, updP ps k pd0, (replayP vals (ps k).done).2)
  else if x.op = 8 ∧ (ps k).open_ = true ∧ a.code ≠ 1 then ((noteP (updP ps k { ps k with open_ := false }) k (ps k).x a).1, (noteP (updP ps k { ps k with open_ := false }) k (ps k).x a).2, vals)
  else if (2 ≤ x.op ∧ x.op ≤ 5) ∧ a.code = 1 then (true, updP ps k { ps k with open_ := true, x := x }, vals)
  else if 2 ≤ x.op ∧ x.op ≤ 5 then ((noteP ps k x a).1, (noteP ps k x a).2, vals)
  else (true, ps, vals))) := by
  unfold Hid tellP
  rw [if_neg (by rw [hp]; simp)]
  simp only [hkt]
 have hpo := (proper_of hp).op
 clear hth kc0 kc1 kc2 hki c0 c1 c2 c3 c4 c5 c6 c7 c8 d0 d1 d2 hses hC0 xq
 have hc2 := Khc2.out
 have HS0 : Hid (∀ h' : Hd, h'.dv = .slice none 0 0 → h'.done = [] → BkOut own w b (updP ps k h'.pl) vals (wq.setCells b (k * 12) (handC h'))) := fun h' g1 g2 => by
  obtain ⟨m1, m2⟩ := Mq.out.setBare hk h' g1 g2
  exact ⟨own, ⟨_, m1, upd_pl HPL.out⟩, HC0.out.trans m2, fun _ _ h => h⟩
 have H0 : Hid ((#[.bool false, .slice none 0 0, .bool false, .int .i64 0, .int .i64 0, .int .i64 0, .int .i64 0, .int .i64 0, .int .i64 0, .int .i64 0, .int .i64 0, .int .i64 0] : Array Value).all (·.oneCell') = true) := all_oneCell_toArray (cs := [.bool false, .slice none 0 0, .bool false, .int .i64 0, .int .i64 0, .int .i64 0, .int .i64 0, .int .i64 0, .int .i64 0, .int .i64 0, .int .i64 0, .int .i64 0]) (by simp [Value.oneCell'])
 have HZ0 : Hid (([.bool false, .slice none 0 0, .bool false, .int .i64 0, .int .i64 0, .int .i64 0, .int .i64 0, .int .i64 0, .int .i64 0, .int .i64 0, .int .i64 0, .int .i64 0] : List Value) = handC hd0) := rfl
 rw [hc2] at e0
 have HF : Hid (BkOut own w b (updP ps k pd0) vals (wq.setCells b (k * 12) (handC hd0))) := HS0.out hd0 rfl rfl
 have e1' : (wq.setCells b (k * 12) (handC hd0)).cell? ⟨w.heap.size + 1, 1, none⟩ = some (.int .i64 a.why) := (World.cell?_setCells_out b (handC hd0) (k * 12) wq ⟨w.heap.size + 1, 1, none⟩ (fun e _ => absurd e.symm hby)).trans e1
 have HT : Hid (tellP ps vals x a = (((a.why == 1) || (a.why == 2)), updP ps k pd0, vals)) := by unfold Hid; rw [HTP.out, if_pos hc2]; rfl
 clear hc2
 cases hw1 : (a.why == 1) with
 | true =>
  rw [hw1] at HT
  go_upto_region 7 with (refine wpList_store_mid rfl 80 _ _ rfl b (k * 12) #[.bool false, .slice none 0 0, .bool false, .int .i64 0, .int .i64 0, .int .i64 0, .int .i64 0, .int .i64 0, .int .i64 0, .int .i64 0, .int .i64 0, .int .i64 0] rfl rfl HTH.out sizeHand H0.out ?_)
  rw [HZ0.out]
  go_wp2
  go_ret
  unfold ToldPost
  rw [HT.out]
  exact ⟨rfl, HF.out⟩
 | false =>
  rw [hw1] at HT
  cases hw2 : (a.why == 2) with
  | true =>
   rw [hw2] at HT
   go_upto_region 7 with (refine wpList_store_mid rfl 80 _ _ rfl b (k * 12) #[.bool false, .slice none 0 0, .bool false, .int .i64 0, .int .i64 0, .int .i64 0, .int .i64 0, .int .i64 0, .int .i64 0, .int .i64 0, .int .i64 0, .int .i64 0] rfl rfl HTH.out sizeHand H0.out ?_)
   rw [HZ0.out]
   go_wp2
   go_ret
   unfold ToldPost
   rw [HT.out]
   exact ⟨rfl, HF.out⟩
  | false =>
   rw [hw2] at HT
   go_upto_region 7 with (refine wpList_store_mid rfl 80 _ _ rfl b (k * 12) #[.bool false, .slice none 0 0, .bool false, .int .i64 0, .int .i64 0, .int .i64 0, .int .i64 0, .int .i64 0, .int .i64 0, .int .i64 0, .int .i64 0, .int .i64 0] rfl rfl HTH.out sizeHand H0.out ?_)
   rw [HZ0.out]
   go_wp2
   go_ret
   unfold ToldPost
   rw [HT.out]
   exact ⟨rfl, HF.out⟩
theorem told_why (b : Nat) (ps : Nat → Pd) (vals : Nat → Int) (own : Own) (x : Stp) (a : Ans) (aq : Option Addr) (cq : Nat) (w : World) (TI : TellIn w b ps vals own a aq cq) (hp : properB x = true) (hc2 : ¬ a.code = 2) (hw0 : ¬ a.why = 0) :
  Calls Try.prog 34 #[.pointer (some ⟨b, 0, none⟩), .agg #[.int .i64 x.who.1, .int .i64 x.who.2.1, .int .i64 x.who.2.2, .int .i64 x.op, .int .i64 x.at_.1, .int .i64 x.at_.2, .int .i64 x.key, .int .i64 x.to_, .int .i64 x.value], .agg #[.int .i64 a.code, .int .i64 a.why, .slice aq a.items.length cq]] w (ToldPost own w b ps vals x a) := by
 have Khc2 : Hid (¬ a.code = 2) := hc2
 have Khw0 : Hid (¬ a.why = 0) := hw0
 clear hc2 hw0
 obtain ⟨⟨hs, m, hpl⟩, hrowa, hva, hlen, hgood⟩ := TI
 have HM : Hid (BkMem w b hs vals own) := m
 have HPL : Hid (∀ k, k < 128 → (hs k).pl = ps k) := hpl
 have HRA : Hid (type_of% hrowa) := hrowa
 have HVA : Hid (type_of% hva) := hva
 have HLN : Hid (type_of% hlen) := hlen
 have HGD : Hid (type_of% hgood) := hgood
 have hbl := m.old b (by rw [m.tag]; simp)
 have hA : Below w.heap.size w ((w.alloc (.cells #[.int .i64 x.who.1, .int .i64 x.who.2.1, .int .i64 x.who.2.2, .int .i64 x.op, .int .i64 x.at_.1, .int .i64 x.at_.2, .int .i64 x.key, .int .i64 x.to_, .int .i64 x.value] 30)).alloc (.cells #[.int .i64 a.code, .int .i64 a.why, .slice aq a.items.length cq] 66)) := below2r
 have hX : ((w.alloc (.cells #[.int .i64 x.who.1, .int .i64 x.who.2.1, .int .i64 x.who.2.2, .int .i64 x.op, .int .i64 x.at_.1, .int .i64 x.at_.2, .int .i64 x.key, .int .i64 x.to_, .int .i64 x.value] 30)).alloc (.cells #[.int .i64 a.code, .int .i64 a.why, .slice aq a.items.length cq] 66)).heap[w.heap.size]? = some (.cells (stepC x).toArray 30 (0, 0)) := by
  rw [Below.heap_alloc _ _ _ (by simp)]; exact heap_alloc_new w _
 have hY : ((w.alloc (.cells #[.int .i64 x.who.1, .int .i64 x.who.2.1, .int .i64 x.who.2.2, .int .i64 x.op, .int .i64 x.at_.1, .int .i64 x.at_.2, .int .i64 x.key, .int .i64 x.to_, .int .i64 x.value] 30)).alloc (.cells #[.int .i64 a.code, .int .i64 a.why, .slice aq a.items.length cq] 66)).heap[w.heap.size + 1]? = some (.cells #[.int .i64 a.code, .int .i64 a.why, .slice aq a.items.length cq] 66 (0, 0)) := by
  have := heap_alloc_new (w.alloc (.cells #[.int .i64 x.who.1, .int .i64 x.who.2.1, .int .i64 x.who.2.2, .int .i64 x.op, .int .i64 x.at_.1, .int .i64 x.at_.2, .int .i64 x.key, .int .i64 x.to_, .int .i64 x.value] 30)) (.cells #[.int .i64 a.code, .int .i64 a.why, .slice aq a.items.length cq] 66 (0, 0))
  simpa using this
 have hpr := properK_any x
 rw [hp] at hpr
 unfold stepV at hpr
 clear m hpl hrowa hva hlen hgood
 go_enter Try.func34, Try.ntmps34
 go_wp2_with fail
 refine (hpr _).mono ?_
 rintro e w1 ⟨rfl, hb1⟩
 have hB1 : Below w.heap.size w w1 := hA.trans (hb1.mono hA.size)
 have hX1 : w1.heap[w.heap.size]? = _ := (hb1.block w.heap.size (by simp; omega)).trans hX
 have hY1 : w1.heap[w.heap.size + 1]? = _ := (hb1.block (w.heap.size + 1) (by simp)).trans hY
 have HX1 : Hid (type_of% hX1) := hX1
 have HY1 : Hid (type_of% hY1) := hY1
 have HB1 : Hid (Below w.heap.size w w1) := hB1
 have M1 : Hid (BkMem w1 b hs vals own) := HM.out.below hB1
 obtain ⟨d0, d1, d2, _, _, _⟩ := ans_cells hY1
 obtain ⟨c0, c1, c2, c3, c4, c5, c6, c7, c8, _⟩ := step9_cells hX1
 have zx : w.heap.size < w1.heap.size := (Array.getElem?_eq_some_iff.1 hX1).1
 have zy : w.heap.size + 1 < w1.heap.size := (Array.getElem?_eq_some_iff.1 hY1).1
 have zb : b < w1.heap.size := by omega
 clear hA hX hY hb1 hB1 hX1 hY1 hpr
 obtain ⟨k, hk, hsz⟩ := properB_sess hp
 have hses := session_any x.who
 rw [hsz] at hses
 have hkt : (sessZ' x.who).toNat = k := by rw [hsz]; simp
 have zk : (k : Int) < 128 := by omega
 go_upto_region 4 with fail
 have kc0 := kin_cell c0
 have kc1 := kin_cell c1
 have kc2 := kin_cell c2
 have hki := kin_some w1
 refine wp_region_kin (by kernel_rfl) (by kernel_rfl) ?_
 repeat (first | go_big_quiet_step ((go_at_call 37; exact Calls.kin (hses _))) | quiet_step ((go_at_call 37; exact Calls.kin (hses _))))
 refine wpQuiet_nil ?_
 intro _ hw'
 obtain ⟨xq, hw''⟩ := hw'
 subst hw''
 have HBq : Hid (Below w1.heap.size w1 xq.w) := xq.h
 generalize xq.w = wq at *
 have hC0 : ChgD own w wq own := ChgD.of_below (HB1.out.trans (HBq.out.mono HB1.out.size))
 have HC0 : Hid (ChgD own w wq own) := hC0
 have Mq : Hid (BkMem wq b hs vals own) := M1.out.below HBq.out
 have e0 := cell_later HBq.out d0
 have e1 := cell_later HBq.out d1
 have e2 := cell_later HBq.out d2
 have f3 := cell_later HBq.out c3
 have HXq : Hid (wq.heap[w.heap.size]? = _) := (HBq.out.block w.heap.size zx).trans HX1.out
 have HYq : Hid (wq.heap[w.heap.size + 1]? = _) := (HBq.out.block (w.heap.size + 1) zy).trans HY1.out
 have zxq : w.heap.size < wq.heap.size := by have := HBq.out.size; omega
 have zyq : w.heap.size + 1 < wq.heap.size := by have := HBq.out.size; omega
 have zbq : b < wq.heap.size := by have := HBq.out.size; omega
 have HPS : Hid ((hs k).pl = ps k) := HPL.out k hk
 have hth := Mq.out.there (o := k * 12) (n := 12) (by omega)
 have HTH : Hid (type_of% hth) := hth
 have hbx : b ≠ w.heap.size := by omega
 have hby : b ≠ w.heap.size + 1 := by omega
 have HTP : Hid (tellP ps vals x a = (
  if a.code = 2 then (decide (a.why = 1) || decide (a.why = 2), updP ps k pd0, vals)
  else if a.why ≠ 0 then (false, ps, vals)
  else if x.op = 1 ∧ a.code = 0 then (true, updP ps k { pd0 with live := true }, vals)
  else if x.op = 7 ∧ a.code = 0 then (true, updP ps k pd0, vals)
  else if x.op = 6 ∧ a.code = 0 then ((replayP vals (ps k).done).1, updP ps k pd0, (replayP vals (ps k).done).2)
  else if x.op = 8 ∧ (ps k).open_ = true ∧ a.code ≠ 1 then ((noteP (updP ps k { ps k with open_ := false }) k (ps k).x a).1, (noteP (updP ps k { ps k with open_ := false }) k (ps k).x a).2, vals)
  else if (2 ≤ x.op ∧ x.op ≤ 5) ∧ a.code = 1 then (true, updP ps k { ps k with open_ := true, x := x }, vals)
  else if 2 ≤ x.op ∧ x.op ≤ 5 then ((noteP ps k x a).1, (noteP ps k x a).2, vals)
  else (true, ps, vals))) := by
  unfold Hid tellP
  rw [if_neg (by rw [hp]; simp)]
  simp only [hkt]
 have hpo := (proper_of hp).op
 clear hth kc0 kc1 kc2 hki c0 c1 c2 c3 c4 c5 c6 c7 c8 d0 d1 d2 hses hC0 xq
 have hc2 := Khc2.out
 have hw0 := Khw0.out
 have hc2b : (a.code == 2) = false := by simpa using hc2
 have hwb : (a.why == 0) = false := by simpa using hw0
 have HT : Hid (tellP ps vals x a = (false, ps, vals)) := by unfold Hid; rw [HTP.out, if_neg hc2, if_pos hw0]
 have HF : Hid (BkOut own w b ps vals wq) := ⟨own, ⟨hs, Mq.out, HPL.out⟩, HC0.out, fun _ _ h => h⟩
 clear hc2 hw0
 go_wp2
 go_ret
 unfold ToldPost
 rw [HT.out]
 exact ⟨rfl, HF.out⟩
theorem told_begin (b : Nat) (ps : Nat → Pd) (vals : Nat → Int) (own : Own) (x : Stp) (a : Ans) (aq : Option Addr) (cq : Nat) (w : World) (TI : TellIn w b ps vals own a aq cq) (hp : properB x = true) (hc2 : ¬ a.code = 2) (hw0 : a.why = 0) (hop : x.op = 1) :
  Calls Try.prog 34 #[.pointer (some ⟨b, 0, none⟩), .agg #[.int .i64 x.who.1, .int .i64 x.who.2.1, .int .i64 x.who.2.2, .int .i64 x.op, .int .i64 x.at_.1, .int .i64 x.at_.2, .int .i64 x.key, .int .i64 x.to_, .int .i64 x.value], .agg #[.int .i64 a.code, .int .i64 a.why, .slice aq a.items.length cq]] w (ToldPost own w b ps vals x a) := by
 have Khc2 : Hid (¬ a.code = 2) := hc2
 have Khw0 : Hid (a.why = 0) := hw0
 have Khop : Hid (x.op = 1) := hop
 clear hc2 hw0 hop
 obtain ⟨⟨hs, m, hpl⟩, hrowa, hva, hlen, hgood⟩ := TI
 have HM : Hid (BkMem w b hs vals own) := m
 have HPL : Hid (∀ k, k < 128 → (hs k).pl = ps k) := hpl
 have HRA : Hid (type_of% hrowa) := hrowa
 have HVA : Hid (type_of% hva) := hva
 have HLN : Hid (type_of% hlen) := hlen
 have HGD : Hid (type_of% hgood) := hgood
 have hbl := m.old b (by rw [m.tag]; simp)
 have hA : Below w.heap.size w ((w.alloc (.cells #[.int .i64 x.who.1, .int .i64 x.who.2.1, .int .i64 x.who.2.2, .int .i64 x.op, .int .i64 x.at_.1, .int .i64 x.at_.2, .int .i64 x.key, .int .i64 x.to_, .int .i64 x.value] 30)).alloc (.cells #[.int .i64 a.code, .int .i64 a.why, .slice aq a.items.length cq] 66)) := below2r
 have hX : ((w.alloc (.cells #[.int .i64 x.who.1, .int .i64 x.who.2.1, .int .i64 x.who.2.2, .int .i64 x.op, .int .i64 x.at_.1, .int .i64 x.at_.2, .int .i64 x.key, .int .i64 x.to_, .int .i64 x.value] 30)).alloc (.cells #[.int .i64 a.code, .int .i64 a.why, .slice aq a.items.length cq] 66)).heap[w.heap.size]? = some (.cells (stepC x).toArray 30 (0, 0)) := by
  rw [Below.heap_alloc _ _ _ (by simp)]; exact heap_alloc_new w _
 have hY : ((w.alloc (.cells #[.int .i64 x.who.1, .int .i64 x.who.2.1, .int .i64 x.who.2.2, .int .i64 x.op, .int .i64 x.at_.1, .int .i64 x.at_.2, .int .i64 x.key, .int .i64 x.to_, .int .i64 x.value] 30)).alloc (.cells #[.int .i64 a.code, .int .i64 a.why, .slice aq a.items.length cq] 66)).heap[w.heap.size + 1]? = some (.cells #[.int .i64 a.code, .int .i64 a.why, .slice aq a.items.length cq] 66 (0, 0)) := by
  have := heap_alloc_new (w.alloc (.cells #[.int .i64 x.who.1, .int .i64 x.who.2.1, .int .i64 x.who.2.2, .int .i64 x.op, .int .i64 x.at_.1, .int .i64 x.at_.2, .int .i64 x.key, .int .i64 x.to_, .int .i64 x.value] 30)) (.cells #[.int .i64 a.code, .int .i64 a.why, .slice aq a.items.length cq] 66 (0, 0))
  simpa using this
 have hpr := properK_any x
 rw [hp] at hpr
 unfold stepV at hpr
 clear m hpl hrowa hva hlen hgood
 go_enter Try.func34, Try.ntmps34
 go_wp2_with fail
 refine (hpr _).mono ?_
 rintro e w1 ⟨rfl, hb1⟩
 have hB1 : Below w.heap.size w w1 := hA.trans (hb1.mono hA.size)
 have hX1 : w1.heap[w.heap.size]? = _ := (hb1.block w.heap.size (by simp; omega)).trans hX
 have hY1 : w1.heap[w.heap.size + 1]? = _ := (hb1.block (w.heap.size + 1) (by simp)).trans hY
 have HX1 : Hid (type_of% hX1) := hX1
 have HY1 : Hid (type_of% hY1) := hY1
 have HB1 : Hid (Below w.heap.size w w1) := hB1
 have M1 : Hid (BkMem w1 b hs vals own) := HM.out.below hB1
 obtain ⟨d0, d1, d2, _, _, _⟩ := ans_cells hY1
 obtain ⟨c0, c1, c2, c3, c4, c5, c6, c7, c8, _⟩ := step9_cells hX1
 have zx : w.heap.size < w1.heap.size := (Array.getElem?_eq_some_iff.1 hX1).1
 have zy : w.heap.size + 1 < w1.heap.size := (Array.getElem?_eq_some_iff.1 hY1).1
 have zb : b < w1.heap.size := by omega
 clear hA hX hY hb1 hB1 hX1 hY1 hpr
 obtain ⟨k, hk, hsz⟩ := properB_sess hp
 have hses := session_any x.who
 rw [hsz] at hses
 have hkt : (sessZ' x.who).toNat = k := by rw [hsz]; simp
 have zk : (k : Int) < 128 := by omega
 go_upto_region 4 with fail
 have kc0 := kin_cell c0
 have kc1 := kin_cell c1
 have kc2 := kin_cell c2
 have hki := kin_some w1
 refine wp_region_kin (by kernel_rfl) (by kernel_rfl) ?_
 repeat (first | go_big_quiet_step ((go_at_call 37; exact Calls.kin (hses _))) | quiet_step ((go_at_call 37; exact Calls.kin (hses _))))
 refine wpQuiet_nil ?_
 intro _ hw'
 obtain ⟨xq, hw''⟩ := hw'
 subst hw''
 have HBq : Hid (Below w1.heap.size w1 xq.w) := xq.h
 generalize xq.w = wq at *
 have hC0 : ChgD own w wq own := ChgD.of_below (HB1.out.trans (HBq.out.mono HB1.out.size))
 have HC0 : Hid (ChgD own w wq own) := hC0
 have Mq : Hid (BkMem wq b hs vals own) := M1.out.below HBq.out
 have e0 := cell_later HBq.out d0
 have e1 := cell_later HBq.out d1
 have e2 := cell_later HBq.out d2
 have f3 := cell_later HBq.out c3
 have HXq : Hid (wq.heap[w.heap.size]? = _) := (HBq.out.block w.heap.size zx).trans HX1.out
 have HYq : Hid (wq.heap[w.heap.size + 1]? = _) := (HBq.out.block (w.heap.size + 1) zy).trans HY1.out
 have zxq : w.heap.size < wq.heap.size := by have := HBq.out.size; omega
 have zyq : w.heap.size + 1 < wq.heap.size := by have := HBq.out.size; omega
 have zbq : b < wq.heap.size := by have := HBq.out.size; omega
 have HPS : Hid ((hs k).pl = ps k) := HPL.out k hk
 have hth := Mq.out.there (o := k * 12) (n := 12) (by omega)
 have HTH : Hid (type_of% hth) := hth
 have hbx : b ≠ w.heap.size := by omega
 have hby : b ≠ w.heap.size + 1 := by omega
 have HTP : Hid (tellP ps vals x a = (
  if a.code = 2 then (decide (a.why = 1) || decide (a.why = 2), updP ps k pd0, vals)
  else if a.why ≠ 0 then (false, ps, vals)
  else if x.op = 1 ∧ a.code = 0 then (true, updP ps k { pd0 with live := true }, vals)
  else if x.op = 7 ∧ a.code = 0 then (true, updP ps k pd0, vals)
  else if x.op = 6 ∧ a.code = 0 then ((replayP vals (ps k).done).1, updP ps k pd0, (replayP vals (ps k).done).2)
  else if x.op = 8 ∧ (ps k).open_ = true ∧ a.code ≠ 1 then ((noteP (updP ps k { ps k with open_ := false }) k (ps k).x a).1, (noteP (updP ps k { ps k with open_ := false }) k (ps k).x a).2, vals)
  else if (2 ≤ x.op ∧ x.op ≤ 5) ∧ a.code = 1 then (true, updP ps k { ps k with open_ := true, x := x }, vals)
  else if 2 ≤ x.op ∧ x.op ≤ 5 then ((noteP ps k x a).1, (noteP ps k x a).2, vals)
  else (true, ps, vals))) := by
  unfold Hid tellP
  rw [if_neg (by rw [hp]; simp)]
  simp only [hkt]
 have hpo := (proper_of hp).op
 clear hth kc0 kc1 kc2 hki c0 c1 c2 c3 c4 c5 c6 c7 c8 d0 d1 d2 hses hC0 xq
 have hc2 := Khc2.out
 have hw0 := Khw0.out
 have hop := Khop.out
 have HS0 : Hid (∀ h' : Hd, h'.dv = .slice none 0 0 → h'.done = [] → BkOut own w b (updP ps k h'.pl) vals (wq.setCells b (k * 12) (handC h'))) := fun h' g1 g2 => by
  obtain ⟨m1, m2⟩ := Mq.out.setBare hk h' g1 g2
  exact ⟨own, ⟨_, m1, upd_pl HPL.out⟩, HC0.out.trans m2, fun _ _ h => h⟩
 have H1 : Hid ((#[.bool true, .slice none 0 0, .bool false, .int .i64 0, .int .i64 0, .int .i64 0, .int .i64 0, .int .i64 0, .int .i64 0, .int .i64 0, .int .i64 0, .int .i64 0] : Array Value).all (·.oneCell') = true) := all_oneCell_toArray (cs := [.bool true, .slice none 0 0, .bool false, .int .i64 0, .int .i64 0, .int .i64 0, .int .i64 0, .int .i64 0, .int .i64 0, .int .i64 0, .int .i64 0, .int .i64 0]) (by simp [Value.oneCell'])
 have HZ1 : Hid (([.bool true, .slice none 0 0, .bool false, .int .i64 0, .int .i64 0, .int .i64 0, .int .i64 0, .int .i64 0, .int .i64 0, .int .i64 0, .int .i64 0, .int .i64 0] : List Value) = handC ⟨true, .slice none 0 0, [], false, zeroStp⟩) := rfl
 have hc2b : (a.code == 2) = false := by simpa using hc2
 rw [hw0] at e1
 rw [hop] at f3
 by_cases hc0 : a.code = 0
 ·rw [hc0] at e0
  have HF : Hid (BkOut own w b (updP ps k { pd0 with live := true }) vals (wq.setCells b (k * 12) (handC ⟨true, .slice none 0 0, [], false, zeroStp⟩))) := HS0.out ⟨true, .slice none 0 0, [], false, zeroStp⟩ rfl rfl
  have HT : Hid (tellP ps vals x a = (true, updP ps k { pd0 with live := true }, vals)) := by unfold Hid; rw [HTP.out, if_neg hc2, if_neg (by simp [hw0]), if_pos ⟨hop, hc0⟩]
  clear hc2 hc2b
  go_upto_region 26 with (refine wpList_store_mid rfl 80 _ _ rfl b (k * 12) #[.bool true, .slice none 0 0, .bool false, .int .i64 0, .int .i64 0, .int .i64 0, .int .i64 0, .int .i64 0, .int .i64 0, .int .i64 0, .int .i64 0, .int .i64 0] rfl rfl HTH.out sizeHand H1.out ?_)
  rw [HZ1.out]
  go_wp2
  go_ret
  unfold ToldPost
  rw [HT.out]
  exact ⟨rfl, HF.out⟩
 ·have hc0b : (a.code == 0) = false := by simpa using hc0
  have HT : Hid (tellP ps vals x a = (true, ps, vals)) := by unfold Hid; rw [HTP.out, if_neg hc2, if_neg (by simp [hw0]), if_neg (fun e => hc0 e.2), if_neg (by rw [hop]; simp), if_neg (by rw [hop]; simp), if_neg (by rw [hop]; simp), if_neg (by rw [hop]; simp), if_neg (by rw [hop]; simp)]
  have HF : Hid (BkOut own w b ps vals wq) := ⟨own, ⟨hs, Mq.out, HPL.out⟩, HC0.out, fun _ _ h => h⟩
  clear hc2 hc0
  go_wp2
  go_ret
  unfold ToldPost
  rw [HT.out]
  exact ⟨rfl, HF.out⟩
theorem told_abort (b : Nat) (ps : Nat → Pd) (vals : Nat → Int) (own : Own) (x : Stp) (a : Ans) (aq : Option Addr) (cq : Nat) (w : World) (TI : TellIn w b ps vals own a aq cq) (hp : properB x = true) (hc2 : ¬ a.code = 2) (hw0 : a.why = 0) (hop : x.op = 7) :
  Calls Try.prog 34 #[.pointer (some ⟨b, 0, none⟩), .agg #[.int .i64 x.who.1, .int .i64 x.who.2.1, .int .i64 x.who.2.2, .int .i64 x.op, .int .i64 x.at_.1, .int .i64 x.at_.2, .int .i64 x.key, .int .i64 x.to_, .int .i64 x.value], .agg #[.int .i64 a.code, .int .i64 a.why, .slice aq a.items.length cq]] w (ToldPost own w b ps vals x a) := by
 have Khc2 : Hid (¬ a.code = 2) := hc2
 have Khw0 : Hid (a.why = 0) := hw0
 have Khop : Hid (x.op = 7) := hop
 clear hc2 hw0 hop
 obtain ⟨⟨hs, m, hpl⟩, hrowa, hva, hlen, hgood⟩ := TI
 have HM : Hid (BkMem w b hs vals own) := m
 have HPL : Hid (∀ k, k < 128 → (hs k).pl = ps k) := hpl
 have HRA : Hid (type_of% hrowa) := hrowa
 have HVA : Hid (type_of% hva) := hva
 have HLN : Hid (type_of% hlen) := hlen
 have HGD : Hid (type_of% hgood) := hgood
 have hbl := m.old b (by rw [m.tag]; simp)
 have hA : Below w.heap.size w ((w.alloc (.cells #[.int .i64 x.who.1, .int .i64 x.who.2.1, .int .i64 x.who.2.2, .int .i64 x.op, .int .i64 x.at_.1, .int .i64 x.at_.2, .int .i64 x.key, .int .i64 x.to_, .int .i64 x.value] 30)).alloc (.cells #[.int .i64 a.code, .int .i64 a.why, .slice aq a.items.length cq] 66)) := below2r
 have hX : ((w.alloc (.cells #[.int .i64 x.who.1, .int .i64 x.who.2.1, .int .i64 x.who.2.2, .int .i64 x.op, .int .i64 x.at_.1, .int .i64 x.at_.2, .int .i64 x.key, .int .i64 x.to_, .int .i64 x.value] 30)).alloc (.cells #[.int .i64 a.code, .int .i64 a.why, .slice aq a.items.length cq] 66)).heap[w.heap.size]? = some (.cells (stepC x).toArray 30 (0, 0)) := by
  rw [Below.heap_alloc _ _ _ (by simp)]; exact heap_alloc_new w _
 have hY : ((w.alloc (.cells #[.int .i64 x.who.1, .int .i64 x.who.2.1, .int .i64 x.who.2.2, .int .i64 x.op, .int .i64 x.at_.1, .int .i64 x.at_.2, .int .i64 x.key, .int .i64 x.to_, .int .i64 x.value] 30)).alloc (.cells #[.int .i64 a.code, .int .i64 a.why, .slice aq a.items.length cq] 66)).heap[w.heap.size + 1]? = some (.cells #[.int .i64 a.code, .int .i64 a.why, .slice aq a.items.length cq] 66 (0, 0)) := by
  have := heap_alloc_new (w.alloc (.cells #[.int .i64 x.who.1, .int .i64 x.who.2.1, .int .i64 x.who.2.2, .int .i64 x.op, .int .i64 x.at_.1, .int .i64 x.at_.2, .int .i64 x.key, .int .i64 x.to_, .int .i64 x.value] 30)) (.cells #[.int .i64 a.code, .int .i64 a.why, .slice aq a.items.length cq] 66 (0, 0))
  simpa using this
 have hpr := properK_any x
 rw [hp] at hpr
 unfold stepV at hpr
 clear m hpl hrowa hva hlen hgood
 go_enter Try.func34, Try.ntmps34
 go_wp2_with fail
 refine (hpr _).mono ?_
 rintro e w1 ⟨rfl, hb1⟩
 have hB1 : Below w.heap.size w w1 := hA.trans (hb1.mono hA.size)
 have hX1 : w1.heap[w.heap.size]? = _ := (hb1.block w.heap.size (by simp; omega)).trans hX
 have hY1 : w1.heap[w.heap.size + 1]? = _ := (hb1.block (w.heap.size + 1) (by simp)).trans hY
 have HX1 : Hid (type_of% hX1) := hX1
 have HY1 : Hid (type_of% hY1) := hY1
 have HB1 : Hid (Below w.heap.size w w1) := hB1
 have M1 : Hid (BkMem w1 b hs vals own) := HM.out.below hB1
 obtain ⟨d0, d1, d2, _, _, _⟩ := ans_cells hY1
 obtain ⟨c0, c1, c2, c3, c4, c5, c6, c7, c8, _⟩ := step9_cells hX1
 have zx : w.heap.size < w1.heap.size := (Array.getElem?_eq_some_iff.1 hX1).1
 have zy : w.heap.size + 1 < w1.heap.size := (Array.getElem?_eq_some_iff.1 hY1).1
 have zb : b < w1.heap.size := by omega
 clear hA hX hY hb1 hB1 hX1 hY1 hpr
 obtain ⟨k, hk, hsz⟩ := properB_sess hp
 have hses := session_any x.who
 rw [hsz] at hses
 have hkt : (sessZ' x.who).toNat = k := by rw [hsz]; simp
 have zk : (k : Int) < 128 := by omega
 go_upto_region 4 with fail
 have kc0 := kin_cell c0
 have kc1 := kin_cell c1
 have kc2 := kin_cell c2
 have hki := kin_some w1
 refine wp_region_kin (by kernel_rfl) (by kernel_rfl) ?_
 repeat (first | go_big_quiet_step ((go_at_call 37; exact Calls.kin (hses _))) | quiet_step ((go_at_call 37; exact Calls.kin (hses _))))
 refine wpQuiet_nil ?_
 intro _ hw'
 obtain ⟨xq, hw''⟩ := hw'
 subst hw''
 have HBq : Hid (Below w1.heap.size w1 xq.w) := xq.h
 generalize xq.w = wq at *
 have hC0 : ChgD own w wq own := ChgD.of_below (HB1.out.trans (HBq.out.mono HB1.out.size))
 have HC0 : Hid (ChgD own w wq own) := hC0
 have Mq : Hid (BkMem wq b hs vals own) := M1.out.below HBq.out
 have e0 := cell_later HBq.out d0
 have e1 := cell_later HBq.out d1
 have e2 := cell_later HBq.out d2
 have f3 := cell_later HBq.out c3
 have HXq : Hid (wq.heap[w.heap.size]? = _) := (HBq.out.block w.heap.size zx).trans HX1.out
 have HYq : Hid (wq.heap[w.heap.size + 1]? = _) := (HBq.out.block (w.heap.size + 1) zy).trans HY1.out
 have zxq : w.heap.size < wq.heap.size := by have := HBq.out.size; omega
 have zyq : w.heap.size + 1 < wq.heap.size := by have := HBq.out.size; omega
 have zbq : b < wq.heap.size := by have := HBq.out.size; omega
 have HPS : Hid ((hs k).pl = ps k) := HPL.out k hk
 have hth := Mq.out.there (o := k * 12) (n := 12) (by omega)
 have HTH : Hid (type_of% hth) := hth
 have hbx : b ≠ w.heap.size := by omega
 have hby : b ≠ w.heap.size + 1 := by omega
 have HTP : Hid (tellP ps vals x a = (
  if a.code = 2 then (decide (a.why = 1) || decide (a.why = 2), updP ps k pd0, vals)
  else if a.why ≠ 0 then (false, ps, vals)
  else if x.op = 1 ∧ a.code = 0 then (true, updP ps k { pd0 with live := true }, vals)
  else if x.op = 7 ∧ a.code = 0 then (true, updP ps k pd0, vals)
  else if x.op = 6 ∧ a.code = 0 then ((replayP vals (ps k).done).1, updP ps k pd0, (replayP vals (ps k).done).2)
  else if x.op = 8 ∧ (ps k).open_ = true ∧ a.code ≠ 1 then ((noteP (updP ps k { ps k with open_ := false }) k (ps k).x a).1, (noteP (updP ps k { ps k with open_ := false }) k (ps k).x a).2, vals)
  else if (2 ≤ x.op ∧ x.op ≤ 5) ∧ a.code = 1 then (true, updP ps k { ps k with open_ := true, x := x }, vals)
  else if 2 ≤ x.op ∧ x.op ≤ 5 then ((noteP ps k x a).1, (noteP ps k x a).2, vals)
  else (true, ps, vals))) := by
  unfold Hid tellP
  rw [if_neg (by rw [hp]; simp)]
  simp only [hkt]
 have hpo := (proper_of hp).op
 clear hth kc0 kc1 kc2 hki c0 c1 c2 c3 c4 c5 c6 c7 c8 d0 d1 d2 hses hC0 xq
 have hc2 := Khc2.out
 have hw0 := Khw0.out
 have hop := Khop.out
 have HS0 : Hid (∀ h' : Hd, h'.dv = .slice none 0 0 → h'.done = [] → BkOut own w b (updP ps k h'.pl) vals (wq.setCells b (k * 12) (handC h'))) := fun h' g1 g2 => by
  obtain ⟨m1, m2⟩ := Mq.out.setBare hk h' g1 g2
  exact ⟨own, ⟨_, m1, upd_pl HPL.out⟩, HC0.out.trans m2, fun _ _ h => h⟩
 have H0 : Hid ((#[.bool false, .slice none 0 0, .bool false, .int .i64 0, .int .i64 0, .int .i64 0, .int .i64 0, .int .i64 0, .int .i64 0, .int .i64 0, .int .i64 0, .int .i64 0] : Array Value).all (·.oneCell') = true) := all_oneCell_toArray (cs := [.bool false, .slice none 0 0, .bool false, .int .i64 0, .int .i64 0, .int .i64 0, .int .i64 0, .int .i64 0, .int .i64 0, .int .i64 0, .int .i64 0, .int .i64 0]) (by simp [Value.oneCell'])
 have HZ0 : Hid (([.bool false, .slice none 0 0, .bool false, .int .i64 0, .int .i64 0, .int .i64 0, .int .i64 0, .int .i64 0, .int .i64 0, .int .i64 0, .int .i64 0, .int .i64 0] : List Value) = handC hd0) := rfl
 have hc2b : (a.code == 2) = false := by simpa using hc2
 rw [hw0] at e1
 rw [hop] at f3
 by_cases hc0 : a.code = 0
 ·rw [hc0] at e0
  have HF : Hid (BkOut own w b (updP ps k pd0) vals (wq.setCells b (k * 12) (handC hd0))) := HS0.out hd0 rfl rfl
  have HT : Hid (tellP ps vals x a = (true, updP ps k pd0, vals)) := by unfold Hid; rw [HTP.out, if_neg hc2, if_neg (by simp [hw0]), if_neg (by rw [hop]; simp), if_pos ⟨hop, hc0⟩]
  clear hc2 hc2b
  go_upto_region 26 with (refine wpList_store_mid rfl 80 _ _ rfl b (k * 12) #[.bool false, .slice none 0 0, .bool false, .int .i64 0, .int .i64 0, .int .i64 0, .int .i64 0, .int .i64 0, .int .i64 0, .int .i64 0, .int .i64 0, .int .i64 0] rfl rfl HTH.out sizeHand H0.out ?_)
  rw [HZ0.out]
  go_wp2
  go_ret
  unfold ToldPost
  rw [HT.out]
  exact ⟨rfl, HF.out⟩
 ·have hc0b : (a.code == 0) = false := by simpa using hc0
  have HT : Hid (tellP ps vals x a = (true, ps, vals)) := by unfold Hid; rw [HTP.out, if_neg hc2, if_neg (by simp [hw0]), if_neg (by rw [hop]; simp), if_neg (fun e => hc0 e.2), if_neg (by rw [hop]; simp), if_neg (by rw [hop]; simp), if_neg (by rw [hop]; simp), if_neg (by rw [hop]; simp)]
  have HF : Hid (BkOut own w b ps vals wq) := ⟨own, ⟨hs, Mq.out, HPL.out⟩, HC0.out, fun _ _ h => h⟩
  clear hc2 hc0
  go_wp2
  go_ret
  unfold ToldPost
  rw [HT.out]
  exact ⟨rfl, HF.out⟩
theorem told_commit (b : Nat) (ps : Nat → Pd) (vals : Nat → Int) (own : Own) (x : Stp) (a : Ans) (aq : Option Addr) (cq : Nat) (w : World) (TI : TellIn w b ps vals own a aq cq) (hp : properB x = true) (hc2 : ¬ a.code = 2) (hw0 : a.why = 0) (hop : x.op = 6) :
  Calls Try.prog 34 #[.pointer (some ⟨b, 0, none⟩), .agg #[.int .i64 x.who.1, .int .i64 x.who.2.1, .int .i64 x.who.2.2, .int .i64 x.op, .int .i64 x.at_.1, .int .i64 x.at_.2, .int .i64 x.key, .int .i64 x.to_, .int .i64 x.value], .agg #[.int .i64 a.code, .int .i64 a.why, .slice aq a.items.length cq]] w (ToldPost own w b ps vals x a) := by
 have Khc2 : Hid (¬ a.code = 2) := hc2
 have Khw0 : Hid (a.why = 0) := hw0
 have Khop : Hid (x.op = 6) := hop
 clear hc2 hw0 hop
 obtain ⟨⟨hs, m, hpl⟩, hrowa, hva, hlen, hgood⟩ := TI
 have HM : Hid (BkMem w b hs vals own) := m
 have HPL : Hid (∀ k, k < 128 → (hs k).pl = ps k) := hpl
 have HRA : Hid (type_of% hrowa) := hrowa
 have HVA : Hid (type_of% hva) := hva
 have HLN : Hid (type_of% hlen) := hlen
 have HGD : Hid (type_of% hgood) := hgood
 have hbl := m.old b (by rw [m.tag]; simp)
 have hA : Below w.heap.size w ((w.alloc (.cells #[.int .i64 x.who.1, .int .i64 x.who.2.1, .int .i64 x.who.2.2, .int .i64 x.op, .int .i64 x.at_.1, .int .i64 x.at_.2, .int .i64 x.key, .int .i64 x.to_, .int .i64 x.value] 30)).alloc (.cells #[.int .i64 a.code, .int .i64 a.why, .slice aq a.items.length cq] 66)) := below2r
 have hX : ((w.alloc (.cells #[.int .i64 x.who.1, .int .i64 x.who.2.1, .int .i64 x.who.2.2, .int .i64 x.op, .int .i64 x.at_.1, .int .i64 x.at_.2, .int .i64 x.key, .int .i64 x.to_, .int .i64 x.value] 30)).alloc (.cells #[.int .i64 a.code, .int .i64 a.why, .slice aq a.items.length cq] 66)).heap[w.heap.size]? = some (.cells (stepC x).toArray 30 (0, 0)) := by
  rw [Below.heap_alloc _ _ _ (by simp)]; exact heap_alloc_new w _
 have hY : ((w.alloc (.cells #[.int .i64 x.who.1, .int .i64 x.who.2.1, .int .i64 x.who.2.2, .int .i64 x.op, .int .i64 x.at_.1, .int .i64 x.at_.2, .int .i64 x.key, .int .i64 x.to_, .int .i64 x.value] 30)).alloc (.cells #[.int .i64 a.code, .int .i64 a.why, .slice aq a.items.length cq] 66)).heap[w.heap.size + 1]? = some (.cells #[.int .i64 a.code, .int .i64 a.why, .slice aq a.items.length cq] 66 (0, 0)) := by
  have := heap_alloc_new (w.alloc (.cells #[.int .i64 x.who.1, .int .i64 x.who.2.1, .int .i64 x.who.2.2, .int .i64 x.op, .int .i64 x.at_.1, .int .i64 x.at_.2, .int .i64 x.key, .int .i64 x.to_, .int .i64 x.value] 30)) (.cells #[.int .i64 a.code, .int .i64 a.why, .slice aq a.items.length cq] 66 (0, 0))
  simpa using this
 have hpr := properK_any x
 rw [hp] at hpr
 unfold stepV at hpr
 clear m hpl hrowa hva hlen hgood
 go_enter Try.func34, Try.ntmps34
 go_wp2_with fail
 refine (hpr _).mono ?_
 rintro e w1 ⟨rfl, hb1⟩
 have hB1 : Below w.heap.size w w1 := hA.trans (hb1.mono hA.size)
 have hX1 : w1.heap[w.heap.size]? = _ := (hb1.block w.heap.size (by simp; omega)).trans hX
 have hY1 : w1.heap[w.heap.size + 1]? = _ := (hb1.block (w.heap.size + 1) (by simp)).trans hY
 have HX1 : Hid (type_of% hX1) := hX1
 have HY1 : Hid (type_of% hY1) := hY1
 have HB1 : Hid (Below w.heap.size w w1) := hB1
 have M1 : Hid (BkMem w1 b hs vals own) := HM.out.below hB1
 obtain ⟨d0, d1, d2, _, _, _⟩ := ans_cells hY1
 obtain ⟨c0, c1, c2, c3, c4, c5, c6, c7, c8, _⟩ := step9_cells hX1
 have zx : w.heap.size < w1.heap.size := (Array.getElem?_eq_some_iff.1 hX1).1
 have zy : w.heap.size + 1 < w1.heap.size := (Array.getElem?_eq_some_iff.1 hY1).1
 have zb : b < w1.heap.size := by omega
 clear hA hX hY hb1 hB1 hX1 hY1 hpr
 obtain ⟨k, hk, hsz⟩ := properB_sess hp
 have hses := session_any x.who
 rw [hsz] at hses
 have hkt : (sessZ' x.who).toNat = k := by rw [hsz]; simp
 have zk : (k : Int) < 128 := by omega
 go_upto_region 4 with fail
 have kc0 := kin_cell c0
 have kc1 := kin_cell c1
 have kc2 := kin_cell c2
 have hki := kin_some w1
 refine wp_region_kin (by kernel_rfl) (by kernel_rfl) ?_
 repeat (first | go_big_quiet_step ((go_at_call 37; exact Calls.kin (hses _))) | quiet_step ((go_at_call 37; exact Calls.kin (hses _))))
 refine wpQuiet_nil ?_
 intro _ hw'
 obtain ⟨xq, hw''⟩ := hw'
 subst hw''
 have HBq : Hid (Below w1.heap.size w1 xq.w) := xq.h
 generalize xq.w = wq at *
 have hC0 : ChgD own w wq own := ChgD.of_below (HB1.out.trans (HBq.out.mono HB1.out.size))
 have HC0 : Hid (ChgD own w wq own) := hC0
 have Mq : Hid (BkMem wq b hs vals own) := M1.out.below HBq.out
 have e0 := cell_later HBq.out d0
 have e1 := cell_later HBq.out d1
 have e2 := cell_later HBq.out d2
 have f3 := cell_later HBq.out c3
 have HXq : Hid (wq.heap[w.heap.size]? = _) := (HBq.out.block w.heap.size zx).trans HX1.out
 have HYq : Hid (wq.heap[w.heap.size + 1]? = _) := (HBq.out.block (w.heap.size + 1) zy).trans HY1.out
 have zxq : w.heap.size < wq.heap.size := by have := HBq.out.size; omega
 have zyq : w.heap.size + 1 < wq.heap.size := by have := HBq.out.size; omega
 have zbq : b < wq.heap.size := by have := HBq.out.size; omega
 have HPS : Hid ((hs k).pl = ps k) := HPL.out k hk
 have hth := Mq.out.there (o := k * 12) (n := 12) (by omega)
 have HTH : Hid (type_of% hth) := hth
 have hbx : b ≠ w.heap.size := by omega
 have hby : b ≠ w.heap.size + 1 := by omega
 have HTP : Hid (tellP ps vals x a = (
  if a.code = 2 then (decide (a.why = 1) || decide (a.why = 2), updP ps k pd0, vals)
  else if a.why ≠ 0 then (false, ps, vals)
  else if x.op = 1 ∧ a.code = 0 then (true, updP ps k { pd0 with live := true }, vals)
  else if x.op = 7 ∧ a.code = 0 then (true, updP ps k pd0, vals)
  else if x.op = 6 ∧ a.code = 0 then ((replayP vals (ps k).done).1, updP ps k pd0, (replayP vals (ps k).done).2)
  else if x.op = 8 ∧ (ps k).open_ = true ∧ a.code ≠ 1 then ((noteP (updP ps k { ps k with open_ := false }) k (ps k).x a).1, (noteP (updP ps k { ps k with open_ := false }) k (ps k).x a).2, vals)
  else if (2 ≤ x.op ∧ x.op ≤ 5) ∧ a.code = 1 then (true, updP ps k { ps k with open_ := true, x := x }, vals)
  else if 2 ≤ x.op ∧ x.op ≤ 5 then ((noteP ps k x a).1, (noteP ps k x a).2, vals)
  else (true, ps, vals))) := by
  unfold Hid tellP
  rw [if_neg (by rw [hp]; simp)]
  simp only [hkt]
 have hpo := (proper_of hp).op
 clear hth kc0 kc1 kc2 hki c0 c1 c2 c3 c4 c5 c6 c7 c8 d0 d1 d2 hses hC0 xq
 have hc2 := Khc2.out
 have hw0 := Khw0.out
 have hop := Khop.out
 have H0 : Hid ((#[.bool false, .slice none 0 0, .bool false, .int .i64 0, .int .i64 0, .int .i64 0, .int .i64 0, .int .i64 0, .int .i64 0, .int .i64 0, .int .i64 0, .int .i64 0] : Array Value).all (·.oneCell') = true) := all_oneCell_toArray (cs := [.bool false, .slice none 0 0, .bool false, .int .i64 0, .int .i64 0, .int .i64 0, .int .i64 0, .int .i64 0, .int .i64 0, .int .i64 0, .int .i64 0, .int .i64 0]) (by simp [Value.oneCell'])
 have HZ0 : Hid (([.bool false, .slice none 0 0, .bool false, .int .i64 0, .int .i64 0, .int .i64 0, .int .i64 0, .int .i64 0, .int .i64 0, .int .i64 0, .int .i64 0, .int .i64 0] : List Value) = handC hd0) := rfl
 have hc2b : (a.code == 2) = false := by simpa using hc2
 rw [hw0] at e1
 rw [hop] at f3
 by_cases hc0 : a.code = 0
 ·rw [hc0] at e0
  obtain ⟨ad, cd, hdv⟩ := ownsRow_slice (Mq.out.row k hk).1
  have hd1 : wq.cell? ⟨b, k * 12 + 1, none⟩ = some (.slice ad (hs k).done.length cd) := by rw [← hdv]; exact (hand_cells (Mq.out.hand k hk)).2.1
  obtain ⟨m1, m2⟩ := Mq.out.setBare hk hd0 rfl rfl
  have hsame : ∀ q, q ≠ b → (wq.setCells b (k * 12) (handC hd0)).heap[q]? = wq.heap[q]? := fun q hq => setCells_other _ _ _ _ hq
  have hne : ∀ q t, own q = some t → t ≠ (1, 0, 0, 0) → q ≠ b := fun q t hq ht e => by
   rw [e, Mq.out.tag] at hq; exact ht (Option.some.inj hq).symm
  have hr1 : Row (wq.setCells b (k * 12) (handC hd0)) own (k + 10, 0, 0, 0) 156 10 (.slice ad (hs k).done.length cd) (hs k).done didC := by
   rw [← hdv]
   exact (Mq.out.row k hk).frame (fun q hq => hsame q (hne q _ hq (by intro c; injection c with c; omega))) (fun _ h => h)
  have hk1 : ∀ d ∈ (hs k).done, (wq.setCells b (k * 12) (handC hd0)).ownsRow 0 94 2 d.v d.items.length (itemsV d.items) ∧ ∀ q, d.v.ownBlock = some q → own q = some (9, 0, 0, 0) := fun d hd => by
   obtain ⟨g1, g2⟩ := Mq.out.kept k hk d hd
   exact ⟨ownsRow_frame g1 (fun q hq => hsame q (hne q _ (g2 q hq) (by intro c; cases c))), g2⟩
  have hdn : (hs k).done.map Did.pl = (ps k).done := congrArg Pd.done HPS.out
  have hg1 : ∀ d ∈ (hs k).done, ∃ p kn hn, Good0 d.x p kn hn := fun d hd => HGD.out k hk d.pl (by rw [← hdn]; exact List.mem_map.2 ⟨d, hd, rfl⟩)
  have hrp := replay_any b k (updH hs k hd0) vals own (hs k).done (.slice ad (hs k).done.length cd) _ m1 hr1 hk1 hg1
  rw [replayB_pl, hdn] at hrp
  have HRP : Hid (type_of% hrp) := hrp
  have HC2 : Hid (ChgD own w (wq.setCells b (k * 12) (handC hd0)) own) := HC0.out.trans m2
  have HT : Hid (tellP ps vals x a = ((replayP vals (ps k).done).1, updP ps k pd0, (replayP vals (ps k).done).2)) := by unfold Hid; rw [HTP.out, if_neg hc2, if_neg (by simp [hw0]), if_neg (by rw [hop]; simp), if_neg (by rw [hop]; simp), if_pos ⟨hop, hc0⟩]
  clear hc2 hc2b m1 m2 hr1 hk1 hg1 hrp hsame hne hdn
  go_upto_region 17 with (refine wpList_store_mid rfl 80 _ _ rfl b (k * 12) #[.bool false, .slice none 0 0, .bool false, .int .i64 0, .int .i64 0, .int .i64 0, .int .i64 0, .int .i64 0, .int .i64 0, .int .i64 0, .int .i64 0, .int .i64 0] rfl rfl HTH.out sizeHand H0.out ?_)
  rw [HZ0.out]
  go_wp2_with fail
  refine HRP.out.mono ?_
  rintro e w5 ⟨rfl, hs5, vals5, own5, m5, ch5, x5, rfl, hv5⟩
  have HF : Hid (BkOut own w b (updP ps k pd0) (replayP vals (ps k).done).2 w5) := ⟨own5, ⟨_, by rw [← hv5]; exact m5, upd_pl HPL.out⟩, HC2.out.trans ch5, x5⟩
  clear m5 ch5 x5 hv5
  go_wp2
  go_ret
  unfold ToldPost
  rw [HT.out]
  exact ⟨rfl, HF.out⟩
 ·have hc0b : (a.code == 0) = false := by simpa using hc0
  have HT : Hid (tellP ps vals x a = (true, ps, vals)) := by unfold Hid; rw [HTP.out, if_neg hc2, if_neg (by simp [hw0]), if_neg (by rw [hop]; simp), if_neg (by rw [hop]; simp), if_neg (fun e => hc0 e.2), if_neg (by rw [hop]; simp), if_neg (by rw [hop]; simp), if_neg (by rw [hop]; simp)]
  have HF : Hid (BkOut own w b ps vals wq) := ⟨own, ⟨hs, Mq.out, HPL.out⟩, HC0.out, fun _ _ h => h⟩
  clear hc2 hc0
  go_wp2
  go_ret
  unfold ToldPost
  rw [HT.out]
  exact ⟨rfl, HF.out⟩
end Go.Proofs.Ytpbcplfpjcacfaa
