import Derived.Test.YtpbcplfpjcacfaaKBarred05
namespace Go.Proofs.Ytpbcplfpjcacfaa
open Go.RowKit
attribute [local go_sem ↓] Go.wp_at_zero Go.wp_at_succ
set_option maxRecDepth 100000
set_option maxHeartbeats 8000000
theorem noted_out {own own0 : Own} {w0 w w' : World} {b k : Nat} {hs : Nat → Hd} {ps : Nat → Pd} {vals : Nat → Int} {x : Stp} {a : Ans} {v : Value} (hpl : ∀ q, q < 128 → (hs q).pl = ps q) (hk : k < 128) (hc : a.code = 0) (h0 : ChgD own w0 w own) (hP : BkPost own w b (fun hs' vals' => vals' = vals ∧ Noted hs hs' k ((hs k).done ++ [⟨x, v, a.items⟩])) w') (_ : own0 = own) :
  BkOut own w0 b (noteP ps k x a).2 vals w' ∧ (noteP ps k x a).1 = (hs k).live := by
 obtain ⟨hs', vals', own', m', ch, hx, rfl, N⟩ := hP
 have e : noteP ps k x a = ((ps k).live, updP ps k { ps k with done := (ps k).done ++ [(x, a.items)] }) := by unfold noteP; rw [if_pos hc]
 rw [e]
 refine ⟨⟨own', ⟨hs', m', fun q hq => ?_⟩, h0.trans ch, hx⟩, ?_⟩
 ·show (hs' q).pl = updP ps k { ps k with done := (ps k).done ++ [(x, a.items)] } q
  unfold updP
  split
  ·rename_i e; subst e
   have h1 := hpl q hk
   rw [← h1]
   unfold Hd.pl
   rw [N.live, N.opn, N.x, N.done, List.map_append]
   rfl
  ·rename_i e
   rw [N.rest q e]; exact hpl q hq
 ·show (ps k).live = _
  rw [← hpl k hk]; rfl
theorem noteP_else {ps : Nat → Pd} {k : Nat} {x : Stp} {a : Ans} (hc : ¬ a.code = 0) : noteP ps k x a = (((a.items.length : Int) == 0), ps) := by unfold noteP; rw [if_neg hc]
theorem there_cell {w : World} {b o n j : Nat} (h : w.there b o n) (hj : j < n) : w.frozen? ⟨b, o + j, none⟩ = false := (h j hj).2
theorem told_blocked (b : Nat) (ps : Nat → Pd) (vals : Nat → Int) (own : Own) (x : Stp) (a : Ans) (aq : Option Addr) (cq : Nat) (w : World) (TI : TellIn w b ps vals own a aq cq) (hp : properB x = true) (hc2 : ¬ a.code = 2) (hw0 : a.why = 0) (ho1 : 2 ≤ x.op) (ho2 : x.op ≤ 5) (hc1 : a.code = 1) :
  Calls Try.prog 34 #[.pointer (some ⟨b, 0, none⟩), .agg #[.int .i64 x.who.1, .int .i64 x.who.2.1, .int .i64 x.who.2.2, .int .i64 x.op, .int .i64 x.at_.1, .int .i64 x.at_.2, .int .i64 x.key, .int .i64 x.to_, .int .i64 x.value], .agg #[.int .i64 a.code, .int .i64 a.why, .slice aq a.items.length cq]] w (ToldPost own w b ps vals x a) := by
 have Khc2 : Hid (¬ a.code = 2) := hc2
 have Khw0 : Hid (a.why = 0) := hw0
 have Khc1 : Hid (a.code = 1) := hc1
 have Kho1 : Hid (2 ≤ x.op) := ho1
 have Kho2 : Hid (x.op ≤ 5) := ho2
 clear hc2 hw0 ho1 ho2 hc1
 obtain ⟨⟨hs, m, hpl⟩, hrowa, hva, hlen, hgood⟩ := TI
 have HM : Hid (BkMem w b hs vals own) := m
 have HPL : Hid (∀ k, k < 128 → (hs k).pl = ps k) := hpl
 have HRA : Hid (type_of% hrowa) := hrowa
 have HVA : Hid (type_of% hva) := hva
 have HLN : Hid (type_of% hlen) := hlen
 have HGD : Hid (type_of% hgood) := hgood
 have hbl := m.old b (by rw [m.tag]; simp)
 have hA : Below w.heap.size w ((w.alloc (.cells #[.int .i64 x.who.1, .int .i64 x.who.2.1, .int .i64 x.who.2.2, .int .i64 x.op, .int .i64 x.at_.1, .int .i64 x.at_.2, .int .i64 x.key, .int .i64 x.to_, .int .i64 x.value] 30)).alloc (.cells #[.int .i64 a.code, .int .i64 a.why, .slice aq a.items.length cq] 66)) := below2r
 have hX : ((w.alloc (.cells #[.int .i64 x.who.1, .int .i64 x.who.2.1, .int .i64 x.who.2.2, .int .i64 x.op, .int .i64 x.at_.1, .int .i64 x.at_.2, .int .i64 x.key, .int .i64 x.to_, .int .i64 x.value] 30)).alloc (.cells #[.int .i64 a.code, .int .i64 a.why, .slice aq a.items.length cq] 66)).heap[w.heap.size]? = some (.cells (stepC x).toArray 30 (0, 0)) := by
  rw [Below.heap_alloc _ _ _ (by simp)]; exact heap_alloc_new w _
 have hY : ((w.alloc (.cells #[.int .i64 x.who.1, .int .i64 x.who.2.1, .int .i64 x.who.2.2, .int .i64 x.op, .int .i64 x.at_.1, .int .i64 x.at_.2, .int .i64 x.key, .int .i64 x.to_, .int .i64 x.value] 30)).alloc (.cells #[.int .i64 a.code, .int .i64 a.why, .slice aq a.items.length cq] 66)).heap[w.heap.size + 1]? = some (.cells #[.int .i64 a.code, .int .i64 a.why, .slice aq a.items.length cq] 66 (0, 0)) := by
  have := heap_alloc_new (w.alloc (.cells #[.int .i64 x.who.1, .int .i64 x.who.2.1, .int .i64 x.who.2.2, .int .i64 x.op, .int .i64 x.at_.1, .int .i64 x.at_.2, .int .i64 x.key, .int .i64 x.to_, .int .i64 x.value] 30)) (.cells #[.int .i64 a.code, .int .i64 a.why, .slice aq a.items.length cq] 66 (0, 0))
  simpa using this
 have hpr := properK_any x
 rw [hp] at hpr
 unfold stepV at hpr
 clear m hpl hrowa hva hlen hgood
 go_enter Try.func34, Try.ntmps34
 go_wp2_with fail
 refine (hpr _).mono ?_
 rintro e w1 ⟨rfl, hb1⟩
 have hB1 : Below w.heap.size w w1 := hA.trans (hb1.mono hA.size)
 have hX1 : w1.heap[w.heap.size]? = _ := (hb1.block w.heap.size (by simp; omega)).trans hX
 have hY1 : w1.heap[w.heap.size + 1]? = _ := (hb1.block (w.heap.size + 1) (by simp)).trans hY
 have HX1 : Hid (type_of% hX1) := hX1
 have HY1 : Hid (type_of% hY1) := hY1
 have HB1 : Hid (Below w.heap.size w w1) := hB1
 have M1 : Hid (BkMem w1 b hs vals own) := HM.out.below hB1
 obtain ⟨d0, d1, d2, _, _, _⟩ := ans_cells hY1
 obtain ⟨c0, c1, c2, c3, c4, c5, c6, c7, c8, _⟩ := step9_cells hX1
 have zx : w.heap.size < w1.heap.size := (Array.getElem?_eq_some_iff.1 hX1).1
 have zy : w.heap.size + 1 < w1.heap.size := (Array.getElem?_eq_some_iff.1 hY1).1
 have zb : b < w1.heap.size := by omega
 clear hA hX hY hb1 hB1 hX1 hY1 hpr
 obtain ⟨k, hk, hsz⟩ := properB_sess hp
 have hses := session_any x.who
 rw [hsz] at hses
 have hkt : (sessZ' x.who).toNat = k := by rw [hsz]; simp
 have zk : (k : Int) < 128 := by omega
 go_upto_region 4 with fail
 have kc0 := kin_cell c0
 have kc1 := kin_cell c1
 have kc2 := kin_cell c2
 have hki := kin_some w1
 refine wp_region_kin (by kernel_rfl) (by kernel_rfl) ?_
 repeat (first | go_big_quiet_step ((go_at_call 37; exact Calls.kin (hses _))) | quiet_step ((go_at_call 37; exact Calls.kin (hses _))))
 refine wpQuiet_nil ?_
 intro _ hw'
 obtain ⟨xq, hw''⟩ := hw'
 subst hw''
 have HBq : Hid (Below w1.heap.size w1 xq.w) := xq.h
 generalize xq.w = wq at *
 have hC0 : ChgD own w wq own := ChgD.of_below (HB1.out.trans (HBq.out.mono HB1.out.size))
 have HC0 : Hid (ChgD own w wq own) := hC0
 have Mq : Hid (BkMem wq b hs vals own) := M1.out.below HBq.out
 have e0 := cell_later HBq.out d0
 have e1 := cell_later HBq.out d1
 have e2 := cell_later HBq.out d2
 have f3 := cell_later HBq.out c3
 have HXq : Hid (wq.heap[w.heap.size]? = _) := (HBq.out.block w.heap.size zx).trans HX1.out
 have HYq : Hid (wq.heap[w.heap.size + 1]? = _) := (HBq.out.block (w.heap.size + 1) zy).trans HY1.out
 have zxq : w.heap.size < wq.heap.size := by have := HBq.out.size; omega
 have zyq : w.heap.size + 1 < wq.heap.size := by have := HBq.out.size; omega
 have zbq : b < wq.heap.size := by have := HBq.out.size; omega
 have HPS : Hid ((hs k).pl = ps k) := HPL.out k hk
 have hth := Mq.out.there (o := k * 12) (n := 12) (by omega)
 have HTH : Hid (type_of% hth) := hth
 have hbx : b ≠ w.heap.size := by omega
 have hby : b ≠ w.heap.size + 1 := by omega
 have HTP : Hid (tellP ps vals x a = (
  if a.code = 2 then (decide (a.why = 1) || decide (a.why = 2), updP ps k pd0, vals)
  else if a.why ≠ 0 then (false, ps, vals)
  else if x.op = 1 ∧ a.code = 0 then (true, updP ps k { pd0 with live := true }, vals)
  else if x.op = 7 ∧ a.code = 0 then (true, updP ps k pd0, vals)
  else if x.op = 6 ∧ a.code = 0 then ((replayP vals (ps k).done).1, updP ps k pd0, (replayP vals (ps k).done).2)
  else if x.op = 8 ∧ (ps k).open_ = true ∧ a.code ≠ 1 then ((noteP (updP ps k { ps k with open_ := false }) k (ps k).x a).1, (noteP (updP ps k { ps k with open_ := false }) k (ps k).x a).2, vals)
  else if (2 ≤ x.op ∧ x.op ≤ 5) ∧ a.code = 1 then (true, updP ps k { ps k with open_ := true, x := x }, vals)
  else if 2 ≤ x.op ∧ x.op ≤ 5 then ((noteP ps k x a).1, (noteP ps k x a).2, vals)
  else (true, ps, vals))) := by
  unfold Hid tellP
  rw [if_neg (by rw [hp]; simp)]
  simp only [hkt]
 have hpo := (proper_of hp).op
 clear hth kc0 kc1 kc2 hki c0 c1 c2 c3 c4 c5 c6 c7 c8 d0 d1 d2 hses hC0 xq
 have hc2 := Khc2.out
 have hw0 := Khw0.out
 have ho1 := Kho1.out
 have hc1 := Khc1.out
 have ho2 := Kho2.out
 have hc2b : (a.code == 2) = false := by simpa using hc2
 rw [hw0] at e1
 have b1 : (x.op == 1) = false := by simp; omega
 have b7 : (x.op == 7) = false := by simp; omega
 have b6 : (x.op == 6) = false := by simp; omega
 have b8 : (x.op == 8) = false := by simp; omega
 have g0 := (step9_cells HXq.out).1
 have g1 := (step9_cells HXq.out).2.1
 have g2 := (step9_cells HXq.out).2.2.1
 have g3 := (step9_cells HXq.out).2.2.2.1
 have g4 := (step9_cells HXq.out).2.2.2.2.1
 have g5 := (step9_cells HXq.out).2.2.2.2.2.1
 have g6 := (step9_cells HXq.out).2.2.2.2.2.2.1
 have g7 := (step9_cells HXq.out).2.2.2.2.2.2.2.1
 have g8 := (step9_cells HXq.out).2.2.2.2.2.2.2.2.1
 rw [hc1] at e0
 have HT : Hid (tellP ps vals x a = (true, updP ps k { ps k with open_ := true, x := x }, vals)) := by unfold Hid; rw [HTP.out, if_neg hc2, if_neg (by simp [hw0]), if_neg (by omega), if_neg (by omega), if_neg (by omega), if_neg (by omega), if_pos ⟨⟨ho1, ho2⟩, hc1⟩]
 have i2 := (hand_cells (Mq.out.hand k hk)).2.2
 have fz2 : wq.frozen? ⟨b, k * 12 + 2, none⟩ = false := there_cell HTH.out (by omega)
 obtain ⟨m1, ch1⟩ := Mq.out.setOne hk true
 obtain ⟨m2, ch2⟩ := m1.setStep hk x
 have hth2 : (wq.setCell ⟨b, k * 12 + 2, none⟩ (.bool true)).there b (k * 12 + 3) 9 := m1.there (by omega)
 have HT2 : Hid (type_of% hth2) := hth2
 have HF : Hid (BkOut own w b (updP ps k { ps k with open_ := true, x := x }) vals ((wq.setCell ⟨b, k * 12 + 2, none⟩ (.bool true)).setCells b (k * 12 + 3) (stepC x))) := by
  refine ⟨own, ⟨_, m2, fun q hq => ?_⟩, (HC0.out.trans ch1).trans ch2, fun _ _ h => h⟩
  unfold updH updP
  by_cases e : q = k
  ·subst e
   simp only [if_true]
   rw [← HPL.out q hq]; rfl
  ·simp only [if_neg e]
   exact HPL.out q hq
 have HOS : Hid ((#[.int .i64 x.who.1, .int .i64 x.who.2.1, .int .i64 x.who.2.2, .int .i64 x.op, .int .i64 x.at_.1, .int .i64 x.at_.2, .int .i64 x.key, .int .i64 x.to_, .int .i64 x.value] : Array Value).all (·.oneCell') = true) := all_oneCell_toArray (cs := stepC x) (by simp [stepC, Value.oneCell'])
 have HXS : Hid ([.int .i64 x.who.1, .int .i64 x.who.2.1, .int .i64 x.who.2.2, .int .i64 x.op, .int .i64 x.at_.1, .int .i64 x.at_.2, .int .i64 x.key, .int .i64 x.to_, .int .i64 x.value] = stepC x) := rfl
 have n0 := (World.cell?_setCell_other wq ⟨b, k * 12 + 2, none⟩ ⟨w.heap.size, 0, none⟩ (.bool true) (by intro e; injection e with e; exact hbx e)).trans g0
 have n1 := (World.cell?_setCell_other wq ⟨b, k * 12 + 2, none⟩ ⟨w.heap.size, 1, none⟩ (.bool true) (by intro e; injection e with e; exact hbx e)).trans g1
 have n2 := (World.cell?_setCell_other wq ⟨b, k * 12 + 2, none⟩ ⟨w.heap.size, 2, none⟩ (.bool true) (by intro e; injection e with e; exact hbx e)).trans g2
 have n3 := (World.cell?_setCell_other wq ⟨b, k * 12 + 2, none⟩ ⟨w.heap.size, 3, none⟩ (.bool true) (by intro e; injection e with e; exact hbx e)).trans g3
 have n4 := (World.cell?_setCell_other wq ⟨b, k * 12 + 2, none⟩ ⟨w.heap.size, 4, none⟩ (.bool true) (by intro e; injection e with e; exact hbx e)).trans g4
 have n5 := (World.cell?_setCell_other wq ⟨b, k * 12 + 2, none⟩ ⟨w.heap.size, 5, none⟩ (.bool true) (by intro e; injection e with e; exact hbx e)).trans g5
 have n6 := (World.cell?_setCell_other wq ⟨b, k * 12 + 2, none⟩ ⟨w.heap.size, 6, none⟩ (.bool true) (by intro e; injection e with e; exact hbx e)).trans g6
 have n7 := (World.cell?_setCell_other wq ⟨b, k * 12 + 2, none⟩ ⟨w.heap.size, 7, none⟩ (.bool true) (by intro e; injection e with e; exact hbx e)).trans g7
 have n8 := (World.cell?_setCell_other wq ⟨b, k * 12 + 2, none⟩ ⟨w.heap.size, 8, none⟩ (.bool true) (by intro e; injection e with e; exact hbx e)).trans g8
 clear hc2 hc2b m1 m2 ch1 ch2 hth2
 go_upto_region 23 with fail
 generalize wq.setCell ⟨b, k * 12 + 2, none⟩ (.bool true) = wr at *
 clear g0 g1 g2 g3 g4 g5 g6 g7 g8 i2 fz2
 go_upto_region 26 with (refine wpList_store_mid rfl 30 _ _ rfl b (k * 12 + 3) #[.int .i64 x.who.1, .int .i64 x.who.2.1, .int .i64 x.who.2.2, .int .i64 x.op, .int .i64 x.at_.1, .int .i64 x.at_.2, .int .i64 x.key, .int .i64 x.to_, .int .i64 x.value] rfl rfl HT2.out sizeStep HOS.out ?_)
 rw [HXS.out]
 go_wp2
 go_ret
 unfold ToldPost
 rw [HT.out]
 exact ⟨rfl, HF.out⟩
theorem told_noted (b : Nat) (ps : Nat → Pd) (vals : Nat → Int) (own : Own) (x : Stp) (a : Ans) (aq : Option Addr) (cq : Nat) (w : World) (TI : TellIn w b ps vals own a aq cq) (hp : properB x = true) (hc2 : ¬ a.code = 2) (hw0 : a.why = 0) (ho1 : 2 ≤ x.op) (ho2 : x.op ≤ 5) (hc1 : ¬ a.code = 1) :
  Calls Try.prog 34 #[.pointer (some ⟨b, 0, none⟩), .agg #[.int .i64 x.who.1, .int .i64 x.who.2.1, .int .i64 x.who.2.2, .int .i64 x.op, .int .i64 x.at_.1, .int .i64 x.at_.2, .int .i64 x.key, .int .i64 x.to_, .int .i64 x.value], .agg #[.int .i64 a.code, .int .i64 a.why, .slice aq a.items.length cq]] w (ToldPost own w b ps vals x a) := by
 have Khc2 : Hid (¬ a.code = 2) := hc2
 have Khw0 : Hid (a.why = 0) := hw0
 have Khc1 : Hid (¬ a.code = 1) := hc1
 have Kho1 : Hid (2 ≤ x.op) := ho1
 have Kho2 : Hid (x.op ≤ 5) := ho2
 clear hc2 hw0 ho1 ho2 hc1
 obtain ⟨⟨hs, m, hpl⟩, hrowa, hva, hlen, hgood⟩ := TI
 have HM : Hid (BkMem w b hs vals own) := m
 have HPL : Hid (∀ k, k < 128 → (hs k).pl = ps k) := hpl
 have HRA : Hid (type_of% hrowa) := hrowa
 have HVA : Hid (type_of% hva) := hva
 have HLN : Hid (type_of% hlen) := hlen
 have HGD : Hid (type_of% hgood) := hgood
 have hbl := m.old b (by rw [m.tag]; simp)
 have hA : Below w.heap.size w ((w.alloc (.cells #[.int .i64 x.who.1, .int .i64 x.who.2.1, .int .i64 x.who.2.2, .int .i64 x.op, .int .i64 x.at_.1, .int .i64 x.at_.2, .int .i64 x.key, .int .i64 x.to_, .int .i64 x.value] 30)).alloc (.cells #[.int .i64 a.code, .int .i64 a.why, .slice aq a.items.length cq] 66)) := below2r
 have hX : ((w.alloc (.cells #[.int .i64 x.who.1, .int .i64 x.who.2.1, .int .i64 x.who.2.2, .int .i64 x.op, .int .i64 x.at_.1, .int .i64 x.at_.2, .int .i64 x.key, .int .i64 x.to_, .int .i64 x.value] 30)).alloc (.cells #[.int .i64 a.code, .int .i64 a.why, .slice aq a.items.length cq] 66)).heap[w.heap.size]? = some (.cells (stepC x).toArray 30 (0, 0)) := by
  rw [Below.heap_alloc _ _ _ (by simp)]; exact heap_alloc_new w _
 have hY : ((w.alloc (.cells #[.int .i64 x.who.1, .int .i64 x.who.2.1, .int .i64 x.who.2.2, .int .i64 x.op, .int .i64 x.at_.1, .int .i64 x.at_.2, .int .i64 x.key, .int .i64 x.to_, .int .i64 x.value] 30)).alloc (.cells #[.int .i64 a.code, .int .i64 a.why, .slice aq a.items.length cq] 66)).heap[w.heap.size + 1]? = some (.cells #[.int .i64 a.code, .int .i64 a.why, .slice aq a.items.length cq] 66 (0, 0)) := by
  have := heap_alloc_new (w.alloc (.cells #[.int .i64 x.who.1, .int .i64 x.who.2.1, .int .i64 x.who.2.2, .int .i64 x.op, .int .i64 x.at_.1, .int .i64 x.at_.2, .int .i64 x.key, .int .i64 x.to_, .int .i64 x.value] 30)) (.cells #[.int .i64 a.code, .int .i64 a.why, .slice aq a.items.length cq] 66 (0, 0))
  simpa using this
 have hpr := properK_any x
 rw [hp] at hpr
 unfold stepV at hpr
 clear m hpl hrowa hva hlen hgood
 go_enter Try.func34, Try.ntmps34
 go_wp2_with fail
 refine (hpr _).mono ?_
 rintro e w1 ⟨rfl, hb1⟩
 have hB1 : Below w.heap.size w w1 := hA.trans (hb1.mono hA.size)
 have hX1 : w1.heap[w.heap.size]? = _ := (hb1.block w.heap.size (by simp; omega)).trans hX
 have hY1 : w1.heap[w.heap.size + 1]? = _ := (hb1.block (w.heap.size + 1) (by simp)).trans hY
 have HX1 : Hid (type_of% hX1) := hX1
 have HY1 : Hid (type_of% hY1) := hY1
 have HB1 : Hid (Below w.heap.size w w1) := hB1
 have M1 : Hid (BkMem w1 b hs vals own) := HM.out.below hB1
 obtain ⟨d0, d1, d2, _, _, _⟩ := ans_cells hY1
 obtain ⟨c0, c1, c2, c3, c4, c5, c6, c7, c8, _⟩ := step9_cells hX1
 have zx : w.heap.size < w1.heap.size := (Array.getElem?_eq_some_iff.1 hX1).1
 have zy : w.heap.size + 1 < w1.heap.size := (Array.getElem?_eq_some_iff.1 hY1).1
 have zb : b < w1.heap.size := by omega
 clear hA hX hY hb1 hB1 hX1 hY1 hpr
 obtain ⟨k, hk, hsz⟩ := properB_sess hp
 have hses := session_any x.who
 rw [hsz] at hses
 have hkt : (sessZ' x.who).toNat = k := by rw [hsz]; simp
 have zk : (k : Int) < 128 := by omega
 go_upto_region 4 with fail
 have kc0 := kin_cell c0
 have kc1 := kin_cell c1
 have kc2 := kin_cell c2
 have hki := kin_some w1
 refine wp_region_kin (by kernel_rfl) (by kernel_rfl) ?_
 repeat (first | go_big_quiet_step ((go_at_call 37; exact Calls.kin (hses _))) | quiet_step ((go_at_call 37; exact Calls.kin (hses _))))
 refine wpQuiet_nil ?_
 intro _ hw'
 obtain ⟨xq, hw''⟩ := hw'
 subst hw''
 have HBq : Hid (Below w1.heap.size w1 xq.w) := xq.h
 generalize xq.w = wq at *
 have hC0 : ChgD own w wq own := ChgD.of_below (HB1.out.trans (HBq.out.mono HB1.out.size))
 have HC0 : Hid (ChgD own w wq own) := hC0
 have Mq : Hid (BkMem wq b hs vals own) := M1.out.below HBq.out
 have e0 := cell_later HBq.out d0
 have e1 := cell_later HBq.out d1
 have e2 := cell_later HBq.out d2
 have f3 := cell_later HBq.out c3
 have HXq : Hid (wq.heap[w.heap.size]? = _) := (HBq.out.block w.heap.size zx).trans HX1.out
 have HYq : Hid (wq.heap[w.heap.size + 1]? = _) := (HBq.out.block (w.heap.size + 1) zy).trans HY1.out
 have zxq : w.heap.size < wq.heap.size := by have := HBq.out.size; omega
 have zyq : w.heap.size + 1 < wq.heap.size := by have := HBq.out.size; omega
 have zbq : b < wq.heap.size := by have := HBq.out.size; omega
 have HPS : Hid ((hs k).pl = ps k) := HPL.out k hk
 have hth := Mq.out.there (o := k * 12) (n := 12) (by omega)
 have HTH : Hid (type_of% hth) := hth
 have hbx : b ≠ w.heap.size := by omega
 have hby : b ≠ w.heap.size + 1 := by omega
 have HTP : Hid (tellP ps vals x a = (
  if a.code = 2 then (decide (a.why = 1) || decide (a.why = 2), updP ps k pd0, vals)
  else if a.why ≠ 0 then (false, ps, vals)
  else if x.op = 1 ∧ a.code = 0 then (true, updP ps k { pd0 with live := true }, vals)
  else if x.op = 7 ∧ a.code = 0 then (true, updP ps k pd0, vals)
  else if x.op = 6 ∧ a.code = 0 then ((replayP vals (ps k).done).1, updP ps k pd0, (replayP vals (ps k).done).2)
  else if x.op = 8 ∧ (ps k).open_ = true ∧ a.code ≠ 1 then ((noteP (updP ps k { ps k with open_ := false }) k (ps k).x a).1, (noteP (updP ps k { ps k with open_ := false }) k (ps k).x a).2, vals)
  else if (2 ≤ x.op ∧ x.op ≤ 5) ∧ a.code = 1 then (true, updP ps k { ps k with open_ := true, x := x }, vals)
  else if 2 ≤ x.op ∧ x.op ≤ 5 then ((noteP ps k x a).1, (noteP ps k x a).2, vals)
  else (true, ps, vals))) := by
  unfold Hid tellP
  rw [if_neg (by rw [hp]; simp)]
  simp only [hkt]
 have hpo := (proper_of hp).op
 clear hth kc0 kc1 kc2 hki c0 c1 c2 c3 c4 c5 c6 c7 c8 d0 d1 d2 hses hC0 xq
 have hc2 := Khc2.out
 have hw0 := Khw0.out
 have ho1 := Kho1.out
 have hc1 := Khc1.out
 have ho2 := Kho2.out
 have hc2b : (a.code == 2) = false := by simpa using hc2
 rw [hw0] at e1
 have b1 : (x.op == 1) = false := by simp; omega
 have b7 : (x.op == 7) = false := by simp; omega
 have b6 : (x.op == 6) = false := by simp; omega
 have b8 : (x.op == 8) = false := by simp; omega
 have g0 := (step9_cells HXq.out).1
 have g1 := (step9_cells HXq.out).2.1
 have g2 := (step9_cells HXq.out).2.2.1
 have g3 := (step9_cells HXq.out).2.2.2.1
 have g4 := (step9_cells HXq.out).2.2.2.2.1
 have g5 := (step9_cells HXq.out).2.2.2.2.2.1
 have g6 := (step9_cells HXq.out).2.2.2.2.2.2.1
 have g7 := (step9_cells HXq.out).2.2.2.2.2.2.2.1
 have g8 := (step9_cells HXq.out).2.2.2.2.2.2.2.2.1
 have hc1b : (a.code == 1) = false := by simpa using hc1
 have hra : wq.ownsRow 0 94 2 (.slice aq a.items.length cq) a.items.length (itemsV a.items) := ownsRow_frame HRA.out (fun q hq => by
  have hl := HM.out.old q (by rw [HVA.out q hq]; simp)
  exact (HB1.out.trans (HBq.out.mono HB1.out.size)).block q hl)
 have HT : Hid (tellP ps vals x a = ((noteP ps k x a).1, (noteP ps k x a).2, vals)) := by unfold Hid; rw [HTP.out, if_neg hc2, if_neg (by simp [hw0]), if_neg (by omega), if_neg (by omega), if_neg (by omega), if_neg (by omega), if_neg (fun e => hc1 e.2), if_pos ⟨ho1, ho2⟩]
 by_cases hc0 : a.code = 0
 ·have hnt := note_doneW b k hs vals own x a aq cq wq Mq.out hk hc0 hra HVA.out (by
   have := HLN.out k hk
   rw [← HPL.out k hk] at this
   simpa [Hd.pl] using this)
  rw [hw0, hc0] at hnt
  rw [hc0] at e0
  have HN : Hid (type_of% hnt) := hnt
  have HCZ : Hid (a.code = 0) := hc0
  clear hc2 hc2b hc1 hnt hra hc0
  go_wp2_with fail
  refine HN.out.mono ?_
  rintro e w5 ⟨rfl, hP⟩
  obtain ⟨hf1, hf2⟩ := noted_out (own0 := own) HPL.out hk HCZ.out HC0.out hP rfl
  have HF : Hid (BkOut own w b (noteP ps k x a).2 vals w5) := hf1
  have HV : Hid ((noteP ps k x a).1 = (hs k).live) := hf2
  clear hf1 hf2 hP
  go_wp2
  go_ret
  unfold ToldPost
  rw [HT.out]
  exact ⟨by rw [HV.out]; rfl, HF.out⟩
 ·have hnt := note_else b k x a aq cq wq hc0
  rw [hw0] at hnt
  have HN : Hid (type_of% hnt) := hnt
  rw [noteP_else hc0] at HT
  clear hc2 hc1 hnt hra hc0
  go_wp2_with fail
  refine HN.out.mono ?_
  rintro e w5 ⟨rfl, hb5⟩
  have HF : Hid (BkOut own w b ps vals w5) := ⟨own, ⟨hs, Mq.out.below hb5, HPL.out⟩, HC0.out.trans (ChgD.of_below hb5), fun _ _ h => h⟩
  clear hb5
  go_wp2
  go_ret
  unfold ToldPost
  rw [HT.out]
  exact ⟨rfl, HF.out⟩
theorem hand_step {h : Hd} {j : Nat} {u : Value} (hj : (stepC h.x)[j]? = some u) : (handC h)[3 + j]? = some u := by
 unfold handC
 rw [List.getElem?_append_right (by simp)]
 simpa using hj
theorem hand_x {w : World} {b k : Nat} {h : Hd} (hr : w.rangeAt b (k * 12) (handC h)) : w.rangeAt b (k * 12 + 3) (stepC h.x) := fun j u hj => by
 have := hr (3 + j) u (hand_step hj)
 rw [← Nat.add_assoc] at this
 exact this
theorem told_poll (b : Nat) (ps : Nat → Pd) (vals : Nat → Int) (own : Own) (x : Stp) (a : Ans) (aq : Option Addr) (cq : Nat) (w : World) (TI : TellIn w b ps vals own a aq cq) (hp : properB x = true) (hc2 : ¬ a.code = 2) (hw0 : a.why = 0) (hop : x.op = 8) :
  Calls Try.prog 34 #[.pointer (some ⟨b, 0, none⟩), .agg #[.int .i64 x.who.1, .int .i64 x.who.2.1, .int .i64 x.who.2.2, .int .i64 x.op, .int .i64 x.at_.1, .int .i64 x.at_.2, .int .i64 x.key, .int .i64 x.to_, .int .i64 x.value], .agg #[.int .i64 a.code, .int .i64 a.why, .slice aq a.items.length cq]] w (ToldPost own w b ps vals x a) := by
 have Khc2 : Hid (¬ a.code = 2) := hc2
 have Khw0 : Hid (a.why = 0) := hw0
 have Khop : Hid (x.op = 8) := hop
 clear hc2 hw0 hop
 obtain ⟨⟨hs, m, hpl⟩, hrowa, hva, hlen, hgood⟩ := TI
 have HM : Hid (BkMem w b hs vals own) := m
 have HPL : Hid (∀ k, k < 128 → (hs k).pl = ps k) := hpl
 have HRA : Hid (type_of% hrowa) := hrowa
 have HVA : Hid (type_of% hva) := hva
 have HLN : Hid (type_of% hlen) := hlen
 have HGD : Hid (type_of% hgood) := hgood
 have hbl := m.old b (by rw [m.tag]; simp)
 have hA : Below w.heap.size w ((w.alloc (.cells #[.int .i64 x.who.1, .int .i64 x.who.2.1, .int .i64 x.who.2.2, .int .i64 x.op, .int .i64 x.at_.1, .int .i64 x.at_.2, .int .i64 x.key, .int .i64 x.to_, .int .i64 x.value] 30)).alloc (.cells #[.int .i64 a.code, .int .i64 a.why, .slice aq a.items.length cq] 66)) := below2r
 have hX : ((w.alloc (.cells #[.int .i64 x.who.1, .int .i64 x.who.2.1, .int .i64 x.who.2.2, .int .i64 x.op, .int .i64 x.at_.1, .int .i64 x.at_.2, .int .i64 x.key, .int .i64 x.to_, .int .i64 x.value] 30)).alloc (.cells #[.int .i64 a.code, .int .i64 a.why, .slice aq a.items.length cq] 66)).heap[w.heap.size]? = some (.cells (stepC x).toArray 30 (0, 0)) := by
  rw [Below.heap_alloc _ _ _ (by simp)]; exact heap_alloc_new w _
 have hY : ((w.alloc (.cells #[.int .i64 x.who.1, .int .i64 x.who.2.1, .int .i64 x.who.2.2, .int .i64 x.op, .int .i64 x.at_.1, .int .i64 x.at_.2, .int .i64 x.key, .int .i64 x.to_, .int .i64 x.value] 30)).alloc (.cells #[.int .i64 a.code, .int .i64 a.why, .slice aq a.items.length cq] 66)).heap[w.heap.size + 1]? = some (.cells #[.int .i64 a.code, .int .i64 a.why, .slice aq a.items.length cq] 66 (0, 0)) := by
  have := heap_alloc_new (w.alloc (.cells #[.int .i64 x.who.1, .int .i64 x.who.2.1, .int .i64 x.who.2.2, .int .i64 x.op, .int .i64 x.at_.1, .int .i64 x.at_.2, .int .i64 x.key, .int .i64 x.to_, .int .i64 x.value] 30)) (.cells #[.int .i64 a.code, .int .i64 a.why, .slice aq a.items.length cq] 66 (0, 0))
  simpa using this
 have hpr := properK_any x
 rw [hp] at hpr
 unfold stepV at hpr
 clear m hpl hrowa hva hlen hgood
 go_enter Try.func34, Try.ntmps34
 go_wp2_with fail
 refine (hpr _).mono ?_
 rintro e w1 ⟨rfl, hb1⟩
 have hB1 : Below w.heap.size w w1 := hA.trans (hb1.mono hA.size)
 have hX1 : w1.heap[w.heap.size]? = _ := (hb1.block w.heap.size (by simp; omega)).trans hX
 have hY1 : w1.heap[w.heap.size + 1]? = _ := (hb1.block (w.heap.size + 1) (by simp)).trans hY
 have HX1 : Hid (type_of% hX1) := hX1
 have HY1 : Hid (type_of% hY1) := hY1
 have HB1 : Hid (Below w.heap.size w w1) := hB1
 have M1 : Hid (BkMem w1 b hs vals own) := HM.out.below hB1
 obtain ⟨d0, d1, d2, _, _, _⟩ := ans_cells hY1
 obtain ⟨c0, c1, c2, c3, c4, c5, c6, c7, c8, _⟩ := step9_cells hX1
 have zx : w.heap.size < w1.heap.size := (Array.getElem?_eq_some_iff.1 hX1).1
 have zy : w.heap.size + 1 < w1.heap.size := (Array.getElem?_eq_some_iff.1 hY1).1
 have zb : b < w1.heap.size := by omega
 clear hA hX hY hb1 hB1 hX1 hY1 hpr
 obtain ⟨k, hk, hsz⟩ := properB_sess hp
 have hses := session_any x.who
 rw [hsz] at hses
 have hkt : (sessZ' x.who).toNat = k := by rw [hsz]; simp
 have zk : (k : Int) < 128 := by omega
 go_upto_region 4 with fail
 have kc0 := kin_cell c0
 have kc1 := kin_cell c1
 have kc2 := kin_cell c2
 have hki := kin_some w1
 refine wp_region_kin (by kernel_rfl) (by kernel_rfl) ?_
 repeat (first | go_big_quiet_step ((go_at_call 37; exact Calls.kin (hses _))) | quiet_step ((go_at_call 37; exact Calls.kin (hses _))))
 refine wpQuiet_nil ?_
 intro _ hw'
 obtain ⟨xq, hw''⟩ := hw'
 subst hw''
 have HBq : Hid (Below w1.heap.size w1 xq.w) := xq.h
 generalize xq.w = wq at *
 have hC0 : ChgD own w wq own := ChgD.of_below (HB1.out.trans (HBq.out.mono HB1.out.size))
 have HC0 : Hid (ChgD own w wq own) := hC0
 have Mq : Hid (BkMem wq b hs vals own) := M1.out.below HBq.out
 have e0 := cell_later HBq.out d0
 have e1 := cell_later HBq.out d1
 have e2 := cell_later HBq.out d2
 have f3 := cell_later HBq.out c3
 have HXq : Hid (wq.heap[w.heap.size]? = _) := (HBq.out.block w.heap.size zx).trans HX1.out
 have HYq : Hid (wq.heap[w.heap.size + 1]? = _) := (HBq.out.block (w.heap.size + 1) zy).trans HY1.out
 have zxq : w.heap.size < wq.heap.size := by have := HBq.out.size; omega
 have zyq : w.heap.size + 1 < wq.heap.size := by have := HBq.out.size; omega
 have zbq : b < wq.heap.size := by have := HBq.out.size; omega
 have HPS : Hid ((hs k).pl = ps k) := HPL.out k hk
 have hth := Mq.out.there (o := k * 12) (n := 12) (by omega)
 have HTH : Hid (type_of% hth) := hth
 have hbx : b ≠ w.heap.size := by omega
 have hby : b ≠ w.heap.size + 1 := by omega
 have HTP : Hid (tellP ps vals x a = (
  if a.code = 2 then (decide (a.why = 1) || decide (a.why = 2), updP ps k pd0, vals)
  else if a.why ≠ 0 then (false, ps, vals)
  else if x.op = 1 ∧ a.code = 0 then (true, updP ps k { pd0 with live := true }, vals)
  else if x.op = 7 ∧ a.code = 0 then (true, updP ps k pd0, vals)
  else if x.op = 6 ∧ a.code = 0 then ((replayP vals (ps k).done).1, updP ps k pd0, (replayP vals (ps k).done).2)
  else if x.op = 8 ∧ (ps k).open_ = true ∧ a.code ≠ 1 then ((noteP (updP ps k { ps k with open_ := false }) k (ps k).x a).1, (noteP (updP ps k { ps k with open_ := false }) k (ps k).x a).2, vals)
  else if (2 ≤ x.op ∧ x.op ≤ 5) ∧ a.code = 1 then (true, updP ps k { ps k with open_ := true, x := x }, vals)
  else if 2 ≤ x.op ∧ x.op ≤ 5 then ((noteP ps k x a).1, (noteP ps k x a).2, vals)
  else (true, ps, vals))) := by
  unfold Hid tellP
  rw [if_neg (by rw [hp]; simp)]
  simp only [hkt]
 have hpo := (proper_of hp).op
 clear hth kc0 kc1 kc2 hki c0 c1 c2 c3 c4 c5 c6 c7 c8 d0 d1 d2 hses hC0 xq
 have hc2 := Khc2.out
 have hw0 := Khw0.out
 have hop := Khop.out
 have hc2b : (a.code == 2) = false := by simpa using hc2
 rw [hw0] at e1
 rw [hop] at f3
 have i2 := (hand_cells (Mq.out.hand k hk)).2.2
 have fz2 : wq.frozen? ⟨b, k * 12 + 2, none⟩ = false := there_cell HTH.out (by omega)
 have HOP : Hid ((ps k).open_ = (hs k).open_) := by unfold Hid; rw [← HPL.out k hk]; rfl
 cases hopn : (hs k).open_ with
 | false =>
  rw [hopn] at i2
  have HT : Hid (tellP ps vals x a = (true, ps, vals)) := by unfold Hid; rw [HTP.out, if_neg hc2, if_neg (by simp [hw0]), if_neg (by rw [hop]; simp), if_neg (by rw [hop]; simp), if_neg (by rw [hop]; simp), if_neg (by rw [HOP.out, hopn]; simp), if_neg (by rw [hop]; simp), if_neg (by rw [hop]; simp)]
  have HF : Hid (BkOut own w b ps vals wq) := ⟨own, ⟨hs, Mq.out, HPL.out⟩, HC0.out, fun _ _ h => h⟩
  clear hc2
  go_wp2
  go_ret
  unfold ToldPost
  rw [HT.out]
  exact ⟨rfl, HF.out⟩
 | true =>
  rw [hopn] at i2
  by_cases hc1 : a.code = 1
  ·rw [hc1] at e0
   have HT : Hid (tellP ps vals x a = (true, ps, vals)) := by unfold Hid; rw [HTP.out, if_neg hc2, if_neg (by simp [hw0]), if_neg (by rw [hop]; simp), if_neg (by rw [hop]; simp), if_neg (by rw [hop]; simp), if_neg (fun e => e.2.2 hc1), if_neg (by rw [hop]; simp), if_neg (by rw [hop]; simp)]
   have HF : Hid (BkOut own w b ps vals wq) := ⟨own, ⟨hs, Mq.out, HPL.out⟩, HC0.out, fun _ _ h => h⟩
   clear hc2
   go_wp2
   go_ret
   unfold ToldPost
   rw [HT.out]
   exact ⟨rfl, HF.out⟩
  ·have hc1b : (a.code == 1) = false := by simpa using hc1
   have HT : Hid (tellP ps vals x a = ((noteP (updP ps k { ps k with open_ := false }) k (ps k).x a).1, (noteP (updP ps k { ps k with open_ := false }) k (ps k).x a).2, vals)) := by unfold Hid; rw [HTP.out, if_neg hc2, if_neg (by simp [hw0]), if_neg (by rw [hop]; simp), if_neg (by rw [hop]; simp), if_neg (by rw [hop]; simp), if_pos ⟨hop, by rw [HOP.out, hopn], hc1⟩]
   obtain ⟨m1, ch1⟩ := Mq.out.setOne hk false
   have HM1 : Hid (type_of% m1) := m1
   have HC1 : Hid (ChgD own w (wq.setCell ⟨b, k * 12 + 2, none⟩ (.bool false)) own) := HC0.out.trans ch1
   have HPX : Hid ((ps k).x = (hs k).x) := by unfold Hid; rw [← HPL.out k hk]; rfl
   have HP1 : Hid (∀ q, q < 128 → (updH hs k { hs k with open_ := false } q).pl = updP ps k { ps k with open_ := false } q) := fun q hq => by
    have := upd_pl (k := k) (h' := { hs k with open_ := false }) HPL.out q hq
    rw [this]
    congr 1
    rw [← HPL.out k hk]; rfl
   have hra : (wq.setCell ⟨b, k * 12 + 2, none⟩ (.bool false)).ownsRow 0 94 2 (.slice aq a.items.length cq) a.items.length (itemsV a.items) := ownsRow_frame HRA.out (fun q hq => by
    have ht := HVA.out q hq
    have hl := HM.out.old q (by rw [ht]; simp)
    have hqb : q ≠ b := fun e => by rw [e, HM.out.tag] at ht; cases ht
    rw [heap_setCell_ne _ _ _ _ _ hqb]
    exact (HB1.out.trans (HBq.out.mono HB1.out.size)).block q hl)
   have HRA1 : Hid (type_of% hra) := hra
   have hrx := hand_x (m1.hand k hk)
   have hxe : (updH hs k { hs k with open_ := false } k).x = (hs k).x := by unfold updH; simp
   rw [hxe] at hrx
   obtain ⟨x0, x1, x2, x3, x4, x5, x6, x7, x8⟩ := rangeAt_step hrx
   have n0 := (World.cell?_setCell_other wq ⟨b, k * 12 + 2, none⟩ ⟨w.heap.size + 1, 0, none⟩ (.bool false) (by intro e; injection e with e; exact hby e)).trans e0
   have n1 := (World.cell?_setCell_other wq ⟨b, k * 12 + 2, none⟩ ⟨w.heap.size + 1, 1, none⟩ (.bool false) (by intro e; injection e with e; exact hby e)).trans e1
   have n2 := (World.cell?_setCell_other wq ⟨b, k * 12 + 2, none⟩ ⟨w.heap.size + 1, 2, none⟩ (.bool false) (by intro e; injection e with e; exact hby e)).trans e2
   have HLK : Hid ((updH hs k { hs k with open_ := false } k).done.length < 2000000000000) := by
    have := HLN.out k hk
    rw [← HPL.out k hk] at this
    unfold Hid updH
    simpa [Hd.pl] using this
   have HLV : Hid ((updH hs k { hs k with open_ := false } k).live = (hs k).live) := by unfold Hid updH; simp
   have HXE : Hid ((updH hs k { hs k with open_ := false } k).x = (hs k).x) := hxe
   have HYO : Hid (own (w.heap.size + 1) = none) := by
    unfold Hid
    cases hq : own (w.heap.size + 1) with
    | none => rfl
    | some t => have := HM.out.old (w.heap.size + 1) (by rw [hq]; simp); omega
   have zyr : w.heap.size + 1 < (wq.setCell ⟨b, k * 12 + 2, none⟩ (.bool false)).heap.size := by simpa using zyq
   clear hc2 hra hrx hxe m1 ch1
   go_upto_region 20 with fail
   generalize wq.setCell ⟨b, k * 12 + 2, none⟩ (.bool false) = wr at *
   clear i2 fz2 e0 e1 e2 f3
   by_cases hc0 : a.code = 0
   ·have hnt := fun W (hW : Below wr.heap.size wr W) => note_doneW b k _ vals own (hs k).x a aq cq W (HM1.out.below hW) hk hc0 (ownsRow_below HRA1.out hW) HVA.out HLK.out
    rw [hw0, hc0] at hnt
    rw [hc0] at n0
    have HN : Hid (type_of% hnt) := hnt
    clear hnt
    refine wp_region_Z (z := 7) (S := fun W => W.cell? ⟨b, k * 12 + 3, none⟩ = some (.int .i64 (hs k).x.who.1) ∧ W.cell? ⟨b, k * 12 + 3 + 1, none⟩ = some (.int .i64 (hs k).x.who.2.1) ∧ W.cell? ⟨b, k * 12 + 3 + 2, none⟩ = some (.int .i64 (hs k).x.who.2.2) ∧ W.cell? ⟨b, k * 12 + 3 + 3, none⟩ = some (.int .i64 (hs k).x.op) ∧ W.cell? ⟨b, k * 12 + 3 + 4, none⟩ = some (.int .i64 (hs k).x.at_.1) ∧ W.cell? ⟨b, k * 12 + 3 + 5, none⟩ = some (.int .i64 (hs k).x.at_.2) ∧ W.cell? ⟨b, k * 12 + 3 + 6, none⟩ = some (.int .i64 (hs k).x.key) ∧ W.cell? ⟨b, k * 12 + 3 + 7, none⟩ = some (.int .i64 (hs k).x.to_) ∧ W.cell? ⟨b, k * 12 + 3 + 8, none⟩ = some (.int .i64 (hs k).x.value) ∧ W.cell? ⟨w.heap.size + 1, 0, none⟩ = some (.int .i64 0) ∧ W.cell? ⟨w.heap.size + 1, 1, none⟩ = some (.int .i64 0) ∧ W.cell? ⟨w.heap.size + 1, 2, none⟩ = some (.slice aq a.items.length cq)) (by kernel_rfl) ?_
    have hBd : Below wr.heap.size wr wr.drew := (Below.refl _ _).drew
    have hS : wr.drew.cell? ⟨b, k * 12 + 3, none⟩ = some (.int .i64 (hs k).x.who.1) ∧ wr.drew.cell? ⟨b, k * 12 + 3 + 1, none⟩ = some (.int .i64 (hs k).x.who.2.1) ∧ wr.drew.cell? ⟨b, k * 12 + 3 + 2, none⟩ = some (.int .i64 (hs k).x.who.2.2) ∧ wr.drew.cell? ⟨b, k * 12 + 3 + 3, none⟩ = some (.int .i64 (hs k).x.op) ∧ wr.drew.cell? ⟨b, k * 12 + 3 + 4, none⟩ = some (.int .i64 (hs k).x.at_.1) ∧ wr.drew.cell? ⟨b, k * 12 + 3 + 5, none⟩ = some (.int .i64 (hs k).x.at_.2) ∧ wr.drew.cell? ⟨b, k * 12 + 3 + 6, none⟩ = some (.int .i64 (hs k).x.key) ∧ wr.drew.cell? ⟨b, k * 12 + 3 + 7, none⟩ = some (.int .i64 (hs k).x.to_) ∧ wr.drew.cell? ⟨b, k * 12 + 3 + 8, none⟩ = some (.int .i64 (hs k).x.value) ∧ wr.drew.cell? ⟨w.heap.size + 1, 0, none⟩ = some (.int .i64 0) ∧ wr.drew.cell? ⟨w.heap.size + 1, 1, none⟩ = some (.int .i64 0) ∧ wr.drew.cell? ⟨w.heap.size + 1, 2, none⟩ = some (.slice aq a.items.length cq) := ⟨x0, x1, x2, x3, x4, x5, x6, x7, x8, n0, n1, n2⟩
    refine zT (i := 0) (v := ?v1) (by decide +kernel) rfl (fun _ _ _ h => h) hS (.inl ⟨by rfl, ?y1⟩) ?_
    case y1 => (rintro wz ⟨zs0, zs1, zs2, zs3, zs4, zs5, zs6, zs7, zs8, zs9, zs10, zs11⟩; go_simp <;> with_reducible rfl)
    simp only [Act.put, z1, z2, z4, z5, z6]
    refine zT (i := 1) (v := ?v2) (by decide +kernel) rfl (fun _ _ _ h => h) hS (.inl ⟨by rfl, ?y2⟩) ?_
    case y2 => (rintro wz ⟨zs0, zs1, zs2, zs3, zs4, zs5, zs6, zs7, zs8, zs9, zs10, zs11⟩; go_simp <;> with_reducible rfl)
    simp only [Act.put, z1, z2, z3, z4, z5, z6]
    refine zT (i := 2) (v := ?v3) (by decide +kernel) rfl (fun _ _ _ h => h) hS (.inl ⟨by rfl, ?y3⟩) ?_
    case y3 => (rintro wz ⟨zs0, zs1, zs2, zs3, zs4, zs5, zs6, zs7, zs8, zs9, zs10, zs11⟩; go_simp <;> with_reducible rfl)
    simp only [Act.put, z1, z2, z3, z4, z5, z6]
    refine zT (i := 3) (v := ?v4) (by decide +kernel) rfl (fun _ _ _ h => h) hS (.inl ⟨by rfl, ?y4⟩) ?_
    case y4 => (rintro wz ⟨zs0, zs1, zs2, zs3, zs4, zs5, zs6, zs7, zs8, zs9, zs10, zs11⟩; go_simp <;> with_reducible rfl)
    simp only [Act.put, z1, z2, z3, z4, z5, z6]
    refine zT (i := 4) (v := ?v5) (by decide +kernel) rfl (fun _ _ _ h => h) hS (.inl ⟨by rfl, ?y5⟩) ?_
    case y5 => (rintro wz ⟨zs0, zs1, zs2, zs3, zs4, zs5, zs6, zs7, zs8, zs9, zs10, zs11⟩; go_simp <;> with_reducible rfl)
    simp only [Act.put, z1, z2, z3, z4, z5, z6]
    refine zT (i := 5) (v := ?v6) (by decide +kernel) rfl (fun _ _ _ h => h) hS (.inl ⟨by rfl, ?y6⟩) ?_
    case y6 => (rintro wz ⟨zs0, zs1, zs2, zs3, zs4, zs5, zs6, zs7, zs8, zs9, zs10, zs11⟩; go_simp <;> with_reducible rfl)
    simp only [Act.put, z1, z2, z3, z4, z5, z6]
    refine wpAnyZ_one (i := 6) (by decide +kernel) rfl (fun K hK => ?_)
    go_simp
    refine (HN.out _ hBd).mono ?_
    rintro e w5 ⟨rfl, hP⟩
    obtain ⟨hf1, hf2⟩ := noted_out (own0 := own) HP1.out hk hc0 (HC1.out.trans (ChgD.of_below hBd)) hP rfl
    rw [← HPX.out] at hf1 hf2
    have HF : Hid (BkOut own w b (noteP (updP ps k { ps k with open_ := false }) k (ps k).x a).2 vals w5) := hf1
    have HV : Hid ((noteP (updP ps k { ps k with open_ := false }) k (ps k).x a).1 = (hs k).live) := hf2.trans HLV.out
    rw [HLV.out]
    have hS : w5.cell? ⟨b, k * 12 + 3, none⟩ = some (.int .i64 (hs k).x.who.1) ∧ w5.cell? ⟨b, k * 12 + 3 + 1, none⟩ = some (.int .i64 (hs k).x.who.2.1) ∧ w5.cell? ⟨b, k * 12 + 3 + 2, none⟩ = some (.int .i64 (hs k).x.who.2.2) ∧ w5.cell? ⟨b, k * 12 + 3 + 3, none⟩ = some (.int .i64 (hs k).x.op) ∧ w5.cell? ⟨b, k * 12 + 3 + 4, none⟩ = some (.int .i64 (hs k).x.at_.1) ∧ w5.cell? ⟨b, k * 12 + 3 + 5, none⟩ = some (.int .i64 (hs k).x.at_.2) ∧ w5.cell? ⟨b, k * 12 + 3 + 6, none⟩ = some (.int .i64 (hs k).x.key) ∧ w5.cell? ⟨b, k * 12 + 3 + 7, none⟩ = some (.int .i64 (hs k).x.to_) ∧ w5.cell? ⟨b, k * 12 + 3 + 8, none⟩ = some (.int .i64 (hs k).x.value) ∧ w5.cell? ⟨w.heap.size + 1, 0, none⟩ = some (.int .i64 0) ∧ w5.cell? ⟨w.heap.size + 1, 1, none⟩ = some (.int .i64 0) ∧ w5.cell? ⟨w.heap.size + 1, 2, none⟩ = some (.slice aq a.items.length cq) := by
     obtain ⟨hs', vals', own', m', ch, _, rfl, N⟩ := hP
     have hx5 := hand_x (m'.hand k hk)
     rw [N.x, HXE.out] at hx5
     obtain ⟨y0, y1, y2, y3, y4, y5, y6, y7, y8⟩ := rangeAt_step hx5
     have nn : ∀ j, w5.cell? ⟨w.heap.size + 1, j, none⟩ = wr.cell? ⟨w.heap.size + 1, j, none⟩ := fun j => by unfold World.cell?; rw [ch.block (w.heap.size + 1) zyr HYO.out]; rfl
     exact ⟨y0, y1, y2, y3, y4, y5, y6, y7, y8, (nn 0).trans n0, (nn 1).trans n1, (nn 2).trans n2⟩
    clear hf1 hf2 hP
    refine hK _ _ (fun _ => hS) ?_
    clear hK
    refine wpAnyZ_one (i := 7) (by decide +kernel) rfl (fun K hK => ?_)
    go_simp
    refine hK _ _ (fun h => absurd rfl h) ?_
    clear hK
    refine wpAnyZ_done (by decide +kernel) ?_ _
    go_wp2
    go_ret
    unfold ToldPost
    rw [HT.out]
    exact ⟨by rw [HV.out]; rfl, HF.out⟩
   ·have hnt := fun W => note_else b k (hs k).x a aq cq W hc0
    rw [hw0] at hnt
    have HN : Hid (type_of% hnt) := hnt
    rw [noteP_else hc0] at HT
    clear hnt
    refine wp_region_Z (z := 7) (S := fun W => W.cell? ⟨b, k * 12 + 3, none⟩ = some (.int .i64 (hs k).x.who.1) ∧ W.cell? ⟨b, k * 12 + 3 + 1, none⟩ = some (.int .i64 (hs k).x.who.2.1) ∧ W.cell? ⟨b, k * 12 + 3 + 2, none⟩ = some (.int .i64 (hs k).x.who.2.2) ∧ W.cell? ⟨b, k * 12 + 3 + 3, none⟩ = some (.int .i64 (hs k).x.op) ∧ W.cell? ⟨b, k * 12 + 3 + 4, none⟩ = some (.int .i64 (hs k).x.at_.1) ∧ W.cell? ⟨b, k * 12 + 3 + 5, none⟩ = some (.int .i64 (hs k).x.at_.2) ∧ W.cell? ⟨b, k * 12 + 3 + 6, none⟩ = some (.int .i64 (hs k).x.key) ∧ W.cell? ⟨b, k * 12 + 3 + 7, none⟩ = some (.int .i64 (hs k).x.to_) ∧ W.cell? ⟨b, k * 12 + 3 + 8, none⟩ = some (.int .i64 (hs k).x.value) ∧ W.cell? ⟨w.heap.size + 1, 0, none⟩ = some (.int .i64 a.code) ∧ W.cell? ⟨w.heap.size + 1, 1, none⟩ = some (.int .i64 0) ∧ W.cell? ⟨w.heap.size + 1, 2, none⟩ = some (.slice aq a.items.length cq)) (by kernel_rfl) ?_
    have hBd : Below wr.heap.size wr wr.drew := (Below.refl _ _).drew
    have hS : wr.drew.cell? ⟨b, k * 12 + 3, none⟩ = some (.int .i64 (hs k).x.who.1) ∧ wr.drew.cell? ⟨b, k * 12 + 3 + 1, none⟩ = some (.int .i64 (hs k).x.who.2.1) ∧ wr.drew.cell? ⟨b, k * 12 + 3 + 2, none⟩ = some (.int .i64 (hs k).x.who.2.2) ∧ wr.drew.cell? ⟨b, k * 12 + 3 + 3, none⟩ = some (.int .i64 (hs k).x.op) ∧ wr.drew.cell? ⟨b, k * 12 + 3 + 4, none⟩ = some (.int .i64 (hs k).x.at_.1) ∧ wr.drew.cell? ⟨b, k * 12 + 3 + 5, none⟩ = some (.int .i64 (hs k).x.at_.2) ∧ wr.drew.cell? ⟨b, k * 12 + 3 + 6, none⟩ = some (.int .i64 (hs k).x.key) ∧ wr.drew.cell? ⟨b, k * 12 + 3 + 7, none⟩ = some (.int .i64 (hs k).x.to_) ∧ wr.drew.cell? ⟨b, k * 12 + 3 + 8, none⟩ = some (.int .i64 (hs k).x.value) ∧ wr.drew.cell? ⟨w.heap.size + 1, 0, none⟩ = some (.int .i64 a.code) ∧ wr.drew.cell? ⟨w.heap.size + 1, 1, none⟩ = some (.int .i64 0) ∧ wr.drew.cell? ⟨w.heap.size + 1, 2, none⟩ = some (.slice aq a.items.length cq) := ⟨x0, x1, x2, x3, x4, x5, x6, x7, x8, n0, n1, n2⟩
    refine zT (i := 0) (v := ?v7) (by decide +kernel) rfl (fun _ _ _ h => h) hS (.inl ⟨by rfl, ?y7⟩) ?_
    case y7 => (rintro wz ⟨zs0, zs1, zs2, zs3, zs4, zs5, zs6, zs7, zs8, zs9, zs10, zs11⟩; go_simp <;> with_reducible rfl)
    simp only [Act.put, z1, z2, z4, z5, z6]
    refine zT (i := 1) (v := ?v8) (by decide +kernel) rfl (fun _ _ _ h => h) hS (.inl ⟨by rfl, ?y8⟩) ?_
    case y8 => (rintro wz ⟨zs0, zs1, zs2, zs3, zs4, zs5, zs6, zs7, zs8, zs9, zs10, zs11⟩; go_simp <;> with_reducible rfl)
    simp only [Act.put, z1, z2, z3, z4, z5, z6]
    refine zT (i := 2) (v := ?v9) (by decide +kernel) rfl (fun _ _ _ h => h) hS (.inl ⟨by rfl, ?y9⟩) ?_
    case y9 => (rintro wz ⟨zs0, zs1, zs2, zs3, zs4, zs5, zs6, zs7, zs8, zs9, zs10, zs11⟩; go_simp <;> with_reducible rfl)
    simp only [Act.put, z1, z2, z3, z4, z5, z6]
    refine zT (i := 3) (v := ?v10) (by decide +kernel) rfl (fun _ _ _ h => h) hS (.inl ⟨by rfl, ?y10⟩) ?_
    case y10 => (rintro wz ⟨zs0, zs1, zs2, zs3, zs4, zs5, zs6, zs7, zs8, zs9, zs10, zs11⟩; go_simp <;> with_reducible rfl)
    simp only [Act.put, z1, z2, z3, z4, z5, z6]
    refine zT (i := 4) (v := ?v11) (by decide +kernel) rfl (fun _ _ _ h => h) hS (.inl ⟨by rfl, ?y11⟩) ?_
    case y11 => (rintro wz ⟨zs0, zs1, zs2, zs3, zs4, zs5, zs6, zs7, zs8, zs9, zs10, zs11⟩; go_simp <;> with_reducible rfl)
    simp only [Act.put, z1, z2, z3, z4, z5, z6]
    refine zT (i := 5) (v := ?v12) (by decide +kernel) rfl (fun _ _ _ h => h) hS (.inl ⟨by rfl, ?y12⟩) ?_
    case y12 => (rintro wz ⟨zs0, zs1, zs2, zs3, zs4, zs5, zs6, zs7, zs8, zs9, zs10, zs11⟩; go_simp <;> with_reducible rfl)
    simp only [Act.put, z1, z2, z3, z4, z5, z6]
    refine wpAnyZ_one (i := 6) (by decide +kernel) rfl (fun K hK => ?_)
    go_simp
    refine (HN.out _).mono ?_
    rintro e w5 ⟨rfl, hb5⟩
    have hb6 : Below wr.heap.size wr w5 := hBd.trans (hb5.mono hBd.size)
    have HF : Hid (BkOut own w b (updP ps k { ps k with open_ := false }) vals w5) := ⟨own, ⟨_, HM1.out.below hb6, HP1.out⟩, HC1.out.trans (ChgD.of_below hb6), fun _ _ h => h⟩
    have hS : w5.cell? ⟨b, k * 12 + 3, none⟩ = some (.int .i64 (hs k).x.who.1) ∧ w5.cell? ⟨b, k * 12 + 3 + 1, none⟩ = some (.int .i64 (hs k).x.who.2.1) ∧ w5.cell? ⟨b, k * 12 + 3 + 2, none⟩ = some (.int .i64 (hs k).x.who.2.2) ∧ w5.cell? ⟨b, k * 12 + 3 + 3, none⟩ = some (.int .i64 (hs k).x.op) ∧ w5.cell? ⟨b, k * 12 + 3 + 4, none⟩ = some (.int .i64 (hs k).x.at_.1) ∧ w5.cell? ⟨b, k * 12 + 3 + 5, none⟩ = some (.int .i64 (hs k).x.at_.2) ∧ w5.cell? ⟨b, k * 12 + 3 + 6, none⟩ = some (.int .i64 (hs k).x.key) ∧ w5.cell? ⟨b, k * 12 + 3 + 7, none⟩ = some (.int .i64 (hs k).x.to_) ∧ w5.cell? ⟨b, k * 12 + 3 + 8, none⟩ = some (.int .i64 (hs k).x.value) ∧ w5.cell? ⟨w.heap.size + 1, 0, none⟩ = some (.int .i64 a.code) ∧ w5.cell? ⟨w.heap.size + 1, 1, none⟩ = some (.int .i64 0) ∧ w5.cell? ⟨w.heap.size + 1, 2, none⟩ = some (.slice aq a.items.length cq) := ⟨cell_later hb6 x0, cell_later hb6 x1, cell_later hb6 x2, cell_later hb6 x3, cell_later hb6 x4, cell_later hb6 x5, cell_later hb6 x6, cell_later hb6 x7, cell_later hb6 x8, cell_later hb6 n0, cell_later hb6 n1, cell_later hb6 n2⟩
    clear hb5 hb6
    refine hK _ _ (fun _ => hS) ?_
    clear hK
    refine wpAnyZ_one (i := 7) (by decide +kernel) rfl (fun K hK => ?_)
    go_simp
    refine hK _ _ (fun h => absurd rfl h) ?_
    clear hK
    refine wpAnyZ_done (by decide +kernel) ?_ _
    go_wp2
    go_ret
    unfold ToldPost
    rw [HT.out]
    exact ⟨rfl, HF.out⟩
theorem bookTold_any (b : Nat) (ps : Nat → Pd) (vals : Nat → Int) (own : Own) (x : Stp) (a : Ans) (aq : Option Addr) (cq : Nat) (w : World) (TI : TellIn w b ps vals own a aq cq) :
  Calls Try.prog 34 #[.pointer (some ⟨b, 0, none⟩), .agg #[.int .i64 x.who.1, .int .i64 x.who.2.1, .int .i64 x.who.2.2, .int .i64 x.op, .int .i64 x.at_.1, .int .i64 x.at_.2, .int .i64 x.key, .int .i64 x.to_, .int .i64 x.value], .agg #[.int .i64 a.code, .int .i64 a.why, .slice aq a.items.length cq]] w (ToldPost own w b ps vals x a) := by
 cases hp : properB x with
 | false => exact told_bad b ps vals own x a aq cq w TI hp
 | true =>
  have hpo := (proper_of hp).op
  by_cases hc2 : a.code = 2
  ·exact told_aborted b ps vals own x a aq cq w TI hp hc2
  ·by_cases hw0 : a.why = 0
   ·rcases (show x.op = 1 ∨ x.op = 7 ∨ x.op = 6 ∨ x.op = 8 ∨ (2 ≤ x.op ∧ x.op ≤ 5) by omega) with h | h | h | h | h
    ·exact told_begin b ps vals own x a aq cq w TI hp hc2 hw0 h
    ·exact told_abort b ps vals own x a aq cq w TI hp hc2 hw0 h
    ·exact told_commit b ps vals own x a aq cq w TI hp hc2 hw0 h
    ·exact told_poll b ps vals own x a aq cq w TI hp hc2 hw0 h
    ·by_cases hc1 : a.code = 1
     ·exact told_blocked b ps vals own x a aq cq w TI hp hc2 hw0 h.1 h.2 hc1
     ·exact told_noted b ps vals own x a aq cq w TI hp hc2 hw0 h.1 h.2 hc1
   ·exact told_why b ps vals own x a aq cq w TI hp hc2 hw0
def bookZ : List Value := (List.replicate 128 (handC hd0)).flatten ++ List.replicate 512 (.int .i64 0)
theorem cellsBook_chk : chk (cellsAt Try.prog 84) bookZ = true := by kernel_rfl
theorem infoBook : ∃ i z, Try.prog.info? 84 = some i ∧ i.zero = some z ∧ z.cells.toList = bookZ := by
 have h := chk_sound _ _ cellsBook_chk
 unfold cellsAt at h
 cases hi : Try.prog.info? 84 with
 | none => rw [hi] at h; cases h
 | some i =>
  cases hz : i.zero with
  | none => rw [hi] at h; simp only [Option.bind_some, hz] at h; cases h
  | some z => rw [hi] at h; simp only [Option.bind_some, hz] at h; exact ⟨i, z, rfl, hz, h⟩
theorem sizeHands : (Try.prog.info? 81).map (·.size) = some 1536 := by kernel_rfl
theorem sizeVals : (Try.prog.info? 82).map (·.size) = some 512 := by kernel_rfl
theorem builtBook : Try.prog.built 84 [] = some ⟨bookZ⟩ := by
 obtain ⟨i, z, hi, hz, hc⟩ := infoBook
 have hz' : z.cells = ⟨bookZ⟩ := by rw [← hc]
 unfold Program.built
 rw [hi, Try.underlying84]
 simp only [hz]
 obtain ⟨i1, h1, s1⟩ := info_of sizeHands
 obtain ⟨i2, h2, s2⟩ := info_of sizeVals
 simp only [List.mapM_cons, List.mapM_nil, h1, h2, s1, s2, Option.map_some, Option.bind_eq_bind, Option.bind_some, Option.pure_def]
 rw [hz']
 rfl
theorem len_bookH : (List.replicate 128 (handC hd0)).flatten.length = 1536 := by
 rw [len_flat, len_handC]
theorem bookZ_hand {k j : Nat} (hk : k < 128) (hj : j < 12) : bookZ[k * 12 + j]? = (handC hd0)[j]? := by
 unfold bookZ
 rw [List.getElem?_append_left (by rw [len_bookH]; omega)]
 have := flat_get (handC hd0) 128 k j hk (by rw [len_handC]; exact hj)
 rw [len_handC] at this
 exact this
theorem bookZ_val {j : Nat} (hj : j < 512) : bookZ[1536 + j]? = some (.int .i64 0) := by
 unfold bookZ
 rw [List.getElem?_append_right (by rw [len_bookH]; omega), len_bookH, List.getElem?_replicate, if_pos (by omega)]
theorem len_bookZ : bookZ.length = 2048 := by
 unfold bookZ
 rw [List.length_append, len_bookH, List.length_replicate]
theorem mk_get (l : List Value) (i : Nat) : (⟨l⟩ : Array Value)[i]? = l[i]? := by simp
theorem book0 {w : World} {b : Nat} (h : w.heap[b]? = some (.cells ⟨bookZ⟩ 84 (0, 0))) : BkMem w b (fun _ => hd0) (fun _ => 0) (own0 b) := by
 refine ⟨⟨_, h, by show bookZ.length = 2048; exact len_bookZ⟩, fun k hk j u hu => ?_, fun j hj => ?_, by simp [own0], fun k hk => ⟨World.ownsRow_nil _ _ _ _, fun q hq => by cases hq⟩, fun k hk d hd => (by cases hd), fun q hq => ?_⟩
 ·have hj : j < 12 := by rw [← len_handC hd0]; exact (List.getElem?_eq_some_iff.1 hu).1
  rw [cell_of_row w b _ _ _ _ h, mk_get, bookZ_hand hk hj]; exact hu
 ·rw [cell_of_row w b _ _ _ _ h, mk_get]
  exact bookZ_val hj
 ·have := own0_at hq
  subst this
  exact (Array.getElem?_eq_some_iff.1 h).1
theorem BkMem.vals {w : World} {b : Nat} {hs : Nat → Hd} {vals vals' : Nat → Int} {own : Own} (m : BkMem w b hs vals own) (h : ∀ j, j < 512 → vals' j = vals j) : BkMem w b hs vals' own :=
 { m with val := fun j hj => by rw [h j hj]; exact m.val j hj }
def valsTo (n : Nat) : Nat → Int := fun j => if j < n then -1 else 0
theorem valsTo_succ (n : Nat) : updV (valsTo n) n (-1) = valsTo (n + 1) := by
 funext j
 unfold updV valsTo
 by_cases e : j = n
 ·rw [if_pos e, if_pos (by omega)]
 ·rw [if_neg e]
  by_cases h : j < n
  ·rw [if_pos h, if_pos (by omega)]
  ·rw [if_neg h, if_neg (by omega)]
def NewBk (w : World) (b n : Nat) (wr : World) : Prop := BkMem wr b (fun _ => hd0) (valsTo n) (own0 b) ∧ Below w.heap.size w wr
theorem NewBk.step {w : World} {b n : Nat} {wr : World} (h : NewBk w b n wr) (hn : n < 512) (hb : w.heap.size ≤ b) : NewBk w b (n + 1) (wr.setCell ⟨b, 1536 + n, none⟩ (.int .i64 (-1))) := by
 have := h.1.setVal hn (-1)
 rw [valsTo_succ] at this
 exact ⟨this, h.2.setCell hb _⟩
theorem newBook_any (w : World) : Calls Try.prog 33 #[] w fun e w' => e = .returned (.pointer (some ⟨w.heap.size, 0, none⟩)) ∧ Below w.heap.size w w' ∧ BkAt w' w.heap.size (fun _ => pd0) (fun _ => -1) (own0 w.heap.size) := by
 go_enter Try.func33, Try.ntmps33
 go_upto_region 2 with (refine wpList_build_to rfl 84 _ rfl [] ?hl _ builtBook ?_)
 have hA : Below w.heap.size w (w.alloc (.cells ⟨bookZ⟩ 84)) := (Below.refl _ _).alloc (Nat.le_refl _) _
 have hX : (w.alloc (.cells ⟨bookZ⟩ 84)).heap[w.heap.size]? = some (.cells ⟨bookZ⟩ 84 (0, 0)) := heap_alloc_new w _
 have hN : NewBk w w.heap.size 0 (w.alloc (.cells ⟨bookZ⟩ 84)) := ⟨(book0 hX).vals (fun j _ => by unfold valsTo; simp), hA⟩
 have HN : Hid (type_of% hN) := hN
 clear hA hX hN
 generalize w.alloc (.cells ⟨bookZ⟩ 84) = wA at *
 generalize hbb : w.heap.size = b at *
 have Hbb : Hid (w.heap.size = b) := hbb
 clear hbb
 go_wp2_with fail
 go_loopw [2] (fun i wr => ∃ l : Nat, l ≤ 32 ∧ i = .int .i64 l ∧ Hid (NewBk w b (16 * l) wr)) (fun i _ => 32 - (intOf i).toNat)
 case atStart => exact ⟨0, by omega, rfl, HN⟩
 case round =>
  obtain ⟨l, hl, rfl, Il⟩ := hrel
  by_cases hlt : l < 32
  ·have zl : (l : Int) < 32 := by omega
   go_wp2_with fail
   go_loopw [3] (fun i wr => ∃ k : Nat, k ≤ 16 ∧ i = .int .i64 k ∧ Hid (NewBk w b (16 * l + k) wr)) (fun i _ => 16 - (intOf i).toNat)
   case atStart => exact ⟨0, by omega, rfl, Il⟩
   case round =>
    obtain ⟨k, hk, rfl, Ik⟩ := hrel
    by_cases hkt : k < 16
    ·have zk : (k : Int) < 16 := by omega
     have hc : wr.cell? ⟨b, 1536 + l * 16 + k, none⟩ = some (.int .i64 (valsTo (16 * l + k) (16 * l + k))) := by
      rw [show 1536 + l * 16 + k = 1536 + (16 * l + k) by omega]; exact Ik.out.1.val (16 * l + k) (by omega)
     have hf : wr.frozen? ⟨b, 1536 + l * 16 + k, none⟩ = false := by
      have := (Ik.out.1.there (o := 1536 + l * 16) (n := 16) (by omega) k hkt).2
      exact this
     have I1 : Hid (NewBk w b (16 * l + (k + 1)) (wr.setCell ⟨b, 1536 + l * 16 + k, none⟩ (.int .i64 (-1)))) := by
      have := Ik.out.step (by omega) (by have := Hbb.out; omega)
      rw [show 1536 + (16 * l + k) = 1536 + l * 16 + k by omega] at this
      exact this
     have hbl : b < wr.heap.size := Ik.out.1.old b (by rw [Ik.out.1.tag]; simp)
     go_wp2
     go_roundw
     case rel => exact ⟨k + 1, by omega, by go_num, I1⟩
     case measure => simp [intOf]; omega
    ·have e : k = 16 := by omega
     subst e
     go_wp2
     go_roundw
     case rel => exact ⟨l + 1, by omega, by go_num, by rw [show 16 * (l + 1) = 16 * l + 16 by omega]; exact Ik⟩
     case measure => simp [intOf]; omega
  ·have e : l = 32 := by omega
   subst e
   go_wp2
   go_ret
   have e1 := Hbb.out
   subst e1
   refine ⟨rfl, Il.out.2, fun _ => hd0, Il.out.1.vals (fun j hj => ?_), fun k _ => rfl⟩
   unfold valsTo
   rw [if_pos (by omega)]
end Go.Proofs.Ytpbcplfpjcacfaa
