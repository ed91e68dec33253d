import Derived.Test.YtpbcplfpjcacfaaB28
namespace Go.Proofs.Ytpbcplfpjcacfaa
open Go.RowKit
set_option maxRecDepth 100000
set_option maxHeartbeats 8000000
theorem closed_is (f : Wtg) (w : World) : Calls Try.prog 125 #[.agg (wtgC f).toArray] w (WtgPost w f.closed) := by
 go_enter Try.func125, Try.ntmps125
 go_upto_region 1 with fail
 rw [zeroWtg]
 have hz1 : (w.alloc (wtgObj f)).heap.size = w.heap.size + 1 := by simp
 have B1 : Hid (Below w.heap.size w ((w.alloc (wtgObj f)).alloc (wtgObj wtg0))) := below2r
 have T1 : Hid (WtgAt ((w.alloc (wtgObj f)).alloc (wtgObj wtg0)) w.heap.size (f.viaTo 0)) := WtgAt.new.frame (heap_alloc_old (by simp))
 have T2 : Hid (WtgAt ((w.alloc (wtgObj f)).alloc (wtgObj wtg0)) (w.heap.size + 1) wtg0) := by
  show WtgAt _ _ _
  rw [← hz1]; exact WtgAt.new
 clear hz1
 generalize (w.alloc (wtgObj f)).alloc (wtgObj wtg0) = W1 at *
 go_wp2_with fail
 go_loopw [6] (fun i wr => ∃ v : Nat, v ≤ 4 ∧ i = .int .i64 v ∧ Hid (WtgAt wr w.heap.size (f.viaTo v)) ∧ Hid (WtgAt wr (w.heap.size + 1) wtg0) ∧ Hid (Below w.heap.size w wr)) (fun i _ => 4 - (intOf i).toNat)
 case atStart => exact ⟨0, Nat.zero_le _, rfl, T1, T2, B1⟩
 case round =>
  obtain ⟨v, hv, rfl, I, IZ, IB⟩ := hrel
  by_cases hlt : v < 4
  ·have zv : (v : Int) < 4 := by omega
   have HV : Hid (f.viaTo (v + 1) = (f.viaTo v).fromTo v 4) := rfl
   have J0 : Hid (WtgAt wr w.heap.size ((f.viaTo v).fromTo v 0)) := I
   generalize f.viaTo v = g at *
   go_wp2_with fail
   go_loopw [9] (fun i wr => ∃ c : Nat, c ≤ 4 ∧ i = .int .i64 c ∧ Hid (WtgAt wr w.heap.size (g.fromTo v c)) ∧ Hid (WtgAt wr (w.heap.size + 1) wtg0) ∧ Hid (Below w.heap.size w wr)) (fun i _ => 4 - (intOf i).toNat)
   case atStart => exact ⟨0, Nat.zero_le _, rfl, J0, IZ, IB⟩
   case round =>
    obtain ⟨c, hc, rfl, J, JZ, JB⟩ := hrel
    by_cases hlt2 : c < 4
    ·have zc : (c : Int) < 4 := by omega
     have HC : Hid (g.fromTo v (c + 1) = (g.fromTo v c).toTo v c 4) := rfl
     have K0 : Hid (WtgAt wr w.heap.size ((g.fromTo v c).toTo v c 0)) := J
     generalize g.fromTo v c = h at *
     go_wp2_with fail
     go_loopw [12] (fun i wr => ∃ t : Nat, t ≤ 4 ∧ i = .int .i64 t ∧ Hid (WtgAt wr w.heap.size (h.toTo v c t)) ∧ Hid (WtgAt wr (w.heap.size + 1) wtg0) ∧ Hid (Below w.heap.size w wr)) (fun i _ => 4 - (intOf i).toNat)
     case atStart => exact ⟨0, Nat.zero_le _, rfl, K0, JZ, JB⟩
     case round =>
      obtain ⟨t, ht, rfl, K, KZ, KB⟩ := hrel
      by_cases hlt3 : t < 4
      ·have zt : (t : Int) < 4 := by omega
       have c0 := K.out.cell hlt2 hlt
       have c1 := K.out.cell hlt hlt3
       have c2 := K.out.cell hlt2 hlt3
       have f2 := K.out.froz (c * 4 + t)
       have HT : Hid (h.toTo v c (t + 1) = if (h.toTo v c t) c v && (h.toTo v c t) v t then (h.toTo v c t).set c t true else h.toTo v c t) := rfl
       generalize h.toTo v c t = k at *
       have hbl := K.out.lt
       cases h1 : k c v
       ·rw [h1] at c0 HT
        have K' : Hid (WtgAt wr w.heap.size (h.toTo v c (t + 1))) := by show WtgAt _ _ _; rw [HT.out]; exact K.out
        go_wp2
        go_roundw
        case rel => exact ⟨t + 1, by omega, by go_num, K', KZ, KB⟩
        case measure => simp [intOf]; omega
       ·rw [h1] at c0 HT
        cases h2 : k v t
        ·rw [h2] at c1 HT
         have K' : Hid (WtgAt wr w.heap.size (h.toTo v c (t + 1))) := by show WtgAt _ _ _; rw [HT.out]; exact K.out
         go_wp2
         go_roundw
         case rel => exact ⟨t + 1, by omega, by go_num, K', KZ, KB⟩
         case measure => simp [intOf]; omega
        ·rw [h2] at c1 HT
         have K' : Hid (WtgAt (wr.setCell ⟨w.heap.size, c * 4 + t, none⟩ (.bool true)) w.heap.size (h.toTo v c (t + 1))) := by show WtgAt _ _ _; rw [HT.out]; exact K.out.set hlt2 hlt3 true
         have KZ' : Hid (WtgAt (wr.setCell ⟨w.heap.size, c * 4 + t, none⟩ (.bool true)) (w.heap.size + 1) wtg0) := KZ.out.frame (heap_setCell_ne _ _ _ _ _ (by omega))
         have KB' : Hid (Below w.heap.size w (wr.setCell ⟨w.heap.size, c * 4 + t, none⟩ (.bool true))) := KB.out.setCell (p := ⟨w.heap.size, c * 4 + t, none⟩) (Nat.le_refl _) _
         go_wp2
         go_roundw
         case rel => exact ⟨t + 1, by omega, by go_num, K', KZ', KB'⟩
         case measure => simp [intOf]; omega
      ·have e : t = 4 := by omega
       subst e
       have J' : Hid (WtgAt wr w.heap.size (g.fromTo v (c + 1))) := by show WtgAt _ _ _; rw [HC.out]; exact K.out
       go_wp2
       go_roundw
       case rel => exact ⟨c + 1, by omega, by go_num, J', KZ, KB⟩
       case measure => simp [intOf]; omega
    ·have e : c = 4 := by omega
     subst e
     have I' : Hid (WtgAt wr w.heap.size (f.viaTo (v + 1))) := by show WtgAt _ _ _; rw [HV.out]; exact J.out
     go_wp2
     go_roundw
     case rel => exact ⟨v + 1, by omega, by go_num, I', JZ, JB⟩
     case measure => simp [intOf]; omega
  ·have e : v = 4 := by omega
   subst e
   have I' : Hid (WtgAt wr w.heap.size f.closed) := I
   generalize f.closed = g at *
   have HT : Hid (wr.there (w.heap.size + 1) 0 (wtgC g).toArray.size) := IZ.out.there (by rw [List.size_toArray, len_wtgC]; omega)
   go_wp2_with (first | (refine wpList_load_mid rfl 180 _ rfl w.heap.size 0 rfl (wtgC g) _ I'.out.2 Try.underlying180 rfl (by rw [len_wtgC]; exact size_wtg) ?_) | (refine wpList_store_mid rfl 180 _ _ rfl (w.heap.size + 1) 0 (wtgC g).toArray rfl rfl HT.out (by rw [List.size_toArray, len_wtgC]; exact size_wtg) (wtg_one _) ?_))
   exact wtg_ret Try.results125 rfl rfl (IZ.out.all g).2 ⟨rfl, below_setCells (by omega) _ _ _ IB.out⟩
def YgPost (w : World) (o : Option Nat) (e : Ending) (w' : World) : Prop := Below w.heap.size w w' ∧ match o with
 | none => e = .returned (.tuple #[.int .i64 0, .bool false])
 | some y => e = .returned (.tuple #[.int .i64 (y : Int), .bool true])
theorem begRow_at {w : World} {p q : Nat} {s : PS} {own : Own} {G : PG} (m : PMem w p s own G) (hq : q < 32) : ∃ ao cap, G.b q = .slice ao (s.t q).begun.length cap ∧ ∀ k (n : Nat), (s.t q).begun[k]? = some n → ∃ b, ao = some ⟨b, 0, none⟩ ∧ own b = some (begTag q) ∧ b < w.heap.size ∧ w.cell? ⟨b, k, none⟩ = some (.int .i64 (n : Int)) := by
 obtain ⟨ao, cap, h1, _, h3⟩ := (m.begR q hq).form len_natC
 refine ⟨ao, cap, h1, fun k n hk => ?_⟩
 obtain ⟨b, e1, e2, e3, e4, _⟩ := h3 k n hk
 refine ⟨b, e1, e2, e3, ?_⟩
 have := e4 0 _ rfl
 simpa using this
theorem rev_take {l : List Nat} {k n : Nat} (h : l[k]? = some n) : (l.take (k + 1)).reverse = n :: (l.take k).reverse := by
 obtain ⟨h1, h2⟩ := List.getElem?_eq_some_iff.1 h
 rw [List.take_succ_eq_append_getElem h1, h2, List.reverse_append]
 rfl
theorem youngest_is {w : World} {p q n : Nat} {s : PS} {own : Own} {G : PG} (m : PMem w p s own G) (hq : q < 32) (hn : n < 4) (F : s.Fit) :
  Calls Try.prog 102 #[.pointer (some ⟨p, tO q, none⟩), .int .i64 n] w (YgPost w ((s.t q).youngest n)) := by
 have M : Hid (PMem w p s own G) := m
 have HF : Hid s.Fit := F
 have hp := m.lt
 have HBL : Hid (∀ n ∈ (s.t q).begun, n < 4) := (F.tr q hq).begL
 have hb4 := (F.short q hq).1
 have zn : (n : Int) < 4 := by omega
 clear m F
 have HY : Hid ((s.t q).youngest n = (s.t q).begun.reverse.find? (fun o => (s.t q).firstHand.closed n o && (s.t q).firstHand.closed o n)) := rfl
 have hFH := firstHand_is (q := q) M.out hq HF.out
 generalize (s.t q).firstHand = f0 at *
 have HFH : Hid (Calls _ _ _ _ _) := hFH
 clear hFH
 go_enter Try.func102, Try.ntmps102
 go_wp2_with fail
 refine HFH.out.mono ?_
 rintro e w1 ⟨rfl, hb1⟩
 have T0 : Hid (WtgAt (w1.alloc (wtgObj wtg0)) w1.heap.size wtg0) := WtgAt.new
 have HT1 : Hid ((w1.alloc (wtgObj wtg0)).there w1.heap.size 0 (wtgC f0).toArray.size) := T0.out.there (by rw [List.size_toArray, len_wtgC]; omega)
 have T1 : Hid (WtgAt ((w1.alloc (wtgObj wtg0)).setCells w1.heap.size 0 (wtgC f0)) w1.heap.size f0) := T0.out.all f0
 have B1 : Hid (Below w.heap.size w ((w1.alloc (wtgObj wtg0)).setCells w1.heap.size 0 (wtgC f0))) := below_setCells hb1.size _ _ _ (hb1.alloc hb1.size _)
 go_upto_region 2 with (first | (refine wpList_store_mid rfl 180 _ _ rfl w1.heap.size 0 (wtgC f0).toArray rfl rfl HT1.out (by rw [List.size_toArray, len_wtgC]; exact size_wtg) (wtg_one _) ?_))
 rw [zeroWtg]
 simp only [Act.put]
 generalize (w1.alloc (wtgObj wtg0)).setCells w1.heap.size 0 (wtgC f0) = W2 at *
 clear T0 HT1 hb1
 go_wp2_with (first | (refine wpList_load_mid rfl 180 _ rfl w1.heap.size 0 rfl (wtgC f0) _ T1.out.2 Try.underlying180 rfl (by rw [len_wtgC]; exact size_wtg) ?_))
 refine (closed_is f0 W2).mono ?_
 generalize f0.closed = f at *
 rintro e w3 ⟨rfl, hb3⟩
 have B3 : Hid (Below w.heap.size w w3) := B1.out.trans (hb3.mono B1.out.size)
 have T0 : Hid (WtgAt (w3.alloc (wtgObj wtg0)) w3.heap.size wtg0) := WtgAt.new
 have HT3 : Hid ((w3.alloc (wtgObj wtg0)).there w3.heap.size 0 (wtgC f).toArray.size) := T0.out.there (by rw [List.size_toArray, len_wtgC]; omega)
 have T3 : Hid (WtgAt ((w3.alloc (wtgObj wtg0)).setCells w3.heap.size 0 (wtgC f)) w3.heap.size f) := T0.out.all f
 have B4 : Hid (Below w.heap.size w ((w3.alloc (wtgObj wtg0)).setCells w3.heap.size 0 (wtgC f))) := below_setCells B3.out.size _ _ _ (B3.out.alloc B3.out.size _)
 go_upto_region 3 with (first | (refine wpList_store_mid rfl 180 _ _ rfl w3.heap.size 0 (wtgC f).toArray rfl rfl HT3.out (by rw [List.size_toArray, len_wtgC]; exact size_wtg) (wtg_one _) ?_))
 rw [zeroWtg]
 simp only [Act.put]
 generalize (w3.alloc (wtgObj wtg0)).setCells w3.heap.size 0 (wtgC f) = W4 at *
 clear T0 HT3 hb3
 have M4 : Hid (PMem W4 p s own G) := M.out.below B4.out
 obtain ⟨ao, cap, hv, hel⟩ := begRow_at M4.out hq
 have hc := M4.out.begC hq
 rw [hv] at hc
 have HEL : Hid (∀ k (n : Nat), (s.t q).begun[k]? = some n → ∃ b, ao = some ⟨b, 0, none⟩ ∧ own b = some (begTag q) ∧ b < W4.heap.size ∧ W4.cell? ⟨b, k, none⟩ = some (.int .i64 (n : Int))) := hel
 have hp4 := M4.out.lt
 have hz4 := T3.out.lt
 clear hv hel
 have I0 : Hid (((s.t q).begun.take (s.t q).begun.length).reverse.find? (fun o => f n o && f o n) = (s.t q).youngest n) := by show _ = _; rw [List.take_length, HY.out]
 generalize (s.t q).youngest n = Y at *
 generalize (s.t q).begun = l at *
 go_wp2_with fail
 go_loop [8] (fun i => ∃ k : Nat, k ≤ l.length ∧ i = .int .i64 ((k : Int) - 1) ∧ Hid ((l.take k).reverse.find? (fun o => f n o && f o n) = Y)) (fun i => (intOf i + 1).toNat)
 case atStart => exact ⟨l.length, Nat.le_refl _, rfl, I0⟩
 case round =>
  obtain ⟨k, hk, rfl, I⟩ := hrel
  cases k with
  | zero =>
   have HN : Hid (Y = none) := I.out.symm
   go_wp2
   refine bodyPost_ret (v := .tuple #[.int .i64 0, .bool false]) (by simp [results, Try.results102, go_sem]) rfl ?_
   rw [HN.out]; exact ⟨B4.out, rfl⟩
  | succ k =>
   have e : ((k + 1 : Nat) : Int) - 1 = (k : Int) := by omega
   rw [e]
   have gk := List.getElem?_eq_getElem (show k < l.length by omega)
   generalize l[k] = y at gk
   have Gk : Hid (l[k]? = some y) := gk
   have hy : y < 4 := HBL.out y (List.mem_of_getElem? gk)
   have zy : (y : Int) < 4 := by omega
   have zk : (k : Int) < (l.length : Int) := by omega
   obtain ⟨bt, rfl, _, hbt, hcell⟩ := HEL.out k y gk
   have c0 := T3.out.cell hn hy
   have c1 := T3.out.cell hy hn
   have HI : Hid ((if (f n y && f y n) = true then some y else (l.take k).reverse.find? (fun o => f n o && f o n)) = Y) := by
    show _ = _
    have := I.out
    rw [rev_take gk, List.find?_cons] at this
    rw [← this]
    cases f n y && f y n <;> rfl
   clear gk e
   cases h1 : f n y
   ·rw [h1] at c0 HI
    have I' : Hid ((l.take k).reverse.find? (fun o => f n o && f o n) = Y) := by show _ = _; have := HI.out; rw [if_neg (by simp)] at this; exact this
    go_wp2
    go_round
    case rel => exact ⟨k, by omega, rfl, I'⟩
    case measure => simp [intOf]
   ·rw [h1] at c0 HI
    cases h2 : f y n
    ·rw [h2] at c1 HI
     have I' : Hid ((l.take k).reverse.find? (fun o => f n o && f o n) = Y) := by show _ = _; have := HI.out; rw [if_neg (by simp)] at this; exact this
     go_wp2
     go_round
     case rel => exact ⟨k, by omega, rfl, I'⟩
     case measure => simp [intOf]
    ·rw [h2] at c1 HI
     have HN : Hid (Y = some y) := by show _ = _; have := HI.out; rw [if_pos (by rfl)] at this; exact this.symm
     go_wp2
     refine bodyPost_ret (v := .tuple #[.int .i64 (y : Int), .bool true]) (by simp [results, Try.results102, go_sem]) rfl ?_
     rw [HN.out]; exact ⟨B4.out, rfl⟩
theorem ringsN_no {q n : Nat} {s : PS} (h : (s.t q).youngest n = none) : ∀ k, PS.ringsN q n k s = s
 | 0 => rfl
 | k + 1 => by rw [PS.ringsN, h]
theorem ringsN_yes {q n y : Nat} {s : PS} (h : (s.t q).youngest n = some y) (k : Nat) : PS.ringsN q n (k + 1) s = PS.ringsN q n k (s.setT q ((s.t q).forceT y 2)).settleT := by
 rw [PS.ringsN, h]
theorem youngest_lt {q n y : Nat} {s : PS} (F : s.Fit) (hq : q < 32) (h : (s.t q).youngest n = some y) : y < 4 :=
 (F.tr q hq).begL y (by have := List.mem_of_find?_eq_some h; simpa using this)
theorem rings_is {w : World} {p q n : Nat} {a : Wh} {s : PS} {own : Own} {G : PG} (m : PMem w p s own G) (hq : q < 32) (hn : n < 4) (ha : a = whoOf q n) (F : s.Fit) :
  Calls Try.prog 81 #[.pointer (some ⟨p, 0, none⟩), .agg #[.int .i64 a.1, .int .i64 a.2.1, .int .i64 a.2.2]] w (AQ own w p (s.ringsT q n).1 (s.ringsT q n).2) := by
 have M : Hid (PMem w p s own G) := m
 have HF : Hid s.Fit := F
 have hp := m.lt
 have zn : (n : Int) < 4 := by omega
 clear m F
 obtain ⟨a0, a1, a2⟩ := a
 simp only [whoOf, Prod.mk.injEq] at ha
 obtain ⟨h0, h1, h2⟩ := ha
 subst h2
 have Ha : Hid ((a0, a1) = labOf q) := by show _ = _; rw [h0, h1]
 have hlab : labB a0 a1 = true := by rw [h0, h1]; exact labOf_ok hq
 have hpl : plOf (a0, a1) = q := by rw [Ha.out]; exact plOf_labOf hq
 clear h0 h1
 go_enter Try.func81, Try.ntmps81
 go_upto_region 1 with fail
 obtain ⟨B1, L0, L1⟩ := entryW (w := w) (a := (a0, a1, (n : Int)))
 unfold whoObj ansObj at *
 simp only at *
 generalize (w.alloc _).alloc _ = W0 at *
 have hs1 : w.heap.size + 1 < W0.heap.size := (Array.getElem?_eq_some_iff.1 L1.out).1
 obtain ⟨r0, r1, r2⟩ := who_cells L0.out
 go_wp2_with fail
 refine (tier_is (a := (a0, a1)) hlab hpl).mono ?_
 rintro e W1 ⟨rfl, hb2⟩
 have B2 : Hid (Below w.heap.size w W1) := B1.out.trans (hb2.mono B1.out.size)
 have L02 : Hid (W1.heap[w.heap.size]? = _) := (hb2.block _ (by omega)).trans L0.out
 have L12 : Hid (ansBlk W1 (w.heap.size + 1) 0 0 (.slice none 0 0)) := (hb2.block _ (by omega)).trans L1.out
 have hs2 : w.heap.size + 1 < W1.heap.size := Nat.lt_of_lt_of_le hs1 hb2.size
 clear r0 r1 r2 L0 L1 hb2 B1
 obtain ⟨R, hRR⟩ : ∃ R, PS.ringsN q n 4 s = R := ⟨_, rfl⟩
 have HRR : Hid (PS.ringsN q n 4 s = R) := hRR
 clear hRR
 have I0 : Hid (Moved own W1 p s W1) := (M.out.below B2.out).went (Below.refl _ _)
 go_wp2_with fail
 go_loopw [13] (fun i wr => ∃ (k : Nat) (S : PS), k ≤ 4 ∧ i = .int .i64 k ∧ Hid (PS.ringsN q n (4 - k) S = R) ∧ Hid S.Fit ∧ Hid (Moved own W1 p S wr)) (fun i _ => 4 - (intOf i).toNat)
 case atStart => exact ⟨0, s, Nat.zero_le _, rfl, HRR, HF, I0⟩
 case round =>
  obtain ⟨k, S, hk, rfl, HS, FSt, I⟩ := hrel
  by_cases hlt : k < 4
  ·have zk : (k : Int) < 4 := by omega
   obtain ⟨own2, G2, m2, cg2⟩ := I.out
   have M2 : Hid (PMem wr p S own2 G2) := m2
   have CG2 : Hid (ChgQ own W1 wr own2) := cg2
   have L0k : Hid (wr.heap[w.heap.size]? = _) := (cg2.block _ (by omega) (M.out.off (Nat.le_refl _))).trans L02.out
   have hs3 : w.heap.size + 1 < wr.heap.size := Nat.lt_of_lt_of_le hs2 cg2.size
   clear m2 cg2
   obtain ⟨_, _, d2⟩ := who_cells L0k.out
   have HYG : Hid (Calls Try.prog 102 #[.pointer (some ⟨p, tO q, none⟩), .int .i64 (n : Int)] wr (YgPost wr ((S.t q).youngest n))) := youngest_is M2.out hq hn FSt.out
   cases hy : (S.t q).youngest n with
   | none =>
    rw [hy] at HYG
    have HE : Hid (S = R) := by show _ = _; rw [← HS.out, ringsN_no hy]
    go_wp2_with fail
    refine HYG.out.mono ?_
    rintro e w4 ⟨hb4, he4⟩
    simp only at he4
    subst he4
    have IR : Hid (Moved own W1 p R w4) := by show Moved _ _ _ _ _; rw [← HE.out]; exact I.out.below hb4
    clear hb4 d2 hy HYG M2 CG2 hs3 I L0k
    have hmvR : Hid (Moved own W1 p R w4) := IR
    obtain ⟨ownR, GR, mR, cgR⟩ := hmvR.out
    have L0R : Hid (w4.heap[w.heap.size]? = _) := (cgR.block _ (by omega) (M.out.off (Nat.le_refl _))).trans L02.out
    have L1R : Hid (ansBlk w4 (w.heap.size + 1) 0 0 (.slice none 0 0)) := (cgR.block _ (by omega) (M.out.off (by omega))).trans L12.out
    have NR : Hid (ownR (w.heap.size + 1) = none) := cgR.off (by omega) (M.out.off (by omega))
    have MR : Hid (PMem w4 p R ownR GR) := mR
    have CGR : Hid (ChgQ own w w4 ownR) := (ChgQ.of_below B2.out).trans cgR
    have hsR : w.heap.size + 1 < w4.heap.size := Nat.lt_of_lt_of_le hs2 cgR.size
    clear mR cgR
    obtain ⟨_, _, d2⟩ := who_cells L0R.out
    have he := ses_ended (MR.out.sesAt hq hn)
    have kne := kin_some w4
    have kx2 := kin_cell d2
    go_upto_region 9 with fail
    refine wp_region_kin (by kernel_rfl) (by kernel_rfl) ?_
    repeat (first | go_big_quiet_step (fail) | quiet_step (fail))
    refine wpQuiet_nil ?_
    intro _ hw'
    obtain ⟨xq, hw''⟩ := hw'
    subst hw''
    have MS : Hid (PMem xq.w p R ownR GR) := MR.out.below xq.h
    have CGS : Hid (ChgQ own w xq.w ownR) := CGR.out.trans (ChgQ.of_below xq.h)
    have LS : Hid (ansBlk xq.w (w.heap.size + 1) 0 0 (.slice none 0 0)) := (xq.h.block _ (by omega)).trans L1R.out
    clear kne kx2 d2 he
    generalize xq.w = wS at *
    have he := ses_ended (MS.out.sesAt hq hn)
    have hpS := MS.out.lt
    have hsS : w.heap.size + 1 < wS.heap.size := (Array.getElem?_eq_some_iff.1 LS.out).1
    by_cases hen : ((R.t q).ses n).ended = 0
    ·have HP : Hid (s.ringsT q n = (R, ⟨1, 0, []⟩)) := by show _ = _; unfold PS.ringsT; rw [HRR.out, if_pos hen]
     rw [hen] at he
     obtain ⟨b0, b1, b2⟩ := moved_chain CGS.out (b := w.heap.size + 1) (by omega) NR.out LS.out (MS.out.went (Below.refl _ _)) 1 0
     obtain ⟨e0, e1, e2, f0, f1, f2⟩ := ans_cells b0
     have A1 : Hid (ansBlk _ _ _ _ _) := b1
     have A2 : Hid (AQ _ _ _ _ _ _ _) := b2
     clear b0 b1 b2 hen
     go_wp2
     refine ret_ans Try.results81 rfl A1.out rfl ?_
     rw [HP.out]; exact A2.out
    ·have HP : Hid (s.ringsT q n = (R.untold q n, ⟨2, ((R.t q).ses n).ended, []⟩)) := by show _ = _; unfold PS.ringsT; rw [HRR.out, if_neg hen]
     have hne : (((R.t q).ses n).ended == 0) = false := by simpa using hen
     clear hen
     go_wp2_with fail
     refine (tellEnd_is MS.out hq hn).mono ?_
     intro e w6 haq
     generalize hen2 : ((R.t q).ses n).ended = en at *
     generalize R.untold q n = R2 at *
     obtain ⟨ao, cap, rfl, a0, a1, a2⟩ := aq_chain CGS.out (b := w.heap.size + 1) (by omega) NR.out LS.out haq
     clear he
     obtain ⟨e0, e1, e2, f0, f1, f2⟩ := ans_cells a0
     have A1 : Hid (ansBlk _ _ _ _ _) := a1
     have A2 : Hid (AQ _ _ _ _ _ _ _) := a2
     clear a0 a1 a2 haq hen2
     unfold ansV
     go_wp2
     refine ret_ans Try.results81 rfl A1.out rfl ?_
     rw [HP.out]; exact A2.out
   | some y =>
    rw [hy] at HYG
    have hy4 := youngest_lt FSt.out hq hy
    have HE : Hid (PS.ringsN q n (4 - (k + 1)) (S.setT q ((S.t q).forceT y 2)).settleT = R) := by
     show _ = _
     rw [← HS.out, show 4 - k = (4 - (k + 1)) + 1 by omega, ringsN_yes hy]
    have zy : (y : Int) < 4 := by omega
    have FN : Hid (S.setT q ((S.t q).forceT y 2)).Fit := FSt.out.setT ((FSt.out.tr q hq).forceT y 2)
    go_wp2_with fail
    refine HYG.out.mono ?_
    rintro e w4 ⟨hb4, he4⟩
    simp only at he4
    subst he4
    have M4 : Hid (PMem w4 p S own2 G2) := M2.out.below hb4
    have CG4 : Hid (ChgQ own W1 w4 own2) := CG2.out.trans (ChgQ.of_below hb4)
    clear hb4 d2 hy HYG
    go_wp2_with fail
    refine (force_is (why := 2) M4.out hq hy4 (FSt.out.short q hq).1 (FSt.out.short q hq).2).mono ?_
    rintro e w5 ⟨rfl, own5, G5, m5, cg5⟩
    have M5 : Hid (PMem w5 p (S.setT q ((S.t q).forceT y 2)) own5 G5) := m5
    have CG5 : Hid (ChgQ own W1 w5 own5) := CG4.out.trans cg5
    clear m5 cg5
    go_wp2_with fail
    refine (settle_is M5.out FN.out).mono ?_
    have FT : Hid (S.setT q ((S.t q).forceT y 2)).settleT.Fit := FN.out.settleT
    generalize (S.setT q ((S.t q).forceT y 2)).settleT = S' at *
    rintro e w6 ⟨rfl, hmv⟩
    have I' : Hid (Moved own W1 p S' w6) := Moved.trans CG5.out hmv
    clear hmv
    go_wp2
    go_roundw
    case rel => exact ⟨k + 1, S', by omega, by go_num, HE, FT, I'⟩
    case measure => simp [intOf]; omega
  ·have e : k = 4 := by omega
   subst e
   have HE : Hid (S = R) := HS
   have IR : Hid (Moved own W1 p R wr) := by show Moved _ _ _ _ _; rw [← HE.out]; exact I.out
   clear HE I
   have hmvR : Hid (Moved own W1 p R wr) := IR
   obtain ⟨ownR, GR, mR, cgR⟩ := hmvR.out
   have L0R : Hid (wr.heap[w.heap.size]? = _) := (cgR.block _ (by omega) (M.out.off (Nat.le_refl _))).trans L02.out
   have L1R : Hid (ansBlk wr (w.heap.size + 1) 0 0 (.slice none 0 0)) := (cgR.block _ (by omega) (M.out.off (by omega))).trans L12.out
   have NR : Hid (ownR (w.heap.size + 1) = none) := cgR.off (by omega) (M.out.off (by omega))
   have MR : Hid (PMem wr p R ownR GR) := mR
   have CGR : Hid (ChgQ own w wr ownR) := (ChgQ.of_below B2.out).trans cgR
   have hsR : w.heap.size + 1 < wr.heap.size := Nat.lt_of_lt_of_le hs2 cgR.size
   clear mR cgR
   obtain ⟨_, _, d2⟩ := who_cells L0R.out
   have he := ses_ended (MR.out.sesAt hq hn)
   have kne := kin_some wr
   have kx2 := kin_cell d2
   go_upto_region 9 with fail
   refine wp_region_kin (by kernel_rfl) (by kernel_rfl) ?_
   repeat (first | go_big_quiet_step (fail) | quiet_step (fail))
   refine wpQuiet_nil ?_
   intro _ hw'
   obtain ⟨xq, hw''⟩ := hw'
   subst hw''
   have MS : Hid (PMem xq.w p R ownR GR) := MR.out.below xq.h
   have CGS : Hid (ChgQ own w xq.w ownR) := CGR.out.trans (ChgQ.of_below xq.h)
   have LS : Hid (ansBlk xq.w (w.heap.size + 1) 0 0 (.slice none 0 0)) := (xq.h.block _ (by omega)).trans L1R.out
   clear kne kx2 d2 he
   generalize xq.w = wS at *
   have he := ses_ended (MS.out.sesAt hq hn)
   have hpS := MS.out.lt
   have hsS : w.heap.size + 1 < wS.heap.size := (Array.getElem?_eq_some_iff.1 LS.out).1
   by_cases hen : ((R.t q).ses n).ended = 0
   ·have HP : Hid (s.ringsT q n = (R, ⟨1, 0, []⟩)) := by show _ = _; unfold PS.ringsT; rw [HRR.out, if_pos hen]
    rw [hen] at he
    obtain ⟨b0, b1, b2⟩ := moved_chain CGS.out (b := w.heap.size + 1) (by omega) NR.out LS.out (MS.out.went (Below.refl _ _)) 1 0
    obtain ⟨e0, e1, e2, f0, f1, f2⟩ := ans_cells b0
    have A1 : Hid (ansBlk _ _ _ _ _) := b1
    have A2 : Hid (AQ _ _ _ _ _ _ _) := b2
    clear b0 b1 b2 hen
    go_wp2
    refine ret_ans Try.results81 rfl A1.out rfl ?_
    rw [HP.out]; exact A2.out
   ·have HP : Hid (s.ringsT q n = (R.untold q n, ⟨2, ((R.t q).ses n).ended, []⟩)) := by show _ = _; unfold PS.ringsT; rw [HRR.out, if_neg hen]
    have hne : (((R.t q).ses n).ended == 0) = false := by simpa using hen
    clear hen
    go_wp2_with fail
    refine (tellEnd_is MS.out hq hn).mono ?_
    intro e w6 haq
    generalize hen2 : ((R.t q).ses n).ended = en at *
    generalize R.untold q n = R2 at *
    obtain ⟨ao, cap, rfl, a0, a1, a2⟩ := aq_chain CGS.out (b := w.heap.size + 1) (by omega) NR.out LS.out haq
    clear he
    obtain ⟨e0, e1, e2, f0, f1, f2⟩ := ans_cells a0
    have A1 : Hid (ansBlk _ _ _ _ _) := a1
    have A2 : Hid (AQ _ _ _ _ _ _ _) := a2
    clear a0 a1 a2 haq hen2
    unfold ansV
    go_wp2
    refine ret_ans Try.results81 rfl A1.out rfl ?_
    rw [HP.out]; exact A2.out
end Go.Proofs.Ytpbcplfpjcacfaa
