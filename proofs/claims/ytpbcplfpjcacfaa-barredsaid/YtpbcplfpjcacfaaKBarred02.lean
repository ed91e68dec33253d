import Derived.Test.YtpbcplfpjcacfaaKBarred01
namespace Go.Proofs.Ytpbcplfpjcacfaa
open Go.RowKit
attribute [local go_sem ↓] Go.wp_at_zero Go.wp_at_succ
set_option maxRecDepth 100000
set_option maxHeartbeats 8000000
theorem note_else (b k : Nat) (x : Stp) (a : Ans) (aq : Option Addr) (cq : Nat) (w : World) (hc : ¬ a.code = 0) :
  Calls Try.prog 63 #[.pointer (some ⟨b, k * 12, none⟩), .agg #[.int .i64 x.who.1, .int .i64 x.who.2.1, .int .i64 x.who.2.2, .int .i64 x.op, .int .i64 x.at_.1, .int .i64 x.at_.2, .int .i64 x.key, .int .i64 x.to_, .int .i64 x.value], .agg #[.int .i64 a.code, .int .i64 a.why, .slice aq a.items.length cq]] w fun e w' => e = .returned (.bool ((a.items.length : Int) == 0)) ∧ Below w.heap.size w w' := by
 have hcb : (a.code == 0) = false := by simpa using hc
 have hA : Below w.heap.size w ((w.alloc (.cells #[.int .i64 x.who.1, .int .i64 x.who.2.1, .int .i64 x.who.2.2, .int .i64 x.op, .int .i64 x.at_.1, .int .i64 x.at_.2, .int .i64 x.key, .int .i64 x.to_, .int .i64 x.value] 30)).alloc (.cells #[.int .i64 a.code, .int .i64 a.why, .slice aq a.items.length cq] 66)) := below2r
 clear hc
 cases hnb : ((a.items.length : Int) == 0) with
 | true =>
  go_enter Try.func63, Try.ntmps63
  go_wp2
  go_ret
  exact ⟨rfl, hA⟩
 | false =>
  go_enter Try.func63, Try.ntmps63
  go_wp2
  go_ret
  exact ⟨rfl, hA⟩
def updV (vals : Nat → Int) (j : Nat) (v : Int) : Nat → Int := fun q => if q = j then v else vals q
theorem BkMem.setVal {w : World} {b : Nat} {hs : Nat → Hd} {vals : Nat → Int} {own : Own} (m : BkMem w b hs vals own) {j : Nat} (hj : j < 512) (v : Int) :
  BkMem (w.setCell ⟨b, 1536 + j, none⟩ (.int .i64 v)) b hs (updV vals j v) own := by
 obtain ⟨C, hC, hCz⟩ := m.root
 have hC2 := heap_setCell_same w b (1536 + j) C _ (.int .i64 v) hC
 have hcell : ∀ o, o ≠ 1536 + j → (w.setCell ⟨b, 1536 + j, none⟩ (.int .i64 v)).cell? ⟨b, o, none⟩ = w.cell? ⟨b, o, none⟩ := fun o ho =>
  World.cell?_setCell_other _ _ _ _ (by intro e; injection e with _ e; exact ho e.symm)
 have hne : ∀ q t, own q = some t → t ≠ (1, 0, 0, 0) → q ≠ b := fun q t hq ht e => by
  rw [e, m.tag] at hq; exact ht (Option.some.inj hq).symm
 refine ⟨⟨_, hC2, by simp [hCz]⟩, fun k hk => ?_, fun q hq => ?_, m.tag, fun k hk => ?_, fun k hk d hd => ?_, fun q hq => by have := m.old q hq; simpa using this⟩
 ·intro i u hu
  have hi : i < 12 := by rw [← len_handC (hs k)]; exact (List.getElem?_eq_some_iff.1 hu).1
  rw [hcell (k * 12 + i) (by omega)]
  exact m.hand k hk i u hu
 ·unfold updV
  split
  ·rename_i e; subst e
   rw [cell_of_row _ b _ _ _ _ hC2, Array.getElem?_setIfInBounds, if_pos rfl, if_pos (by omega)]
  ·rename_i e
   rw [hcell (1536 + q) (by omega)]; exact m.val q hq
 ·exact (m.row k hk).frame (fun q hq => heap_setCell_ne _ _ _ _ _ (hne q _ hq (by intro c; cases c))) (fun _ h => h)
 ·obtain ⟨a1, a2⟩ := m.kept k hk d hd
  exact ⟨ownsRow_frame a1 (fun q hq => heap_setCell_ne _ _ _ _ _ (hne q _ (a2 q hq) (by intro c; cases c))), a2⟩
structure Good0 (x : Stp) (p kn hn : Nat) : Prop where
 at_ : labB x.at_.1 x.at_.2 = true ∧ numZ x.at_.1 x.at_.2 = (p : Int) ∧ p < 32
 key : x.key = (kn : Int) ∧ kn < 16
 op : x.op = 2 ∧ hn = kn ∨ x.op = 3 ∧ x.to_ = (hn : Int) ∨ x.op = 4 ∧ hn = kn ∨ x.op = 5 ∧ hn = kn
 hi : kn ≤ hn ∧ hn < 16
def didP (d : Did) : Nat := (numZ d.x.at_.1 d.x.at_.2).toNat
def didHi (d : Did) : Nat := if d.x.op = 3 then d.x.to_.toNat else d.x.key.toNat
def replayB (vals : Nat → Int) : List Did → Bool × (Nat → Int)
 | [] => (true, vals)
 | d :: l =>
  if d.x.op = 4 then (if d.items.length = 0 then replayB (updV vals (16 * didP d + d.x.key.toNat) d.x.value) l else (false, updV vals (16 * didP d + d.x.key.toNat) d.x.value))
  else if d.x.op = 5 then (if d.items.length = 0 then replayB (updV vals (16 * didP d + d.x.key.toNat) (-1)) l else (false, updV vals (16 * didP d + d.x.key.toNat) (-1)))
  else if seenL vals (didP d) d.x.key.toNat (didHi d + 1 - d.x.key.toNat) = d.items then replayB vals l else (false, vals)
theorem did_cells {w : World} {b o : Nat} {d : Did} (hr : w.rangeAt b o (didC d)) : w.rangeAt b o (stepC d.x) ∧ w.cell? ⟨b, o + 9, none⟩ = some d.v := by
 refine ⟨fun j u hj => hr j u ?_, hr 9 _ rfl⟩
 unfold didC
 rw [List.getElem?_append_left (List.getElem?_eq_some_iff.1 hj).1]; exact hj
theorem rangeAt_step {w : World} {b o : Nat} {x : Stp} (hr : w.rangeAt b o (stepC x)) : w.cell? ⟨b, o, none⟩ = some (.int .i64 x.who.1) ∧ w.cell? ⟨b, o + 1, none⟩ = some (.int .i64 x.who.2.1) ∧ w.cell? ⟨b, o + 2, none⟩ = some (.int .i64 x.who.2.2) ∧ w.cell? ⟨b, o + 3, none⟩ = some (.int .i64 x.op) ∧ w.cell? ⟨b, o + 4, none⟩ = some (.int .i64 x.at_.1) ∧ w.cell? ⟨b, o + 5, none⟩ = some (.int .i64 x.at_.2) ∧ w.cell? ⟨b, o + 6, none⟩ = some (.int .i64 x.key) ∧ w.cell? ⟨b, o + 7, none⟩ = some (.int .i64 x.to_) ∧ w.cell? ⟨b, o + 8, none⟩ = some (.int .i64 x.value) :=
 ⟨hr 0 _ rfl, hr 1 _ rfl, hr 2 _ rfl, hr 3 _ rfl, hr 4 _ rfl, hr 5 _ rfl, hr 6 _ rfl, hr 7 _ rfl, hr 8 _ rfl⟩
structure RpInv (w : World) (b : Nat) (hs : Nat → Hd) (own : Own) (vals0 : Nat → Int) (ld : List Did) (n : Nat) (vals : Nat → Int) (wr : World) : Prop where
 mem : BkMem wr b hs vals own
 chg : ChgD own w wr own
 same : ∀ q, own q ≠ none → q ≠ b → wr.heap[q]? = w.heap[q]?
 eq : replayB vals (ld.drop n) = replayB vals0 ld
theorem RpInv.below {w : World} {b : Nat} {hs : Nat → Hd} {own : Own} {vals0 : Nat → Int} {ld : List Did} {n : Nat} {vals : Nat → Int} {wr w' : World} (h : RpInv w b hs own vals0 ld n vals wr) (hb : Below wr.heap.size wr w') : RpInv w b hs own vals0 ld n vals w' :=
 ⟨h.mem.frame (fun q hq => hb.block q (h.mem.old q hq)) hb.size, h.chg.trans (ChgD.of_below hb), fun q hq hqb => (hb.block q (h.mem.old q hq)).trans (h.same q hq hqb), h.eq⟩
theorem RpInv.wrote {w : World} {b : Nat} {hs : Nat → Hd} {own : Own} {vals0 : Nat → Int} {ld : List Did} {n n' : Nat} {vals : Nat → Int} {wr : World} (h : RpInv w b hs own vals0 ld n vals wr) {j : Nat} (hj : j < 512) (v : Int) (he : replayB (updV vals j v) (ld.drop n') = replayB vals0 ld) : RpInv w b hs own vals0 ld n' (updV vals j v) (wr.setCell ⟨b, 1536 + j, none⟩ (.int .i64 v)) :=
 ⟨h.mem.setVal hj v, ⟨h.chg.os, h.chg.tape, h.chg.output, by simpa using h.chg.size, fun q hq hn => by
  rw [heap_setCell_ne _ _ _ _ _ (fun e => by rw [e, h.mem.tag] at hn; cases hn)]; exact h.chg.block q hq hn, h.chg.fresh⟩, fun q hq hqb => (heap_setCell_ne _ _ _ _ _ hqb).trans (h.same q hq hqb), he⟩
theorem drop_cons_get {α : Type} {l : List α} {n : Nat} {x : α} (h : l[n]? = some x) : l.drop n = x :: l.drop (n + 1) := by
 have hl := (List.getElem?_eq_some_iff.1 h).1
 rw [List.drop_eq_getElem_cons hl]
 congr 1
 exact (List.getElem?_eq_some_iff.1 h).2
theorem replay_any (b k : Nat) (hs : Nat → Hd) (vals : Nat → Int) (own : Own) (ld : List Did) (vd : Value) (w : World) (m : BkMem w b hs vals own) (hrow : Row w own (k + 10, 0, 0, 0) 156 10 vd ld didC)
  (hkept : ∀ d ∈ ld, w.ownsRow 0 94 2 d.v d.items.length (itemsV d.items) ∧ ∀ q, d.v.ownBlock = some q → own q = some (9, 0, 0, 0)) (hgood : ∀ d ∈ ld, ∃ p kn hn, Good0 d.x p kn hn) :
  Calls Try.prog 62 #[.pointer (some ⟨b, 0, none⟩), vd] w fun e w' => e = .returned (.bool (replayB vals ld).1) ∧ BkPost own w b (fun hs' vals' => hs' = hs ∧ vals' = (replayB vals ld).2) w' := by
 obtain ⟨ao, cap, rfl, hmax, hel⟩ := hrow.form len_didC
 unfold maxLen at hmax
 have HE : Hid (type_of% hel) := hel
 have HK : Hid (type_of% hkept) := hkept
 have HG : Hid (type_of% hgood) := hgood
 have HT : Hid (own b = some (1, 0, 0, 0)) := m.tag
 have I0 : Hid (RpInv w b hs own vals ld 0 vals w) := ⟨m, ChgD.refl, fun _ _ _ => rfl, rfl⟩
 clear hel hkept hgood m hrow
 go_enter Try.func62, Try.ntmps62
 go_wp2_with fail
 go_loopw [5] (fun i wr => ∃ (n : Nat) (vn : Nat → Int), n ≤ ld.length ∧ i = .int .i64 n ∧ Hid (RpInv w b hs own vals ld n vn wr)) (fun i _ => ld.length - (intOf i).toNat)
 case atStart => exact ⟨0, vals, Nat.zero_le _, rfl, I0⟩
 case round =>
  obtain ⟨n, vn, hn, rfl, In⟩ := hrel
  by_cases hlt : n < ld.length
  ·have hg := List.getElem?_eq_getElem hlt
   have hmem : ld[n] ∈ ld := List.getElem_mem hlt
   generalize ld[n] = d at hg hmem
   obtain ⟨bd, rfl, hbo, hbl, hrg, _⟩ := HE.out n d hg
   have hdr := drop_cons_get hg
   have heq := In.out.eq
   rw [hdr] at heq
   obtain ⟨p, kn, hn', G⟩ := HG.out d hmem
   obtain ⟨k1, k2⟩ := HK.out d hmem
   obtain ⟨aq, cq, hdv⟩ := ownsRow_slice k1
   have hbd : bd ≠ b := fun e => by rw [e, HT.out] at hbo; injection hbo with hbo; injection hbo with hbo; omega
   have hblk : wr.heap[bd]? = w.heap[bd]? := In.out.same bd (by rw [hbo]; simp) hbd
   have hrg1 : wr.rangeAt bd (n * 10) (didC d) := fun j u hj => by
    have := hrg j u hj
    unfold World.cell? at this ⊢
    rw [hblk]; exact this
   obtain ⟨hst, hi9⟩ := did_cells hrg1
   rw [hdv] at hi9
   have hbw : bd < wr.heap.size := Nat.lt_of_lt_of_le hbl In.out.chg.size
   have HKr : Hid (wr.ownsRow 0 94 2 (.slice aq d.items.length cq) d.items.length (itemsV d.items)) := by
    unfold Hid
    rw [← hdv]
    refine ownsRow_frame k1 (fun q hq => In.out.same q (by rw [k2 q hq]; simp) (fun e => by have := k2 q hq; rw [e, HT.out] at this; cases this))
   have zn : (n : Int) < (ld.length : Int) := by omega
   obtain ⟨⟨ga1, ga2, ga3⟩, ⟨gk1, gk2⟩, gop, gh1, gh2⟩ := G
   have hnum := number_any d.x.at_.1 d.x.at_.2
   rw [ga2] at hnum
   have hdp : didP d = p := by unfold didP; rw [ga2]; simp
   have hkt : d.x.key.toNat = kn := by rw [gk1]; simp
   have HEQ : Hid (type_of% heq) := heq
   have hbt : b < wr.heap.size := In.out.mem.old b (by rw [HT.out]; simp)
   clear hrg hrg1 hg hmem hdr heq hblk k1 k2 ga1 ga2
   have hst' : wr.rangeAt bd (n * 10) [.int .i64 d.x.who.1, .int .i64 d.x.who.2.1, .int .i64 d.x.who.2.2, .int .i64 d.x.op, .int .i64 d.x.at_.1, .int .i64 d.x.at_.2, .int .i64 (kn : Int), .int .i64 d.x.to_, .int .i64 d.x.value] := by
    have h2 := hst
    unfold stepC at h2
    rw [gk1] at h2
    exact h2
   clear hst
   rcases gop with ⟨gop, ghk⟩ | ⟨gop, gto⟩ | ⟨gop, ghk⟩ | ⟨gop, ghk⟩
   ·rw [gop] at hst'
    go_wp2_with (first | (refine wpList_load_mid rfl 30 _ rfl bd (n * 10) rfl _ _ hst' Try.underlying30 rfl sizeStep ?_))
    have hA : Below wr.heap.size wr (wr.alloc (.cells #[.int .i64 d.x.who.1, .int .i64 d.x.who.2.1, .int .i64 d.x.who.2.2, .int .i64 2, .int .i64 d.x.at_.1, .int .i64 d.x.at_.2, .int .i64 (kn : Int), .int .i64 d.x.to_, .int .i64 d.x.value] 30)) := (Below.refl _ _).alloc (Nat.le_refl _) _
    have hX : (wr.alloc (.cells #[.int .i64 d.x.who.1, .int .i64 d.x.who.2.1, .int .i64 d.x.who.2.2, .int .i64 2, .int .i64 d.x.at_.1, .int .i64 d.x.at_.2, .int .i64 (kn : Int), .int .i64 d.x.to_, .int .i64 d.x.value] 30)).heap[wr.heap.size]? = some (.cells #[.int .i64 d.x.who.1, .int .i64 d.x.who.2.1, .int .i64 d.x.who.2.2, .int .i64 2, .int .i64 d.x.at_.1, .int .i64 d.x.at_.2, .int .i64 (kn : Int), .int .i64 d.x.to_, .int .i64 d.x.value] 30 (0, 0)) := heap_alloc_new wr _
    refine (hnum _).mono ?_
    rintro e w2 ⟨rfl, hb2⟩
    have hB2 : Below wr.heap.size wr w2 := hA.trans (hb2.mono hA.size)
    have hX2 : w2.heap[wr.heap.size]? = _ := (hb2.block wr.heap.size (by simp)).trans hX
    obtain ⟨c0, c1, c2, c3, c4, c5, c6, c7, c8, _⟩ := step9_cells hX2
    have zx : wr.heap.size < w2.heap.size := (Array.getElem?_eq_some_iff.1 hX2).1
    have I2 : Hid (RpInv w b hs own vals ld n vn w2) := In.out.below hB2
    have hi9' := cell_later hB2 hi9
    have HKr2 : Hid (type_of% HKr.out) := HKr.out
    have zbd : bd < w2.heap.size := by omega
    have zb : b < w2.heap.size := by omega
    have HB2 : Hid (Below wr.heap.size wr w2) := hB2
    clear hA hX hb2 hX2 hB2 hnum hi9 hst'
    have hdh : didHi d = kn := by unfold didHi; rw [gop]; simp [gk1]
    have hseen : ∀ W, Below w2.heap.size w2 W → Calls Try.prog 35 #[.pointer (some ⟨b, 1536, none⟩), .int .i64 (p : Int), .int .i64 (kn : Int), .int .i64 (kn : Int)] W fun e w' => ∃ v, e = .returned v ∧ w'.ownsRow W.heap.size 94 2 v (seenL vn p kn (kn + 1 - kn)).length (itemsV (seenL vn p kn (kn + 1 - kn))) ∧ Below W.heap.size W w' := fun W hW =>
     seen_any b vn p kn kn W ga3 (by omega) (by omega) (fun j hj => cell_later hW (I2.out.mem.val j hj)) (by have := hW.size; omega)
    have HSE : Hid (type_of% hseen) := hseen
    clear hseen
    go_upto_region 17 with fail
    go_region_held3 (fun w' => w'.cell? ⟨wr.heap.size, 6, none⟩ = some (.int .i64 (kn : Int))) (first | go_keep | exact cell_later (by assumption) (by assumption))
     (first | (go_at_call 35; refine (HSE.out _ (Below.refl _ _).drew).mono ?_; rintro e w4 ⟨v4, rfl, hown4, hb4⟩))
    have hB4 : Below w2.heap.size w2 w4 := ((Below.refl _ _).drew).trans hb4
    have I4 : Hid (RpInv w b hs own vals ld n vn w4) := I2.out.below hB4
    have hi10 := cell_later hB4 hi9'
    have hB24 : Below wr.heap.size wr w4 := HB2.out.trans (hB4.mono HB2.out.size)
    have hit : isItems w4 (.slice aq d.items.length cq) d.items := isItems_kept (ownsRow_items HKr2.out) hB24
    have hsm := ksameItems_any _ _ _ _ w4 (ownsRow_items hown4) hit
    obtain ⟨a4, cp4, hv4⟩ := ownsRow_slice hown4
    subst hv4
    have hml := seenL_len vn p kn (kn + 1 - kn)
    have HMS : Hid (type_of% hsm) := hsm
    have zbd4 : bd < w4.heap.size := by have := hB4.size; omega
    clear hsm hown4 hit hb4 hB4 hB24 hi9'
    cases hdec : decide (seenL vn p kn (kn + 1 - kn) = d.items) with
    | true =>
     have he := of_decide_eq_true hdec
     have hre : replayB vn (d :: ld.drop (n + 1)) = replayB vn (ld.drop (n + 1)) := by
      rw [replayB, hdp, hkt, hdh, if_neg (by rw [gop]; decide), if_neg (by rw [gop]; decide), if_pos he]
     have hsm := HMS.out
     rw [hdec] at hsm
     have HS2 : Hid (type_of% hsm) := hsm
     have hle : (((d.items.length : Int)) == (((seenL vn p kn (kn + 1 - kn)).length : Nat) : Int)) = true := by rw [he]; simp
     have HRE : Hid (type_of% hre) := hre
     generalize hLL : seenL vn p kn (kn + 1 - kn) = LL at *
     have HDL : Hid (d.items.length = LL.length) := by unfold Hid; rw [he]
     clear hsm hdec he hre hLL hle hml
     go_wp2_with fail
     refine HS2.out.mono ?_
     rintro e w5 ⟨rfl, hb5⟩
     have hi11 := cell_later hb5 hi10
     have I5 := I4.out.below hb5
     have I6 : Hid (RpInv w b hs own vals ld (n + 1) vn w5) := ⟨I5.mem, I5.chg, I5.same, HRE.out.symm.trans HEQ.out⟩
     have zbd5 : bd < w5.heap.size := by have := hb5.size; omega
     rw [HDL.out] at hi11
     clear I5 hb5 hi10
     go_wp2
     go_roundw
     case rel => exact ⟨n + 1, _, by omega, by go_num, I6⟩
     case measure => simp [intOf]; omega
    | false =>
     have he := of_decide_eq_false hdec
     have hre : replayB vn (d :: ld.drop (n + 1)) = (false, vn) := by
      rw [replayB, hdp, hkt, hdh, if_neg (by rw [gop]; decide), if_neg (by rw [gop]; decide), if_neg he]
     have hsm := HMS.out
     rw [hdec] at hsm
     have HS2 : Hid (type_of% hsm) := hsm
     have h1 : (replayB vals ld).1 = false := by rw [← HEQ.out, hre]
     have h2 : (replayB vals ld).2 = vn := by rw [← HEQ.out, hre]
     have H2 : Hid ((replayB vals ld).2 = vn) := h2
     have H1 : Hid ((replayB vals ld).1 = false) := h1
     generalize hLL : seenL vn p kn (kn + 1 - kn) = LL at *
     clear hsm hdec he hre h1 h2 hLL hml
     go_wp2_with fail
     refine HS2.out.mono ?_
     rintro e w5 ⟨rfl, hb5⟩
     have I5 := I4.out.below hb5
     have HF : Hid (BkPost own w b (fun hs' vals' => hs' = hs ∧ vals' = (replayB vals ld).2) w5) := ⟨hs, vn, own, I5.mem, I5.chg, fun _ _ h => h, rfl, H2.out.symm⟩
     clear I5 hb5
     go_wp2
     go_ret
     rw [H1.out]
     exact ⟨rfl, HF.out⟩
   ·rw [gop, gto] at hst'
    go_wp2_with (first | (refine wpList_load_mid rfl 30 _ rfl bd (n * 10) rfl _ _ hst' Try.underlying30 rfl sizeStep ?_))
    have hA : Below wr.heap.size wr (wr.alloc (.cells #[.int .i64 d.x.who.1, .int .i64 d.x.who.2.1, .int .i64 d.x.who.2.2, .int .i64 3, .int .i64 d.x.at_.1, .int .i64 d.x.at_.2, .int .i64 (kn : Int), .int .i64 (hn' : Int), .int .i64 d.x.value] 30)) := (Below.refl _ _).alloc (Nat.le_refl _) _
    have hX : (wr.alloc (.cells #[.int .i64 d.x.who.1, .int .i64 d.x.who.2.1, .int .i64 d.x.who.2.2, .int .i64 3, .int .i64 d.x.at_.1, .int .i64 d.x.at_.2, .int .i64 (kn : Int), .int .i64 (hn' : Int), .int .i64 d.x.value] 30)).heap[wr.heap.size]? = some (.cells #[.int .i64 d.x.who.1, .int .i64 d.x.who.2.1, .int .i64 d.x.who.2.2, .int .i64 3, .int .i64 d.x.at_.1, .int .i64 d.x.at_.2, .int .i64 (kn : Int), .int .i64 (hn' : Int), .int .i64 d.x.value] 30 (0, 0)) := heap_alloc_new wr _
    refine (hnum _).mono ?_
    rintro e w2 ⟨rfl, hb2⟩
    have hB2 : Below wr.heap.size wr w2 := hA.trans (hb2.mono hA.size)
    have hX2 : w2.heap[wr.heap.size]? = _ := (hb2.block wr.heap.size (by simp)).trans hX
    obtain ⟨c0, c1, c2, c3, c4, c5, c6, c7, c8, _⟩ := step9_cells hX2
    have zx : wr.heap.size < w2.heap.size := (Array.getElem?_eq_some_iff.1 hX2).1
    have I2 : Hid (RpInv w b hs own vals ld n vn w2) := In.out.below hB2
    have hi9' := cell_later hB2 hi9
    have HKr2 : Hid (type_of% HKr.out) := HKr.out
    have zbd : bd < w2.heap.size := by omega
    have zb : b < w2.heap.size := by omega
    have HB2 : Hid (Below wr.heap.size wr w2) := hB2
    clear hA hX hb2 hX2 hB2 hnum hi9 hst'
    have hdh : didHi d = hn' := by unfold didHi; rw [gop]; simp [gto]
    have hseen : ∀ W, Below w2.heap.size w2 W → Calls Try.prog 35 #[.pointer (some ⟨b, 1536, none⟩), .int .i64 (p : Int), .int .i64 (kn : Int), .int .i64 (hn' : Int)] W fun e w' => ∃ v, e = .returned v ∧ w'.ownsRow W.heap.size 94 2 v (seenL vn p kn (hn' + 1 - kn)).length (itemsV (seenL vn p kn (hn' + 1 - kn))) ∧ Below W.heap.size W w' := fun W hW =>
     seen_any b vn p kn hn' W ga3 (by omega) (by omega) (fun j hj => cell_later hW (I2.out.mem.val j hj)) (by have := hW.size; omega)
    have HSE : Hid (type_of% hseen) := hseen
    clear hseen
    go_upto_region 17 with fail
    go_region_held3 (fun w' => w'.cell? ⟨wr.heap.size, 6, none⟩ = some (.int .i64 (kn : Int))) (first | go_keep | exact cell_later (by assumption) (by assumption))
     (first | (go_at_call 35; refine (HSE.out _ (Below.refl _ _).drew).mono ?_; rintro e w4 ⟨v4, rfl, hown4, hb4⟩))
    have hB4 : Below w2.heap.size w2 w4 := ((Below.refl _ _).drew).trans hb4
    have I4 : Hid (RpInv w b hs own vals ld n vn w4) := I2.out.below hB4
    have hi10 := cell_later hB4 hi9'
    have hB24 : Below wr.heap.size wr w4 := HB2.out.trans (hB4.mono HB2.out.size)
    have hit : isItems w4 (.slice aq d.items.length cq) d.items := isItems_kept (ownsRow_items HKr2.out) hB24
    have hsm := ksameItems_any _ _ _ _ w4 (ownsRow_items hown4) hit
    obtain ⟨a4, cp4, hv4⟩ := ownsRow_slice hown4
    subst hv4
    have hml := seenL_len vn p kn (hn' + 1 - kn)
    have HMS : Hid (type_of% hsm) := hsm
    have zbd4 : bd < w4.heap.size := by have := hB4.size; omega
    clear hsm hown4 hit hb4 hB4 hB24 hi9'
    cases hdec : decide (seenL vn p kn (hn' + 1 - kn) = d.items) with
    | true =>
     have he := of_decide_eq_true hdec
     have hre : replayB vn (d :: ld.drop (n + 1)) = replayB vn (ld.drop (n + 1)) := by
      rw [replayB, hdp, hkt, hdh, if_neg (by rw [gop]; decide), if_neg (by rw [gop]; decide), if_pos he]
     have hsm := HMS.out
     rw [hdec] at hsm
     have HS2 : Hid (type_of% hsm) := hsm
     have hle : (((d.items.length : Int)) == (((seenL vn p kn (hn' + 1 - kn)).length : Nat) : Int)) = true := by rw [he]; simp
     have HRE : Hid (type_of% hre) := hre
     generalize hLL : seenL vn p kn (hn' + 1 - kn) = LL at *
     have HDL : Hid (d.items.length = LL.length) := by unfold Hid; rw [he]
     clear hsm hdec he hre hLL hle hml
     go_wp2_with fail
     refine HS2.out.mono ?_
     rintro e w5 ⟨rfl, hb5⟩
     have hi11 := cell_later hb5 hi10
     have I5 := I4.out.below hb5
     have I6 : Hid (RpInv w b hs own vals ld (n + 1) vn w5) := ⟨I5.mem, I5.chg, I5.same, HRE.out.symm.trans HEQ.out⟩
     have zbd5 : bd < w5.heap.size := by have := hb5.size; omega
     rw [HDL.out] at hi11
     clear I5 hb5 hi10
     go_wp2
     go_roundw
     case rel => exact ⟨n + 1, _, by omega, by go_num, I6⟩
     case measure => simp [intOf]; omega
    | false =>
     have he := of_decide_eq_false hdec
     have hre : replayB vn (d :: ld.drop (n + 1)) = (false, vn) := by
      rw [replayB, hdp, hkt, hdh, if_neg (by rw [gop]; decide), if_neg (by rw [gop]; decide), if_neg he]
     have hsm := HMS.out
     rw [hdec] at hsm
     have HS2 : Hid (type_of% hsm) := hsm
     have h1 : (replayB vals ld).1 = false := by rw [← HEQ.out, hre]
     have h2 : (replayB vals ld).2 = vn := by rw [← HEQ.out, hre]
     have H2 : Hid ((replayB vals ld).2 = vn) := h2
     have H1 : Hid ((replayB vals ld).1 = false) := h1
     generalize hLL : seenL vn p kn (hn' + 1 - kn) = LL at *
     clear hsm hdec he hre h1 h2 hLL hml
     go_wp2_with fail
     refine HS2.out.mono ?_
     rintro e w5 ⟨rfl, hb5⟩
     have I5 := I4.out.below hb5
     have HF : Hid (BkPost own w b (fun hs' vals' => hs' = hs ∧ vals' = (replayB vals ld).2) w5) := ⟨hs, vn, own, I5.mem, I5.chg, fun _ _ h => h, rfl, H2.out.symm⟩
     clear I5 hb5
     go_wp2
     go_ret
     rw [H1.out]
     exact ⟨rfl, HF.out⟩
   ·rw [gop] at hst'
    go_wp2_with (first | (refine wpList_load_mid rfl 30 _ rfl bd (n * 10) rfl _ _ hst' Try.underlying30 rfl sizeStep ?_))
    have hA : Below wr.heap.size wr (wr.alloc (.cells #[.int .i64 d.x.who.1, .int .i64 d.x.who.2.1, .int .i64 d.x.who.2.2, .int .i64 4, .int .i64 d.x.at_.1, .int .i64 d.x.at_.2, .int .i64 (kn : Int), .int .i64 d.x.to_, .int .i64 d.x.value] 30)) := (Below.refl _ _).alloc (Nat.le_refl _) _
    have hX : (wr.alloc (.cells #[.int .i64 d.x.who.1, .int .i64 d.x.who.2.1, .int .i64 d.x.who.2.2, .int .i64 4, .int .i64 d.x.at_.1, .int .i64 d.x.at_.2, .int .i64 (kn : Int), .int .i64 d.x.to_, .int .i64 d.x.value] 30)).heap[wr.heap.size]? = some (.cells #[.int .i64 d.x.who.1, .int .i64 d.x.who.2.1, .int .i64 d.x.who.2.2, .int .i64 4, .int .i64 d.x.at_.1, .int .i64 d.x.at_.2, .int .i64 (kn : Int), .int .i64 d.x.to_, .int .i64 d.x.value] 30 (0, 0)) := heap_alloc_new wr _
    refine (hnum _).mono ?_
    rintro e w2 ⟨rfl, hb2⟩
    have hB2 : Below wr.heap.size wr w2 := hA.trans (hb2.mono hA.size)
    have hX2 : w2.heap[wr.heap.size]? = _ := (hb2.block wr.heap.size (by simp)).trans hX
    obtain ⟨c0, c1, c2, c3, c4, c5, c6, c7, c8, _⟩ := step9_cells hX2
    have zx : wr.heap.size < w2.heap.size := (Array.getElem?_eq_some_iff.1 hX2).1
    have I2 : Hid (RpInv w b hs own vals ld n vn w2) := In.out.below hB2
    have hi9' := cell_later hB2 hi9
    have HKr2 : Hid (type_of% HKr.out) := HKr.out
    have zbd : bd < w2.heap.size := by omega
    have zb : b < w2.heap.size := by omega
    have HB2 : Hid (Below wr.heap.size wr w2) := hB2
    clear hA hX hb2 hX2 hB2 hnum hi9 hst'
    have hj : 16 * p + kn < 512 := by omega
    have zp : (p : Int) < 32 := by omega
    have zk : (kn : Int) < 16 := by omega
    obtain ⟨u0, hu0⟩ : ∃ u0, w2.cell? ⟨b, 1536 + p * 16 + kn, none⟩ = some u0 := ⟨_, by rw [show 1536 + p * 16 + kn = 1536 + (16 * p + kn) by omega]; exact I2.out.mem.val _ hj⟩
    have hf0 : w2.frozen? ⟨b, 1536 + p * 16 + kn, none⟩ = false := by
     obtain ⟨C, hC, _⟩ := I2.out.mem.root
     exact frozen_of_row _ b _ _ _ hC
    go_upto_region 9 with fail
    refine wp_region_Z (z := 10) (S := fun W => W.cell? ⟨wr.heap.size, 6, none⟩ = some (.int .i64 (kn : Int)) ∧ W.cell? ⟨wr.heap.size, 8, none⟩ = some (.int .i64 d.x.value)) (by kernel_rfl) ?_
    have hS : w2.drew.cell? ⟨wr.heap.size, 6, none⟩ = some (.int .i64 (kn : Int)) ∧ w2.drew.cell? ⟨wr.heap.size, 8, none⟩ = some (.int .i64 d.x.value) := ⟨c6, c8⟩
    refine zT (i := 0) (v := ?v1) (by decide +kernel) rfl (fun _ _ _ h => h) hS (.inl ⟨by rfl, ?y1⟩) ?_
    case y1 => (rintro wz ⟨zs0, zs1⟩; go_simp <;> with_reducible rfl)
    simp only [Act.put, z1, z2, z4, z5, z6]
    refine zT (i := 1) (v := ?v2) (by decide +kernel) rfl (fun _ _ _ h => h) hS (.inl ⟨by rfl, ?y2⟩) ?_
    case y2 => (rintro wz ⟨zs0, zs1⟩; go_simp <;> with_reducible rfl)
    simp only [Act.put, z1, z2, z3, z4, z5, z6]
    refine zT (i := 2) (v := ?v3) (by decide +kernel) rfl (fun _ _ _ h => h) hS (.inl ⟨by rfl, ?y3⟩) ?_
    case y3 => (rintro wz ⟨zs0, zs1⟩; go_simp <;> with_reducible rfl)
    simp only [Act.put, z1, z2, z3, z4, z5, z6]
    refine zT (i := 3) (v := ?v4) (by decide +kernel) rfl (fun _ _ _ h => h) hS (.inl ⟨by rfl, ?y4⟩) ?_
    case y4 => (rintro wz ⟨zs0, zs1⟩; go_simp <;> with_reducible rfl)
    simp only [Act.put, z1, z2, z3, z4, z5, z6]
    refine zT (i := 4) (v := ?v5) (by decide +kernel) rfl (fun _ _ _ h => h) hS (.inl ⟨by rfl, ?y5⟩) ?_
    case y5 => (rintro wz ⟨zs0, zs1⟩; go_simp <;> with_reducible rfl)
    simp only [Act.put, z1, z2, z3, z4, z5, z6]
    refine zT (i := 5) (v := ?v6) (by decide +kernel) rfl (fun _ _ _ h => h) hS (.inl ⟨by rfl, ?y6⟩) ?_
    case y6 => (rintro wz ⟨zs0, zs1⟩; go_simp <;> with_reducible rfl)
    simp only [Act.put, z1, z2, z3, z4, z5, z6]
    refine wpAnyZ_one (i := 6) (by decide +kernel) rfl (fun K hK => ?_)
    go_simp
    refine hK _ _ (fun _ => hS) ?_
    clear hK
    refine wpAnyZ_one (i := 7) (by decide +kernel) rfl (fun K hK => ?_)
    go_simp
    refine hK _ _ (fun _ => hS) ?_
    clear hK
    refine wpAnyZ_one (i := 8) (by decide +kernel) rfl (fun K hK => ?_)
    go_simp
    refine hK _ _ (fun _ => hS) ?_
    clear hK
    refine wpAnyZ_one (i := 9) (by decide +kernel) rfl (fun K hK => ?_)
    go_simp
    refine hK _ _ (fun _ => hS) ?_
    clear hK
    refine wpAnyZ_one (i := 10) (by decide +kernel) rfl (fun K hK => ?_)
    go_simp
    refine hK _ _ (fun h => absurd rfl h) ?_
    clear hK
    refine wpAnyZ_done (by decide +kernel) ?_ _
    have hDr := (Below.refl w2.heap.size w2).drew
    have I2d : RpInv w b hs own vals ld n vn w2.drew := I2.out.below hDr
    cases hl0 : (((d.items.length : Int)) == 0) with
    | true =>
     have hl1 : d.items.length = 0 := by simpa using hl0
     have hre : replayB vn (d :: ld.drop (n + 1)) = replayB (updV vn (16 * p + kn) d.x.value) (ld.drop (n + 1)) := by
      rw [replayB, hdp, hkt, if_pos gop, if_pos hl1]
     have I3 := I2d.wrote (n' := n + 1) hj (d.x.value) (hre.symm.trans HEQ.out)
     rw [show 1536 + (16 * p + kn) = 1536 + p * 16 + kn by omega] at I3
     have I4 : Hid (type_of% I3) := I3
     have hi10 : (w2.drew.setCell ⟨b, 1536 + p * 16 + kn, none⟩ (.int .i64 d.x.value)).cell? ⟨bd, n * 10 + 9, none⟩ = some (.slice aq d.items.length cq) := by
      rw [World.cell?_setCell_other _ _ _ _ (by intro e; injection e with e _; exact hbd e.symm)]; exact hi9'
     clear I3 I2d hDr hl1 hre
     go_wp2
     go_roundw
     case rel => exact ⟨n + 1, _, by omega, by go_num, I4⟩
     case measure => simp [intOf]; omega
    | false =>
     have hl1 : ¬ d.items.length = 0 := by simpa using hl0
     have hre : replayB vn (d :: ld.drop (n + 1)) = (false, updV vn (16 * p + kn) (d.x.value)) := by
      rw [replayB, hdp, hkt, if_pos gop, if_neg hl1]
     have I3 := I2d.mem.setVal hj (d.x.value)
     rw [show 1536 + (16 * p + kn) = 1536 + p * 16 + kn by omega] at I3
     have h1 : (replayB vals ld).1 = false := by rw [← HEQ.out, hre]
     have h2 : (replayB vals ld).2 = updV vn (16 * p + kn) (d.x.value) := by rw [← HEQ.out, hre]
     have hC3 : ChgD own w (w2.drew.setCell ⟨b, 1536 + p * 16 + kn, none⟩ (.int .i64 d.x.value)) own := ⟨I2d.chg.os, I2d.chg.tape, I2d.chg.output, by simpa using I2d.chg.size, fun q hq hn => by
      rw [heap_setCell_ne _ _ _ _ _ (fun e => by rw [e, HT.out] at hn; cases hn)]; exact I2d.chg.block q hq hn, I2d.chg.fresh⟩
     have HF : Hid (BkPost own w b (fun hs' vals' => hs' = hs ∧ vals' = (replayB vals ld).2) (w2.drew.setCell ⟨b, 1536 + p * 16 + kn, none⟩ (.int .i64 d.x.value))) := ⟨hs, _, own, I3, hC3, fun _ _ h => h, rfl, h2.symm⟩
     have hi10 : (w2.drew.setCell ⟨b, 1536 + p * 16 + kn, none⟩ (.int .i64 d.x.value)).cell? ⟨bd, n * 10 + 9, none⟩ = some (.slice aq d.items.length cq) := by
      rw [World.cell?_setCell_other _ _ _ _ (by intro e; injection e with e _; exact hbd e.symm)]; exact hi9'
     clear I3 I2d hDr hl1 hre hC3 h2
     go_wp2
     go_ret
     rw [h1]
     exact ⟨rfl, HF.out⟩
   ·rw [gop] at hst'
    go_wp2_with (first | (refine wpList_load_mid rfl 30 _ rfl bd (n * 10) rfl _ _ hst' Try.underlying30 rfl sizeStep ?_))
    have hA : Below wr.heap.size wr (wr.alloc (.cells #[.int .i64 d.x.who.1, .int .i64 d.x.who.2.1, .int .i64 d.x.who.2.2, .int .i64 5, .int .i64 d.x.at_.1, .int .i64 d.x.at_.2, .int .i64 (kn : Int), .int .i64 d.x.to_, .int .i64 d.x.value] 30)) := (Below.refl _ _).alloc (Nat.le_refl _) _
    have hX : (wr.alloc (.cells #[.int .i64 d.x.who.1, .int .i64 d.x.who.2.1, .int .i64 d.x.who.2.2, .int .i64 5, .int .i64 d.x.at_.1, .int .i64 d.x.at_.2, .int .i64 (kn : Int), .int .i64 d.x.to_, .int .i64 d.x.value] 30)).heap[wr.heap.size]? = some (.cells #[.int .i64 d.x.who.1, .int .i64 d.x.who.2.1, .int .i64 d.x.who.2.2, .int .i64 5, .int .i64 d.x.at_.1, .int .i64 d.x.at_.2, .int .i64 (kn : Int), .int .i64 d.x.to_, .int .i64 d.x.value] 30 (0, 0)) := heap_alloc_new wr _
    refine (hnum _).mono ?_
    rintro e w2 ⟨rfl, hb2⟩
    have hB2 : Below wr.heap.size wr w2 := hA.trans (hb2.mono hA.size)
    have hX2 : w2.heap[wr.heap.size]? = _ := (hb2.block wr.heap.size (by simp)).trans hX
    obtain ⟨c0, c1, c2, c3, c4, c5, c6, c7, c8, _⟩ := step9_cells hX2
    have zx : wr.heap.size < w2.heap.size := (Array.getElem?_eq_some_iff.1 hX2).1
    have I2 : Hid (RpInv w b hs own vals ld n vn w2) := In.out.below hB2
    have hi9' := cell_later hB2 hi9
    have HKr2 : Hid (type_of% HKr.out) := HKr.out
    have zbd : bd < w2.heap.size := by omega
    have zb : b < w2.heap.size := by omega
    have HB2 : Hid (Below wr.heap.size wr w2) := hB2
    clear hA hX hb2 hX2 hB2 hnum hi9 hst'
    have hj : 16 * p + kn < 512 := by omega
    have zp : (p : Int) < 32 := by omega
    have zk : (kn : Int) < 16 := by omega
    obtain ⟨u0, hu0⟩ : ∃ u0, w2.cell? ⟨b, 1536 + p * 16 + kn, none⟩ = some u0 := ⟨_, by rw [show 1536 + p * 16 + kn = 1536 + (16 * p + kn) by omega]; exact I2.out.mem.val _ hj⟩
    have hf0 : w2.frozen? ⟨b, 1536 + p * 16 + kn, none⟩ = false := by
     obtain ⟨C, hC, _⟩ := I2.out.mem.root
     exact frozen_of_row _ b _ _ _ hC
    go_upto_region 11 with fail
    refine wp_region_Z (z := 8) (S := fun W => W.cell? ⟨wr.heap.size, 6, none⟩ = some (.int .i64 (kn : Int)) ∧ W.cell? ⟨wr.heap.size, 7, none⟩ = some (.int .i64 d.x.to_)) (by kernel_rfl) ?_
    have hS : w2.drew.cell? ⟨wr.heap.size, 6, none⟩ = some (.int .i64 (kn : Int)) ∧ w2.drew.cell? ⟨wr.heap.size, 7, none⟩ = some (.int .i64 d.x.to_) := ⟨c6, c7⟩
    refine zT (i := 0) (v := ?v7) (by decide +kernel) rfl (fun _ _ _ h => h) hS (.inl ⟨by rfl, ?y7⟩) ?_
    case y7 => (rintro wz ⟨zs0, zs1⟩; go_simp <;> with_reducible rfl)
    simp only [Act.put, z1, z2, z4, z5, z6]
    refine zT (i := 1) (v := ?v8) (by decide +kernel) rfl (fun _ _ _ h => h) hS (.inl ⟨by rfl, ?y8⟩) ?_
    case y8 => (rintro wz ⟨zs0, zs1⟩; go_simp <;> with_reducible rfl)
    simp only [Act.put, z1, z2, z3, z4, z5, z6]
    refine zT (i := 2) (v := ?v9) (by decide +kernel) rfl (fun _ _ _ h => h) hS (.inl ⟨by rfl, ?y9⟩) ?_
    case y9 => (rintro wz ⟨zs0, zs1⟩; go_simp <;> with_reducible rfl)
    simp only [Act.put, z1, z2, z3, z4, z5, z6]
    refine zT (i := 3) (v := ?v10) (by decide +kernel) rfl (fun _ _ _ h => h) hS (.inl ⟨by rfl, ?y10⟩) ?_
    case y10 => (rintro wz ⟨zs0, zs1⟩; go_simp <;> with_reducible rfl)
    simp only [Act.put, z1, z2, z3, z4, z5, z6]
    refine wpAnyZ_one (i := 4) (by decide +kernel) rfl (fun K hK => ?_)
    go_simp
    refine hK _ _ (fun _ => hS) ?_
    clear hK
    refine wpAnyZ_one (i := 5) (by decide +kernel) rfl (fun K hK => ?_)
    go_simp
    refine hK _ _ (fun _ => hS) ?_
    clear hK
    refine wpAnyZ_one (i := 6) (by decide +kernel) rfl (fun K hK => ?_)
    go_simp
    refine hK _ _ (fun _ => hS) ?_
    clear hK
    refine wpAnyZ_one (i := 7) (by decide +kernel) rfl (fun K hK => ?_)
    go_simp
    refine hK _ _ (fun _ => hS) ?_
    clear hK
    refine wpAnyZ_one (i := 8) (by decide +kernel) rfl (fun K hK => ?_)
    go_simp
    refine hK _ _ (fun h => absurd rfl h) ?_
    clear hK
    refine wpAnyZ_done (by decide +kernel) ?_ _
    have hDr := (Below.refl w2.heap.size w2).drew
    have I2d : RpInv w b hs own vals ld n vn w2.drew := I2.out.below hDr
    cases hl0 : (((d.items.length : Int)) == 0) with
    | true =>
     have hl1 : d.items.length = 0 := by simpa using hl0
     have hre : replayB vn (d :: ld.drop (n + 1)) = replayB (updV vn (16 * p + kn) (-1)) (ld.drop (n + 1)) := by
      rw [replayB, hdp, hkt, if_neg (by rw [gop]; decide), if_pos gop, if_pos hl1]
     have I3 := I2d.wrote (n' := n + 1) hj ((-1)) (hre.symm.trans HEQ.out)
     rw [show 1536 + (16 * p + kn) = 1536 + p * 16 + kn by omega] at I3
     have I4 : Hid (type_of% I3) := I3
     have hi10 : (w2.drew.setCell ⟨b, 1536 + p * 16 + kn, none⟩ (.int .i64 (-1))).cell? ⟨bd, n * 10 + 9, none⟩ = some (.slice aq d.items.length cq) := by
      rw [World.cell?_setCell_other _ _ _ _ (by intro e; injection e with e _; exact hbd e.symm)]; exact hi9'
     clear I3 I2d hDr hl1 hre
     go_wp2
     go_roundw
     case rel => exact ⟨n + 1, _, by omega, by go_num, I4⟩
     case measure => simp [intOf]; omega
    | false =>
     have hl1 : ¬ d.items.length = 0 := by simpa using hl0
     have hre : replayB vn (d :: ld.drop (n + 1)) = (false, updV vn (16 * p + kn) ((-1))) := by
      rw [replayB, hdp, hkt, if_neg (by rw [gop]; decide), if_pos gop, if_neg hl1]
     have I3 := I2d.mem.setVal hj ((-1))
     rw [show 1536 + (16 * p + kn) = 1536 + p * 16 + kn by omega] at I3
     have h1 : (replayB vals ld).1 = false := by rw [← HEQ.out, hre]
     have h2 : (replayB vals ld).2 = updV vn (16 * p + kn) ((-1)) := by rw [← HEQ.out, hre]
     have hC3 : ChgD own w (w2.drew.setCell ⟨b, 1536 + p * 16 + kn, none⟩ (.int .i64 (-1))) own := ⟨I2d.chg.os, I2d.chg.tape, I2d.chg.output, by simpa using I2d.chg.size, fun q hq hn => by
      rw [heap_setCell_ne _ _ _ _ _ (fun e => by rw [e, HT.out] at hn; cases hn)]; exact I2d.chg.block q hq hn, I2d.chg.fresh⟩
     have HF : Hid (BkPost own w b (fun hs' vals' => hs' = hs ∧ vals' = (replayB vals ld).2) (w2.drew.setCell ⟨b, 1536 + p * 16 + kn, none⟩ (.int .i64 (-1)))) := ⟨hs, _, own, I3, hC3, fun _ _ h => h, rfl, h2.symm⟩
     have hi10 : (w2.drew.setCell ⟨b, 1536 + p * 16 + kn, none⟩ (.int .i64 (-1))).cell? ⟨bd, n * 10 + 9, none⟩ = some (.slice aq d.items.length cq) := by
      rw [World.cell?_setCell_other _ _ _ _ (by intro e; injection e with e _; exact hbd e.symm)]; exact hi9'
     clear I3 I2d hDr hl1 hre hC3 h2
     go_wp2
     go_ret
     rw [h1]
     exact ⟨rfl, HF.out⟩
  ·have e : n = ld.length := by omega
   subst e
   have heq := In.out.eq
   rw [List.drop_length] at heq
   have h1 : (replayB vals ld).1 = true := by rw [← heq]; rfl
   have h2 : (replayB vals ld).2 = vn := by rw [← heq]; rfl
   have HF : Hid (BkPost own w b (fun hs' vals' => hs' = hs ∧ vals' = (replayB vals ld).2) wr) := ⟨hs, vn, own, In.out.mem, In.out.chg, fun _ _ h => h, rfl, h2.symm⟩
   go_wp2
   go_ret
   rw [h1]
   exact ⟨rfl, HF.out⟩
structure Pd where
 live : Bool
 done : List (Stp × List (Int × Int))
 open_ : Bool
 x : Stp
def pd0 : Pd := ⟨false, [], false, zeroStp⟩
def Did.pl (d : Did) : Stp × List (Int × Int) := (d.x, d.items)
def Hd.pl (h : Hd) : Pd := ⟨h.live, h.done.map Did.pl, h.open_, h.x⟩
def plP (e : Stp × List (Int × Int)) : Nat := (numZ e.1.at_.1 e.1.at_.2).toNat
def plHi (e : Stp × List (Int × Int)) : Nat := if e.1.op = 3 then e.1.to_.toNat else e.1.key.toNat
def replayP (vals : Nat → Int) : List (Stp × List (Int × Int)) → Bool × (Nat → Int)
 | [] => (true, vals)
 | e :: l =>
  if e.1.op = 4 then (if e.2.length = 0 then replayP (updV vals (16 * plP e + e.1.key.toNat) e.1.value) l else (false, updV vals (16 * plP e + e.1.key.toNat) e.1.value))
  else if e.1.op = 5 then (if e.2.length = 0 then replayP (updV vals (16 * plP e + e.1.key.toNat) (-1)) l else (false, updV vals (16 * plP e + e.1.key.toNat) (-1)))
  else if seenL vals (plP e) e.1.key.toNat (plHi e + 1 - e.1.key.toNat) = e.2 then replayP vals l else (false, vals)
theorem replayB_pl : ∀ (l : List Did) (vals : Nat → Int), replayB vals l = replayP vals (l.map Did.pl)
 | [], _ => rfl
 | d :: l, vals => by
  rw [List.map_cons, replayB, replayP]
  show _ = if d.x.op = 4 then _ else _
  rw [replayB_pl l, replayB_pl l, replayB_pl l]
  rfl
def updP (ps : Nat → Pd) (k : Nat) (p : Pd) : Nat → Pd := fun q => if q = k then p else ps q
def noteP (ps : Nat → Pd) (k : Nat) (x : Stp) (a : Ans) : Bool × (Nat → Pd) :=
 if a.code = 0 then ((ps k).live, updP ps k { ps k with done := (ps k).done ++ [(x, a.items)] }) else (((a.items.length : Int) == 0), ps)
def tellP (ps : Nat → Pd) (vals : Nat → Int) (x : Stp) (a : Ans) : Bool × (Nat → Pd) × (Nat → Int) :=
 if properB x = false then (decide (a.code = 9) && ((a.items.length : Int) == 0), ps, vals)
 else
  let k := (sessZ' x.who).toNat
  if a.code = 2 then (decide (a.why = 1) || decide (a.why = 2), updP ps k pd0, vals)
  else if a.why ≠ 0 then (false, ps, vals)
  else if x.op = 1 ∧ a.code = 0 then (true, updP ps k { pd0 with live := true }, vals)
  else if x.op = 7 ∧ a.code = 0 then (true, updP ps k pd0, vals)
  else if x.op = 6 ∧ a.code = 0 then ((replayP vals (ps k).done).1, updP ps k pd0, (replayP vals (ps k).done).2)
  else if x.op = 8 ∧ (ps k).open_ = true ∧ a.code ≠ 1 then ((noteP (updP ps k { ps k with open_ := false }) k (ps k).x a).1, (noteP (updP ps k { ps k with open_ := false }) k (ps k).x a).2, vals)
  else if (2 ≤ x.op ∧ x.op ≤ 5) ∧ a.code = 1 then (true, updP ps k { ps k with open_ := true, x := x }, vals)
  else if 2 ≤ x.op ∧ x.op ≤ 5 then ((noteP ps k x a).1, (noteP ps k x a).2, vals)
  else (true, ps, vals)
def BkAt (w : World) (b : Nat) (ps : Nat → Pd) (vals : Nat → Int) (own : Own) : Prop := ∃ hs, BkMem w b hs vals own ∧ ∀ k, k < 128 → (hs k).pl = ps k
def BkOut (own : Own) (w : World) (b : Nat) (ps : Nat → Pd) (vals : Nat → Int) (w' : World) : Prop := ∃ own', BkAt w' b ps vals own' ∧ ChgD own w w' own' ∧ ∀ q t, own q = some t → own' q = some t
theorem BkMem.below {w w' : World} {b : Nat} {hs : Nat → Hd} {vals : Nat → Int} {own : Own} (m : BkMem w b hs vals own) (hb : Below w.heap.size w w') : BkMem w' b hs vals own := m.frame (fun q hq => hb.block q (m.old q hq)) hb.size
theorem BkMem.setBare {w : World} {b : Nat} {hs : Nat → Hd} {vals : Nat → Int} {own : Own} (m : BkMem w b hs vals own) {k : Nat} (hk : k < 128) (h' : Hd) (hd : h'.dv = .slice none 0 0) (he : h'.done = []) :
  BkMem (w.setCells b (k * 12) (handC h')) b (updH hs k h') vals own ∧ ChgD own w (w.setCells b (k * 12) (handC h')) own := by
 obtain ⟨C, hC, hCz⟩ := m.root
 have hr := setCells_root (handC h') (k * 12) w C hC
 obtain ⟨C', hC', hCz'⟩ := hr
 have hth : w.there b (k * 12) (handC h').length := by rw [len_handC]; exact m.there (by omega)
 have hsame : ∀ q, q ≠ b → (w.setCells b (k * 12) (handC h')).heap[q]? = w.heap[q]? := fun q hq => setCells_other _ _ _ _ hq
 have hkb := World.keptBut_setCells b (may := fun _ => True) (handC h') (k * 12) w (fun _ _ => trivial)
 refine ⟨m.setHand hk h' (fun _ _ h => h) (fun q _ hqb _ => hsame q hqb) ⟨C', hC', by omega⟩ (World.rangeAt_setCells_same w b (k * 12) (handC h') hth) (fun o ho => World.cell?_setCells_out b (handC h') (k * 12) w ⟨b, o, none⟩ (fun _ _ => by rw [len_handC]; simpa using ho)) ?_ (fun d hd' => by rw [he] at hd'; cases hd') (fun q hq => by rw [setCells_size]; exact m.old q hq), ?_⟩
 ·rw [hd, he]
  exact ⟨World.ownsRow_nil _ _ _ _, fun q hq => by cases hq⟩
 ·refine ⟨hkb.1, setCells_tape _ _ _, hkb.2.1, by rw [setCells_size]; exact Nat.le_refl _, fun q hq hn => hsame q (fun e => by rw [e, m.tag] at hn; cases hn), fun q hq => .inl hq⟩
theorem upd_pl {hs : Nat → Hd} {ps : Nat → Pd} {k : Nat} {h' : Hd} (h : ∀ q, q < 128 → (hs q).pl = ps q) : ∀ q, q < 128 → (updH hs k h' q).pl = updP ps k h'.pl q := fun q hq => by
 unfold updH updP
 split
 ·rfl
 ·exact h q hq
theorem BkMem.setOne {w : World} {b : Nat} {hs : Nat → Hd} {vals : Nat → Int} {own : Own} (m : BkMem w b hs vals own) {k : Nat} (hk : k < 128) (v : Bool) :
  BkMem (w.setCell ⟨b, k * 12 + 2, none⟩ (.bool v)) b (updH hs k { hs k with open_ := v }) vals own ∧ ChgD own w (w.setCell ⟨b, k * 12 + 2, none⟩ (.bool v)) own := by
 obtain ⟨C, hC, hCz⟩ := m.root
 have hC2 := heap_setCell_same w b (k * 12 + 2) C _ (.bool v) hC
 have hcell : ∀ o, o ≠ k * 12 + 2 → (w.setCell ⟨b, k * 12 + 2, none⟩ (.bool v)).cell? ⟨b, o, none⟩ = w.cell? ⟨b, o, none⟩ := fun o ho =>
  World.cell?_setCell_other _ _ _ _ (by intro e; injection e with _ e; exact ho e.symm)
 have hne : ∀ q t, own q = some t → t ≠ (1, 0, 0, 0) → q ≠ b := fun q t hq ht e => by
  rw [e, m.tag] at hq; exact ht (Option.some.inj hq).symm
 refine ⟨m.setHand hk _ (fun _ _ h => h) (fun q _ hqb _ => heap_setCell_ne _ _ _ _ _ hqb) ⟨_, hC2, by simp [hCz]⟩ ?_ (fun o ho => hcell o (by omega)) ?_ ?_ (fun q hq => by have := m.old q hq; simpa using this), ?_⟩
 ·intro j u hj
  by_cases hj2 : j = 2
  ·subst hj2
   have : u = .bool v := by simpa [handC] using hj.symm
   rw [this, cell_of_row _ b _ _ _ _ hC2, Array.getElem?_setIfInBounds, if_pos rfl, if_pos (by omega)]
  ·rw [hcell (k * 12 + j) (by omega)]
   refine m.hand k hk j u ?_
   rw [← hj]
   unfold handC
   match j, hj2 with
   | 0, _ => rfl
   | 1, _ => rfl
   | j + 3, _ => rfl
 ·exact (m.row k hk).frame (fun q hq => heap_setCell_ne _ _ _ _ _ (hne q _ hq (by intro c; injection c with c; omega))) (fun _ h => h)
 ·intro d hd
  obtain ⟨a1, a2⟩ := m.kept k hk d hd
  exact ⟨ownsRow_frame a1 (fun q hq => heap_setCell_ne _ _ _ _ _ (hne q _ (a2 q hq) (by intro c; cases c))), a2⟩
 ·exact ⟨rfl, rfl, rfl, by simp, fun q _ hn => heap_setCell_ne _ _ _ _ _ (fun e => by rw [e, m.tag] at hn; cases hn), fun q hq => .inl hq⟩
theorem BkMem.setStep {w : World} {b : Nat} {hs : Nat → Hd} {vals : Nat → Int} {own : Own} (m : BkMem w b hs vals own) {k : Nat} (hk : k < 128) (x : Stp) :
  BkMem (w.setCells b (k * 12 + 3) (stepC x)) b (updH hs k { hs k with x := x }) vals own ∧ ChgD own w (w.setCells b (k * 12 + 3) (stepC x)) own := by
 obtain ⟨C, hC, hCz⟩ := m.root
 obtain ⟨C', hC', hCz'⟩ := setCells_root (stepC x) (k * 12 + 3) w C hC
 have hth : w.there b (k * 12 + 3) (stepC x).length := m.there (by show k * 12 + 3 + 9 ≤ 2048; omega)
 have hsame : ∀ q, q ≠ b → (w.setCells b (k * 12 + 3) (stepC x)).heap[q]? = w.heap[q]? := fun q hq => setCells_other _ _ _ _ hq
 have hkb := World.keptBut_setCells b (may := fun _ => True) (stepC x) (k * 12 + 3) w (fun _ _ => trivial)
 have hcell : ∀ o, (o < k * 12 + 3 ∨ k * 12 + 12 ≤ o) → (w.setCells b (k * 12 + 3) (stepC x)).cell? ⟨b, o, none⟩ = w.cell? ⟨b, o, none⟩ := fun o ho =>
  World.cell?_setCells_out b (stepC x) (k * 12 + 3) w ⟨b, o, none⟩ (fun _ _ => by show o < k * 12 + 3 ∨ k * 12 + 3 + 9 ≤ o; omega)
 have hne : ∀ q t, own q = some t → t ≠ (1, 0, 0, 0) → q ≠ b := fun q t hq ht e => by
  rw [e, m.tag] at hq; exact ht (Option.some.inj hq).symm
 refine ⟨m.setHand hk _ (fun _ _ h => h) (fun q _ hqb _ => hsame q hqb) ⟨C', hC', by omega⟩ ?_ (fun o ho => hcell o (by omega)) ?_ ?_ (fun q hq => by rw [setCells_size]; exact m.old q hq), ?_⟩
 ·intro j u hj
  by_cases hj3 : j < 3
  ·rw [hcell (k * 12 + j) (by omega)]
   refine m.hand k hk j u ?_
   rw [← hj]
   unfold handC
   match j, hj3 with
   | 0, _ => rfl
   | 1, _ => rfl
   | 2, _ => rfl
  ·obtain ⟨i, rfl⟩ : ∃ i, j = 3 + i := ⟨j - 3, by omega⟩
   have hs3 : (stepC x)[i]? = some u := by
    rw [← hj]
    unfold handC
    rw [List.getElem?_append_right (by simp)]
    simp
   rw [← Nat.add_assoc]
   exact World.rangeAt_setCells_same w b (k * 12 + 3) (stepC x) hth i u hs3
 ·exact (m.row k hk).frame (fun q hq => hsame q (hne q _ hq (by intro c; injection c with c; omega))) (fun _ h => h)
 ·intro d hd
  obtain ⟨a1, a2⟩ := m.kept k hk d hd
  exact ⟨ownsRow_frame a1 (fun q hq => hsame q (hne q _ (a2 q hq) (by intro c; cases c))), a2⟩
 ·exact ⟨hkb.1, setCells_tape _ _ _, hkb.2.1, by rw [setCells_size]; exact Nat.le_refl _, fun q _ hn => hsame q (fun e => by rw [e, m.tag] at hn; cases hn), fun q hq => .inl hq⟩
end Go.Proofs.Ytpbcplfpjcacfaa
namespace Go.Proofs.Ytpbcplfpjcacfaa
open Go.RowKit
set_option maxRecDepth 100000
set_option maxHeartbeats 8000000
def lkGood (q : Nat) (l : Lk) : Prop := labB l.at_.1 l.at_.2 = true ∧ domB (labOf q).1 (labOf q).2 l.at_.1 l.at_.2 = true ∧ (l.wr = true → l.at_ = labOf q)
def sesGood (q : Nat) (s : Ses) : Prop := (∀ l ∈ s.locks, lkGood q l) ∧ lkGood q (lkOf s.req)
def trGood (q : Nat) (t : Tr) : Prop := ∀ n, sesGood q (t.ses n)
def PDm (s : PS) : Prop := ∀ q, q < 32 → trGood q (s.t q)
theorem dom_least : ∀ q : Nat, q < 32 → domB (labOf q).1 (labOf q).2 0 0 = true := by decide
theorem lk0_good {q : Nat} (hq : q < 32) : lkGood q (lkOf stp0) := ⟨by decide, dom_least q hq, fun h => by simp [lkOf, stp0] at h⟩
theorem ses0_good {q : Nat} (hq : q < 32) : sesGood q ses0 := ⟨fun l hl => by simp [ses0] at hl, lk0_good hq⟩
theorem trGood.setS {q n : Nat} {t : Tr} (h : trGood q t) {x : Ses} (hx : sesGood q x) : trGood q (t.setS n x) := by
 intro m
 show sesGood q (upd t.ses n x m)
 by_cases e : m = n
 ·subst e; rw [upd_same]; exact hx
 ·rw [upd_ne _ _ e]; exact h m
theorem trGood.endT {q : Nat} {t : Tr} (h : trGood q t) (hq : q < 32) (n : Nat) : trGood q (t.endT n) := fun m => (h.setS (ses0_good hq) : trGood q (t.setS n ses0)) m
theorem trGood.forceT {q : Nat} {t : Tr} (h : trGood q t) (hq : q < 32) (n : Nat) (w : Int) : trGood q (t.forceT n w) := (h.endT hq n).setS ⟨fun l hl => by simp [ses0] at hl, lk0_good hq⟩
theorem trGood.preTo {q : Nat} {t : Tr} (h : trGood q t) (hq : q < 32) (r : Lk) : ∀ k, trGood q (t.preTo r k)
 | 0 => h
 | k + 1 => by
  unfold Tr.preTo
  split
  ·exact (trGood.preTo h hq r k).forceT hq k 1
  ·exact trGood.preTo h hq r k
theorem trGood.leaveT {q : Nat} {t : Tr} (h : trGood q t) (hq : q < 32) (n : Nat) : trGood q (t.leaveT n) := fun m => (h.setS (x := { t.ses n with req := stp0 }) ⟨(h n).1, lk0_good hq⟩ : trGood q (t.setS n _)) m
theorem trGood.joinT {q : Nat} {t : Tr} (h : trGood q t) (n : Nat) {x : Stp} (hx : lkGood q (lkOf x)) : trGood q (t.joinT n x) := fun m => (h.setS (x := { t.ses n with req := x }) ⟨(h n).1, hx⟩ : trGood q (t.setS n _)) m
theorem PDm.setT {s : PS} (h : PDm s) {q : Nat} {T : Tr} (hT : trGood q T) : PDm (s.setT q T) := by
 intro q' hq'
 show trGood q' (upd s.t q T q')
 by_cases e : q' = q
 ·subst e; rw [upd_same]; exact hT
 ·rw [upd_ne _ _ e]; exact h q' hq'
theorem PDm.setS {s : PS} (h : PDm s) {q n : Nat} (hq : q < 32) {x : Ses} (hl : x.locks = ((s.t q).ses n).locks) (hr : x.req = ((s.t q).ses n).req) : PDm (s.setS q n x) :=
 h.setT ((h q hq).setS ⟨by rw [hl]; exact (h q hq n).1, by rw [hr]; exact (h q hq n).2⟩)
theorem PDm.preT {s : PS} (h : PDm s) (r : Lk) : PDm (s.preT r) := by
 intro q hq
 show trGood q (if plOf r.at_ < q ∧ q < 32 then (s.t q).preTo r 4 else s.t q)
 split
 ·exact (h q hq).preTo hq r 4
 ·exact h q hq
theorem PDm.lockA {s : PS} (h : PDm s) {q : Nat} (hq : q < 32) (n : Nat) {r : Lk} (hr : lkGood q r) : PDm ((s.setT q ((s.t q).leaveT n)).addLock q n r) := by
 rw [addLock_leave]
 have g := (h q hq).leaveT hq n
 refine h.setT (g.setS ⟨fun l hl => ?_, (g n).2⟩)
 rcases List.mem_append.1 hl with h1 | h1
 ·exact (g n).1 l h1
 ·simp at h1; subst h1; exact hr
theorem PDm.lockT {s : PS} (h : PDm s) {q : Nat} (hq : q < 32) (n : Nat) {x : Stp} (hx : lkGood q (lkOf x)) : PDm (s.lockT q n x) := by
 unfold PS.lockT
 split
 ·exact (h.lockA hq n hx).preT _
 ·exact h.lockA hq n hx
theorem PDm.grantT {s : PS} (h : PDm s) {q : Nat} (hq : q < 32) (n : Nat) (x : Stp) : PDm (s.grantT q n x).1 := by
 unfold PS.grantT PS.putT
 split
 ·split
  ·exact h
  ·exact h.setS hq rfl rfl
 ·split
  ·exact h.setS hq rfl rfl
  ·exact h
theorem PDm.admitT {s : PS} (h : PDm s) {q : Nat} (hq : q < 32) (n : Nat) : PDm (s.admitT q n).1 := (h.lockT hq n (h q hq n).2).grantT hq n _
theorem PDm.settle1 {s : PS} (h : PDm s) {q : Nat} (hq : q < 32) (a n : Nat) : PDm (s.settle1 q a n) := by
 unfold PS.settle1
 split
 ·exact (h.admitT hq n).setS hq rfl rfl
 ·exact h
theorem PDm.setI {s : PS} (h : PDm s) {q : Nat} (hq : q < 32) (f : Nat → Option Int) : PDm (s.setI q f) := h.setT (fun n => h q hq n)
theorem good_of {x : Stp} {q n : Nat} (hp : properB x = true) (hw : x.who = whoOf q n) : x.op ≠ 8 → x.op ≠ 7 → x.op ≠ 1 → x.op ≠ 6 → x.may = true → lkGood q (lkOf x) := fun h8 h7 h1 h6 hm => by
 have ho := (proper_of hp).op
 have hr := req_of hp hw (by omega)
 have hwr := may_wr hr.who hm
 refine ⟨hr.lab, ?_, hwr⟩
 show domB (labOf q).1 (labOf q).2 x.at_.1 x.at_.2 = true
 by_cases hz : x.op = 4 ∨ x.op = 5
 ·have : x.at_ = labOf q := hwr (by unfold lkOf; exact decide_eq_true hz)
  rw [this]; exact domB_self _ _
 ·unfold Stp.may at hm
  rw [if_neg hz, hw] at hm
  exact hm
theorem dm0 (k v c : Int) : PDm (ps0 k v c) := fun _ hq _ => ses0_good hq
theorem pair_ans {N : Nat} {p : PS × RS} (h : (thePgm.pair theDoc).Ok N p) (x : Stp) : ((thePgm.pair theDoc).act p x).2 = (p.1.doT x).2 := (theDoc.ans x h.2.1 h.1).symm
def enc : Option Int → Int
 | none => -1
 | some v => v
def ovl (vals : Nat → Int) (q : Nat) (x : Wrt) : Nat → Int := fun j => if j / 16 = q ∧ x.touched (j % 16) = true then enc (x.left (j % 16)) else vals j
theorem ovl_zero (vals : Nat → Int) (q : Nat) : ovl vals q wrt0 = vals := by
 funext j; unfold ovl wrt0; simp
theorem ovl_put {vals : Nat → Int} {q k : Nat} (x : Wrt) (v : Int) (hk : k < 16) : ovl vals q (x.putT k v) = updV (ovl vals q x) (16 * q + k) v := by
 funext j
 unfold ovl Wrt.putT updV upd
 simp only
 by_cases e : j = 16 * q + k
 ·have h1 : j / 16 = q := by omega
  have h2 : j % 16 = k := by omega
  rw [if_pos e, if_pos ⟨h1, by rw [if_pos h2]⟩, if_pos h2]; rfl
 ·rw [if_neg e]
  by_cases h1 : j / 16 = q
  ·have h2 : j % 16 ≠ k := fun h => e (by omega)
   rw [if_neg h2, if_neg h2]
  ·rw [if_neg (fun h => h1 h.1), if_neg (fun h => h1 h.1)]
theorem ovl_del {vals : Nat → Int} {q k : Nat} (x : Wrt) (hk : k < 16) : ovl vals q (x.delT k) = updV (ovl vals q x) (16 * q + k) (-1) := by
 funext j
 unfold ovl Wrt.delT updV upd
 simp only
 by_cases e : j = 16 * q + k
 ·have h1 : j / 16 = q := by omega
  have h2 : j % 16 = k := by omega
  rw [if_pos e, if_pos ⟨h1, by rw [if_pos h2]⟩, if_pos h2]; rfl
 ·rw [if_neg e]
  by_cases h1 : j / 16 = q
  ·have h2 : j % 16 ≠ k := fun h => e (by omega)
   rw [if_neg h2, if_neg h2]
  ·rw [if_neg (fun h => h1 h.1), if_neg (fun h => h1 h.1)]
abbrev Ev := Stp × List (Int × Int)
def GoodD (vals : Nat → Int) (q : Nat) : Wrt → List Ev → Wrt → Prop
 | x, [], y => x = y
 | x, e :: l, y =>
  if e.1.op = 4 then e.2 = [] ∧ plP e = q ∧ e.1.key.toNat < 16 ∧ GoodD vals q (x.putT e.1.key.toNat e.1.value) l y
  else if e.1.op = 5 then e.2 = [] ∧ plP e = q ∧ e.1.key.toNat < 16 ∧ GoodD vals q (x.delT e.1.key.toNat) l y
  else seenL (ovl vals q x) (plP e) e.1.key.toNat (plHi e + 1 - e.1.key.toNat) = e.2 ∧ GoodD vals q x l y
theorem good_replay {vals : Nat → Int} {q : Nat} : ∀ (l : List Ev) (x y : Wrt), GoodD vals q x l y → replayP (ovl vals q x) l = (true, ovl vals q y)
 | [], x, y, h => by
  have : x = y := h
  rw [this]; rfl
 | e :: l, x, y, h => by
  unfold GoodD at h
  unfold replayP
  by_cases h4 : e.1.op = 4
  ·rw [if_pos h4] at h ⊢
   obtain ⟨h1, h2, h3, h5⟩ := h
   rw [if_pos (by rw [h1]; rfl), h2, ← ovl_put x _ h3]
   exact good_replay l _ y h5
  ·rw [if_neg h4] at h ⊢
   by_cases h5 : e.1.op = 5
   ·rw [if_pos h5] at h ⊢
    obtain ⟨h1, h2, h3, h6⟩ := h
    rw [if_pos (by rw [h1]; rfl), h2, ← ovl_del x h3]
    exact good_replay l _ y h6
   ·rw [if_neg h5] at h ⊢
    rw [if_pos h.1]
    exact good_replay l _ y h.2
theorem good_snoc {vals : Nat → Int} {q : Nat} {e : Ev} {z : Wrt} : ∀ (l : List Ev) (x y : Wrt), GoodD vals q x l y → GoodD vals q y [e] z → GoodD vals q x (l ++ [e]) z
 | [], x, y, h, g => by
  have : x = y := h
  rw [this]; exact g
 | d :: l, x, y, h, g => by
  rw [List.cons_append]
  unfold GoodD at h ⊢
  by_cases h4 : d.1.op = 4
  ·rw [if_pos h4] at h ⊢
   exact ⟨h.1, h.2.1, h.2.2.1, good_snoc l _ y h.2.2.2 g⟩
  ·rw [if_neg h4] at h ⊢
   by_cases h5 : d.1.op = 5
   ·rw [if_pos h5] at h ⊢
    exact ⟨h.1, h.2.1, h.2.2.1, good_snoc l _ y h.2.2.2 g⟩
   ·rw [if_neg h5] at h ⊢
    exact ⟨h.1, good_snoc l _ y h.2 g⟩
theorem seenL_congr {f g : Nat → Int} {l lo n : Nat} (h : ∀ i, i < n → f (16 * l + (lo + i)) = g (16 * l + (lo + i))) : seenL f l lo n = seenL g l lo n := by
 unfold seenL
 refine filterMap_cg (fun i hi => ?_)
 unfold seenPick
 rw [h i (List.mem_range.1 hi)]
theorem good_frame {vals vals' : Nat → Int} {q : Nat} : ∀ (l : List Ev) (x y : Wrt), (∀ e ∈ l, e.1.op ≠ 4 → e.1.op ≠ 5 → ∀ i, i < plHi e + 1 - e.1.key.toNat → vals (16 * plP e + (e.1.key.toNat + i)) = vals' (16 * plP e + (e.1.key.toNat + i))) → GoodD vals q x l y → GoodD vals' q x l y
 | [], _, _, _, h => h
 | e :: l, x, y, hf, h => by
  have hf' : ∀ e ∈ l, e.1.op ≠ 4 → e.1.op ≠ 5 → ∀ i, i < plHi e + 1 - e.1.key.toNat → vals (16 * plP e + (e.1.key.toNat + i)) = vals' (16 * plP e + (e.1.key.toNat + i)) := fun d hd => hf d (List.mem_cons_of_mem _ hd)
  unfold GoodD at h ⊢
  by_cases h4 : e.1.op = 4
  ·rw [if_pos h4] at h ⊢
   exact ⟨h.1, h.2.1, h.2.2.1, good_frame l _ y hf' h.2.2.2⟩
  ·rw [if_neg h4] at h ⊢
   by_cases h5 : e.1.op = 5
   ·rw [if_pos h5] at h ⊢
    exact ⟨h.1, h.2.1, h.2.2.1, good_frame l _ y hf' h.2.2.2⟩
   ·rw [if_neg h5] at h ⊢
    refine ⟨?_, good_frame l _ y hf' h.2⟩
    rw [← h.1]
    refine seenL_congr (fun i hi => ?_)
    unfold ovl
    rw [hf e List.mem_cons_self h4 h5 i hi]
def Asked (x : Stp) : Prop := properB x = true ∧ (x.op = 2 ∨ x.op = 3 ∨ x.op = 4 ∨ x.op = 5)
structure AskedF (x : Stp) : Prop where
 lab : labB x.at_.1 x.at_.2 = true
 key : 0 ≤ x.key ∧ x.key ≤ 15
 to_ : x.op = 3 → x.key ≤ x.to_ ∧ x.to_ ≤ 15
 val : x.op = 4 → 0 ≤ x.value
theorem Asked.facts {x : Stp} (h : Asked x) : AskedF x := by
 obtain ⟨hp, ho⟩ := h
 have hp' := hp
 unfold properB at hp'
 have ha : asksB x.op = true := by unfold asksB; simpa using ho
 simp only [Bool.and_eq_true, decide_eq_true_eq, ha] at hp'
 obtain ⟨⟨h1, h2⟩, h3⟩ := hp'
 have h4 := properB_asks (x := x) ⟨⟨h1, h2.1, by omega⟩, h2.2.2⟩ ha
 rw [hp] at h4
 have h5 := h4.symm
 simp only [Bool.and_eq_true, Bool.or_eq_true, Bool.not_eq_true', decide_eq_true_eq, decide_eq_false_iff_not] at h5
 obtain ⟨⟨⟨a1, a2⟩, a3⟩, a4⟩ := h5
 refine ⟨a1, a2, fun e => ?_, fun e => ?_⟩
 ·rcases a3 with a3 | a3
  ·exact absurd e a3
  ·exact a3
 ·rcases a4 with a4 | a4
  ·exact absurd e a4
  ·exact a4.1
theorem plP_at {e : Ev} (h : labB e.1.at_.1 e.1.at_.2 = true) : plP e = plOf e.1.at_ := by
 unfold plP numZ plOf placeOf
 rw [if_pos h]
theorem AskedF.hi {x : Stp} (h : AskedF x) (i : List (Int × Int)) : x.key.toNat ≤ plHi (x, i) ∧ plHi (x, i) < 16 ∧ (lkOf x).lo = (x.key.toNat : Int) ∧ (lkOf x).hi = (plHi (x, i) : Int) := by
 have hk := h.key
 unfold plHi lkOf
 by_cases h3 : x.op = 3
 ·have := h.to_ h3
  simp only [if_pos h3]
  refine ⟨by omega, by omega, by omega, by omega⟩
 ·simp only [if_neg h3]
  refine ⟨by omega, by omega, by omega, by omega⟩
theorem sees_seenL {T : Nat → Option Int} {f : Nat → Int} {p lo hi : Nat} (h1 : lo ≤ hi) (h2 : hi < 16) (he : ∀ k, k < 16 → f (16 * p + k) = enc (T k)) (h0 : ∀ k v, k < 16 → T k = some v → 0 ≤ v) :
  listTo T (lo : Int) (hi : Int) 16 = seenL f p lo (hi + 1 - lo) := by
 rw [listTo_window T h1 h2]
 unfold seenL
 refine filterMap_cg (fun i hi' => ?_)
 have hi'' := List.mem_range.1 hi'
 unfold seenPick
 rw [he (lo + i) (by omega)]
 cases hT : T (lo + i) with
 | none => simp [enc]
 | some v =>
  have := h0 (lo + i) v (by omega) hT
  simp [enc, this]
end Go.Proofs.Ytpbcplfpjcacfaa
