import Derived.Test.YtpbcplfpjcacfaaRefLook
namespace Go.Proofs.Ytpbcplfpjcacfaa
open Go.RowKit

/-- The program's Look. -/
def placeOf (l c : Int) : Nat := (l * 8 + c).toNat
theorem placeOf_eq {l c : Int} (h : labB l c = true) : l * 8 + c = (placeOf l c : Int) ∧ placeOf l c < 32 := by
  obtain ⟨h1, h2, h3, h4⟩ := labB_t h
  unfold placeOf
  omega
theorem place_nat (l c : Int) (w : World) (h : labB l c = true) :
    Calls Try.prog 60 #[.agg #[.int .i64 l, .int .i64 c]] w fun e w' => e = .returned (.tuple #[.int .i64 (placeOf l c), .bool true]) ∧ Below w.heap.size w w' := by
  have := place_yes l c w h
  rw [(placeOf_eq h).1] at this
  exact this

set_option maxHeartbeats 1000000 in
set_option maxRecDepth 100000 in
theorem look_yes (p : Nat) (l c : Int) (T : Nat → Option Int) (w : World) (h : labB l c = true) (hr : w.rangeAt p (3 + placeOf l c * 350) (tabV T)) (hp : p < w.heap.size) :
    Calls Try.prog 31 #[.pointer (some ⟨p, 0, none⟩), .agg #[.int .i64 l, .int .i64 c]] w fun e w' =>
      ∃ v, e = .returned (.tuple #[v, .int .i64 0]) ∧ w'.ownsRow w.heap.size 94 2 v (listTo T 0 15 16).length (itemsV (listTo T 0 15 16)) ∧ Below w.heap.size w w' := by
  have hlt := (placeOf_eq h).2
  go_enter Try.func31, Try.ntmps31
  go_wp2_with fail
  refine (place_nat l c _ h).mono ?_
  rintro e w1 ⟨rfl, hb⟩
  have hb0 : Below w.heap.size w w1 := ((Below.refl _ _).alloc (Nat.le_refl _) _).trans (hb.mono (by simp))
  have hr1 := rangeAt_below hr hb0 hp
  have zi : (placeOf l c : Int) < 32 := by omega
  generalize placeOf l c = q at *
  go_wp2_with fail
  refine (list_any p (3 + q * 350) T 0 15 _ hr1).mono ?_
  rintro e w2 ⟨v, rfl, hown, hb2⟩
  go_wp2
  go_ret2
  refine ⟨v, rfl, ?_, hb0.trans (hb2.mono hb0.size)⟩
  obtain ⟨hl, ho⟩ := hown
  refine ⟨hl, ?_⟩
  have hsz := hb0.size
  rcases ho with h | ⟨b, c, d, e1, e2, e3⟩
  · exact .inl h
  · exact .inr ⟨b, c, d, e1, by omega, e3⟩
set_option maxHeartbeats 1000000 in
theorem look_no (p : Nat) (l c : Int) (w : World) (h : labB l c = false) :
    Calls Try.prog 31 #[.pointer (some ⟨p, 0, none⟩), .agg #[.int .i64 l, .int .i64 c]] w fun e w' =>
      e = .returned (.tuple #[.slice none 0 0, .int .i64 2]) ∧ Below w.heap.size w w' := by
  go_enter Try.func31, Try.ntmps31
  go_wp2_with fail
  refine (place_no l c _ h).mono ?_
  rintro e w1 ⟨rfl, hb⟩
  have hb0 : Below w.heap.size w w1 := ((Below.refl _ _).alloc (Nat.le_refl _) _).trans (hb.mono (by simp))
  go_wp2
  go_ret2
  exact ⟨rfl, hb0⟩
end Go.Proofs.Ytpbcplfpjcacfaa
