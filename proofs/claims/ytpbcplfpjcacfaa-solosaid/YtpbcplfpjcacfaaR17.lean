import Derived.Test.YtpbcplfpjcacfaaB07
import Derived.Test.YtpbcplfpjcacfaaR16
namespace Go.Proofs.Ytpbcplfpjcacfaa
open Go.RowKit
set_option maxRecDepth 100000
set_option maxHeartbeats 8000000
def DoPost (own : Own) (w : World) (r : Nat) (st : RS) (a : Ans) (e : Ending) (w' : World) : Prop :=
 ∃ v own', e = .returned (ansV a.code a.why v) ∧ w'.ownsRow 0 94 2 v a.items.length (itemsV a.items) ∧ Rep w' r st own' ∧ ChgD own w w' own' ∧ ∀ b, v.ownBlock = some b → own' b = none ∧ (own b ≠ none ∨ w.heap.size ≤ b)
theorem AnsPost.toDo {own : Own} {w w' : World} {r : Nat} {st : RS} {a : Ans} {e : Ending} (h : AnsPost own w r st a e w') : DoPost own w r st a e w' := by
 obtain ⟨v, own', h1, h2, h3, h4, h5⟩ := h
 exact ⟨v, own', h1, ownsRow_lower h2 (Nat.zero_le _), h3, h4.toD, fun b hb => ⟨h5 b hb, .inr (h2.lt b hb).1⟩⟩
end Go.Proofs.Ytpbcplfpjcacfaa
