/-
  No cell of these rows narrows 'for every input' (looked for: loops, veiled, ifaces, maps, wideKeys, modest, calm, conditions, laid).
  DERIVED. THE GIVEN ROWS OF THIS SEAT. 12 by the template 'for every input the law returns true; each argument reads behind the call as it read before'; 0 by the template 'total and deterministic' (their statements: YtpbcplfpjcacfaaTotals.lean).
  GIVEN WITH THE SEED: the statements are not yours to turn. If you find one false, say at which input.
  Laid BY PROGRAM, IN A SANDBOX (cutbox-rows.mjs): the forced cells as the released guide's own fill.sh prints them over the translation 33ad65b06eccd657… (all of the seat's roots in one cut). By AI agents, Wed Nov 11 2026. No macro, syntax, notation, axiom, sorry.
-/
import Derived.Test.YtpbcplfpjcacfaaChecked
import GoSem.Claim
import GoSem.ClaimJoined
import GoSem.ClaimMapViews
import Derived.JoinedTies
import Derived.KernelRfl
namespace Go.Proofs.Ytpbcplfpjcacfaa
/- THE CELL 'sum', in the pinned program and in every row, IS THE sha256 OF THE DUMP (.gsa) THAT YtpbcplfpjcacfaaProg.lean LOADS. Nothing in Lean hashes anything: it is a label: what it is worth is what the hold of that sum in a sandbox is worth. -/
noncomputable def Try.pinned : Pinned := { name := "ytpbcplfpjcacfaa", sum := "33ad65b06eccd657e0521dcb365ad412e7f5482a22e8af3babf675c0f0dc3afc", checked := Try.checked }
namespace Rows
def none {H : Type} : Left H := { results := [], args := [] }

/-- 'tierslaw.News': WHATEVER THE INPUT: true; the input reads as it did. -/
def newsSpec : ChangeSpec := { name := "news", fn := fun _ => fun
  | [d1, d2] => { results := [.lit (.bool true)], args := [d1, d2] }
  | _ => none }
def newsRow : OpenClaim := { program := "ytpbcplfpjcacfaa", sum := "33ad65b06eccd657e0521dcb365ad412e7f5482a22e8af3babf675c0f0dc3afc", func := "tiers/tierslaw.News", spec := "news", recurses := true, apart := false }
def NewsSaid : Prop := newsRow.holds Try.pinned (OpenSpec.ofChange newsSpec)

/-- ITS FALSE NEIGHBOUR: 'it returns false'. Refute it at one input. -/
def newsWrong : ChangeSpec := { name := "news", fn := fun _ => fun
  | [d1, d2] => { results := [.lit (.bool false)], args := [d1, d2] }
  | _ => none }
def NewsWrongFalsely : Prop := newsRow.holds Try.pinned (OpenSpec.ofChange newsWrong)

/-- 'tierslaw.Solo': WHATEVER THE INPUT: true; the input reads as it did. -/
def soloSpec : ChangeSpec := { name := "solo", fn := fun _ => fun
  | [d1, d2, d3] => { results := [.lit (.bool true)], args := [d1, d2, d3] }
  | _ => none }
def soloRow : OpenClaim := { program := "ytpbcplfpjcacfaa", sum := "33ad65b06eccd657e0521dcb365ad412e7f5482a22e8af3babf675c0f0dc3afc", func := "tiers/tierslaw.Solo", spec := "solo", recurses := true, apart := false }
def SoloSaid : Prop := soloRow.holds Try.pinned (OpenSpec.ofChange soloSpec)

/-- ITS FALSE NEIGHBOUR: 'it returns false'. Refute it at one input. -/
def soloWrong : ChangeSpec := { name := "solo", fn := fun _ => fun
  | [d1, d2, d3] => { results := [.lit (.bool false)], args := [d1, d2, d3] }
  | _ => none }
def SoloWrongFalsely : Prop := soloRow.holds Try.pinned (OpenSpec.ofChange soloWrong)

/-- 'tierslaw.Apart': WHATEVER THE INPUT: true; the input reads as it did. -/
def apartSpec : ChangeSpec := { name := "apart", fn := fun _ => fun
  | [d1, d2] => { results := [.lit (.bool true)], args := [d1, d2] }
  | _ => none }
def apartRow : OpenClaim := { program := "ytpbcplfpjcacfaa", sum := "33ad65b06eccd657e0521dcb365ad412e7f5482a22e8af3babf675c0f0dc3afc", func := "tiers/tierslaw.Apart", spec := "apart", recurses := true, apart := false }
def ApartSaid : Prop := apartRow.holds Try.pinned (OpenSpec.ofChange apartSpec)

/-- ITS FALSE NEIGHBOUR: 'it returns false'. Refute it at one input. -/
def apartWrong : ChangeSpec := { name := "apart", fn := fun _ => fun
  | [d1, d2] => { results := [.lit (.bool false)], args := [d1, d2] }
  | _ => none }
def ApartWrongFalsely : Prop := apartRow.holds Try.pinned (OpenSpec.ofChange apartWrong)

/-- 'tierslaw.Level': WHATEVER THE INPUT: true; the input reads as it did. -/
def levelSpec : ChangeSpec := { name := "level", fn := fun _ => fun
  | [d1, d2, d3] => { results := [.lit (.bool true)], args := [d1, d2, d3] }
  | _ => none }
def levelRow : OpenClaim := { program := "ytpbcplfpjcacfaa", sum := "33ad65b06eccd657e0521dcb365ad412e7f5482a22e8af3babf675c0f0dc3afc", func := "tiers/tierslaw.Level", spec := "level", recurses := true, apart := false }
def LevelSaid : Prop := levelRow.holds Try.pinned (OpenSpec.ofChange levelSpec)

/-- ITS FALSE NEIGHBOUR: 'it returns false'. Refute it at one input. -/
def levelWrong : ChangeSpec := { name := "level", fn := fun _ => fun
  | [d1, d2, d3] => { results := [.lit (.bool false)], args := [d1, d2, d3] }
  | _ => none }
def LevelWrongFalsely : Prop := levelRow.holds Try.pinned (OpenSpec.ofChange levelWrong)

/-- 'tierslaw.Plays': WHATEVER THE INPUT: true; the input reads as it did. -/
def playsSpec : ChangeSpec := { name := "plays", fn := fun _ => fun
  | [d1, d2] => { results := [.lit (.bool true)], args := [d1, d2] }
  | _ => none }
def playsRow : OpenClaim := { program := "ytpbcplfpjcacfaa", sum := "33ad65b06eccd657e0521dcb365ad412e7f5482a22e8af3babf675c0f0dc3afc", func := "tiers/tierslaw.Plays", spec := "plays", recurses := true, apart := false }
def PlaysSaid : Prop := playsRow.holds Try.pinned (OpenSpec.ofChange playsSpec)

/-- ITS FALSE NEIGHBOUR: 'it returns false'. Refute it at one input. -/
def playsWrong : ChangeSpec := { name := "plays", fn := fun _ => fun
  | [d1, d2] => { results := [.lit (.bool false)], args := [d1, d2] }
  | _ => none }
def PlaysWrongFalsely : Prop := playsRow.holds Try.pinned (OpenSpec.ofChange playsWrong)

/-- 'tierslaw.All': WHATEVER THE INPUT: true; the input reads as it did. -/
def allSpec : ChangeSpec := { name := "all", fn := fun _ => fun
  | [d1, d2, d3] => { results := [.lit (.bool true)], args := [d1, d2, d3] }
  | _ => none }
def allRow : OpenClaim := { program := "ytpbcplfpjcacfaa", sum := "33ad65b06eccd657e0521dcb365ad412e7f5482a22e8af3babf675c0f0dc3afc", func := "tiers/tierslaw.All", spec := "all", recurses := true, apart := false }
def AllSaid : Prop := allRow.holds Try.pinned (OpenSpec.ofChange allSpec)

/-- ITS FALSE NEIGHBOUR: 'it returns false'. Refute it at one input. -/
def allWrong : ChangeSpec := { name := "all", fn := fun _ => fun
  | [d1, d2, d3] => { results := [.lit (.bool false)], args := [d1, d2, d3] }
  | _ => none }
def AllWrongFalsely : Prop := allRow.holds Try.pinned (OpenSpec.ofChange allWrong)

/-- 'tierskeep.Unseen': WHATEVER THE INPUT: true; the input reads as it did. -/
def unseenSpec : ChangeSpec := { name := "unseen", fn := fun _ => fun
  | [d1, d2, d3] => { results := [.lit (.bool true)], args := [d1, d2, d3] }
  | _ => none }
def unseenRow : OpenClaim := { program := "ytpbcplfpjcacfaa", sum := "33ad65b06eccd657e0521dcb365ad412e7f5482a22e8af3babf675c0f0dc3afc", func := "tiers/tierskeep.Unseen", spec := "unseen", apart := false }
def UnseenSaid : Prop := unseenRow.holds Try.pinned (OpenSpec.ofChange unseenSpec)

/-- ITS FALSE NEIGHBOUR: 'it returns false'. Refute it at one input. -/
def unseenWrong : ChangeSpec := { name := "unseen", fn := fun _ => fun
  | [d1, d2, d3] => { results := [.lit (.bool false)], args := [d1, d2, d3] }
  | _ => none }
def UnseenWrongFalsely : Prop := unseenRow.holds Try.pinned (OpenSpec.ofChange unseenWrong)

/-- 'tierskeep.Serial': WHATEVER THE INPUT: true; the input reads as it did. -/
def serialSpec : ChangeSpec := { name := "serial", fn := fun _ => fun
  | [d1, d2] => { results := [.lit (.bool true)], args := [d1, d2] }
  | _ => none }
def serialRow : OpenClaim := { program := "ytpbcplfpjcacfaa", sum := "33ad65b06eccd657e0521dcb365ad412e7f5482a22e8af3babf675c0f0dc3afc", func := "tiers/tierskeep.Serial", spec := "serial", apart := false }
def SerialSaid : Prop := serialRow.holds Try.pinned (OpenSpec.ofChange serialSpec)

/-- ITS FALSE NEIGHBOUR: 'it returns false'. Refute it at one input. -/
def serialWrong : ChangeSpec := { name := "serial", fn := fun _ => fun
  | [d1, d2] => { results := [.lit (.bool false)], args := [d1, d2] }
  | _ => none }
def SerialWrongFalsely : Prop := serialRow.holds Try.pinned (OpenSpec.ofChange serialWrong)

/-- 'tierskeep.Barred': WHATEVER THE INPUT: true; the input reads as it did. -/
def barredSpec : ChangeSpec := { name := "barred", fn := fun _ => fun
  | [d1, d2] => { results := [.lit (.bool true)], args := [d1, d2] }
  | _ => none }
def barredRow : OpenClaim := { program := "ytpbcplfpjcacfaa", sum := "33ad65b06eccd657e0521dcb365ad412e7f5482a22e8af3babf675c0f0dc3afc", func := "tiers/tierskeep.Barred", spec := "barred", apart := false }
def BarredSaid : Prop := barredRow.holds Try.pinned (OpenSpec.ofChange barredSpec)

/-- ITS FALSE NEIGHBOUR: 'it returns false'. Refute it at one input. -/
def barredWrong : ChangeSpec := { name := "barred", fn := fun _ => fun
  | [d1, d2] => { results := [.lit (.bool false)], args := [d1, d2] }
  | _ => none }
def BarredWrongFalsely : Prop := barredRow.holds Try.pinned (OpenSpec.ofChange barredWrong)

/-- 'tierskeep.Own': WHATEVER THE INPUT: true; the input reads as it did. -/
def ownSpec : ChangeSpec := { name := "own", fn := fun _ => fun
  | [d1, d2] => { results := [.lit (.bool true)], args := [d1, d2] }
  | _ => none }
def ownRow : OpenClaim := { program := "ytpbcplfpjcacfaa", sum := "33ad65b06eccd657e0521dcb365ad412e7f5482a22e8af3babf675c0f0dc3afc", func := "tiers/tierskeep.Own", spec := "own", apart := false }
def OwnSaid : Prop := ownRow.holds Try.pinned (OpenSpec.ofChange ownSpec)

/-- ITS FALSE NEIGHBOUR: 'it returns false'. Refute it at one input. -/
def ownWrong : ChangeSpec := { name := "own", fn := fun _ => fun
  | [d1, d2] => { results := [.lit (.bool false)], args := [d1, d2] }
  | _ => none }
def OwnWrongFalsely : Prop := ownRow.holds Try.pinned (OpenSpec.ofChange ownWrong)

/-- 'tierskeep.Freed': WHATEVER THE INPUT: true; the input reads as it did. -/
def freedSpec : ChangeSpec := { name := "freed", fn := fun _ => fun
  | [d1, d2, d3] => { results := [.lit (.bool true)], args := [d1, d2, d3] }
  | _ => none }
def freedRow : OpenClaim := { program := "ytpbcplfpjcacfaa", sum := "33ad65b06eccd657e0521dcb365ad412e7f5482a22e8af3babf675c0f0dc3afc", func := "tiers/tierskeep.Freed", spec := "freed", apart := false }
def FreedSaid : Prop := freedRow.holds Try.pinned (OpenSpec.ofChange freedSpec)

/-- ITS FALSE NEIGHBOUR: 'it returns false'. Refute it at one input. -/
def freedWrong : ChangeSpec := { name := "freed", fn := fun _ => fun
  | [d1, d2, d3] => { results := [.lit (.bool false)], args := [d1, d2, d3] }
  | _ => none }
def FreedWrongFalsely : Prop := freedRow.holds Try.pinned (OpenSpec.ofChange freedWrong)

/-- 'tierskeep.Ahead': WHATEVER THE INPUT: true; the input reads as it did. -/
def aheadSpec : ChangeSpec := { name := "ahead", fn := fun _ => fun
  | [d1, d2, d3] => { results := [.lit (.bool true)], args := [d1, d2, d3] }
  | _ => none }
def aheadRow : OpenClaim := { program := "ytpbcplfpjcacfaa", sum := "33ad65b06eccd657e0521dcb365ad412e7f5482a22e8af3babf675c0f0dc3afc", func := "tiers/tierskeep.Ahead", spec := "ahead", apart := false }
def AheadSaid : Prop := aheadRow.holds Try.pinned (OpenSpec.ofChange aheadSpec)

/-- ITS FALSE NEIGHBOUR: 'it returns false'. Refute it at one input. -/
def aheadWrong : ChangeSpec := { name := "ahead", fn := fun _ => fun
  | [d1, d2, d3] => { results := [.lit (.bool false)], args := [d1, d2, d3] }
  | _ => none }
def AheadWrongFalsely : Prop := aheadRow.holds Try.pinned (OpenSpec.ofChange aheadWrong)

/- THE SECOND FORM. 'bulk': how many values and letters a reading holds, each counted each time it is reached (what is shared counts as often as it is met; a slice's spare places count too). A statement '..UptoSaid' is the law's where the arguments, and the package variables that the reading takes, are together of bulk at most 1048576: NARROWER than '..Said'. Prove '..Said' where nothing that the law and all that it calls make is longer than what came in: it says more and counts as full. Else prove '..UptoSaid'. A law counts once. -/
mutual
def uptoBulk {H : Type} : DataW H → Nat
  | .lit (.string bytes) => bytes.length + 1
  | .lit _ => 1
  | .nil => 1
  | .ptr d => uptoBulk d + 1
  | .slice elems spare => uptoBulkAll elems + uptoBulkAll spare + 1
  | .agg parts => uptoBulkAll parts + 1
  | .iface _ d => uptoBulk d + 1
  | .map entries => uptoBulkEntries entries + 1
  | .held _ => 1
def uptoBulkAll {H : Type} : List (DataW H) → Nat
  | [] => 0
  | d :: r => uptoBulk d + uptoBulkAll r
def uptoBulkEntries {H : Type} : List (Lit × DataW H) → Nat
  | [] => 0
  | x :: r => uptoBulkEntry x + uptoBulkEntries r
def uptoBulkEntry {H : Type} : Lit × DataW H → Nat
  | (.string bytes, d) => bytes.length + uptoBulk d + 1
  | (_, d) => uptoBulk d + 1
 end
def uptoSmall : (H : Type) → List (DataW H) → Bool := fun _ ds => decide (uptoBulkAll ds ≤ 1048576)
def OpenSpec.upto (s : _root_.Go.ChangeSpec) : _root_.Go.OpenSpec := { _root_.Go.OpenSpec.ofChange s with cond := some uptoSmall }

/-- 'tierslaw.News', WHERE WHAT IT READS IS OF BULK AT MOST 1048576: true; the input reads as it did. -/
def newsUptoRow : OpenClaim := { program := "ytpbcplfpjcacfaa", sum := "33ad65b06eccd657e0521dcb365ad412e7f5482a22e8af3babf675c0f0dc3afc", func := "tiers/tierslaw.News", spec := "news", recurses := true, apart := false, narrowed := true }
def NewsUptoSaid : Prop := newsUptoRow.holds Try.pinned (OpenSpec.upto newsSpec)

/-- 'tierslaw.Solo', WHERE WHAT IT READS IS OF BULK AT MOST 1048576: true; the input reads as it did. -/
def soloUptoRow : OpenClaim := { program := "ytpbcplfpjcacfaa", sum := "33ad65b06eccd657e0521dcb365ad412e7f5482a22e8af3babf675c0f0dc3afc", func := "tiers/tierslaw.Solo", spec := "solo", recurses := true, apart := false, narrowed := true }
def SoloUptoSaid : Prop := soloUptoRow.holds Try.pinned (OpenSpec.upto soloSpec)

/-- 'tierslaw.Apart', WHERE WHAT IT READS IS OF BULK AT MOST 1048576: true; the input reads as it did. -/
def apartUptoRow : OpenClaim := { program := "ytpbcplfpjcacfaa", sum := "33ad65b06eccd657e0521dcb365ad412e7f5482a22e8af3babf675c0f0dc3afc", func := "tiers/tierslaw.Apart", spec := "apart", recurses := true, apart := false, narrowed := true }
def ApartUptoSaid : Prop := apartUptoRow.holds Try.pinned (OpenSpec.upto apartSpec)

/-- 'tierslaw.Level', WHERE WHAT IT READS IS OF BULK AT MOST 1048576: true; the input reads as it did. -/
def levelUptoRow : OpenClaim := { program := "ytpbcplfpjcacfaa", sum := "33ad65b06eccd657e0521dcb365ad412e7f5482a22e8af3babf675c0f0dc3afc", func := "tiers/tierslaw.Level", spec := "level", recurses := true, apart := false, narrowed := true }
def LevelUptoSaid : Prop := levelUptoRow.holds Try.pinned (OpenSpec.upto levelSpec)

/-- 'tierslaw.Plays', WHERE WHAT IT READS IS OF BULK AT MOST 1048576: true; the input reads as it did. -/
def playsUptoRow : OpenClaim := { program := "ytpbcplfpjcacfaa", sum := "33ad65b06eccd657e0521dcb365ad412e7f5482a22e8af3babf675c0f0dc3afc", func := "tiers/tierslaw.Plays", spec := "plays", recurses := true, apart := false, narrowed := true }
def PlaysUptoSaid : Prop := playsUptoRow.holds Try.pinned (OpenSpec.upto playsSpec)

/-- 'tierslaw.All', WHERE WHAT IT READS IS OF BULK AT MOST 1048576: true; the input reads as it did. -/
def allUptoRow : OpenClaim := { program := "ytpbcplfpjcacfaa", sum := "33ad65b06eccd657e0521dcb365ad412e7f5482a22e8af3babf675c0f0dc3afc", func := "tiers/tierslaw.All", spec := "all", recurses := true, apart := false, narrowed := true }
def AllUptoSaid : Prop := allUptoRow.holds Try.pinned (OpenSpec.upto allSpec)

/-- 'tierskeep.Unseen', WHERE WHAT IT READS IS OF BULK AT MOST 1048576: true; the input reads as it did. -/
def unseenUptoRow : OpenClaim := { program := "ytpbcplfpjcacfaa", sum := "33ad65b06eccd657e0521dcb365ad412e7f5482a22e8af3babf675c0f0dc3afc", func := "tiers/tierskeep.Unseen", spec := "unseen", apart := false, narrowed := true }
def UnseenUptoSaid : Prop := unseenUptoRow.holds Try.pinned (OpenSpec.upto unseenSpec)

/-- 'tierskeep.Serial', WHERE WHAT IT READS IS OF BULK AT MOST 1048576: true; the input reads as it did. -/
def serialUptoRow : OpenClaim := { program := "ytpbcplfpjcacfaa", sum := "33ad65b06eccd657e0521dcb365ad412e7f5482a22e8af3babf675c0f0dc3afc", func := "tiers/tierskeep.Serial", spec := "serial", apart := false, narrowed := true }
def SerialUptoSaid : Prop := serialUptoRow.holds Try.pinned (OpenSpec.upto serialSpec)

/-- 'tierskeep.Barred', WHERE WHAT IT READS IS OF BULK AT MOST 1048576: true; the input reads as it did. -/
def barredUptoRow : OpenClaim := { program := "ytpbcplfpjcacfaa", sum := "33ad65b06eccd657e0521dcb365ad412e7f5482a22e8af3babf675c0f0dc3afc", func := "tiers/tierskeep.Barred", spec := "barred", apart := false, narrowed := true }
def BarredUptoSaid : Prop := barredUptoRow.holds Try.pinned (OpenSpec.upto barredSpec)

/-- 'tierskeep.Own', WHERE WHAT IT READS IS OF BULK AT MOST 1048576: true; the input reads as it did. -/
def ownUptoRow : OpenClaim := { program := "ytpbcplfpjcacfaa", sum := "33ad65b06eccd657e0521dcb365ad412e7f5482a22e8af3babf675c0f0dc3afc", func := "tiers/tierskeep.Own", spec := "own", apart := false, narrowed := true }
def OwnUptoSaid : Prop := ownUptoRow.holds Try.pinned (OpenSpec.upto ownSpec)

/-- 'tierskeep.Freed', WHERE WHAT IT READS IS OF BULK AT MOST 1048576: true; the input reads as it did. -/
def freedUptoRow : OpenClaim := { program := "ytpbcplfpjcacfaa", sum := "33ad65b06eccd657e0521dcb365ad412e7f5482a22e8af3babf675c0f0dc3afc", func := "tiers/tierskeep.Freed", spec := "freed", apart := false, narrowed := true }
def FreedUptoSaid : Prop := freedUptoRow.holds Try.pinned (OpenSpec.upto freedSpec)

/-- 'tierskeep.Ahead', WHERE WHAT IT READS IS OF BULK AT MOST 1048576: true; the input reads as it did. -/
def aheadUptoRow : OpenClaim := { program := "ytpbcplfpjcacfaa", sum := "33ad65b06eccd657e0521dcb365ad412e7f5482a22e8af3babf675c0f0dc3afc", func := "tiers/tierskeep.Ahead", spec := "ahead", apart := false, narrowed := true }
def AheadUptoSaid : Prop := aheadUptoRow.holds Try.pinned (OpenSpec.upto aheadSpec)

end Rows
end Go.Proofs.Ytpbcplfpjcacfaa
