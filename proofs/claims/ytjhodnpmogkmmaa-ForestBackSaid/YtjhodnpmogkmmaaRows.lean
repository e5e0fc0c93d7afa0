/-
  No cell of these rows narrows 'for every input' (looked for: loops, veiled, ifaces, maps, wideKeys, modest, calm, conditions, laid).
  DERIVED. THE GIVEN ROWS OF THIS SEAT. 7 by the template 'for every input the law returns true; each argument reads behind the call as it read before'; 0 by the template 'total and deterministic' (their statements: YtjhodnpmogkmmaaTotals.lean).
  GIVEN WITH THE SEED: the statements are not yours to turn. If you find one false, say at which input.
  Laid BY PROGRAM, IN A SANDBOX (cutbox-rows.mjs): the forced cells as the released guide's own fill.sh prints them over the translation 98698d6cd6f8a596… (all of the seat's roots in one cut). By AI agents, Wed Nov 11 2026. No macro, syntax, notation, axiom, sorry.
-/
import Derived.Test.YtjhodnpmogkmmaaChecked
import GoSem.Claim
import GoSem.ClaimJoined
import GoSem.ClaimMapViews
import Derived.JoinedTies
import Derived.KernelRfl
namespace Go.Proofs.Ytjhodnpmogkmmaa
/- THE CELL 'sum', in the pinned program and in every row, IS THE sha256 OF THE DUMP (.gsa) THAT YtjhodnpmogkmmaaProg.lean LOADS. Nothing in Lean hashes anything: it is a label: what it is worth is what the hold of that sum in a sandbox is worth. -/
noncomputable def Try.pinned : Pinned := { name := "ytjhodnpmogkmmaa", sum := "98698d6cd6f8a596484b105a20d8672e7a1a75256e215a8e36f38478cf5c411f", checked := Try.checked }
namespace Rows
def none {H : Type} : Left H := { results := [], args := [] }

/-- 'racewaylaw10.ForestPlays': WHATEVER THE INPUT: true; the input reads as it did. -/
def forestPlaysSpec : ChangeSpec := { name := "forestPlays", fn := fun _ => fun
  | [d1, d2] => { results := [.lit (.bool true)], args := [d1, d2] }
  | _ => none }
def forestPlaysRow : OpenClaim := { program := "ytjhodnpmogkmmaa", sum := "98698d6cd6f8a596484b105a20d8672e7a1a75256e215a8e36f38478cf5c411f", func := "raceway/racewaylaw10.ForestPlays", spec := "forestPlays", unfollowed := true, recurses := true, apart := false }
def ForestPlaysSaid : Prop := forestPlaysRow.holds Try.pinned (OpenSpec.ofChange forestPlaysSpec)

/-- ITS FALSE NEIGHBOUR: 'it returns false'. Refute it at one input. -/
def forestPlaysWrong : ChangeSpec := { name := "forestPlays", fn := fun _ => fun
  | [d1, d2] => { results := [.lit (.bool false)], args := [d1, d2] }
  | _ => none }
def ForestPlaysWrongFalsely : Prop := forestPlaysRow.holds Try.pinned (OpenSpec.ofChange forestPlaysWrong)

/-- 'racewaylaw10.ForestSteps': WHATEVER THE INPUT: true; the input reads as it did. -/
def forestStepsSpec : ChangeSpec := { name := "forestSteps", fn := fun _ => fun
  | [d1, d2, d3, d4] => { results := [.lit (.bool true)], args := [d1, d2, d3, d4] }
  | _ => none }
def forestStepsRow : OpenClaim := { program := "ytjhodnpmogkmmaa", sum := "98698d6cd6f8a596484b105a20d8672e7a1a75256e215a8e36f38478cf5c411f", func := "raceway/racewaylaw10.ForestSteps", spec := "forestSteps", unfollowed := true, recurses := true, apart := false }
def ForestStepsSaid : Prop := forestStepsRow.holds Try.pinned (OpenSpec.ofChange forestStepsSpec)

/-- ITS FALSE NEIGHBOUR: 'it returns false'. Refute it at one input. -/
def forestStepsWrong : ChangeSpec := { name := "forestSteps", fn := fun _ => fun
  | [d1, d2, d3, d4] => { results := [.lit (.bool false)], args := [d1, d2, d3, d4] }
  | _ => none }
def ForestStepsWrongFalsely : Prop := forestStepsRow.holds Try.pinned (OpenSpec.ofChange forestStepsWrong)

/-- 'racewaylaw10.ForestBack': WHATEVER THE INPUT: true; the input reads as it did. -/
def forestBackSpec : ChangeSpec := { name := "forestBack", fn := fun _ => fun
  | [d1, d2, d3, d4] => { results := [.lit (.bool true)], args := [d1, d2, d3, d4] }
  | _ => none }
def forestBackRow : OpenClaim := { program := "ytjhodnpmogkmmaa", sum := "98698d6cd6f8a596484b105a20d8672e7a1a75256e215a8e36f38478cf5c411f", func := "raceway/racewaylaw10.ForestBack", spec := "forestBack", unfollowed := true, recurses := true, apart := false }
def ForestBackSaid : Prop := forestBackRow.holds Try.pinned (OpenSpec.ofChange forestBackSpec)

/-- ITS FALSE NEIGHBOUR: 'it returns false'. Refute it at one input. -/
def forestBackWrong : ChangeSpec := { name := "forestBack", fn := fun _ => fun
  | [d1, d2, d3, d4] => { results := [.lit (.bool false)], args := [d1, d2, d3, d4] }
  | _ => none }
def ForestBackWrongFalsely : Prop := forestBackRow.holds Try.pinned (OpenSpec.ofChange forestBackWrong)

/-- 'racewaylaw10.ForestPaths': WHATEVER THE INPUT: true; the input reads as it did. -/
def forestPathsSpec : ChangeSpec := { name := "forestPaths", fn := fun _ => fun
  | [d1, d2, d3, d4] => { results := [.lit (.bool true)], args := [d1, d2, d3, d4] }
  | _ => none }
def forestPathsRow : OpenClaim := { program := "ytjhodnpmogkmmaa", sum := "98698d6cd6f8a596484b105a20d8672e7a1a75256e215a8e36f38478cf5c411f", func := "raceway/racewaylaw10.ForestPaths", spec := "forestPaths", unfollowed := true, recurses := true, apart := false }
def ForestPathsSaid : Prop := forestPathsRow.holds Try.pinned (OpenSpec.ofChange forestPathsSpec)

/-- ITS FALSE NEIGHBOUR: 'it returns false'. Refute it at one input. -/
def forestPathsWrong : ChangeSpec := { name := "forestPaths", fn := fun _ => fun
  | [d1, d2, d3, d4] => { results := [.lit (.bool false)], args := [d1, d2, d3, d4] }
  | _ => none }
def ForestPathsWrongFalsely : Prop := forestPathsRow.holds Try.pinned (OpenSpec.ofChange forestPathsWrong)

/-- 'racewaylaw10.ForestStar': WHATEVER THE INPUT: true; the input reads as it did. -/
def forestStarSpec : ChangeSpec := { name := "forestStar", fn := fun _ => fun
  | [d1, d2] => { results := [.lit (.bool true)], args := [d1, d2] }
  | _ => none }
def forestStarRow : OpenClaim := { program := "ytjhodnpmogkmmaa", sum := "98698d6cd6f8a596484b105a20d8672e7a1a75256e215a8e36f38478cf5c411f", func := "raceway/racewaylaw10.ForestStar", spec := "forestStar", unfollowed := true, recurses := true, apart := false }
def ForestStarSaid : Prop := forestStarRow.holds Try.pinned (OpenSpec.ofChange forestStarSpec)

/-- ITS FALSE NEIGHBOUR: 'it returns false'. Refute it at one input. -/
def forestStarWrong : ChangeSpec := { name := "forestStar", fn := fun _ => fun
  | [d1, d2] => { results := [.lit (.bool false)], args := [d1, d2] }
  | _ => none }
def ForestStarWrongFalsely : Prop := forestStarRow.holds Try.pinned (OpenSpec.ofChange forestStarWrong)

/-- 'racewaylaw10.ForestChain': WHATEVER THE INPUT: true; the input reads as it did. -/
def forestChainSpec : ChangeSpec := { name := "forestChain", fn := fun _ => fun
  | [d1, d2] => { results := [.lit (.bool true)], args := [d1, d2] }
  | _ => none }
def forestChainRow : OpenClaim := { program := "ytjhodnpmogkmmaa", sum := "98698d6cd6f8a596484b105a20d8672e7a1a75256e215a8e36f38478cf5c411f", func := "raceway/racewaylaw10.ForestChain", spec := "forestChain", unfollowed := true, recurses := true, apart := false }
def ForestChainSaid : Prop := forestChainRow.holds Try.pinned (OpenSpec.ofChange forestChainSpec)

/-- ITS FALSE NEIGHBOUR: 'it returns false'. Refute it at one input. -/
def forestChainWrong : ChangeSpec := { name := "forestChain", fn := fun _ => fun
  | [d1, d2] => { results := [.lit (.bool false)], args := [d1, d2] }
  | _ => none }
def ForestChainWrongFalsely : Prop := forestChainRow.holds Try.pinned (OpenSpec.ofChange forestChainWrong)

/-- 'racewaylaw10.ForestCuts': WHATEVER THE INPUT: true; the input reads as it did. -/
def forestCutsSpec : ChangeSpec := { name := "forestCuts", fn := fun _ => fun
  | [d1, d2] => { results := [.lit (.bool true)], args := [d1, d2] }
  | _ => none }
def forestCutsRow : OpenClaim := { program := "ytjhodnpmogkmmaa", sum := "98698d6cd6f8a596484b105a20d8672e7a1a75256e215a8e36f38478cf5c411f", func := "raceway/racewaylaw10.ForestCuts", spec := "forestCuts", unfollowed := true, recurses := true, apart := false }
def ForestCutsSaid : Prop := forestCutsRow.holds Try.pinned (OpenSpec.ofChange forestCutsSpec)

/-- ITS FALSE NEIGHBOUR: 'it returns false'. Refute it at one input. -/
def forestCutsWrong : ChangeSpec := { name := "forestCuts", fn := fun _ => fun
  | [d1, d2] => { results := [.lit (.bool false)], args := [d1, d2] }
  | _ => none }
def ForestCutsWrongFalsely : Prop := forestCutsRow.holds Try.pinned (OpenSpec.ofChange forestCutsWrong)

/- THE SECOND FORM. 'bulk': how many values and letters a reading holds, each counted each time it is reached (what is shared counts as often as it is met; a slice's spare places count too). A statement '..UptoSaid' is the law's where the arguments, and the package variables that the reading takes, are together of bulk at most 1048576: NARROWER than '..Said'. Prove '..Said' where nothing that the law and all that it calls make is longer than what came in: it says more and counts as full. Else prove '..UptoSaid'. A law counts once. -/
mutual
def uptoBulk {H : Type} : DataW H → Nat
  | .lit (.string bytes) => bytes.length + 1
  | .lit _ => 1
  | .nil => 1
  | .ptr d => uptoBulk d + 1
  | .slice elems spare => uptoBulkAll elems + uptoBulkAll spare + 1
  | .agg parts => uptoBulkAll parts + 1
  | .iface _ d => uptoBulk d + 1
  | .map entries => uptoBulkEntries entries + 1
  | .held _ => 1
def uptoBulkAll {H : Type} : List (DataW H) → Nat
  | [] => 0
  | d :: r => uptoBulk d + uptoBulkAll r
def uptoBulkEntries {H : Type} : List (Lit × DataW H) → Nat
  | [] => 0
  | x :: r => uptoBulkEntry x + uptoBulkEntries r
def uptoBulkEntry {H : Type} : Lit × DataW H → Nat
  | (.string bytes, d) => bytes.length + uptoBulk d + 1
  | (_, d) => uptoBulk d + 1
 end
def uptoSmall : (H : Type) → List (DataW H) → Bool := fun _ ds => decide (uptoBulkAll ds ≤ 1048576)
def OpenSpec.upto (s : _root_.Go.ChangeSpec) : _root_.Go.OpenSpec := { _root_.Go.OpenSpec.ofChange s with cond := some uptoSmall }

/-- 'racewaylaw10.ForestPlays', WHERE WHAT IT READS IS OF BULK AT MOST 1048576: true; the input reads as it did. -/
def forestPlaysUptoRow : OpenClaim := { program := "ytjhodnpmogkmmaa", sum := "98698d6cd6f8a596484b105a20d8672e7a1a75256e215a8e36f38478cf5c411f", func := "raceway/racewaylaw10.ForestPlays", spec := "forestPlays", unfollowed := true, recurses := true, apart := false, narrowed := true }
def ForestPlaysUptoSaid : Prop := forestPlaysUptoRow.holds Try.pinned (OpenSpec.upto forestPlaysSpec)

/-- 'racewaylaw10.ForestSteps', WHERE WHAT IT READS IS OF BULK AT MOST 1048576: true; the input reads as it did. -/
def forestStepsUptoRow : OpenClaim := { program := "ytjhodnpmogkmmaa", sum := "98698d6cd6f8a596484b105a20d8672e7a1a75256e215a8e36f38478cf5c411f", func := "raceway/racewaylaw10.ForestSteps", spec := "forestSteps", unfollowed := true, recurses := true, apart := false, narrowed := true }
def ForestStepsUptoSaid : Prop := forestStepsUptoRow.holds Try.pinned (OpenSpec.upto forestStepsSpec)

/-- 'racewaylaw10.ForestBack', WHERE WHAT IT READS IS OF BULK AT MOST 1048576: true; the input reads as it did. -/
def forestBackUptoRow : OpenClaim := { program := "ytjhodnpmogkmmaa", sum := "98698d6cd6f8a596484b105a20d8672e7a1a75256e215a8e36f38478cf5c411f", func := "raceway/racewaylaw10.ForestBack", spec := "forestBack", unfollowed := true, recurses := true, apart := false, narrowed := true }
def ForestBackUptoSaid : Prop := forestBackUptoRow.holds Try.pinned (OpenSpec.upto forestBackSpec)

/-- 'racewaylaw10.ForestPaths', WHERE WHAT IT READS IS OF BULK AT MOST 1048576: true; the input reads as it did. -/
def forestPathsUptoRow : OpenClaim := { program := "ytjhodnpmogkmmaa", sum := "98698d6cd6f8a596484b105a20d8672e7a1a75256e215a8e36f38478cf5c411f", func := "raceway/racewaylaw10.ForestPaths", spec := "forestPaths", unfollowed := true, recurses := true, apart := false, narrowed := true }
def ForestPathsUptoSaid : Prop := forestPathsUptoRow.holds Try.pinned (OpenSpec.upto forestPathsSpec)

/-- 'racewaylaw10.ForestStar', WHERE WHAT IT READS IS OF BULK AT MOST 1048576: true; the input reads as it did. -/
def forestStarUptoRow : OpenClaim := { program := "ytjhodnpmogkmmaa", sum := "98698d6cd6f8a596484b105a20d8672e7a1a75256e215a8e36f38478cf5c411f", func := "raceway/racewaylaw10.ForestStar", spec := "forestStar", unfollowed := true, recurses := true, apart := false, narrowed := true }
def ForestStarUptoSaid : Prop := forestStarUptoRow.holds Try.pinned (OpenSpec.upto forestStarSpec)

/-- 'racewaylaw10.ForestChain', WHERE WHAT IT READS IS OF BULK AT MOST 1048576: true; the input reads as it did. -/
def forestChainUptoRow : OpenClaim := { program := "ytjhodnpmogkmmaa", sum := "98698d6cd6f8a596484b105a20d8672e7a1a75256e215a8e36f38478cf5c411f", func := "raceway/racewaylaw10.ForestChain", spec := "forestChain", unfollowed := true, recurses := true, apart := false, narrowed := true }
def ForestChainUptoSaid : Prop := forestChainUptoRow.holds Try.pinned (OpenSpec.upto forestChainSpec)

/-- 'racewaylaw10.ForestCuts', WHERE WHAT IT READS IS OF BULK AT MOST 1048576: true; the input reads as it did. -/
def forestCutsUptoRow : OpenClaim := { program := "ytjhodnpmogkmmaa", sum := "98698d6cd6f8a596484b105a20d8672e7a1a75256e215a8e36f38478cf5c411f", func := "raceway/racewaylaw10.ForestCuts", spec := "forestCuts", unfollowed := true, recurses := true, apart := false, narrowed := true }
def ForestCutsUptoSaid : Prop := forestCutsUptoRow.holds Try.pinned (OpenSpec.upto forestCutsSpec)

end Rows
end Go.Proofs.Ytjhodnpmogkmmaa
