/-
  No cell of these rows narrows 'for every input' (looked for: loops, veiled, ifaces, maps, wideKeys, modest, calm, conditions, laid).
  DERIVED. THE GIVEN ROWS OF THIS SEAT. 6 by the template 'for every input the law returns true; each argument reads behind the call as it read before'; 0 by the template 'total and deterministic' (their statements: YtoadkckceladgaaGreatTotals.lean).
  GIVEN WITH THE SEED: the statements are not yours to turn. If you find one false, say at which input.
  Laid BY PROGRAM, IN A SANDBOX (cutbox-rows.mjs): the forced cells as the released guide's own fill.sh prints them over the translation e56571ad21deac68… (all of the seat's roots in one cut). By AI agents, Wed Nov 11 2026. No macro, syntax, notation, axiom, sorry.
-/
import Derived.Test.YtoadkckceladgaaGreatChecked
import GoSem.Claim
import GoSem.ClaimJoined
import GoSem.ClaimMapViews
import Derived.JoinedTies
import Derived.KernelRfl
namespace Go.Proofs.YtoadkckceladgaaGreat
/- THE CELL 'sum', in the pinned program and in every row, IS THE sha256 OF THE DUMP (.gsa) THAT YtoadkckceladgaaGreatProg.lean LOADS. Nothing in Lean hashes anything: it is a label: what it is worth is what the hold of that sum in a sandbox is worth. -/
noncomputable def Tryz.pinned : Pinned := { name := "ytoadkckceladgaagreat", sum := "e56571ad21deac68486dd7268f4b9a9aa04006dfe0de530362abd092787a5917", checked := Tryz.checked }
namespace Rows
def none {H : Type} : Left H := { results := [], args := [] }

/-- 'racewaylaw13.ScaleTells': WHATEVER THE INPUT: true; the input reads as it did. -/
def scaleTellsSpec : ChangeSpec := { name := "scaleTells", fn := fun _ => fun
  | [d1, d2] => { results := [.lit (.bool true)], args := [d1, d2] }
  | _ => none }
def scaleTellsRow : OpenClaim := { program := "ytoadkckceladgaagreat", sum := "e56571ad21deac68486dd7268f4b9a9aa04006dfe0de530362abd092787a5917", func := "raceway/racewaylaw13.ScaleTells", spec := "scaleTells", unfollowed := true, recurses := true, apart := false }
def ScaleTellsSaid : Prop := scaleTellsRow.holds Tryz.pinned (OpenSpec.ofChange scaleTellsSpec)

/-- ITS FALSE NEIGHBOUR: 'it returns false'. Refute it at one input. -/
def scaleTellsWrong : ChangeSpec := { name := "scaleTells", fn := fun _ => fun
  | [d1, d2] => { results := [.lit (.bool false)], args := [d1, d2] }
  | _ => none }
def ScaleTellsWrongFalsely : Prop := scaleTellsRow.holds Tryz.pinned (OpenSpec.ofChange scaleTellsWrong)

/-- 'racewaylaw13.ScaleMost': WHATEVER THE INPUT: true; the input reads as it did. -/
def scaleMostSpec : ChangeSpec := { name := "scaleMost", fn := fun _ => fun
  | [d1, d2, d3, d4] => { results := [.lit (.bool true)], args := [d1, d2, d3, d4] }
  | _ => none }
def scaleMostRow : OpenClaim := { program := "ytoadkckceladgaagreat", sum := "e56571ad21deac68486dd7268f4b9a9aa04006dfe0de530362abd092787a5917", func := "raceway/racewaylaw13.ScaleMost", spec := "scaleMost", unfollowed := true, recurses := true, apart := false }
def ScaleMostSaid : Prop := scaleMostRow.holds Tryz.pinned (OpenSpec.ofChange scaleMostSpec)

/-- ITS FALSE NEIGHBOUR: 'it returns false'. Refute it at one input. -/
def scaleMostWrong : ChangeSpec := { name := "scaleMost", fn := fun _ => fun
  | [d1, d2, d3, d4] => { results := [.lit (.bool false)], args := [d1, d2, d3, d4] }
  | _ => none }
def ScaleMostWrongFalsely : Prop := scaleMostRow.holds Tryz.pinned (OpenSpec.ofChange scaleMostWrong)

/-- 'racewaylaw13.ScaleLarge': WHATEVER THE INPUT: true; the input reads as it did. -/
def scaleLargeSpec : ChangeSpec := { name := "scaleLarge", fn := fun _ => fun
  | [d1, d2, d3, d4] => { results := [.lit (.bool true)], args := [d1, d2, d3, d4] }
  | _ => none }
def scaleLargeRow : OpenClaim := { program := "ytoadkckceladgaagreat", sum := "e56571ad21deac68486dd7268f4b9a9aa04006dfe0de530362abd092787a5917", func := "raceway/racewaylaw13.ScaleLarge", spec := "scaleLarge", unfollowed := true, recurses := true, apart := false }
def ScaleLargeSaid : Prop := scaleLargeRow.holds Tryz.pinned (OpenSpec.ofChange scaleLargeSpec)

/-- ITS FALSE NEIGHBOUR: 'it returns false'. Refute it at one input. -/
def scaleLargeWrong : ChangeSpec := { name := "scaleLarge", fn := fun _ => fun
  | [d1, d2, d3, d4] => { results := [.lit (.bool false)], args := [d1, d2, d3, d4] }
  | _ => none }
def ScaleLargeWrongFalsely : Prop := scaleLargeRow.holds Tryz.pinned (OpenSpec.ofChange scaleLargeWrong)

/-- 'racewaylaw13.ScaleTurns': WHATEVER THE INPUT: true; the input reads as it did. -/
def scaleTurnsSpec : ChangeSpec := { name := "scaleTurns", fn := fun _ => fun
  | [d1, d2] => { results := [.lit (.bool true)], args := [d1, d2] }
  | _ => none }
def scaleTurnsRow : OpenClaim := { program := "ytoadkckceladgaagreat", sum := "e56571ad21deac68486dd7268f4b9a9aa04006dfe0de530362abd092787a5917", func := "raceway/racewaylaw13.ScaleTurns", spec := "scaleTurns", unfollowed := true, recurses := true, apart := false }
def ScaleTurnsSaid : Prop := scaleTurnsRow.holds Tryz.pinned (OpenSpec.ofChange scaleTurnsSpec)

/-- ITS FALSE NEIGHBOUR: 'it returns false'. Refute it at one input. -/
def scaleTurnsWrong : ChangeSpec := { name := "scaleTurns", fn := fun _ => fun
  | [d1, d2] => { results := [.lit (.bool false)], args := [d1, d2] }
  | _ => none }
def ScaleTurnsWrongFalsely : Prop := scaleTurnsRow.holds Tryz.pinned (OpenSpec.ofChange scaleTurnsWrong)

/-- 'racewaylaw13.ScaleSame': WHATEVER THE INPUT: true; the input reads as it did. -/
def scaleSameSpec : ChangeSpec := { name := "scaleSame", fn := fun _ => fun
  | [d1, d2, d3] => { results := [.lit (.bool true)], args := [d1, d2, d3] }
  | _ => none }
def scaleSameRow : OpenClaim := { program := "ytoadkckceladgaagreat", sum := "e56571ad21deac68486dd7268f4b9a9aa04006dfe0de530362abd092787a5917", func := "raceway/racewaylaw13.ScaleSame", spec := "scaleSame", unfollowed := true, recurses := true, apart := false }
def ScaleSameSaid : Prop := scaleSameRow.holds Tryz.pinned (OpenSpec.ofChange scaleSameSpec)

/-- ITS FALSE NEIGHBOUR: 'it returns false'. Refute it at one input. -/
def scaleSameWrong : ChangeSpec := { name := "scaleSame", fn := fun _ => fun
  | [d1, d2, d3] => { results := [.lit (.bool false)], args := [d1, d2, d3] }
  | _ => none }
def ScaleSameWrongFalsely : Prop := scaleSameRow.holds Tryz.pinned (OpenSpec.ofChange scaleSameWrong)

/-- 'racewaylaw13.ScaleRise': WHATEVER THE INPUT: true; the input reads as it did. -/
def scaleRiseSpec : ChangeSpec := { name := "scaleRise", fn := fun _ => fun
  | [d1, d2, d3, d4] => { results := [.lit (.bool true)], args := [d1, d2, d3, d4] }
  | _ => none }
def scaleRiseRow : OpenClaim := { program := "ytoadkckceladgaagreat", sum := "e56571ad21deac68486dd7268f4b9a9aa04006dfe0de530362abd092787a5917", func := "raceway/racewaylaw13.ScaleRise", spec := "scaleRise", unfollowed := true, recurses := true, apart := false }
def ScaleRiseSaid : Prop := scaleRiseRow.holds Tryz.pinned (OpenSpec.ofChange scaleRiseSpec)

/-- ITS FALSE NEIGHBOUR: 'it returns false'. Refute it at one input. -/
def scaleRiseWrong : ChangeSpec := { name := "scaleRise", fn := fun _ => fun
  | [d1, d2, d3, d4] => { results := [.lit (.bool false)], args := [d1, d2, d3, d4] }
  | _ => none }
def ScaleRiseWrongFalsely : Prop := scaleRiseRow.holds Tryz.pinned (OpenSpec.ofChange scaleRiseWrong)

/- THE SECOND FORM. 'bulk': how many values and letters a reading holds, each counted each time it is reached (what is shared counts as often as it is met; a slice's spare places count too). A statement '..UptoSaid' is the law's where the arguments, and the package variables that the reading takes, are together of bulk at most 1048576: NARROWER than '..Said'. Prove '..Said' where nothing that the law and all that it calls make is longer than what came in: it says more and counts as full. Else prove '..UptoSaid'. A law counts once. -/
mutual
def uptoBulk {H : Type} : DataW H → Nat
  | .lit (.string bytes) => bytes.length + 1
  | .lit _ => 1
  | .nil => 1
  | .ptr d => uptoBulk d + 1
  | .slice elems spare => uptoBulkAll elems + uptoBulkAll spare + 1
  | .agg parts => uptoBulkAll parts + 1
  | .iface _ d => uptoBulk d + 1
  | .map entries => uptoBulkEntries entries + 1
  | .held _ => 1
def uptoBulkAll {H : Type} : List (DataW H) → Nat
  | [] => 0
  | d :: r => uptoBulk d + uptoBulkAll r
def uptoBulkEntries {H : Type} : List (Lit × DataW H) → Nat
  | [] => 0
  | x :: r => uptoBulkEntry x + uptoBulkEntries r
def uptoBulkEntry {H : Type} : Lit × DataW H → Nat
  | (.string bytes, d) => bytes.length + uptoBulk d + 1
  | (_, d) => uptoBulk d + 1
 end
def uptoSmall : (H : Type) → List (DataW H) → Bool := fun _ ds => decide (uptoBulkAll ds ≤ 1048576)
def OpenSpec.upto (s : _root_.Go.ChangeSpec) : _root_.Go.OpenSpec := { _root_.Go.OpenSpec.ofChange s with cond := some uptoSmall }

/-- 'racewaylaw13.ScaleTells', WHERE WHAT IT READS IS OF BULK AT MOST 1048576: true; the input reads as it did. -/
def scaleTellsUptoRow : OpenClaim := { program := "ytoadkckceladgaagreat", sum := "e56571ad21deac68486dd7268f4b9a9aa04006dfe0de530362abd092787a5917", func := "raceway/racewaylaw13.ScaleTells", spec := "scaleTells", unfollowed := true, recurses := true, apart := false, narrowed := true }
def ScaleTellsUptoSaid : Prop := scaleTellsUptoRow.holds Tryz.pinned (OpenSpec.upto scaleTellsSpec)

/-- 'racewaylaw13.ScaleMost', WHERE WHAT IT READS IS OF BULK AT MOST 1048576: true; the input reads as it did. -/
def scaleMostUptoRow : OpenClaim := { program := "ytoadkckceladgaagreat", sum := "e56571ad21deac68486dd7268f4b9a9aa04006dfe0de530362abd092787a5917", func := "raceway/racewaylaw13.ScaleMost", spec := "scaleMost", unfollowed := true, recurses := true, apart := false, narrowed := true }
def ScaleMostUptoSaid : Prop := scaleMostUptoRow.holds Tryz.pinned (OpenSpec.upto scaleMostSpec)

/-- 'racewaylaw13.ScaleLarge', WHERE WHAT IT READS IS OF BULK AT MOST 1048576: true; the input reads as it did. -/
def scaleLargeUptoRow : OpenClaim := { program := "ytoadkckceladgaagreat", sum := "e56571ad21deac68486dd7268f4b9a9aa04006dfe0de530362abd092787a5917", func := "raceway/racewaylaw13.ScaleLarge", spec := "scaleLarge", unfollowed := true, recurses := true, apart := false, narrowed := true }
def ScaleLargeUptoSaid : Prop := scaleLargeUptoRow.holds Tryz.pinned (OpenSpec.upto scaleLargeSpec)

/-- 'racewaylaw13.ScaleTurns', WHERE WHAT IT READS IS OF BULK AT MOST 1048576: true; the input reads as it did. -/
def scaleTurnsUptoRow : OpenClaim := { program := "ytoadkckceladgaagreat", sum := "e56571ad21deac68486dd7268f4b9a9aa04006dfe0de530362abd092787a5917", func := "raceway/racewaylaw13.ScaleTurns", spec := "scaleTurns", unfollowed := true, recurses := true, apart := false, narrowed := true }
def ScaleTurnsUptoSaid : Prop := scaleTurnsUptoRow.holds Tryz.pinned (OpenSpec.upto scaleTurnsSpec)

/-- 'racewaylaw13.ScaleSame', WHERE WHAT IT READS IS OF BULK AT MOST 1048576: true; the input reads as it did. -/
def scaleSameUptoRow : OpenClaim := { program := "ytoadkckceladgaagreat", sum := "e56571ad21deac68486dd7268f4b9a9aa04006dfe0de530362abd092787a5917", func := "raceway/racewaylaw13.ScaleSame", spec := "scaleSame", unfollowed := true, recurses := true, apart := false, narrowed := true }
def ScaleSameUptoSaid : Prop := scaleSameUptoRow.holds Tryz.pinned (OpenSpec.upto scaleSameSpec)

/-- 'racewaylaw13.ScaleRise', WHERE WHAT IT READS IS OF BULK AT MOST 1048576: true; the input reads as it did. -/
def scaleRiseUptoRow : OpenClaim := { program := "ytoadkckceladgaagreat", sum := "e56571ad21deac68486dd7268f4b9a9aa04006dfe0de530362abd092787a5917", func := "raceway/racewaylaw13.ScaleRise", spec := "scaleRise", unfollowed := true, recurses := true, apart := false, narrowed := true }
def ScaleRiseUptoSaid : Prop := scaleRiseUptoRow.holds Tryz.pinned (OpenSpec.upto scaleRiseSpec)

end Rows
end Go.Proofs.YtoadkckceladgaaGreat
