/-
  No cell of these rows narrows 'for every input' (looked for: loops, veiled, ifaces, maps, wideKeys, modest, calm, conditions, laid).
  DERIVED. THE GIVEN ROWS OF THIS SEAT. 3 by the template 'for every input the law returns true; each argument reads behind the call as it read before'; 0 by the template 'total and deterministic' (their statements: YthhlfphnokdfaaaGreatTotals.lean).
  GIVEN WITH THE SEED: the statements are not yours to turn. If you find one false, say at which input.
  Laid BY PROGRAM, IN A SANDBOX (cutbox-rows.mjs): the forced cells as the released guide's own fill.sh prints them over the translation de6e4c7817feddf6… (all of the seat's roots in one cut). By AI agents, Wed Nov 11 2026. No macro, syntax, notation, axiom, sorry.
-/
import Derived.Test.YthhlfphnokdfaaaGreatChecked
import GoSem.Claim
import GoSem.ClaimJoined
import GoSem.ClaimMapViews
import Derived.JoinedTies
import Derived.KernelRfl
namespace Go.Proofs.YthhlfphnokdfaaaGreat
/- THE CELL 'sum', in the pinned program and in every row, IS THE sha256 OF THE DUMP (.gsa) THAT YthhlfphnokdfaaaGreatProg.lean LOADS. Nothing in Lean hashes anything: it is a label: what it is worth is what the hold of that sum in a sandbox is worth. -/
noncomputable def Tryz.pinned : Pinned := { name := "ythhlfphnokdfaaagreat", sum := "de6e4c7817feddf65e097cadd7915165f3d4842b4e078e7485f3ca5bd1c67f70", checked := Tryz.checked }
namespace Rows
def none {H : Type} : Left H := { results := [], args := [] }

/-- 'racewaylaw14.CutStrong': WHATEVER THE INPUT: true; the input reads as it did. -/
def cutStrongSpec : ChangeSpec := { name := "cutStrong", fn := fun _ => fun
  | [d1, d2, d3, d4, d5] => { results := [.lit (.bool true)], args := [d1, d2, d3, d4, d5] }
  | _ => none }
def cutStrongRow : OpenClaim := { program := "ythhlfphnokdfaaagreat", sum := "de6e4c7817feddf65e097cadd7915165f3d4842b4e078e7485f3ca5bd1c67f70", func := "raceway/racewaylaw14.CutStrong", spec := "cutStrong", unfollowed := true, recurses := true, apart := false }
def CutStrongSaid : Prop := cutStrongRow.holds Tryz.pinned (OpenSpec.ofChange cutStrongSpec)

/-- ITS FALSE NEIGHBOUR: 'it returns false'. Refute it at one input. -/
def cutStrongWrong : ChangeSpec := { name := "cutStrong", fn := fun _ => fun
  | [d1, d2, d3, d4, d5] => { results := [.lit (.bool false)], args := [d1, d2, d3, d4, d5] }
  | _ => none }
def CutStrongWrongFalsely : Prop := cutStrongRow.holds Tryz.pinned (OpenSpec.ofChange cutStrongWrong)

/-- 'racewaylaw14.CutTurned': WHATEVER THE INPUT: true; the input reads as it did. -/
def cutTurnedSpec : ChangeSpec := { name := "cutTurned", fn := fun _ => fun
  | [d1, d2, d3, d4] => { results := [.lit (.bool true)], args := [d1, d2, d3, d4] }
  | _ => none }
def cutTurnedRow : OpenClaim := { program := "ythhlfphnokdfaaagreat", sum := "de6e4c7817feddf65e097cadd7915165f3d4842b4e078e7485f3ca5bd1c67f70", func := "raceway/racewaylaw14.CutTurned", spec := "cutTurned", unfollowed := true, recurses := true, apart := false }
def CutTurnedSaid : Prop := cutTurnedRow.holds Tryz.pinned (OpenSpec.ofChange cutTurnedSpec)

/-- ITS FALSE NEIGHBOUR: 'it returns false'. Refute it at one input. -/
def cutTurnedWrong : ChangeSpec := { name := "cutTurned", fn := fun _ => fun
  | [d1, d2, d3, d4] => { results := [.lit (.bool false)], args := [d1, d2, d3, d4] }
  | _ => none }
def CutTurnedWrongFalsely : Prop := cutTurnedRow.holds Tryz.pinned (OpenSpec.ofChange cutTurnedWrong)

/-- 'racewaylaw14.CutFull': WHATEVER THE INPUT: true; the input reads as it did. -/
def cutFullSpec : ChangeSpec := { name := "cutFull", fn := fun _ => fun
  | [d1, d2, d3] => { results := [.lit (.bool true)], args := [d1, d2, d3] }
  | _ => none }
def cutFullRow : OpenClaim := { program := "ythhlfphnokdfaaagreat", sum := "de6e4c7817feddf65e097cadd7915165f3d4842b4e078e7485f3ca5bd1c67f70", func := "raceway/racewaylaw14.CutFull", spec := "cutFull", unfollowed := true, recurses := true, apart := false }
def CutFullSaid : Prop := cutFullRow.holds Tryz.pinned (OpenSpec.ofChange cutFullSpec)

/-- ITS FALSE NEIGHBOUR: 'it returns false'. Refute it at one input. -/
def cutFullWrong : ChangeSpec := { name := "cutFull", fn := fun _ => fun
  | [d1, d2, d3] => { results := [.lit (.bool false)], args := [d1, d2, d3] }
  | _ => none }
def CutFullWrongFalsely : Prop := cutFullRow.holds Tryz.pinned (OpenSpec.ofChange cutFullWrong)

/- THE SECOND FORM. 'bulk': how many values and letters a reading holds, each counted each time it is reached (what is shared counts as often as it is met; a slice's spare places count too). A statement '..UptoSaid' is the law's where the arguments, and the package variables that the reading takes, are together of bulk at most 1048576: NARROWER than '..Said'. Prove '..Said' where nothing that the law and all that it calls make is longer than what came in: it says more and counts as full. Else prove '..UptoSaid'. A law counts once. -/
mutual
def uptoBulk {H : Type} : DataW H → Nat
  | .lit (.string bytes) => bytes.length + 1
  | .lit _ => 1
  | .nil => 1
  | .ptr d => uptoBulk d + 1
  | .slice elems spare => uptoBulkAll elems + uptoBulkAll spare + 1
  | .agg parts => uptoBulkAll parts + 1
  | .iface _ d => uptoBulk d + 1
  | .map entries => uptoBulkEntries entries + 1
  | .held _ => 1
def uptoBulkAll {H : Type} : List (DataW H) → Nat
  | [] => 0
  | d :: r => uptoBulk d + uptoBulkAll r
def uptoBulkEntries {H : Type} : List (Lit × DataW H) → Nat
  | [] => 0
  | x :: r => uptoBulkEntry x + uptoBulkEntries r
def uptoBulkEntry {H : Type} : Lit × DataW H → Nat
  | (.string bytes, d) => bytes.length + uptoBulk d + 1
  | (_, d) => uptoBulk d + 1
 end
def uptoSmall : (H : Type) → List (DataW H) → Bool := fun _ ds => decide (uptoBulkAll ds ≤ 1048576)
def OpenSpec.upto (s : _root_.Go.ChangeSpec) : _root_.Go.OpenSpec := { _root_.Go.OpenSpec.ofChange s with cond := some uptoSmall }

/-- 'racewaylaw14.CutStrong', WHERE WHAT IT READS IS OF BULK AT MOST 1048576: true; the input reads as it did. -/
def cutStrongUptoRow : OpenClaim := { program := "ythhlfphnokdfaaagreat", sum := "de6e4c7817feddf65e097cadd7915165f3d4842b4e078e7485f3ca5bd1c67f70", func := "raceway/racewaylaw14.CutStrong", spec := "cutStrong", unfollowed := true, recurses := true, apart := false, narrowed := true }
def CutStrongUptoSaid : Prop := cutStrongUptoRow.holds Tryz.pinned (OpenSpec.upto cutStrongSpec)

/-- 'racewaylaw14.CutTurned', WHERE WHAT IT READS IS OF BULK AT MOST 1048576: true; the input reads as it did. -/
def cutTurnedUptoRow : OpenClaim := { program := "ythhlfphnokdfaaagreat", sum := "de6e4c7817feddf65e097cadd7915165f3d4842b4e078e7485f3ca5bd1c67f70", func := "raceway/racewaylaw14.CutTurned", spec := "cutTurned", unfollowed := true, recurses := true, apart := false, narrowed := true }
def CutTurnedUptoSaid : Prop := cutTurnedUptoRow.holds Tryz.pinned (OpenSpec.upto cutTurnedSpec)

/-- 'racewaylaw14.CutFull', WHERE WHAT IT READS IS OF BULK AT MOST 1048576: true; the input reads as it did. -/
def cutFullUptoRow : OpenClaim := { program := "ythhlfphnokdfaaagreat", sum := "de6e4c7817feddf65e097cadd7915165f3d4842b4e078e7485f3ca5bd1c67f70", func := "raceway/racewaylaw14.CutFull", spec := "cutFull", unfollowed := true, recurses := true, apart := false, narrowed := true }
def CutFullUptoSaid : Prop := cutFullUptoRow.holds Tryz.pinned (OpenSpec.upto cutFullSpec)

end Rows
end Go.Proofs.YthhlfphnokdfaaaGreat
