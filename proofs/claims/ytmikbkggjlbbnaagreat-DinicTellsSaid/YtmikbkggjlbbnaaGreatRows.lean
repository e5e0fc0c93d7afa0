/-
  No cell of these rows narrows 'for every input' (looked for: loops, veiled, ifaces, maps, wideKeys, modest, calm, conditions, laid).
  DERIVED. THE GIVEN ROWS OF THIS SEAT. 6 by the template 'for every input the law returns true; each argument reads behind the call as it read before'; 0 by the template 'total and deterministic' (their statements: YtmikbkggjlbbnaaGreatTotals.lean).
  GIVEN WITH THE SEED: the statements are not yours to turn. If you find one false, say at which input.
  Laid BY PROGRAM, IN A SANDBOX (cutbox-rows.mjs): the forced cells as the released guide's own fill.sh prints them over the translation 379923be24aa2d56… (all of the seat's roots in one cut). By AI agents, Wed Nov 11 2026. No macro, syntax, notation, axiom, sorry.
-/
import Derived.Test.YtmikbkggjlbbnaaGreatChecked
import GoSem.Claim
import GoSem.ClaimJoined
import GoSem.ClaimMapViews
import Derived.JoinedTies
import Derived.KernelRfl
namespace Go.Proofs.YtmikbkggjlbbnaaGreat
/- THE CELL 'sum', in the pinned program and in every row, IS THE sha256 OF THE DUMP (.gsa) THAT YtmikbkggjlbbnaaGreatProg.lean LOADS. Nothing in Lean hashes anything: it is a label: what it is worth is what the hold of that sum in a sandbox is worth. -/
noncomputable def Tryz.pinned : Pinned := { name := "ytmikbkggjlbbnaagreat", sum := "379923be24aa2d5641e3480da0e83d3d53e742059c4c8d1394779a8bd9976f2b", checked := Tryz.checked }
namespace Rows
def none {H : Type} : Left H := { results := [], args := [] }

/-- 'racewaylaw12.DinicTells': WHATEVER THE INPUT: true; the input reads as it did. -/
def dinicTellsSpec : ChangeSpec := { name := "dinicTells", fn := fun _ => fun
  | [d1, d2, d3, d4] => { results := [.lit (.bool true)], args := [d1, d2, d3, d4] }
  | _ => none }
def dinicTellsRow : OpenClaim := { program := "ytmikbkggjlbbnaagreat", sum := "379923be24aa2d5641e3480da0e83d3d53e742059c4c8d1394779a8bd9976f2b", func := "raceway/racewaylaw12.DinicTells", spec := "dinicTells", unfollowed := true, recurses := true, apart := false }
def DinicTellsSaid : Prop := dinicTellsRow.holds Tryz.pinned (OpenSpec.ofChange dinicTellsSpec)

/-- ITS FALSE NEIGHBOUR: 'it returns false'. Refute it at one input. -/
def dinicTellsWrong : ChangeSpec := { name := "dinicTells", fn := fun _ => fun
  | [d1, d2, d3, d4] => { results := [.lit (.bool false)], args := [d1, d2, d3, d4] }
  | _ => none }
def DinicTellsWrongFalsely : Prop := dinicTellsRow.holds Tryz.pinned (OpenSpec.ofChange dinicTellsWrong)

/-- 'racewaylaw12.DinicMost': WHATEVER THE INPUT: true; the input reads as it did. -/
def dinicMostSpec : ChangeSpec := { name := "dinicMost", fn := fun _ => fun
  | [d1, d2, d3, d4, d5] => { results := [.lit (.bool true)], args := [d1, d2, d3, d4, d5] }
  | _ => none }
def dinicMostRow : OpenClaim := { program := "ytmikbkggjlbbnaagreat", sum := "379923be24aa2d5641e3480da0e83d3d53e742059c4c8d1394779a8bd9976f2b", func := "raceway/racewaylaw12.DinicMost", spec := "dinicMost", unfollowed := true, recurses := true, apart := false }
def DinicMostSaid : Prop := dinicMostRow.holds Tryz.pinned (OpenSpec.ofChange dinicMostSpec)

/-- ITS FALSE NEIGHBOUR: 'it returns false'. Refute it at one input. -/
def dinicMostWrong : ChangeSpec := { name := "dinicMost", fn := fun _ => fun
  | [d1, d2, d3, d4, d5] => { results := [.lit (.bool false)], args := [d1, d2, d3, d4, d5] }
  | _ => none }
def DinicMostWrongFalsely : Prop := dinicMostRow.holds Tryz.pinned (OpenSpec.ofChange dinicMostWrong)

/-- 'racewaylaw12.DinicEngines': WHATEVER THE INPUT: true; the input reads as it did. -/
def dinicEnginesSpec : ChangeSpec := { name := "dinicEngines", fn := fun _ => fun
  | [d1, d2, d3, d4] => { results := [.lit (.bool true)], args := [d1, d2, d3, d4] }
  | _ => none }
def dinicEnginesRow : OpenClaim := { program := "ytmikbkggjlbbnaagreat", sum := "379923be24aa2d5641e3480da0e83d3d53e742059c4c8d1394779a8bd9976f2b", func := "raceway/racewaylaw12.DinicEngines", spec := "dinicEngines", unfollowed := true, recurses := true, apart := false }
def DinicEnginesSaid : Prop := dinicEnginesRow.holds Tryz.pinned (OpenSpec.ofChange dinicEnginesSpec)

/-- ITS FALSE NEIGHBOUR: 'it returns false'. Refute it at one input. -/
def dinicEnginesWrong : ChangeSpec := { name := "dinicEngines", fn := fun _ => fun
  | [d1, d2, d3, d4] => { results := [.lit (.bool false)], args := [d1, d2, d3, d4] }
  | _ => none }
def DinicEnginesWrongFalsely : Prop := dinicEnginesRow.holds Tryz.pinned (OpenSpec.ofChange dinicEnginesWrong)

/-- 'racewaylaw12.DinicTurned': WHATEVER THE INPUT: true; the input reads as it did. -/
def dinicTurnedSpec : ChangeSpec := { name := "dinicTurned", fn := fun _ => fun
  | [d1, d2, d3, d4, d5] => { results := [.lit (.bool true)], args := [d1, d2, d3, d4, d5] }
  | _ => none }
def dinicTurnedRow : OpenClaim := { program := "ytmikbkggjlbbnaagreat", sum := "379923be24aa2d5641e3480da0e83d3d53e742059c4c8d1394779a8bd9976f2b", func := "raceway/racewaylaw12.DinicTurned", spec := "dinicTurned", unfollowed := true, recurses := true, apart := false }
def DinicTurnedSaid : Prop := dinicTurnedRow.holds Tryz.pinned (OpenSpec.ofChange dinicTurnedSpec)

/-- ITS FALSE NEIGHBOUR: 'it returns false'. Refute it at one input. -/
def dinicTurnedWrong : ChangeSpec := { name := "dinicTurned", fn := fun _ => fun
  | [d1, d2, d3, d4, d5] => { results := [.lit (.bool false)], args := [d1, d2, d3, d4, d5] }
  | _ => none }
def DinicTurnedWrongFalsely : Prop := dinicTurnedRow.holds Tryz.pinned (OpenSpec.ofChange dinicTurnedWrong)

/-- 'racewaylaw12.DinicMore': WHATEVER THE INPUT: true; the input reads as it did. -/
def dinicMoreSpec : ChangeSpec := { name := "dinicMore", fn := fun _ => fun
  | [d1, d2, d3, d4, d5] => { results := [.lit (.bool true)], args := [d1, d2, d3, d4, d5] }
  | _ => none }
def dinicMoreRow : OpenClaim := { program := "ytmikbkggjlbbnaagreat", sum := "379923be24aa2d5641e3480da0e83d3d53e742059c4c8d1394779a8bd9976f2b", func := "raceway/racewaylaw12.DinicMore", spec := "dinicMore", unfollowed := true, recurses := true, apart := false }
def DinicMoreSaid : Prop := dinicMoreRow.holds Tryz.pinned (OpenSpec.ofChange dinicMoreSpec)

/-- ITS FALSE NEIGHBOUR: 'it returns false'. Refute it at one input. -/
def dinicMoreWrong : ChangeSpec := { name := "dinicMore", fn := fun _ => fun
  | [d1, d2, d3, d4, d5] => { results := [.lit (.bool false)], args := [d1, d2, d3, d4, d5] }
  | _ => none }
def DinicMoreWrongFalsely : Prop := dinicMoreRow.holds Tryz.pinned (OpenSpec.ofChange dinicMoreWrong)

/-- 'racewaylaw12.DinicApart': WHATEVER THE INPUT: true; the input reads as it did. -/
def dinicApartSpec : ChangeSpec := { name := "dinicApart", fn := fun _ => fun
  | [d1, d2, d3, d4] => { results := [.lit (.bool true)], args := [d1, d2, d3, d4] }
  | _ => none }
def dinicApartRow : OpenClaim := { program := "ytmikbkggjlbbnaagreat", sum := "379923be24aa2d5641e3480da0e83d3d53e742059c4c8d1394779a8bd9976f2b", func := "raceway/racewaylaw12.DinicApart", spec := "dinicApart", unfollowed := true, recurses := true, apart := false }
def DinicApartSaid : Prop := dinicApartRow.holds Tryz.pinned (OpenSpec.ofChange dinicApartSpec)

/-- ITS FALSE NEIGHBOUR: 'it returns false'. Refute it at one input. -/
def dinicApartWrong : ChangeSpec := { name := "dinicApart", fn := fun _ => fun
  | [d1, d2, d3, d4] => { results := [.lit (.bool false)], args := [d1, d2, d3, d4] }
  | _ => none }
def DinicApartWrongFalsely : Prop := dinicApartRow.holds Tryz.pinned (OpenSpec.ofChange dinicApartWrong)

/- THE SECOND FORM. 'bulk': how many values and letters a reading holds, each counted each time it is reached (what is shared counts as often as it is met; a slice's spare places count too). A statement '..UptoSaid' is the law's where the arguments, and the package variables that the reading takes, are together of bulk at most 1048576: NARROWER than '..Said'. Prove '..Said' where nothing that the law and all that it calls make is longer than what came in: it says more and counts as full. Else prove '..UptoSaid'. A law counts once. -/
mutual
def uptoBulk {H : Type} : DataW H → Nat
  | .lit (.string bytes) => bytes.length + 1
  | .lit _ => 1
  | .nil => 1
  | .ptr d => uptoBulk d + 1
  | .slice elems spare => uptoBulkAll elems + uptoBulkAll spare + 1
  | .agg parts => uptoBulkAll parts + 1
  | .iface _ d => uptoBulk d + 1
  | .map entries => uptoBulkEntries entries + 1
  | .held _ => 1
def uptoBulkAll {H : Type} : List (DataW H) → Nat
  | [] => 0
  | d :: r => uptoBulk d + uptoBulkAll r
def uptoBulkEntries {H : Type} : List (Lit × DataW H) → Nat
  | [] => 0
  | x :: r => uptoBulkEntry x + uptoBulkEntries r
def uptoBulkEntry {H : Type} : Lit × DataW H → Nat
  | (.string bytes, d) => bytes.length + uptoBulk d + 1
  | (_, d) => uptoBulk d + 1
 end
def uptoSmall : (H : Type) → List (DataW H) → Bool := fun _ ds => decide (uptoBulkAll ds ≤ 1048576)
def OpenSpec.upto (s : _root_.Go.ChangeSpec) : _root_.Go.OpenSpec := { _root_.Go.OpenSpec.ofChange s with cond := some uptoSmall }

/-- 'racewaylaw12.DinicTells', WHERE WHAT IT READS IS OF BULK AT MOST 1048576: true; the input reads as it did. -/
def dinicTellsUptoRow : OpenClaim := { program := "ytmikbkggjlbbnaagreat", sum := "379923be24aa2d5641e3480da0e83d3d53e742059c4c8d1394779a8bd9976f2b", func := "raceway/racewaylaw12.DinicTells", spec := "dinicTells", unfollowed := true, recurses := true, apart := false, narrowed := true }
def DinicTellsUptoSaid : Prop := dinicTellsUptoRow.holds Tryz.pinned (OpenSpec.upto dinicTellsSpec)

/-- 'racewaylaw12.DinicMost', WHERE WHAT IT READS IS OF BULK AT MOST 1048576: true; the input reads as it did. -/
def dinicMostUptoRow : OpenClaim := { program := "ytmikbkggjlbbnaagreat", sum := "379923be24aa2d5641e3480da0e83d3d53e742059c4c8d1394779a8bd9976f2b", func := "raceway/racewaylaw12.DinicMost", spec := "dinicMost", unfollowed := true, recurses := true, apart := false, narrowed := true }
def DinicMostUptoSaid : Prop := dinicMostUptoRow.holds Tryz.pinned (OpenSpec.upto dinicMostSpec)

/-- 'racewaylaw12.DinicEngines', WHERE WHAT IT READS IS OF BULK AT MOST 1048576: true; the input reads as it did. -/
def dinicEnginesUptoRow : OpenClaim := { program := "ytmikbkggjlbbnaagreat", sum := "379923be24aa2d5641e3480da0e83d3d53e742059c4c8d1394779a8bd9976f2b", func := "raceway/racewaylaw12.DinicEngines", spec := "dinicEngines", unfollowed := true, recurses := true, apart := false, narrowed := true }
def DinicEnginesUptoSaid : Prop := dinicEnginesUptoRow.holds Tryz.pinned (OpenSpec.upto dinicEnginesSpec)

/-- 'racewaylaw12.DinicTurned', WHERE WHAT IT READS IS OF BULK AT MOST 1048576: true; the input reads as it did. -/
def dinicTurnedUptoRow : OpenClaim := { program := "ytmikbkggjlbbnaagreat", sum := "379923be24aa2d5641e3480da0e83d3d53e742059c4c8d1394779a8bd9976f2b", func := "raceway/racewaylaw12.DinicTurned", spec := "dinicTurned", unfollowed := true, recurses := true, apart := false, narrowed := true }
def DinicTurnedUptoSaid : Prop := dinicTurnedUptoRow.holds Tryz.pinned (OpenSpec.upto dinicTurnedSpec)

/-- 'racewaylaw12.DinicMore', WHERE WHAT IT READS IS OF BULK AT MOST 1048576: true; the input reads as it did. -/
def dinicMoreUptoRow : OpenClaim := { program := "ytmikbkggjlbbnaagreat", sum := "379923be24aa2d5641e3480da0e83d3d53e742059c4c8d1394779a8bd9976f2b", func := "raceway/racewaylaw12.DinicMore", spec := "dinicMore", unfollowed := true, recurses := true, apart := false, narrowed := true }
def DinicMoreUptoSaid : Prop := dinicMoreUptoRow.holds Tryz.pinned (OpenSpec.upto dinicMoreSpec)

/-- 'racewaylaw12.DinicApart', WHERE WHAT IT READS IS OF BULK AT MOST 1048576: true; the input reads as it did. -/
def dinicApartUptoRow : OpenClaim := { program := "ytmikbkggjlbbnaagreat", sum := "379923be24aa2d5641e3480da0e83d3d53e742059c4c8d1394779a8bd9976f2b", func := "raceway/racewaylaw12.DinicApart", spec := "dinicApart", unfollowed := true, recurses := true, apart := false, narrowed := true }
def DinicApartUptoSaid : Prop := dinicApartUptoRow.holds Tryz.pinned (OpenSpec.upto dinicApartSpec)

end Rows
end Go.Proofs.YtmikbkggjlbbnaaGreat
