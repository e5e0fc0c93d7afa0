/-
  No cell of these rows narrows 'for every input' (looked for: loops, veiled, ifaces, maps, wideKeys, modest, calm, conditions, laid).
  DERIVED. THE GIVEN ROWS OF THIS SEAT. 4 by the template 'for every input the law returns true; each argument reads behind the call as it read before'; 0 by the template 'total and deterministic' (their statements: YthhlfphnokdfaaaTotals.lean).
  GIVEN WITH THE SEED: the statements are not yours to turn. If you find one false, say at which input.
  Laid BY PROGRAM, IN A SANDBOX (cutbox-rows.mjs): the forced cells as the released guide's own fill.sh prints them over the translation 1157d6b2a4997a9a… (all of the seat's roots in one cut). By AI agents, Wed Nov 11 2026. No macro, syntax, notation, axiom, sorry.
-/
import Derived.Test.YthhlfphnokdfaaaChecked
import GoSem.Claim
import GoSem.ClaimJoined
import GoSem.ClaimMapViews
import Derived.JoinedTies
import Derived.KernelRfl
namespace Go.Proofs.Ythhlfphnokdfaaa
/- THE CELL 'sum', in the pinned program and in every row, IS THE sha256 OF THE DUMP (.gsa) THAT YthhlfphnokdfaaaProg.lean LOADS. Nothing in Lean hashes anything: it is a label: what it is worth is what the hold of that sum in a sandbox is worth. -/
noncomputable def Try.pinned : Pinned := { name := "ythhlfphnokdfaaa", sum := "1157d6b2a4997a9ab9b00543b4c102e52ea7f2a29941bdddbf76c60eb11e723c", checked := Try.checked }
namespace Rows
def none {H : Type} : Left H := { results := [], args := [] }

/-- 'racewaylaw14.CutTells': WHATEVER THE INPUT: true; the input reads as it did. -/
def cutTellsSpec : ChangeSpec := { name := "cutTells", fn := fun _ => fun
  | [d1, d2, d3] => { results := [.lit (.bool true)], args := [d1, d2, d3] }
  | _ => none }
def cutTellsRow : OpenClaim := { program := "ythhlfphnokdfaaa", sum := "1157d6b2a4997a9ab9b00543b4c102e52ea7f2a29941bdddbf76c60eb11e723c", func := "raceway/racewaylaw14.CutTells", spec := "cutTells", unfollowed := true, recurses := true, apart := false }
def CutTellsSaid : Prop := cutTellsRow.holds Try.pinned (OpenSpec.ofChange cutTellsSpec)

/-- ITS FALSE NEIGHBOUR: 'it returns false'. Refute it at one input. -/
def cutTellsWrong : ChangeSpec := { name := "cutTells", fn := fun _ => fun
  | [d1, d2, d3] => { results := [.lit (.bool false)], args := [d1, d2, d3] }
  | _ => none }
def CutTellsWrongFalsely : Prop := cutTellsRow.holds Try.pinned (OpenSpec.ofChange cutTellsWrong)

/-- 'racewaylaw14.CutWeak': WHATEVER THE INPUT: true; the input reads as it did. -/
def cutWeakSpec : ChangeSpec := { name := "cutWeak", fn := fun _ => fun
  | [d1, d2, d3, d4, d5] => { results := [.lit (.bool true)], args := [d1, d2, d3, d4, d5] }
  | _ => none }
def cutWeakRow : OpenClaim := { program := "ythhlfphnokdfaaa", sum := "1157d6b2a4997a9ab9b00543b4c102e52ea7f2a29941bdddbf76c60eb11e723c", func := "raceway/racewaylaw14.CutWeak", spec := "cutWeak", unfollowed := true, recurses := true, apart := false }
def CutWeakSaid : Prop := cutWeakRow.holds Try.pinned (OpenSpec.ofChange cutWeakSpec)

/-- ITS FALSE NEIGHBOUR: 'it returns false'. Refute it at one input. -/
def cutWeakWrong : ChangeSpec := { name := "cutWeak", fn := fun _ => fun
  | [d1, d2, d3, d4, d5] => { results := [.lit (.bool false)], args := [d1, d2, d3, d4, d5] }
  | _ => none }
def CutWeakWrongFalsely : Prop := cutWeakRow.holds Try.pinned (OpenSpec.ofChange cutWeakWrong)

/-- 'racewaylaw14.CutMeets': WHATEVER THE INPUT: true; the input reads as it did. -/
def cutMeetsSpec : ChangeSpec := { name := "cutMeets", fn := fun _ => fun
  | [d1, d2, d3, d4, d5] => { results := [.lit (.bool true)], args := [d1, d2, d3, d4, d5] }
  | _ => none }
def cutMeetsRow : OpenClaim := { program := "ythhlfphnokdfaaa", sum := "1157d6b2a4997a9ab9b00543b4c102e52ea7f2a29941bdddbf76c60eb11e723c", func := "raceway/racewaylaw14.CutMeets", spec := "cutMeets", unfollowed := true, recurses := true, apart := false }
def CutMeetsSaid : Prop := cutMeetsRow.holds Try.pinned (OpenSpec.ofChange cutMeetsSpec)

/-- ITS FALSE NEIGHBOUR: 'it returns false'. Refute it at one input. -/
def cutMeetsWrong : ChangeSpec := { name := "cutMeets", fn := fun _ => fun
  | [d1, d2, d3, d4, d5] => { results := [.lit (.bool false)], args := [d1, d2, d3, d4, d5] }
  | _ => none }
def CutMeetsWrongFalsely : Prop := cutMeetsRow.holds Try.pinned (OpenSpec.ofChange cutMeetsWrong)

/-- 'racewaylaw14.CutMoves': WHATEVER THE INPUT: true; the input reads as it did. -/
def cutMovesSpec : ChangeSpec := { name := "cutMoves", fn := fun _ => fun
  | [d1, d2, d3, d4, d5] => { results := [.lit (.bool true)], args := [d1, d2, d3, d4, d5] }
  | _ => none }
def cutMovesRow : OpenClaim := { program := "ythhlfphnokdfaaa", sum := "1157d6b2a4997a9ab9b00543b4c102e52ea7f2a29941bdddbf76c60eb11e723c", func := "raceway/racewaylaw14.CutMoves", spec := "cutMoves", unfollowed := true, recurses := true, apart := false }
def CutMovesSaid : Prop := cutMovesRow.holds Try.pinned (OpenSpec.ofChange cutMovesSpec)

/-- ITS FALSE NEIGHBOUR: 'it returns false'. Refute it at one input. -/
def cutMovesWrong : ChangeSpec := { name := "cutMoves", fn := fun _ => fun
  | [d1, d2, d3, d4, d5] => { results := [.lit (.bool false)], args := [d1, d2, d3, d4, d5] }
  | _ => none }
def CutMovesWrongFalsely : Prop := cutMovesRow.holds Try.pinned (OpenSpec.ofChange cutMovesWrong)

/- THE SECOND FORM. 'bulk': how many values and letters a reading holds, each counted each time it is reached (what is shared counts as often as it is met; a slice's spare places count too). A statement '..UptoSaid' is the law's where the arguments, and the package variables that the reading takes, are together of bulk at most 1048576: NARROWER than '..Said'. Prove '..Said' where nothing that the law and all that it calls make is longer than what came in: it says more and counts as full. Else prove '..UptoSaid'. A law counts once. -/
mutual
def uptoBulk {H : Type} : DataW H → Nat
  | .lit (.string bytes) => bytes.length + 1
  | .lit _ => 1
  | .nil => 1
  | .ptr d => uptoBulk d + 1
  | .slice elems spare => uptoBulkAll elems + uptoBulkAll spare + 1
  | .agg parts => uptoBulkAll parts + 1
  | .iface _ d => uptoBulk d + 1
  | .map entries => uptoBulkEntries entries + 1
  | .held _ => 1
def uptoBulkAll {H : Type} : List (DataW H) → Nat
  | [] => 0
  | d :: r => uptoBulk d + uptoBulkAll r
def uptoBulkEntries {H : Type} : List (Lit × DataW H) → Nat
  | [] => 0
  | x :: r => uptoBulkEntry x + uptoBulkEntries r
def uptoBulkEntry {H : Type} : Lit × DataW H → Nat
  | (.string bytes, d) => bytes.length + uptoBulk d + 1
  | (_, d) => uptoBulk d + 1
 end
def uptoSmall : (H : Type) → List (DataW H) → Bool := fun _ ds => decide (uptoBulkAll ds ≤ 1048576)
def OpenSpec.upto (s : _root_.Go.ChangeSpec) : _root_.Go.OpenSpec := { _root_.Go.OpenSpec.ofChange s with cond := some uptoSmall }

/-- 'racewaylaw14.CutTells', WHERE WHAT IT READS IS OF BULK AT MOST 1048576: true; the input reads as it did. -/
def cutTellsUptoRow : OpenClaim := { program := "ythhlfphnokdfaaa", sum := "1157d6b2a4997a9ab9b00543b4c102e52ea7f2a29941bdddbf76c60eb11e723c", func := "raceway/racewaylaw14.CutTells", spec := "cutTells", unfollowed := true, recurses := true, apart := false, narrowed := true }
def CutTellsUptoSaid : Prop := cutTellsUptoRow.holds Try.pinned (OpenSpec.upto cutTellsSpec)

/-- 'racewaylaw14.CutWeak', WHERE WHAT IT READS IS OF BULK AT MOST 1048576: true; the input reads as it did. -/
def cutWeakUptoRow : OpenClaim := { program := "ythhlfphnokdfaaa", sum := "1157d6b2a4997a9ab9b00543b4c102e52ea7f2a29941bdddbf76c60eb11e723c", func := "raceway/racewaylaw14.CutWeak", spec := "cutWeak", unfollowed := true, recurses := true, apart := false, narrowed := true }
def CutWeakUptoSaid : Prop := cutWeakUptoRow.holds Try.pinned (OpenSpec.upto cutWeakSpec)

/-- 'racewaylaw14.CutMeets', WHERE WHAT IT READS IS OF BULK AT MOST 1048576: true; the input reads as it did. -/
def cutMeetsUptoRow : OpenClaim := { program := "ythhlfphnokdfaaa", sum := "1157d6b2a4997a9ab9b00543b4c102e52ea7f2a29941bdddbf76c60eb11e723c", func := "raceway/racewaylaw14.CutMeets", spec := "cutMeets", unfollowed := true, recurses := true, apart := false, narrowed := true }
def CutMeetsUptoSaid : Prop := cutMeetsUptoRow.holds Try.pinned (OpenSpec.upto cutMeetsSpec)

/-- 'racewaylaw14.CutMoves', WHERE WHAT IT READS IS OF BULK AT MOST 1048576: true; the input reads as it did. -/
def cutMovesUptoRow : OpenClaim := { program := "ythhlfphnokdfaaa", sum := "1157d6b2a4997a9ab9b00543b4c102e52ea7f2a29941bdddbf76c60eb11e723c", func := "raceway/racewaylaw14.CutMoves", spec := "cutMoves", unfollowed := true, recurses := true, apart := false, narrowed := true }
def CutMovesUptoSaid : Prop := cutMovesUptoRow.holds Try.pinned (OpenSpec.upto cutMovesSpec)

end Rows
end Go.Proofs.Ythhlfphnokdfaaa
