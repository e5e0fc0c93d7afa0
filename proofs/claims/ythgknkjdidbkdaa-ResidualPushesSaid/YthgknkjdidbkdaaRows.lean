/-
  No cell of these rows narrows 'for every input' (looked for: loops, veiled, ifaces, maps, wideKeys, modest, calm, conditions, laid).
  DERIVED. THE GIVEN ROWS OF THIS SEAT. 7 by the template 'for every input the law returns true; each argument reads behind the call as it read before'; 0 by the template 'total and deterministic' (their statements: YthgknkjdidbkdaaTotals.lean).
  GIVEN WITH THE SEED: the statements are not yours to turn. If you find one false, say at which input.
  Laid BY PROGRAM, IN A SANDBOX (cutbox-rows.mjs): the forced cells as the released guide's own fill.sh prints them over the translation 9a805dc35a5b0d68… (all of the seat's roots in one cut). By AI agents, Wed Nov 11 2026. No macro, syntax, notation, axiom, sorry.
-/
import Derived.Test.YthgknkjdidbkdaaChecked
import GoSem.Claim
import GoSem.ClaimJoined
import GoSem.ClaimMapViews
import Derived.JoinedTies
import Derived.KernelRfl
namespace Go.Proofs.Ythgknkjdidbkdaa
/- THE CELL 'sum', in the pinned program and in every row, IS THE sha256 OF THE DUMP (.gsa) THAT YthgknkjdidbkdaaProg.lean LOADS. Nothing in Lean hashes anything: it is a label: what it is worth is what the hold of that sum in a sandbox is worth. -/
noncomputable def Try.pinned : Pinned := { name := "ythgknkjdidbkdaa", sum := "9a805dc35a5b0d686fbc9f04e94068b04e07d4dc2a4c75fcf21649a5e32ae061", checked := Try.checked }
namespace Rows
def none {H : Type} : Left H := { results := [], args := [] }

/-- 'racewaylaw6.ResidualTells': WHATEVER THE INPUT: true; the input reads as it did. -/
def residualTellsSpec : ChangeSpec := { name := "residualTells", fn := fun _ => fun
  | [d1, d2, d3, d4, d5] => { results := [.lit (.bool true)], args := [d1, d2, d3, d4, d5] }
  | _ => none }
def residualTellsRow : OpenClaim := { program := "ythgknkjdidbkdaa", sum := "9a805dc35a5b0d686fbc9f04e94068b04e07d4dc2a4c75fcf21649a5e32ae061", func := "raceway/racewaylaw6.ResidualTells", spec := "residualTells", apart := false }
def ResidualTellsSaid : Prop := residualTellsRow.holds Try.pinned (OpenSpec.ofChange residualTellsSpec)

/-- ITS FALSE NEIGHBOUR: 'it returns false'. Refute it at one input. -/
def residualTellsWrong : ChangeSpec := { name := "residualTells", fn := fun _ => fun
  | [d1, d2, d3, d4, d5] => { results := [.lit (.bool false)], args := [d1, d2, d3, d4, d5] }
  | _ => none }
def ResidualTellsWrongFalsely : Prop := residualTellsRow.holds Try.pinned (OpenSpec.ofChange residualTellsWrong)

/-- 'racewaylaw6.ResidualPushes': WHATEVER THE INPUT: true; the input reads as it did. -/
def residualPushesSpec : ChangeSpec := { name := "residualPushes", fn := fun _ => fun
  | [d1, d2, d3, d4, d5] => { results := [.lit (.bool true)], args := [d1, d2, d3, d4, d5] }
  | _ => none }
def residualPushesRow : OpenClaim := { program := "ythgknkjdidbkdaa", sum := "9a805dc35a5b0d686fbc9f04e94068b04e07d4dc2a4c75fcf21649a5e32ae061", func := "raceway/racewaylaw6.ResidualPushes", spec := "residualPushes", apart := false }
def ResidualPushesSaid : Prop := residualPushesRow.holds Try.pinned (OpenSpec.ofChange residualPushesSpec)

/-- ITS FALSE NEIGHBOUR: 'it returns false'. Refute it at one input. -/
def residualPushesWrong : ChangeSpec := { name := "residualPushes", fn := fun _ => fun
  | [d1, d2, d3, d4, d5] => { results := [.lit (.bool false)], args := [d1, d2, d3, d4, d5] }
  | _ => none }
def ResidualPushesWrongFalsely : Prop := residualPushesRow.holds Try.pinned (OpenSpec.ofChange residualPushesWrong)

/-- 'racewaylaw6.ResidualReach': WHATEVER THE INPUT: true; the input reads as it did. -/
def residualReachSpec : ChangeSpec := { name := "residualReach", fn := fun _ => fun
  | [d1, d2, d3, d4, d5, d6] => { results := [.lit (.bool true)], args := [d1, d2, d3, d4, d5, d6] }
  | _ => none }
def residualReachRow : OpenClaim := { program := "ythgknkjdidbkdaa", sum := "9a805dc35a5b0d686fbc9f04e94068b04e07d4dc2a4c75fcf21649a5e32ae061", func := "raceway/racewaylaw6.ResidualReach", spec := "residualReach", apart := false }
def ResidualReachSaid : Prop := residualReachRow.holds Try.pinned (OpenSpec.ofChange residualReachSpec)

/-- ITS FALSE NEIGHBOUR: 'it returns false'. Refute it at one input. -/
def residualReachWrong : ChangeSpec := { name := "residualReach", fn := fun _ => fun
  | [d1, d2, d3, d4, d5, d6] => { results := [.lit (.bool false)], args := [d1, d2, d3, d4, d5, d6] }
  | _ => none }
def ResidualReachWrongFalsely : Prop := residualReachRow.holds Try.pinned (OpenSpec.ofChange residualReachWrong)

/-- 'racewaylaw6.ResidualRooms': WHATEVER THE INPUT: true; the input reads as it did. -/
def residualRoomsSpec : ChangeSpec := { name := "residualRooms", fn := fun _ => fun
  | [d1, d2, d3, d4] => { results := [.lit (.bool true)], args := [d1, d2, d3, d4] }
  | _ => none }
def residualRoomsRow : OpenClaim := { program := "ythgknkjdidbkdaa", sum := "9a805dc35a5b0d686fbc9f04e94068b04e07d4dc2a4c75fcf21649a5e32ae061", func := "raceway/racewaylaw6.ResidualRooms", spec := "residualRooms", apart := false }
def ResidualRoomsSaid : Prop := residualRoomsRow.holds Try.pinned (OpenSpec.ofChange residualRoomsSpec)

/-- ITS FALSE NEIGHBOUR: 'it returns false'. Refute it at one input. -/
def residualRoomsWrong : ChangeSpec := { name := "residualRooms", fn := fun _ => fun
  | [d1, d2, d3, d4] => { results := [.lit (.bool false)], args := [d1, d2, d3, d4] }
  | _ => none }
def ResidualRoomsWrongFalsely : Prop := residualRoomsRow.holds Try.pinned (OpenSpec.ofChange residualRoomsWrong)

/-- 'racewaylaw6.ResidualEnds': WHATEVER THE INPUT: true; the input reads as it did. -/
def residualEndsSpec : ChangeSpec := { name := "residualEnds", fn := fun _ => fun
  | [d1, d2, d3, d4, d5, d6] => { results := [.lit (.bool true)], args := [d1, d2, d3, d4, d5, d6] }
  | _ => none }
def residualEndsRow : OpenClaim := { program := "ythgknkjdidbkdaa", sum := "9a805dc35a5b0d686fbc9f04e94068b04e07d4dc2a4c75fcf21649a5e32ae061", func := "raceway/racewaylaw6.ResidualEnds", spec := "residualEnds", apart := false }
def ResidualEndsSaid : Prop := residualEndsRow.holds Try.pinned (OpenSpec.ofChange residualEndsSpec)

/-- ITS FALSE NEIGHBOUR: 'it returns false'. Refute it at one input. -/
def residualEndsWrong : ChangeSpec := { name := "residualEnds", fn := fun _ => fun
  | [d1, d2, d3, d4, d5, d6] => { results := [.lit (.bool false)], args := [d1, d2, d3, d4, d5, d6] }
  | _ => none }
def ResidualEndsWrongFalsely : Prop := residualEndsRow.holds Try.pinned (OpenSpec.ofChange residualEndsWrong)

/-- 'racewaylaw6.ResidualSteps': WHATEVER THE INPUT: true; the input reads as it did. -/
def residualStepsSpec : ChangeSpec := { name := "residualSteps", fn := fun _ => fun
  | [d1, d2, d3, d4, d5, d6] => { results := [.lit (.bool true)], args := [d1, d2, d3, d4, d5, d6] }
  | _ => none }
def residualStepsRow : OpenClaim := { program := "ythgknkjdidbkdaa", sum := "9a805dc35a5b0d686fbc9f04e94068b04e07d4dc2a4c75fcf21649a5e32ae061", func := "raceway/racewaylaw6.ResidualSteps", spec := "residualSteps", apart := false }
def ResidualStepsSaid : Prop := residualStepsRow.holds Try.pinned (OpenSpec.ofChange residualStepsSpec)

/-- ITS FALSE NEIGHBOUR: 'it returns false'. Refute it at one input. -/
def residualStepsWrong : ChangeSpec := { name := "residualSteps", fn := fun _ => fun
  | [d1, d2, d3, d4, d5, d6] => { results := [.lit (.bool false)], args := [d1, d2, d3, d4, d5, d6] }
  | _ => none }
def ResidualStepsWrongFalsely : Prop := residualStepsRow.holds Try.pinned (OpenSpec.ofChange residualStepsWrong)

/-- 'racewaylaw6.ResidualBack': WHATEVER THE INPUT: true; the input reads as it did. -/
def residualBackSpec : ChangeSpec := { name := "residualBack", fn := fun _ => fun
  | [d] => { results := [.lit (.bool true)], args := [d] }
  | _ => none }
def residualBackRow : OpenClaim := { program := "ythgknkjdidbkdaa", sum := "9a805dc35a5b0d686fbc9f04e94068b04e07d4dc2a4c75fcf21649a5e32ae061", func := "raceway/racewaylaw6.ResidualBack", spec := "residualBack", apart := false }
def ResidualBackSaid : Prop := residualBackRow.holds Try.pinned (OpenSpec.ofChange residualBackSpec)

/-- ITS FALSE NEIGHBOUR: 'it returns false'. Refute it at one input. -/
def residualBackWrong : ChangeSpec := { name := "residualBack", fn := fun _ => fun
  | [d] => { results := [.lit (.bool false)], args := [d] }
  | _ => none }
def ResidualBackWrongFalsely : Prop := residualBackRow.holds Try.pinned (OpenSpec.ofChange residualBackWrong)

/- THE SECOND FORM. 'bulk': how many values and letters a reading holds, each counted each time it is reached (what is shared counts as often as it is met; a slice's spare places count too). A statement '..UptoSaid' is the law's where the arguments, and the package variables that the reading takes, are together of bulk at most 1048576: NARROWER than '..Said'. Prove '..Said' where nothing that the law and all that it calls make is longer than what came in: it says more and counts as full. Else prove '..UptoSaid'. A law counts once. -/
mutual
def uptoBulk {H : Type} : DataW H → Nat
  | .lit (.string bytes) => bytes.length + 1
  | .lit _ => 1
  | .nil => 1
  | .ptr d => uptoBulk d + 1
  | .slice elems spare => uptoBulkAll elems + uptoBulkAll spare + 1
  | .agg parts => uptoBulkAll parts + 1
  | .iface _ d => uptoBulk d + 1
  | .map entries => uptoBulkEntries entries + 1
  | .held _ => 1
def uptoBulkAll {H : Type} : List (DataW H) → Nat
  | [] => 0
  | d :: r => uptoBulk d + uptoBulkAll r
def uptoBulkEntries {H : Type} : List (Lit × DataW H) → Nat
  | [] => 0
  | x :: r => uptoBulkEntry x + uptoBulkEntries r
def uptoBulkEntry {H : Type} : Lit × DataW H → Nat
  | (.string bytes, d) => bytes.length + uptoBulk d + 1
  | (_, d) => uptoBulk d + 1
 end
def uptoSmall : (H : Type) → List (DataW H) → Bool := fun _ ds => decide (uptoBulkAll ds ≤ 1048576)
def OpenSpec.upto (s : _root_.Go.ChangeSpec) : _root_.Go.OpenSpec := { _root_.Go.OpenSpec.ofChange s with cond := some uptoSmall }

/-- 'racewaylaw6.ResidualTells', WHERE WHAT IT READS IS OF BULK AT MOST 1048576: true; the input reads as it did. -/
def residualTellsUptoRow : OpenClaim := { program := "ythgknkjdidbkdaa", sum := "9a805dc35a5b0d686fbc9f04e94068b04e07d4dc2a4c75fcf21649a5e32ae061", func := "raceway/racewaylaw6.ResidualTells", spec := "residualTells", apart := false, narrowed := true }
def ResidualTellsUptoSaid : Prop := residualTellsUptoRow.holds Try.pinned (OpenSpec.upto residualTellsSpec)

/-- 'racewaylaw6.ResidualPushes', WHERE WHAT IT READS IS OF BULK AT MOST 1048576: true; the input reads as it did. -/
def residualPushesUptoRow : OpenClaim := { program := "ythgknkjdidbkdaa", sum := "9a805dc35a5b0d686fbc9f04e94068b04e07d4dc2a4c75fcf21649a5e32ae061", func := "raceway/racewaylaw6.ResidualPushes", spec := "residualPushes", apart := false, narrowed := true }
def ResidualPushesUptoSaid : Prop := residualPushesUptoRow.holds Try.pinned (OpenSpec.upto residualPushesSpec)

/-- 'racewaylaw6.ResidualReach', WHERE WHAT IT READS IS OF BULK AT MOST 1048576: true; the input reads as it did. -/
def residualReachUptoRow : OpenClaim := { program := "ythgknkjdidbkdaa", sum := "9a805dc35a5b0d686fbc9f04e94068b04e07d4dc2a4c75fcf21649a5e32ae061", func := "raceway/racewaylaw6.ResidualReach", spec := "residualReach", apart := false, narrowed := true }
def ResidualReachUptoSaid : Prop := residualReachUptoRow.holds Try.pinned (OpenSpec.upto residualReachSpec)

/-- 'racewaylaw6.ResidualRooms', WHERE WHAT IT READS IS OF BULK AT MOST 1048576: true; the input reads as it did. -/
def residualRoomsUptoRow : OpenClaim := { program := "ythgknkjdidbkdaa", sum := "9a805dc35a5b0d686fbc9f04e94068b04e07d4dc2a4c75fcf21649a5e32ae061", func := "raceway/racewaylaw6.ResidualRooms", spec := "residualRooms", apart := false, narrowed := true }
def ResidualRoomsUptoSaid : Prop := residualRoomsUptoRow.holds Try.pinned (OpenSpec.upto residualRoomsSpec)

/-- 'racewaylaw6.ResidualEnds', WHERE WHAT IT READS IS OF BULK AT MOST 1048576: true; the input reads as it did. -/
def residualEndsUptoRow : OpenClaim := { program := "ythgknkjdidbkdaa", sum := "9a805dc35a5b0d686fbc9f04e94068b04e07d4dc2a4c75fcf21649a5e32ae061", func := "raceway/racewaylaw6.ResidualEnds", spec := "residualEnds", apart := false, narrowed := true }
def ResidualEndsUptoSaid : Prop := residualEndsUptoRow.holds Try.pinned (OpenSpec.upto residualEndsSpec)

/-- 'racewaylaw6.ResidualSteps', WHERE WHAT IT READS IS OF BULK AT MOST 1048576: true; the input reads as it did. -/
def residualStepsUptoRow : OpenClaim := { program := "ythgknkjdidbkdaa", sum := "9a805dc35a5b0d686fbc9f04e94068b04e07d4dc2a4c75fcf21649a5e32ae061", func := "raceway/racewaylaw6.ResidualSteps", spec := "residualSteps", apart := false, narrowed := true }
def ResidualStepsUptoSaid : Prop := residualStepsUptoRow.holds Try.pinned (OpenSpec.upto residualStepsSpec)

/-- 'racewaylaw6.ResidualBack', WHERE WHAT IT READS IS OF BULK AT MOST 1048576: true; the input reads as it did. -/
def residualBackUptoRow : OpenClaim := { program := "ythgknkjdidbkdaa", sum := "9a805dc35a5b0d686fbc9f04e94068b04e07d4dc2a4c75fcf21649a5e32ae061", func := "raceway/racewaylaw6.ResidualBack", spec := "residualBack", apart := false, narrowed := true }
def ResidualBackUptoSaid : Prop := residualBackUptoRow.holds Try.pinned (OpenSpec.upto residualBackSpec)

end Rows
end Go.Proofs.Ythgknkjdidbkdaa
