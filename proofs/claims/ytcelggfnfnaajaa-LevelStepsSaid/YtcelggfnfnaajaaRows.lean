/-
  No cell of these rows narrows 'for every input' (looked for: loops, veiled, ifaces, maps, wideKeys, modest, calm, conditions, laid).
  DERIVED. THE GIVEN ROWS OF THIS SEAT. 7 by the template 'for every input the law returns true; each argument reads behind the call as it read before'; 0 by the template 'total and deterministic' (their statements: YtcelggfnfnaajaaTotals.lean).
  GIVEN WITH THE SEED: the statements are not yours to turn. If you find one false, say at which input.
  Laid BY PROGRAM, IN A SANDBOX (cutbox-rows.mjs): the forced cells as the released guide's own fill.sh prints them over the translation 9c8ef83ee05294f7… (all of the seat's roots in one cut). By AI agents, Wed Nov 11 2026. No macro, syntax, notation, axiom, sorry.
-/
import Derived.Test.YtcelggfnfnaajaaChecked
import GoSem.Claim
import GoSem.ClaimJoined
import GoSem.ClaimMapViews
import Derived.JoinedTies
import Derived.KernelRfl
namespace Go.Proofs.Ytcelggfnfnaajaa
/- THE CELL 'sum', in the pinned program and in every row, IS THE sha256 OF THE DUMP (.gsa) THAT YtcelggfnfnaajaaProg.lean LOADS. Nothing in Lean hashes anything: it is a label: what it is worth is what the hold of that sum in a sandbox is worth. -/
noncomputable def Try.pinned : Pinned := { name := "ytcelggfnfnaajaa", sum := "9c8ef83ee05294f763614bc861c73de08c71bc96e03d71b7f79be9315c878882", checked := Try.checked }
namespace Rows
def none {H : Type} : Left H := { results := [], args := [] }

/-- 'racewaylaw7.LevelTells': WHATEVER THE INPUT: true; the input reads as it did. -/
def levelTellsSpec : ChangeSpec := { name := "levelTells", fn := fun _ => fun
  | [d1, d2, d3] => { results := [.lit (.bool true)], args := [d1, d2, d3] }
  | _ => none }
def levelTellsRow : OpenClaim := { program := "ytcelggfnfnaajaa", sum := "9c8ef83ee05294f763614bc861c73de08c71bc96e03d71b7f79be9315c878882", func := "raceway/racewaylaw7.LevelTells", spec := "levelTells", unfollowed := true, recurses := true, apart := false }
def LevelTellsSaid : Prop := levelTellsRow.holds Try.pinned (OpenSpec.ofChange levelTellsSpec)

/-- ITS FALSE NEIGHBOUR: 'it returns false'. Refute it at one input. -/
def levelTellsWrong : ChangeSpec := { name := "levelTells", fn := fun _ => fun
  | [d1, d2, d3] => { results := [.lit (.bool false)], args := [d1, d2, d3] }
  | _ => none }
def LevelTellsWrongFalsely : Prop := levelTellsRow.holds Try.pinned (OpenSpec.ofChange levelTellsWrong)

/-- 'racewaylaw7.LevelSteps': WHATEVER THE INPUT: true; the input reads as it did. -/
def levelStepsSpec : ChangeSpec := { name := "levelSteps", fn := fun _ => fun
  | [d1, d2, d3, d4, d5] => { results := [.lit (.bool true)], args := [d1, d2, d3, d4, d5] }
  | _ => none }
def levelStepsRow : OpenClaim := { program := "ytcelggfnfnaajaa", sum := "9c8ef83ee05294f763614bc861c73de08c71bc96e03d71b7f79be9315c878882", func := "raceway/racewaylaw7.LevelSteps", spec := "levelSteps", unfollowed := true, recurses := true, apart := false }
def LevelStepsSaid : Prop := levelStepsRow.holds Try.pinned (OpenSpec.ofChange levelStepsSpec)

/-- ITS FALSE NEIGHBOUR: 'it returns false'. Refute it at one input. -/
def levelStepsWrong : ChangeSpec := { name := "levelSteps", fn := fun _ => fun
  | [d1, d2, d3, d4, d5] => { results := [.lit (.bool false)], args := [d1, d2, d3, d4, d5] }
  | _ => none }
def LevelStepsWrongFalsely : Prop := levelStepsRow.holds Try.pinned (OpenSpec.ofChange levelStepsWrong)

/-- 'racewaylaw7.LevelWalks': WHATEVER THE INPUT: true; the input reads as it did. -/
def levelWalksSpec : ChangeSpec := { name := "levelWalks", fn := fun _ => fun
  | [d1, d2, d3, d4, d5] => { results := [.lit (.bool true)], args := [d1, d2, d3, d4, d5] }
  | _ => none }
def levelWalksRow : OpenClaim := { program := "ytcelggfnfnaajaa", sum := "9c8ef83ee05294f763614bc861c73de08c71bc96e03d71b7f79be9315c878882", func := "raceway/racewaylaw7.LevelWalks", spec := "levelWalks", unfollowed := true, recurses := true, apart := false }
def LevelWalksSaid : Prop := levelWalksRow.holds Try.pinned (OpenSpec.ofChange levelWalksSpec)

/-- ITS FALSE NEIGHBOUR: 'it returns false'. Refute it at one input. -/
def levelWalksWrong : ChangeSpec := { name := "levelWalks", fn := fun _ => fun
  | [d1, d2, d3, d4, d5] => { results := [.lit (.bool false)], args := [d1, d2, d3, d4, d5] }
  | _ => none }
def LevelWalksWrongFalsely : Prop := levelWalksRow.holds Try.pinned (OpenSpec.ofChange levelWalksWrong)

/-- 'racewaylaw7.LevelRooms': WHATEVER THE INPUT: true; the input reads as it did. -/
def levelRoomsSpec : ChangeSpec := { name := "levelRooms", fn := fun _ => fun
  | [d1, d2, d3, d4, d5, d6] => { results := [.lit (.bool true)], args := [d1, d2, d3, d4, d5, d6] }
  | _ => none }
def levelRoomsRow : OpenClaim := { program := "ytcelggfnfnaajaa", sum := "9c8ef83ee05294f763614bc861c73de08c71bc96e03d71b7f79be9315c878882", func := "raceway/racewaylaw7.LevelRooms", spec := "levelRooms", unfollowed := true, recurses := true, apart := false }
def LevelRoomsSaid : Prop := levelRoomsRow.holds Try.pinned (OpenSpec.ofChange levelRoomsSpec)

/-- ITS FALSE NEIGHBOUR: 'it returns false'. Refute it at one input. -/
def levelRoomsWrong : ChangeSpec := { name := "levelRooms", fn := fun _ => fun
  | [d1, d2, d3, d4, d5, d6] => { results := [.lit (.bool false)], args := [d1, d2, d3, d4, d5, d6] }
  | _ => none }
def LevelRoomsWrongFalsely : Prop := levelRoomsRow.holds Try.pinned (OpenSpec.ofChange levelRoomsWrong)

/-- 'racewaylaw7.LevelFew': WHATEVER THE INPUT: true; the input reads as it did. -/
def levelFewSpec : ChangeSpec := { name := "levelFew", fn := fun _ => fun
  | [d1, d2, d3, d4] => { results := [.lit (.bool true)], args := [d1, d2, d3, d4] }
  | _ => none }
def levelFewRow : OpenClaim := { program := "ytcelggfnfnaajaa", sum := "9c8ef83ee05294f763614bc861c73de08c71bc96e03d71b7f79be9315c878882", func := "raceway/racewaylaw7.LevelFew", spec := "levelFew", unfollowed := true, recurses := true, apart := false }
def LevelFewSaid : Prop := levelFewRow.holds Try.pinned (OpenSpec.ofChange levelFewSpec)

/-- ITS FALSE NEIGHBOUR: 'it returns false'. Refute it at one input. -/
def levelFewWrong : ChangeSpec := { name := "levelFew", fn := fun _ => fun
  | [d1, d2, d3, d4] => { results := [.lit (.bool false)], args := [d1, d2, d3, d4] }
  | _ => none }
def LevelFewWrongFalsely : Prop := levelFewRow.holds Try.pinned (OpenSpec.ofChange levelFewWrong)

/-- 'racewaylaw7.LevelTurned': WHATEVER THE INPUT: true; the input reads as it did. -/
def levelTurnedSpec : ChangeSpec := { name := "levelTurned", fn := fun _ => fun
  | [d1, d2, d3, d4, d5] => { results := [.lit (.bool true)], args := [d1, d2, d3, d4, d5] }
  | _ => none }
def levelTurnedRow : OpenClaim := { program := "ytcelggfnfnaajaa", sum := "9c8ef83ee05294f763614bc861c73de08c71bc96e03d71b7f79be9315c878882", func := "raceway/racewaylaw7.LevelTurned", spec := "levelTurned", unfollowed := true, recurses := true, apart := false }
def LevelTurnedSaid : Prop := levelTurnedRow.holds Try.pinned (OpenSpec.ofChange levelTurnedSpec)

/-- ITS FALSE NEIGHBOUR: 'it returns false'. Refute it at one input. -/
def levelTurnedWrong : ChangeSpec := { name := "levelTurned", fn := fun _ => fun
  | [d1, d2, d3, d4, d5] => { results := [.lit (.bool false)], args := [d1, d2, d3, d4, d5] }
  | _ => none }
def LevelTurnedWrongFalsely : Prop := levelTurnedRow.holds Try.pinned (OpenSpec.ofChange levelTurnedWrong)

/-- 'racewaylaw7.LevelChain': WHATEVER THE INPUT: true; the input reads as it did. -/
def levelChainSpec : ChangeSpec := { name := "levelChain", fn := fun _ => fun
  | [d1, d2] => { results := [.lit (.bool true)], args := [d1, d2] }
  | _ => none }
def levelChainRow : OpenClaim := { program := "ytcelggfnfnaajaa", sum := "9c8ef83ee05294f763614bc861c73de08c71bc96e03d71b7f79be9315c878882", func := "raceway/racewaylaw7.LevelChain", spec := "levelChain", unfollowed := true, recurses := true, apart := false }
def LevelChainSaid : Prop := levelChainRow.holds Try.pinned (OpenSpec.ofChange levelChainSpec)

/-- ITS FALSE NEIGHBOUR: 'it returns false'. Refute it at one input. -/
def levelChainWrong : ChangeSpec := { name := "levelChain", fn := fun _ => fun
  | [d1, d2] => { results := [.lit (.bool false)], args := [d1, d2] }
  | _ => none }
def LevelChainWrongFalsely : Prop := levelChainRow.holds Try.pinned (OpenSpec.ofChange levelChainWrong)

/- THE SECOND FORM. 'bulk': how many values and letters a reading holds, each counted each time it is reached (what is shared counts as often as it is met; a slice's spare places count too). A statement '..UptoSaid' is the law's where the arguments, and the package variables that the reading takes, are together of bulk at most 1048576: NARROWER than '..Said'. Prove '..Said' where nothing that the law and all that it calls make is longer than what came in: it says more and counts as full. Else prove '..UptoSaid'. A law counts once. -/
mutual
def uptoBulk {H : Type} : DataW H → Nat
  | .lit (.string bytes) => bytes.length + 1
  | .lit _ => 1
  | .nil => 1
  | .ptr d => uptoBulk d + 1
  | .slice elems spare => uptoBulkAll elems + uptoBulkAll spare + 1
  | .agg parts => uptoBulkAll parts + 1
  | .iface _ d => uptoBulk d + 1
  | .map entries => uptoBulkEntries entries + 1
  | .held _ => 1
def uptoBulkAll {H : Type} : List (DataW H) → Nat
  | [] => 0
  | d :: r => uptoBulk d + uptoBulkAll r
def uptoBulkEntries {H : Type} : List (Lit × DataW H) → Nat
  | [] => 0
  | x :: r => uptoBulkEntry x + uptoBulkEntries r
def uptoBulkEntry {H : Type} : Lit × DataW H → Nat
  | (.string bytes, d) => bytes.length + uptoBulk d + 1
  | (_, d) => uptoBulk d + 1
 end
def uptoSmall : (H : Type) → List (DataW H) → Bool := fun _ ds => decide (uptoBulkAll ds ≤ 1048576)
def OpenSpec.upto (s : _root_.Go.ChangeSpec) : _root_.Go.OpenSpec := { _root_.Go.OpenSpec.ofChange s with cond := some uptoSmall }

/-- 'racewaylaw7.LevelTells', WHERE WHAT IT READS IS OF BULK AT MOST 1048576: true; the input reads as it did. -/
def levelTellsUptoRow : OpenClaim := { program := "ytcelggfnfnaajaa", sum := "9c8ef83ee05294f763614bc861c73de08c71bc96e03d71b7f79be9315c878882", func := "raceway/racewaylaw7.LevelTells", spec := "levelTells", unfollowed := true, recurses := true, apart := false, narrowed := true }
def LevelTellsUptoSaid : Prop := levelTellsUptoRow.holds Try.pinned (OpenSpec.upto levelTellsSpec)

/-- 'racewaylaw7.LevelSteps', WHERE WHAT IT READS IS OF BULK AT MOST 1048576: true; the input reads as it did. -/
def levelStepsUptoRow : OpenClaim := { program := "ytcelggfnfnaajaa", sum := "9c8ef83ee05294f763614bc861c73de08c71bc96e03d71b7f79be9315c878882", func := "raceway/racewaylaw7.LevelSteps", spec := "levelSteps", unfollowed := true, recurses := true, apart := false, narrowed := true }
def LevelStepsUptoSaid : Prop := levelStepsUptoRow.holds Try.pinned (OpenSpec.upto levelStepsSpec)

/-- 'racewaylaw7.LevelWalks', WHERE WHAT IT READS IS OF BULK AT MOST 1048576: true; the input reads as it did. -/
def levelWalksUptoRow : OpenClaim := { program := "ytcelggfnfnaajaa", sum := "9c8ef83ee05294f763614bc861c73de08c71bc96e03d71b7f79be9315c878882", func := "raceway/racewaylaw7.LevelWalks", spec := "levelWalks", unfollowed := true, recurses := true, apart := false, narrowed := true }
def LevelWalksUptoSaid : Prop := levelWalksUptoRow.holds Try.pinned (OpenSpec.upto levelWalksSpec)

/-- 'racewaylaw7.LevelRooms', WHERE WHAT IT READS IS OF BULK AT MOST 1048576: true; the input reads as it did. -/
def levelRoomsUptoRow : OpenClaim := { program := "ytcelggfnfnaajaa", sum := "9c8ef83ee05294f763614bc861c73de08c71bc96e03d71b7f79be9315c878882", func := "raceway/racewaylaw7.LevelRooms", spec := "levelRooms", unfollowed := true, recurses := true, apart := false, narrowed := true }
def LevelRoomsUptoSaid : Prop := levelRoomsUptoRow.holds Try.pinned (OpenSpec.upto levelRoomsSpec)

/-- 'racewaylaw7.LevelFew', WHERE WHAT IT READS IS OF BULK AT MOST 1048576: true; the input reads as it did. -/
def levelFewUptoRow : OpenClaim := { program := "ytcelggfnfnaajaa", sum := "9c8ef83ee05294f763614bc861c73de08c71bc96e03d71b7f79be9315c878882", func := "raceway/racewaylaw7.LevelFew", spec := "levelFew", unfollowed := true, recurses := true, apart := false, narrowed := true }
def LevelFewUptoSaid : Prop := levelFewUptoRow.holds Try.pinned (OpenSpec.upto levelFewSpec)

/-- 'racewaylaw7.LevelTurned', WHERE WHAT IT READS IS OF BULK AT MOST 1048576: true; the input reads as it did. -/
def levelTurnedUptoRow : OpenClaim := { program := "ytcelggfnfnaajaa", sum := "9c8ef83ee05294f763614bc861c73de08c71bc96e03d71b7f79be9315c878882", func := "raceway/racewaylaw7.LevelTurned", spec := "levelTurned", unfollowed := true, recurses := true, apart := false, narrowed := true }
def LevelTurnedUptoSaid : Prop := levelTurnedUptoRow.holds Try.pinned (OpenSpec.upto levelTurnedSpec)

/-- 'racewaylaw7.LevelChain', WHERE WHAT IT READS IS OF BULK AT MOST 1048576: true; the input reads as it did. -/
def levelChainUptoRow : OpenClaim := { program := "ytcelggfnfnaajaa", sum := "9c8ef83ee05294f763614bc861c73de08c71bc96e03d71b7f79be9315c878882", func := "raceway/racewaylaw7.LevelChain", spec := "levelChain", unfollowed := true, recurses := true, apart := false, narrowed := true }
def LevelChainUptoSaid : Prop := levelChainUptoRow.holds Try.pinned (OpenSpec.upto levelChainSpec)

end Rows
end Go.Proofs.Ytcelggfnfnaajaa
