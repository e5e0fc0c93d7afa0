/-
  No cell of these rows narrows 'for every input' (looked for: loops, veiled, ifaces, maps, wideKeys, modest, calm, conditions, laid).
  DERIVED. THE GIVEN ROWS OF THIS SEAT. 6 by the template 'for every input the law returns true; each argument reads behind the call as it read before'; 0 by the template 'total and deterministic' (their statements: YtiaddfmgkcebnaaTotals.lean).
  GIVEN WITH THE SEED: the statements are not yours to turn. If you find one false, say at which input.
  Laid BY PROGRAM, IN A SANDBOX (cutbox-rows.mjs): the forced cells as the released guide's own fill.sh prints them over the translation e0e7980e9b125d11… (all of the seat's roots in one cut). By AI agents, Wed Nov 11 2026. No macro, syntax, notation, axiom, sorry.
-/
import Derived.Test.YtiaddfmgkcebnaaChecked
import GoSem.Claim
import GoSem.ClaimJoined
import GoSem.ClaimMapViews
import Derived.JoinedTies
import Derived.KernelRfl
namespace Go.Proofs.Ytiaddfmgkcebnaa
/- THE CELL 'sum', in the pinned program and in every row, IS THE sha256 OF THE DUMP (.gsa) THAT YtiaddfmgkcebnaaProg.lean LOADS. Nothing in Lean hashes anything: it is a label: what it is worth is what the hold of that sum in a sandbox is worth. -/
noncomputable def Try.pinned : Pinned := { name := "ytiaddfmgkcebnaa", sum := "e0e7980e9b125d114eafbe1c64722ca24183f5e5b886a2123d3fc29516764944", checked := Try.checked }
namespace Rows
def none {H : Type} : Left H := { results := [], args := [] }

/-- 'racewaylaw11.TreeTells': WHATEVER THE INPUT: true; the input reads as it did. -/
def treeTellsSpec : ChangeSpec := { name := "treeTells", fn := fun _ => fun
  | [d1, d2, d3] => { results := [.lit (.bool true)], args := [d1, d2, d3] }
  | _ => none }
def treeTellsRow : OpenClaim := { program := "ytiaddfmgkcebnaa", sum := "e0e7980e9b125d114eafbe1c64722ca24183f5e5b886a2123d3fc29516764944", func := "raceway/racewaylaw11.TreeTells", spec := "treeTells", unfollowed := true, recurses := true, apart := false }
def TreeTellsSaid : Prop := treeTellsRow.holds Try.pinned (OpenSpec.ofChange treeTellsSpec)

/-- ITS FALSE NEIGHBOUR: 'it returns false'. Refute it at one input. -/
def treeTellsWrong : ChangeSpec := { name := "treeTells", fn := fun _ => fun
  | [d1, d2, d3] => { results := [.lit (.bool false)], args := [d1, d2, d3] }
  | _ => none }
def TreeTellsWrongFalsely : Prop := treeTellsRow.holds Try.pinned (OpenSpec.ofChange treeTellsWrong)

/-- 'racewaylaw11.TreeSame': WHATEVER THE INPUT: true; the input reads as it did. -/
def treeSameSpec : ChangeSpec := { name := "treeSame", fn := fun _ => fun
  | [d1, d2, d3, d4, d5] => { results := [.lit (.bool true)], args := [d1, d2, d3, d4, d5] }
  | _ => none }
def treeSameRow : OpenClaim := { program := "ytiaddfmgkcebnaa", sum := "e0e7980e9b125d114eafbe1c64722ca24183f5e5b886a2123d3fc29516764944", func := "raceway/racewaylaw11.TreeSame", spec := "treeSame", unfollowed := true, recurses := true, apart := false }
def TreeSameSaid : Prop := treeSameRow.holds Try.pinned (OpenSpec.ofChange treeSameSpec)

/-- ITS FALSE NEIGHBOUR: 'it returns false'. Refute it at one input. -/
def treeSameWrong : ChangeSpec := { name := "treeSame", fn := fun _ => fun
  | [d1, d2, d3, d4, d5] => { results := [.lit (.bool false)], args := [d1, d2, d3, d4, d5] }
  | _ => none }
def TreeSameWrongFalsely : Prop := treeSameRow.holds Try.pinned (OpenSpec.ofChange treeSameWrong)

/-- 'racewaylaw11.TreeChain': WHATEVER THE INPUT: true; the input reads as it did. -/
def treeChainSpec : ChangeSpec := { name := "treeChain", fn := fun _ => fun
  | [d1, d2] => { results := [.lit (.bool true)], args := [d1, d2] }
  | _ => none }
def treeChainRow : OpenClaim := { program := "ytiaddfmgkcebnaa", sum := "e0e7980e9b125d114eafbe1c64722ca24183f5e5b886a2123d3fc29516764944", func := "raceway/racewaylaw11.TreeChain", spec := "treeChain", unfollowed := true, recurses := true, apart := false }
def TreeChainSaid : Prop := treeChainRow.holds Try.pinned (OpenSpec.ofChange treeChainSpec)

/-- ITS FALSE NEIGHBOUR: 'it returns false'. Refute it at one input. -/
def treeChainWrong : ChangeSpec := { name := "treeChain", fn := fun _ => fun
  | [d1, d2] => { results := [.lit (.bool false)], args := [d1, d2] }
  | _ => none }
def TreeChainWrongFalsely : Prop := treeChainRow.holds Try.pinned (OpenSpec.ofChange treeChainWrong)

/-- 'racewaylaw11.TreeWide': WHATEVER THE INPUT: true; the input reads as it did. -/
def treeWideSpec : ChangeSpec := { name := "treeWide", fn := fun _ => fun
  | [d] => { results := [.lit (.bool true)], args := [d] }
  | _ => none }
def treeWideRow : OpenClaim := { program := "ytiaddfmgkcebnaa", sum := "e0e7980e9b125d114eafbe1c64722ca24183f5e5b886a2123d3fc29516764944", func := "raceway/racewaylaw11.TreeWide", spec := "treeWide", unfollowed := true, recurses := true, apart := false }
def TreeWideSaid : Prop := treeWideRow.holds Try.pinned (OpenSpec.ofChange treeWideSpec)

/-- ITS FALSE NEIGHBOUR: 'it returns false'. Refute it at one input. -/
def treeWideWrong : ChangeSpec := { name := "treeWide", fn := fun _ => fun
  | [d] => { results := [.lit (.bool false)], args := [d] }
  | _ => none }
def TreeWideWrongFalsely : Prop := treeWideRow.holds Try.pinned (OpenSpec.ofChange treeWideWrong)

/-- 'racewaylaw11.TreeRooms': WHATEVER THE INPUT: true; the input reads as it did. -/
def treeRoomsSpec : ChangeSpec := { name := "treeRooms", fn := fun _ => fun
  | [d1, d2, d3, d4, d5, d6] => { results := [.lit (.bool true)], args := [d1, d2, d3, d4, d5, d6] }
  | _ => none }
def treeRoomsRow : OpenClaim := { program := "ytiaddfmgkcebnaa", sum := "e0e7980e9b125d114eafbe1c64722ca24183f5e5b886a2123d3fc29516764944", func := "raceway/racewaylaw11.TreeRooms", spec := "treeRooms", unfollowed := true, recurses := true, apart := false }
def TreeRoomsSaid : Prop := treeRoomsRow.holds Try.pinned (OpenSpec.ofChange treeRoomsSpec)

/-- ITS FALSE NEIGHBOUR: 'it returns false'. Refute it at one input. -/
def treeRoomsWrong : ChangeSpec := { name := "treeRooms", fn := fun _ => fun
  | [d1, d2, d3, d4, d5, d6] => { results := [.lit (.bool false)], args := [d1, d2, d3, d4, d5, d6] }
  | _ => none }
def TreeRoomsWrongFalsely : Prop := treeRoomsRow.holds Try.pinned (OpenSpec.ofChange treeRoomsWrong)

/-- 'racewaylaw11.TreeBack': WHATEVER THE INPUT: true; the input reads as it did. -/
def treeBackSpec : ChangeSpec := { name := "treeBack", fn := fun _ => fun
  | [d1, d2, d3, d4] => { results := [.lit (.bool true)], args := [d1, d2, d3, d4] }
  | _ => none }
def treeBackRow : OpenClaim := { program := "ytiaddfmgkcebnaa", sum := "e0e7980e9b125d114eafbe1c64722ca24183f5e5b886a2123d3fc29516764944", func := "raceway/racewaylaw11.TreeBack", spec := "treeBack", unfollowed := true, recurses := true, apart := false }
def TreeBackSaid : Prop := treeBackRow.holds Try.pinned (OpenSpec.ofChange treeBackSpec)

/-- ITS FALSE NEIGHBOUR: 'it returns false'. Refute it at one input. -/
def treeBackWrong : ChangeSpec := { name := "treeBack", fn := fun _ => fun
  | [d1, d2, d3, d4] => { results := [.lit (.bool false)], args := [d1, d2, d3, d4] }
  | _ => none }
def TreeBackWrongFalsely : Prop := treeBackRow.holds Try.pinned (OpenSpec.ofChange treeBackWrong)

/- THE SECOND FORM. 'bulk': how many values and letters a reading holds, each counted each time it is reached (what is shared counts as often as it is met; a slice's spare places count too). A statement '..UptoSaid' is the law's where the arguments, and the package variables that the reading takes, are together of bulk at most 1048576: NARROWER than '..Said'. Prove '..Said' where nothing that the law and all that it calls make is longer than what came in: it says more and counts as full. Else prove '..UptoSaid'. A law counts once. -/
mutual
def uptoBulk {H : Type} : DataW H → Nat
  | .lit (.string bytes) => bytes.length + 1
  | .lit _ => 1
  | .nil => 1
  | .ptr d => uptoBulk d + 1
  | .slice elems spare => uptoBulkAll elems + uptoBulkAll spare + 1
  | .agg parts => uptoBulkAll parts + 1
  | .iface _ d => uptoBulk d + 1
  | .map entries => uptoBulkEntries entries + 1
  | .held _ => 1
def uptoBulkAll {H : Type} : List (DataW H) → Nat
  | [] => 0
  | d :: r => uptoBulk d + uptoBulkAll r
def uptoBulkEntries {H : Type} : List (Lit × DataW H) → Nat
  | [] => 0
  | x :: r => uptoBulkEntry x + uptoBulkEntries r
def uptoBulkEntry {H : Type} : Lit × DataW H → Nat
  | (.string bytes, d) => bytes.length + uptoBulk d + 1
  | (_, d) => uptoBulk d + 1
 end
def uptoSmall : (H : Type) → List (DataW H) → Bool := fun _ ds => decide (uptoBulkAll ds ≤ 1048576)
def OpenSpec.upto (s : _root_.Go.ChangeSpec) : _root_.Go.OpenSpec := { _root_.Go.OpenSpec.ofChange s with cond := some uptoSmall }

/-- 'racewaylaw11.TreeTells', WHERE WHAT IT READS IS OF BULK AT MOST 1048576: true; the input reads as it did. -/
def treeTellsUptoRow : OpenClaim := { program := "ytiaddfmgkcebnaa", sum := "e0e7980e9b125d114eafbe1c64722ca24183f5e5b886a2123d3fc29516764944", func := "raceway/racewaylaw11.TreeTells", spec := "treeTells", unfollowed := true, recurses := true, apart := false, narrowed := true }
def TreeTellsUptoSaid : Prop := treeTellsUptoRow.holds Try.pinned (OpenSpec.upto treeTellsSpec)

/-- 'racewaylaw11.TreeSame', WHERE WHAT IT READS IS OF BULK AT MOST 1048576: true; the input reads as it did. -/
def treeSameUptoRow : OpenClaim := { program := "ytiaddfmgkcebnaa", sum := "e0e7980e9b125d114eafbe1c64722ca24183f5e5b886a2123d3fc29516764944", func := "raceway/racewaylaw11.TreeSame", spec := "treeSame", unfollowed := true, recurses := true, apart := false, narrowed := true }
def TreeSameUptoSaid : Prop := treeSameUptoRow.holds Try.pinned (OpenSpec.upto treeSameSpec)

/-- 'racewaylaw11.TreeChain', WHERE WHAT IT READS IS OF BULK AT MOST 1048576: true; the input reads as it did. -/
def treeChainUptoRow : OpenClaim := { program := "ytiaddfmgkcebnaa", sum := "e0e7980e9b125d114eafbe1c64722ca24183f5e5b886a2123d3fc29516764944", func := "raceway/racewaylaw11.TreeChain", spec := "treeChain", unfollowed := true, recurses := true, apart := false, narrowed := true }
def TreeChainUptoSaid : Prop := treeChainUptoRow.holds Try.pinned (OpenSpec.upto treeChainSpec)

/-- 'racewaylaw11.TreeWide', WHERE WHAT IT READS IS OF BULK AT MOST 1048576: true; the input reads as it did. -/
def treeWideUptoRow : OpenClaim := { program := "ytiaddfmgkcebnaa", sum := "e0e7980e9b125d114eafbe1c64722ca24183f5e5b886a2123d3fc29516764944", func := "raceway/racewaylaw11.TreeWide", spec := "treeWide", unfollowed := true, recurses := true, apart := false, narrowed := true }
def TreeWideUptoSaid : Prop := treeWideUptoRow.holds Try.pinned (OpenSpec.upto treeWideSpec)

/-- 'racewaylaw11.TreeRooms', WHERE WHAT IT READS IS OF BULK AT MOST 1048576: true; the input reads as it did. -/
def treeRoomsUptoRow : OpenClaim := { program := "ytiaddfmgkcebnaa", sum := "e0e7980e9b125d114eafbe1c64722ca24183f5e5b886a2123d3fc29516764944", func := "raceway/racewaylaw11.TreeRooms", spec := "treeRooms", unfollowed := true, recurses := true, apart := false, narrowed := true }
def TreeRoomsUptoSaid : Prop := treeRoomsUptoRow.holds Try.pinned (OpenSpec.upto treeRoomsSpec)

/-- 'racewaylaw11.TreeBack', WHERE WHAT IT READS IS OF BULK AT MOST 1048576: true; the input reads as it did. -/
def treeBackUptoRow : OpenClaim := { program := "ytiaddfmgkcebnaa", sum := "e0e7980e9b125d114eafbe1c64722ca24183f5e5b886a2123d3fc29516764944", func := "raceway/racewaylaw11.TreeBack", spec := "treeBack", unfollowed := true, recurses := true, apart := false, narrowed := true }
def TreeBackUptoSaid : Prop := treeBackUptoRow.holds Try.pinned (OpenSpec.upto treeBackSpec)

end Rows
end Go.Proofs.Ytiaddfmgkcebnaa
