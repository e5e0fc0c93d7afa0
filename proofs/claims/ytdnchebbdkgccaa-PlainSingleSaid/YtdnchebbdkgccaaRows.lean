/-
  No cell of these rows narrows 'for every input' (looked for: loops, veiled, ifaces, maps, wideKeys, modest, calm, conditions, laid).
  DERIVED. THE GIVEN ROWS OF THIS SEAT. 7 by the template 'for every input the law returns true; each argument reads behind the call as it read before'; 0 by the template 'total and deterministic' (their statements: YtdnchebbdkgccaaTotals.lean).
  GIVEN WITH THE SEED: the statements are not yours to turn. If you find one false, say at which input.
  Laid BY PROGRAM, IN A SANDBOX (cutbox-rows.mjs): the forced cells as the released guide's own fill.sh prints them over the translation 04523746db3a84f9… (all of the seat's roots in one cut). By AI agents, Wed Nov 11 2026. No macro, syntax, notation, axiom, sorry.
-/
import Derived.Test.YtdnchebbdkgccaaChecked
import GoSem.Claim
import GoSem.ClaimJoined
import GoSem.ClaimMapViews
import Derived.JoinedTies
import Derived.KernelRfl
namespace Go.Proofs.Ytdnchebbdkgccaa
/- THE CELL 'sum', in the pinned program and in every row, IS THE sha256 OF THE DUMP (.gsa) THAT YtdnchebbdkgccaaProg.lean LOADS. Nothing in Lean hashes anything: it is a label: what it is worth is what the hold of that sum in a sandbox is worth. -/
noncomputable def Try.pinned : Pinned := { name := "ytdnchebbdkgccaa", sum := "04523746db3a84f962495367db97fcce740ff7477739d36c171347cd54affbed", checked := Try.checked }
namespace Rows
def none {H : Type} : Left H := { results := [], args := [] }

/-- 'racewaylaw8.PlainTells': WHATEVER THE INPUT: true; the input reads as it did. -/
def plainTellsSpec : ChangeSpec := { name := "plainTells", fn := fun _ => fun
  | [d1, d2, d3] => { results := [.lit (.bool true)], args := [d1, d2, d3] }
  | _ => none }
def plainTellsRow : OpenClaim := { program := "ytdnchebbdkgccaa", sum := "04523746db3a84f962495367db97fcce740ff7477739d36c171347cd54affbed", func := "raceway/racewaylaw8.PlainTells", spec := "plainTells", unfollowed := true, recurses := true, apart := false }
def PlainTellsSaid : Prop := plainTellsRow.holds Try.pinned (OpenSpec.ofChange plainTellsSpec)

/-- ITS FALSE NEIGHBOUR: 'it returns false'. Refute it at one input. -/
def plainTellsWrong : ChangeSpec := { name := "plainTells", fn := fun _ => fun
  | [d1, d2, d3] => { results := [.lit (.bool false)], args := [d1, d2, d3] }
  | _ => none }
def PlainTellsWrongFalsely : Prop := plainTellsRow.holds Try.pinned (OpenSpec.ofChange plainTellsWrong)

/-- 'racewaylaw8.PlainBlocks': WHATEVER THE INPUT: true; the input reads as it did. -/
def plainBlocksSpec : ChangeSpec := { name := "plainBlocks", fn := fun _ => fun
  | [d1, d2, d3, d4, d5] => { results := [.lit (.bool true)], args := [d1, d2, d3, d4, d5] }
  | _ => none }
def plainBlocksRow : OpenClaim := { program := "ytdnchebbdkgccaa", sum := "04523746db3a84f962495367db97fcce740ff7477739d36c171347cd54affbed", func := "raceway/racewaylaw8.PlainBlocks", spec := "plainBlocks", unfollowed := true, recurses := true, apart := false }
def PlainBlocksSaid : Prop := plainBlocksRow.holds Try.pinned (OpenSpec.ofChange plainBlocksSpec)

/-- ITS FALSE NEIGHBOUR: 'it returns false'. Refute it at one input. -/
def plainBlocksWrong : ChangeSpec := { name := "plainBlocks", fn := fun _ => fun
  | [d1, d2, d3, d4, d5] => { results := [.lit (.bool false)], args := [d1, d2, d3, d4, d5] }
  | _ => none }
def PlainBlocksWrongFalsely : Prop := plainBlocksRow.holds Try.pinned (OpenSpec.ofChange plainBlocksWrong)

/-- 'racewaylaw8.PlainAgain': WHATEVER THE INPUT: true; the input reads as it did. -/
def plainAgainSpec : ChangeSpec := { name := "plainAgain", fn := fun _ => fun
  | [d1, d2, d3, d4] => { results := [.lit (.bool true)], args := [d1, d2, d3, d4] }
  | _ => none }
def plainAgainRow : OpenClaim := { program := "ytdnchebbdkgccaa", sum := "04523746db3a84f962495367db97fcce740ff7477739d36c171347cd54affbed", func := "raceway/racewaylaw8.PlainAgain", spec := "plainAgain", unfollowed := true, recurses := true, apart := false }
def PlainAgainSaid : Prop := plainAgainRow.holds Try.pinned (OpenSpec.ofChange plainAgainSpec)

/-- ITS FALSE NEIGHBOUR: 'it returns false'. Refute it at one input. -/
def plainAgainWrong : ChangeSpec := { name := "plainAgain", fn := fun _ => fun
  | [d1, d2, d3, d4] => { results := [.lit (.bool false)], args := [d1, d2, d3, d4] }
  | _ => none }
def PlainAgainWrongFalsely : Prop := plainAgainRow.holds Try.pinned (OpenSpec.ofChange plainAgainWrong)

/-- 'racewaylaw8.PlainFirst': WHATEVER THE INPUT: true; the input reads as it did. -/
def plainFirstSpec : ChangeSpec := { name := "plainFirst", fn := fun _ => fun
  | [d1, d2, d3, d4, d5] => { results := [.lit (.bool true)], args := [d1, d2, d3, d4, d5] }
  | _ => none }
def plainFirstRow : OpenClaim := { program := "ytdnchebbdkgccaa", sum := "04523746db3a84f962495367db97fcce740ff7477739d36c171347cd54affbed", func := "raceway/racewaylaw8.PlainFirst", spec := "plainFirst", unfollowed := true, recurses := true, apart := false }
def PlainFirstSaid : Prop := plainFirstRow.holds Try.pinned (OpenSpec.ofChange plainFirstSpec)

/-- ITS FALSE NEIGHBOUR: 'it returns false'. Refute it at one input. -/
def plainFirstWrong : ChangeSpec := { name := "plainFirst", fn := fun _ => fun
  | [d1, d2, d3, d4, d5] => { results := [.lit (.bool false)], args := [d1, d2, d3, d4, d5] }
  | _ => none }
def PlainFirstWrongFalsely : Prop := plainFirstRow.holds Try.pinned (OpenSpec.ofChange plainFirstWrong)

/-- 'racewaylaw8.PlainFills': WHATEVER THE INPUT: true; the input reads as it did. -/
def plainFillsSpec : ChangeSpec := { name := "plainFills", fn := fun _ => fun
  | [d1, d2, d3, d4, d5] => { results := [.lit (.bool true)], args := [d1, d2, d3, d4, d5] }
  | _ => none }
def plainFillsRow : OpenClaim := { program := "ytdnchebbdkgccaa", sum := "04523746db3a84f962495367db97fcce740ff7477739d36c171347cd54affbed", func := "raceway/racewaylaw8.PlainFills", spec := "plainFills", unfollowed := true, recurses := true, apart := false }
def PlainFillsSaid : Prop := plainFillsRow.holds Try.pinned (OpenSpec.ofChange plainFillsSpec)

/-- ITS FALSE NEIGHBOUR: 'it returns false'. Refute it at one input. -/
def plainFillsWrong : ChangeSpec := { name := "plainFills", fn := fun _ => fun
  | [d1, d2, d3, d4, d5] => { results := [.lit (.bool false)], args := [d1, d2, d3, d4, d5] }
  | _ => none }
def PlainFillsWrongFalsely : Prop := plainFillsRow.holds Try.pinned (OpenSpec.ofChange plainFillsWrong)

/-- 'racewaylaw8.PlainSingle': WHATEVER THE INPUT: true; the input reads as it did. -/
def plainSingleSpec : ChangeSpec := { name := "plainSingle", fn := fun _ => fun
  | [d1, d2] => { results := [.lit (.bool true)], args := [d1, d2] }
  | _ => none }
def plainSingleRow : OpenClaim := { program := "ytdnchebbdkgccaa", sum := "04523746db3a84f962495367db97fcce740ff7477739d36c171347cd54affbed", func := "raceway/racewaylaw8.PlainSingle", spec := "plainSingle", unfollowed := true, recurses := true, apart := false }
def PlainSingleSaid : Prop := plainSingleRow.holds Try.pinned (OpenSpec.ofChange plainSingleSpec)

/-- ITS FALSE NEIGHBOUR: 'it returns false'. Refute it at one input. -/
def plainSingleWrong : ChangeSpec := { name := "plainSingle", fn := fun _ => fun
  | [d1, d2] => { results := [.lit (.bool false)], args := [d1, d2] }
  | _ => none }
def PlainSingleWrongFalsely : Prop := plainSingleRow.holds Try.pinned (OpenSpec.ofChange plainSingleWrong)

/-- 'racewaylaw8.PlainRooms': WHATEVER THE INPUT: true; the input reads as it did. -/
def plainRoomsSpec : ChangeSpec := { name := "plainRooms", fn := fun _ => fun
  | [d1, d2, d3, d4, d5] => { results := [.lit (.bool true)], args := [d1, d2, d3, d4, d5] }
  | _ => none }
def plainRoomsRow : OpenClaim := { program := "ytdnchebbdkgccaa", sum := "04523746db3a84f962495367db97fcce740ff7477739d36c171347cd54affbed", func := "raceway/racewaylaw8.PlainRooms", spec := "plainRooms", unfollowed := true, recurses := true, apart := false }
def PlainRoomsSaid : Prop := plainRoomsRow.holds Try.pinned (OpenSpec.ofChange plainRoomsSpec)

/-- ITS FALSE NEIGHBOUR: 'it returns false'. Refute it at one input. -/
def plainRoomsWrong : ChangeSpec := { name := "plainRooms", fn := fun _ => fun
  | [d1, d2, d3, d4, d5] => { results := [.lit (.bool false)], args := [d1, d2, d3, d4, d5] }
  | _ => none }
def PlainRoomsWrongFalsely : Prop := plainRoomsRow.holds Try.pinned (OpenSpec.ofChange plainRoomsWrong)

/- THE SECOND FORM. 'bulk': how many values and letters a reading holds, each counted each time it is reached (what is shared counts as often as it is met; a slice's spare places count too). A statement '..UptoSaid' is the law's where the arguments, and the package variables that the reading takes, are together of bulk at most 1048576: NARROWER than '..Said'. Prove '..Said' where nothing that the law and all that it calls make is longer than what came in: it says more and counts as full. Else prove '..UptoSaid'. A law counts once. -/
mutual
def uptoBulk {H : Type} : DataW H → Nat
  | .lit (.string bytes) => bytes.length + 1
  | .lit _ => 1
  | .nil => 1
  | .ptr d => uptoBulk d + 1
  | .slice elems spare => uptoBulkAll elems + uptoBulkAll spare + 1
  | .agg parts => uptoBulkAll parts + 1
  | .iface _ d => uptoBulk d + 1
  | .map entries => uptoBulkEntries entries + 1
  | .held _ => 1
def uptoBulkAll {H : Type} : List (DataW H) → Nat
  | [] => 0
  | d :: r => uptoBulk d + uptoBulkAll r
def uptoBulkEntries {H : Type} : List (Lit × DataW H) → Nat
  | [] => 0
  | x :: r => uptoBulkEntry x + uptoBulkEntries r
def uptoBulkEntry {H : Type} : Lit × DataW H → Nat
  | (.string bytes, d) => bytes.length + uptoBulk d + 1
  | (_, d) => uptoBulk d + 1
 end
def uptoSmall : (H : Type) → List (DataW H) → Bool := fun _ ds => decide (uptoBulkAll ds ≤ 1048576)
def OpenSpec.upto (s : _root_.Go.ChangeSpec) : _root_.Go.OpenSpec := { _root_.Go.OpenSpec.ofChange s with cond := some uptoSmall }

/-- 'racewaylaw8.PlainTells', WHERE WHAT IT READS IS OF BULK AT MOST 1048576: true; the input reads as it did. -/
def plainTellsUptoRow : OpenClaim := { program := "ytdnchebbdkgccaa", sum := "04523746db3a84f962495367db97fcce740ff7477739d36c171347cd54affbed", func := "raceway/racewaylaw8.PlainTells", spec := "plainTells", unfollowed := true, recurses := true, apart := false, narrowed := true }
def PlainTellsUptoSaid : Prop := plainTellsUptoRow.holds Try.pinned (OpenSpec.upto plainTellsSpec)

/-- 'racewaylaw8.PlainBlocks', WHERE WHAT IT READS IS OF BULK AT MOST 1048576: true; the input reads as it did. -/
def plainBlocksUptoRow : OpenClaim := { program := "ytdnchebbdkgccaa", sum := "04523746db3a84f962495367db97fcce740ff7477739d36c171347cd54affbed", func := "raceway/racewaylaw8.PlainBlocks", spec := "plainBlocks", unfollowed := true, recurses := true, apart := false, narrowed := true }
def PlainBlocksUptoSaid : Prop := plainBlocksUptoRow.holds Try.pinned (OpenSpec.upto plainBlocksSpec)

/-- 'racewaylaw8.PlainAgain', WHERE WHAT IT READS IS OF BULK AT MOST 1048576: true; the input reads as it did. -/
def plainAgainUptoRow : OpenClaim := { program := "ytdnchebbdkgccaa", sum := "04523746db3a84f962495367db97fcce740ff7477739d36c171347cd54affbed", func := "raceway/racewaylaw8.PlainAgain", spec := "plainAgain", unfollowed := true, recurses := true, apart := false, narrowed := true }
def PlainAgainUptoSaid : Prop := plainAgainUptoRow.holds Try.pinned (OpenSpec.upto plainAgainSpec)

/-- 'racewaylaw8.PlainFirst', WHERE WHAT IT READS IS OF BULK AT MOST 1048576: true; the input reads as it did. -/
def plainFirstUptoRow : OpenClaim := { program := "ytdnchebbdkgccaa", sum := "04523746db3a84f962495367db97fcce740ff7477739d36c171347cd54affbed", func := "raceway/racewaylaw8.PlainFirst", spec := "plainFirst", unfollowed := true, recurses := true, apart := false, narrowed := true }
def PlainFirstUptoSaid : Prop := plainFirstUptoRow.holds Try.pinned (OpenSpec.upto plainFirstSpec)

/-- 'racewaylaw8.PlainFills', WHERE WHAT IT READS IS OF BULK AT MOST 1048576: true; the input reads as it did. -/
def plainFillsUptoRow : OpenClaim := { program := "ytdnchebbdkgccaa", sum := "04523746db3a84f962495367db97fcce740ff7477739d36c171347cd54affbed", func := "raceway/racewaylaw8.PlainFills", spec := "plainFills", unfollowed := true, recurses := true, apart := false, narrowed := true }
def PlainFillsUptoSaid : Prop := plainFillsUptoRow.holds Try.pinned (OpenSpec.upto plainFillsSpec)

/-- 'racewaylaw8.PlainSingle', WHERE WHAT IT READS IS OF BULK AT MOST 1048576: true; the input reads as it did. -/
def plainSingleUptoRow : OpenClaim := { program := "ytdnchebbdkgccaa", sum := "04523746db3a84f962495367db97fcce740ff7477739d36c171347cd54affbed", func := "raceway/racewaylaw8.PlainSingle", spec := "plainSingle", unfollowed := true, recurses := true, apart := false, narrowed := true }
def PlainSingleUptoSaid : Prop := plainSingleUptoRow.holds Try.pinned (OpenSpec.upto plainSingleSpec)

/-- 'racewaylaw8.PlainRooms', WHERE WHAT IT READS IS OF BULK AT MOST 1048576: true; the input reads as it did. -/
def plainRoomsUptoRow : OpenClaim := { program := "ytdnchebbdkgccaa", sum := "04523746db3a84f962495367db97fcce740ff7477739d36c171347cd54affbed", func := "raceway/racewaylaw8.PlainRooms", spec := "plainRooms", unfollowed := true, recurses := true, apart := false, narrowed := true }
def PlainRoomsUptoSaid : Prop := plainRoomsUptoRow.holds Try.pinned (OpenSpec.upto plainRoomsSpec)

end Rows
end Go.Proofs.Ytdnchebbdkgccaa
