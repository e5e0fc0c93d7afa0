/-
  No cell of these rows narrows 'for every input' (looked for: loops, veiled, ifaces, maps, wideKeys, modest, calm, conditions, laid).
  DERIVED. THE GIVEN ROWS OF THIS SEAT. 7 by the template 'for every input the law returns true; each argument reads behind the call as it read before'; 0 by the template 'total and deterministic' (their statements: YtlkigpmjhojceaaTotals.lean).
  GIVEN WITH THE SEED: the statements are not yours to turn. If you find one false, say at which input.
  Laid BY PROGRAM, IN A SANDBOX (cutbox-rows.mjs): the forced cells as the released guide's own fill.sh prints them over the translation 0ff818345787f268… (all of the seat's roots in one cut). By AI agents, Wed Nov 11 2026. No macro, syntax, notation, axiom, sorry.
-/
import Derived.Test.YtlkigpmjhojceaaChecked
import GoSem.Claim
import GoSem.ClaimJoined
import GoSem.ClaimMapViews
import Derived.JoinedTies
import Derived.KernelRfl
namespace Go.Proofs.Ytlkigpmjhojceaa
/- THE CELL 'sum', in the pinned program and in every row, IS THE sha256 OF THE DUMP (.gsa) THAT YtlkigpmjhojceaaProg.lean LOADS. Nothing in Lean hashes anything: it is a label: what it is worth is what the hold of that sum in a sandbox is worth. -/
noncomputable def Try.pinned : Pinned := { name := "ytlkigpmjhojceaa", sum := "0ff818345787f268bd943e698cd75151ffb4ae92528727da3318fc86340d39c9", checked := Try.checked }
namespace Rows
def none {H : Type} : Left H := { results := [], args := [] }

/-- 'racewaylaw9.SplayPlays': WHATEVER THE INPUT: true; the input reads as it did. -/
def splayPlaysSpec : ChangeSpec := { name := "splayPlays", fn := fun _ => fun
  | [d1, d2] => { results := [.lit (.bool true)], args := [d1, d2] }
  | _ => none }
def splayPlaysRow : OpenClaim := { program := "ytlkigpmjhojceaa", sum := "0ff818345787f268bd943e698cd75151ffb4ae92528727da3318fc86340d39c9", func := "raceway/racewaylaw9.SplayPlays", spec := "splayPlays", unfollowed := true, recurses := true, apart := false }
def SplayPlaysSaid : Prop := splayPlaysRow.holds Try.pinned (OpenSpec.ofChange splayPlaysSpec)

/-- ITS FALSE NEIGHBOUR: 'it returns false'. Refute it at one input. -/
def splayPlaysWrong : ChangeSpec := { name := "splayPlays", fn := fun _ => fun
  | [d1, d2] => { results := [.lit (.bool false)], args := [d1, d2] }
  | _ => none }
def SplayPlaysWrongFalsely : Prop := splayPlaysRow.holds Try.pinned (OpenSpec.ofChange splayPlaysWrong)

/-- 'racewaylaw9.SplaySteps': WHATEVER THE INPUT: true; the input reads as it did. -/
def splayStepsSpec : ChangeSpec := { name := "splaySteps", fn := fun _ => fun
  | [d1, d2, d3] => { results := [.lit (.bool true)], args := [d1, d2, d3] }
  | _ => none }
def splayStepsRow : OpenClaim := { program := "ytlkigpmjhojceaa", sum := "0ff818345787f268bd943e698cd75151ffb4ae92528727da3318fc86340d39c9", func := "raceway/racewaylaw9.SplaySteps", spec := "splaySteps", unfollowed := true, recurses := true, apart := false }
def SplayStepsSaid : Prop := splayStepsRow.holds Try.pinned (OpenSpec.ofChange splayStepsSpec)

/-- ITS FALSE NEIGHBOUR: 'it returns false'. Refute it at one input. -/
def splayStepsWrong : ChangeSpec := { name := "splaySteps", fn := fun _ => fun
  | [d1, d2, d3] => { results := [.lit (.bool false)], args := [d1, d2, d3] }
  | _ => none }
def SplayStepsWrongFalsely : Prop := splayStepsRow.holds Try.pinned (OpenSpec.ofChange splayStepsWrong)

/-- 'racewaylaw9.SplayBack': WHATEVER THE INPUT: true; the input reads as it did. -/
def splayBackSpec : ChangeSpec := { name := "splayBack", fn := fun _ => fun
  | [d1, d2, d3, d4] => { results := [.lit (.bool true)], args := [d1, d2, d3, d4] }
  | _ => none }
def splayBackRow : OpenClaim := { program := "ytlkigpmjhojceaa", sum := "0ff818345787f268bd943e698cd75151ffb4ae92528727da3318fc86340d39c9", func := "raceway/racewaylaw9.SplayBack", spec := "splayBack", unfollowed := true, recurses := true, apart := false }
def SplayBackSaid : Prop := splayBackRow.holds Try.pinned (OpenSpec.ofChange splayBackSpec)

/-- ITS FALSE NEIGHBOUR: 'it returns false'. Refute it at one input. -/
def splayBackWrong : ChangeSpec := { name := "splayBack", fn := fun _ => fun
  | [d1, d2, d3, d4] => { results := [.lit (.bool false)], args := [d1, d2, d3, d4] }
  | _ => none }
def SplayBackWrongFalsely : Prop := splayBackRow.holds Try.pinned (OpenSpec.ofChange splayBackWrong)

/-- 'racewaylaw9.SplaySorts': WHATEVER THE INPUT: true; the input reads as it did. -/
def splaySortsSpec : ChangeSpec := { name := "splaySorts", fn := fun _ => fun
  | [d1, d2] => { results := [.lit (.bool true)], args := [d1, d2] }
  | _ => none }
def splaySortsRow : OpenClaim := { program := "ytlkigpmjhojceaa", sum := "0ff818345787f268bd943e698cd75151ffb4ae92528727da3318fc86340d39c9", func := "raceway/racewaylaw9.SplaySorts", spec := "splaySorts", unfollowed := true, recurses := true, apart := false }
def SplaySortsSaid : Prop := splaySortsRow.holds Try.pinned (OpenSpec.ofChange splaySortsSpec)

/-- ITS FALSE NEIGHBOUR: 'it returns false'. Refute it at one input. -/
def splaySortsWrong : ChangeSpec := { name := "splaySorts", fn := fun _ => fun
  | [d1, d2] => { results := [.lit (.bool false)], args := [d1, d2] }
  | _ => none }
def SplaySortsWrongFalsely : Prop := splaySortsRow.holds Try.pinned (OpenSpec.ofChange splaySortsWrong)

/-- 'racewaylaw9.SplayAdds': WHATEVER THE INPUT: true; the input reads as it did. -/
def splayAddsSpec : ChangeSpec := { name := "splayAdds", fn := fun _ => fun
  | [d1, d2, d3, d4] => { results := [.lit (.bool true)], args := [d1, d2, d3, d4] }
  | _ => none }
def splayAddsRow : OpenClaim := { program := "ytlkigpmjhojceaa", sum := "0ff818345787f268bd943e698cd75151ffb4ae92528727da3318fc86340d39c9", func := "raceway/racewaylaw9.SplayAdds", spec := "splayAdds", unfollowed := true, recurses := true, apart := false }
def SplayAddsSaid : Prop := splayAddsRow.holds Try.pinned (OpenSpec.ofChange splayAddsSpec)

/-- ITS FALSE NEIGHBOUR: 'it returns false'. Refute it at one input. -/
def splayAddsWrong : ChangeSpec := { name := "splayAdds", fn := fun _ => fun
  | [d1, d2, d3, d4] => { results := [.lit (.bool false)], args := [d1, d2, d3, d4] }
  | _ => none }
def SplayAddsWrongFalsely : Prop := splayAddsRow.holds Try.pinned (OpenSpec.ofChange splayAddsWrong)

/-- 'racewaylaw9.SplayTurns': WHATEVER THE INPUT: true; the input reads as it did. -/
def splayTurnsSpec : ChangeSpec := { name := "splayTurns", fn := fun _ => fun
  | [d1, d2] => { results := [.lit (.bool true)], args := [d1, d2] }
  | _ => none }
def splayTurnsRow : OpenClaim := { program := "ytlkigpmjhojceaa", sum := "0ff818345787f268bd943e698cd75151ffb4ae92528727da3318fc86340d39c9", func := "raceway/racewaylaw9.SplayTurns", spec := "splayTurns", unfollowed := true, recurses := true, apart := false }
def SplayTurnsSaid : Prop := splayTurnsRow.holds Try.pinned (OpenSpec.ofChange splayTurnsSpec)

/-- ITS FALSE NEIGHBOUR: 'it returns false'. Refute it at one input. -/
def splayTurnsWrong : ChangeSpec := { name := "splayTurns", fn := fun _ => fun
  | [d1, d2] => { results := [.lit (.bool false)], args := [d1, d2] }
  | _ => none }
def SplayTurnsWrongFalsely : Prop := splayTurnsRow.holds Try.pinned (OpenSpec.ofChange splayTurnsWrong)

/-- 'racewaylaw9.SplayLeast': WHATEVER THE INPUT: true; the input reads as it did. -/
def splayLeastSpec : ChangeSpec := { name := "splayLeast", fn := fun _ => fun
  | [d] => { results := [.lit (.bool true)], args := [d] }
  | _ => none }
def splayLeastRow : OpenClaim := { program := "ytlkigpmjhojceaa", sum := "0ff818345787f268bd943e698cd75151ffb4ae92528727da3318fc86340d39c9", func := "raceway/racewaylaw9.SplayLeast", spec := "splayLeast", unfollowed := true, recurses := true, apart := false }
def SplayLeastSaid : Prop := splayLeastRow.holds Try.pinned (OpenSpec.ofChange splayLeastSpec)

/-- ITS FALSE NEIGHBOUR: 'it returns false'. Refute it at one input. -/
def splayLeastWrong : ChangeSpec := { name := "splayLeast", fn := fun _ => fun
  | [d] => { results := [.lit (.bool false)], args := [d] }
  | _ => none }
def SplayLeastWrongFalsely : Prop := splayLeastRow.holds Try.pinned (OpenSpec.ofChange splayLeastWrong)

/- THE SECOND FORM. 'bulk': how many values and letters a reading holds, each counted each time it is reached (what is shared counts as often as it is met; a slice's spare places count too). A statement '..UptoSaid' is the law's where the arguments, and the package variables that the reading takes, are together of bulk at most 1048576: NARROWER than '..Said'. Prove '..Said' where nothing that the law and all that it calls make is longer than what came in: it says more and counts as full. Else prove '..UptoSaid'. A law counts once. -/
mutual
def uptoBulk {H : Type} : DataW H → Nat
  | .lit (.string bytes) => bytes.length + 1
  | .lit _ => 1
  | .nil => 1
  | .ptr d => uptoBulk d + 1
  | .slice elems spare => uptoBulkAll elems + uptoBulkAll spare + 1
  | .agg parts => uptoBulkAll parts + 1
  | .iface _ d => uptoBulk d + 1
  | .map entries => uptoBulkEntries entries + 1
  | .held _ => 1
def uptoBulkAll {H : Type} : List (DataW H) → Nat
  | [] => 0
  | d :: r => uptoBulk d + uptoBulkAll r
def uptoBulkEntries {H : Type} : List (Lit × DataW H) → Nat
  | [] => 0
  | x :: r => uptoBulkEntry x + uptoBulkEntries r
def uptoBulkEntry {H : Type} : Lit × DataW H → Nat
  | (.string bytes, d) => bytes.length + uptoBulk d + 1
  | (_, d) => uptoBulk d + 1
 end
def uptoSmall : (H : Type) → List (DataW H) → Bool := fun _ ds => decide (uptoBulkAll ds ≤ 1048576)
def OpenSpec.upto (s : _root_.Go.ChangeSpec) : _root_.Go.OpenSpec := { _root_.Go.OpenSpec.ofChange s with cond := some uptoSmall }

/-- 'racewaylaw9.SplayPlays', WHERE WHAT IT READS IS OF BULK AT MOST 1048576: true; the input reads as it did. -/
def splayPlaysUptoRow : OpenClaim := { program := "ytlkigpmjhojceaa", sum := "0ff818345787f268bd943e698cd75151ffb4ae92528727da3318fc86340d39c9", func := "raceway/racewaylaw9.SplayPlays", spec := "splayPlays", unfollowed := true, recurses := true, apart := false, narrowed := true }
def SplayPlaysUptoSaid : Prop := splayPlaysUptoRow.holds Try.pinned (OpenSpec.upto splayPlaysSpec)

/-- 'racewaylaw9.SplaySteps', WHERE WHAT IT READS IS OF BULK AT MOST 1048576: true; the input reads as it did. -/
def splayStepsUptoRow : OpenClaim := { program := "ytlkigpmjhojceaa", sum := "0ff818345787f268bd943e698cd75151ffb4ae92528727da3318fc86340d39c9", func := "raceway/racewaylaw9.SplaySteps", spec := "splaySteps", unfollowed := true, recurses := true, apart := false, narrowed := true }
def SplayStepsUptoSaid : Prop := splayStepsUptoRow.holds Try.pinned (OpenSpec.upto splayStepsSpec)

/-- 'racewaylaw9.SplayBack', WHERE WHAT IT READS IS OF BULK AT MOST 1048576: true; the input reads as it did. -/
def splayBackUptoRow : OpenClaim := { program := "ytlkigpmjhojceaa", sum := "0ff818345787f268bd943e698cd75151ffb4ae92528727da3318fc86340d39c9", func := "raceway/racewaylaw9.SplayBack", spec := "splayBack", unfollowed := true, recurses := true, apart := false, narrowed := true }
def SplayBackUptoSaid : Prop := splayBackUptoRow.holds Try.pinned (OpenSpec.upto splayBackSpec)

/-- 'racewaylaw9.SplaySorts', WHERE WHAT IT READS IS OF BULK AT MOST 1048576: true; the input reads as it did. -/
def splaySortsUptoRow : OpenClaim := { program := "ytlkigpmjhojceaa", sum := "0ff818345787f268bd943e698cd75151ffb4ae92528727da3318fc86340d39c9", func := "raceway/racewaylaw9.SplaySorts", spec := "splaySorts", unfollowed := true, recurses := true, apart := false, narrowed := true }
def SplaySortsUptoSaid : Prop := splaySortsUptoRow.holds Try.pinned (OpenSpec.upto splaySortsSpec)

/-- 'racewaylaw9.SplayAdds', WHERE WHAT IT READS IS OF BULK AT MOST 1048576: true; the input reads as it did. -/
def splayAddsUptoRow : OpenClaim := { program := "ytlkigpmjhojceaa", sum := "0ff818345787f268bd943e698cd75151ffb4ae92528727da3318fc86340d39c9", func := "raceway/racewaylaw9.SplayAdds", spec := "splayAdds", unfollowed := true, recurses := true, apart := false, narrowed := true }
def SplayAddsUptoSaid : Prop := splayAddsUptoRow.holds Try.pinned (OpenSpec.upto splayAddsSpec)

/-- 'racewaylaw9.SplayTurns', WHERE WHAT IT READS IS OF BULK AT MOST 1048576: true; the input reads as it did. -/
def splayTurnsUptoRow : OpenClaim := { program := "ytlkigpmjhojceaa", sum := "0ff818345787f268bd943e698cd75151ffb4ae92528727da3318fc86340d39c9", func := "raceway/racewaylaw9.SplayTurns", spec := "splayTurns", unfollowed := true, recurses := true, apart := false, narrowed := true }
def SplayTurnsUptoSaid : Prop := splayTurnsUptoRow.holds Try.pinned (OpenSpec.upto splayTurnsSpec)

/-- 'racewaylaw9.SplayLeast', WHERE WHAT IT READS IS OF BULK AT MOST 1048576: true; the input reads as it did. -/
def splayLeastUptoRow : OpenClaim := { program := "ytlkigpmjhojceaa", sum := "0ff818345787f268bd943e698cd75151ffb4ae92528727da3318fc86340d39c9", func := "raceway/racewaylaw9.SplayLeast", spec := "splayLeast", unfollowed := true, recurses := true, apart := false, narrowed := true }
def SplayLeastUptoSaid : Prop := splayLeastUptoRow.holds Try.pinned (OpenSpec.upto splayLeastSpec)

end Rows
end Go.Proofs.Ytlkigpmjhojceaa
