/-
  No cell of these rows narrows 'for every input' (looked for: loops, veiled, ifaces, maps, wideKeys, modest, calm, conditions, laid).
  DERIVED. THE GIVEN ROWS OF THIS SEAT. 7 by the template 'for every input the law returns true; each argument reads behind the call as it read before'; 0 by the template 'total and deterministic' (their statements: YtiimomonbdckgaaTotals.lean).
  GIVEN WITH THE SEED: the statements are not yours to turn. If you find one false, say at which input.
  Laid BY PROGRAM, IN A SANDBOX (cutbox-rows.mjs): the forced cells as the released guide's own fill.sh prints them over the translation ff112a461f1b4c14… (all of the seat's roots in one cut). By AI agents, Wed Nov 11 2026. No macro, syntax, notation, axiom, sorry.
-/
import Derived.Test.YtiimomonbdckgaaChecked
import GoSem.Claim
import GoSem.ClaimJoined
import GoSem.ClaimMapViews
import Derived.JoinedTies
import Derived.KernelRfl
namespace Go.Proofs.Ytiimomonbdckgaa
/- THE CELL 'sum', in the pinned program and in every row, IS THE sha256 OF THE DUMP (.gsa) THAT YtiimomonbdckgaaProg.lean LOADS. Nothing in Lean hashes anything: it is a label: what it is worth is what the hold of that sum in a sandbox is worth. -/
noncomputable def Try.pinned : Pinned := { name := "ytiimomonbdckgaa", sum := "ff112a461f1b4c1419d1e67bb613e323ef1cf03e2098c8770670ebea86acf1df", checked := Try.checked }
namespace Rows
def none {H : Type} : Left H := { results := [], args := [] }

/-- 'racewaylaw5.FlowTells': WHATEVER THE INPUT: true; the input reads as it did. -/
def flowTellsSpec : ChangeSpec := { name := "flowTells", fn := fun _ => fun
  | [d1, d2, d3, d4] => { results := [.lit (.bool true)], args := [d1, d2, d3, d4] }
  | _ => none }
def flowTellsRow : OpenClaim := { program := "ytiimomonbdckgaa", sum := "ff112a461f1b4c1419d1e67bb613e323ef1cf03e2098c8770670ebea86acf1df", func := "raceway/racewaylaw5.FlowTells", spec := "flowTells", apart := false }
def FlowTellsSaid : Prop := flowTellsRow.holds Try.pinned (OpenSpec.ofChange flowTellsSpec)

/-- ITS FALSE NEIGHBOUR: 'it returns false'. Refute it at one input. -/
def flowTellsWrong : ChangeSpec := { name := "flowTells", fn := fun _ => fun
  | [d1, d2, d3, d4] => { results := [.lit (.bool false)], args := [d1, d2, d3, d4] }
  | _ => none }
def FlowTellsWrongFalsely : Prop := flowTellsRow.holds Try.pinned (OpenSpec.ofChange flowTellsWrong)

/-- 'racewaylaw5.FlowRoutes': WHATEVER THE INPUT: true; the input reads as it did. -/
def flowRoutesSpec : ChangeSpec := { name := "flowRoutes", fn := fun _ => fun
  | [d1, d2, d3, d4] => { results := [.lit (.bool true)], args := [d1, d2, d3, d4] }
  | _ => none }
def flowRoutesRow : OpenClaim := { program := "ytiimomonbdckgaa", sum := "ff112a461f1b4c1419d1e67bb613e323ef1cf03e2098c8770670ebea86acf1df", func := "raceway/racewaylaw5.FlowRoutes", spec := "flowRoutes", apart := false }
def FlowRoutesSaid : Prop := flowRoutesRow.holds Try.pinned (OpenSpec.ofChange flowRoutesSpec)

/-- ITS FALSE NEIGHBOUR: 'it returns false'. Refute it at one input. -/
def flowRoutesWrong : ChangeSpec := { name := "flowRoutes", fn := fun _ => fun
  | [d1, d2, d3, d4] => { results := [.lit (.bool false)], args := [d1, d2, d3, d4] }
  | _ => none }
def FlowRoutesWrongFalsely : Prop := flowRoutesRow.holds Try.pinned (OpenSpec.ofChange flowRoutesWrong)

/-- 'racewaylaw5.FlowAdds': WHATEVER THE INPUT: true; the input reads as it did. -/
def flowAddsSpec : ChangeSpec := { name := "flowAdds", fn := fun _ => fun
  | [d1, d2, d3, d4, d5, d6] => { results := [.lit (.bool true)], args := [d1, d2, d3, d4, d5, d6] }
  | _ => none }
def flowAddsRow : OpenClaim := { program := "ytiimomonbdckgaa", sum := "ff112a461f1b4c1419d1e67bb613e323ef1cf03e2098c8770670ebea86acf1df", func := "raceway/racewaylaw5.FlowAdds", spec := "flowAdds", apart := false }
def FlowAddsSaid : Prop := flowAddsRow.holds Try.pinned (OpenSpec.ofChange flowAddsSpec)

/-- ITS FALSE NEIGHBOUR: 'it returns false'. Refute it at one input. -/
def flowAddsWrong : ChangeSpec := { name := "flowAdds", fn := fun _ => fun
  | [d1, d2, d3, d4, d5, d6] => { results := [.lit (.bool false)], args := [d1, d2, d3, d4, d5, d6] }
  | _ => none }
def FlowAddsWrongFalsely : Prop := flowAddsRow.holds Try.pinned (OpenSpec.ofChange flowAddsWrong)

/-- 'racewaylaw5.FlowBounds': WHATEVER THE INPUT: true; the input reads as it did. -/
def flowBoundsSpec : ChangeSpec := { name := "flowBounds", fn := fun _ => fun
  | [d1, d2, d3, d4, d5] => { results := [.lit (.bool true)], args := [d1, d2, d3, d4, d5] }
  | _ => none }
def flowBoundsRow : OpenClaim := { program := "ytiimomonbdckgaa", sum := "ff112a461f1b4c1419d1e67bb613e323ef1cf03e2098c8770670ebea86acf1df", func := "raceway/racewaylaw5.FlowBounds", spec := "flowBounds", apart := false }
def FlowBoundsSaid : Prop := flowBoundsRow.holds Try.pinned (OpenSpec.ofChange flowBoundsSpec)

/-- ITS FALSE NEIGHBOUR: 'it returns false'. Refute it at one input. -/
def flowBoundsWrong : ChangeSpec := { name := "flowBounds", fn := fun _ => fun
  | [d1, d2, d3, d4, d5] => { results := [.lit (.bool false)], args := [d1, d2, d3, d4, d5] }
  | _ => none }
def FlowBoundsWrongFalsely : Prop := flowBoundsRow.holds Try.pinned (OpenSpec.ofChange flowBoundsWrong)

/-- 'racewaylaw5.FlowScales': WHATEVER THE INPUT: true; the input reads as it did. -/
def flowScalesSpec : ChangeSpec := { name := "flowScales", fn := fun _ => fun
  | [d1, d2, d3, d4, d5] => { results := [.lit (.bool true)], args := [d1, d2, d3, d4, d5] }
  | _ => none }
def flowScalesRow : OpenClaim := { program := "ytiimomonbdckgaa", sum := "ff112a461f1b4c1419d1e67bb613e323ef1cf03e2098c8770670ebea86acf1df", func := "raceway/racewaylaw5.FlowScales", spec := "flowScales", apart := false }
def FlowScalesSaid : Prop := flowScalesRow.holds Try.pinned (OpenSpec.ofChange flowScalesSpec)

/-- ITS FALSE NEIGHBOUR: 'it returns false'. Refute it at one input. -/
def flowScalesWrong : ChangeSpec := { name := "flowScales", fn := fun _ => fun
  | [d1, d2, d3, d4, d5] => { results := [.lit (.bool false)], args := [d1, d2, d3, d4, d5] }
  | _ => none }
def FlowScalesWrongFalsely : Prop := flowScalesRow.holds Try.pinned (OpenSpec.ofChange flowScalesWrong)

/-- 'racewaylaw5.FlowHalves': WHATEVER THE INPUT: true; the input reads as it did. -/
def flowHalvesSpec : ChangeSpec := { name := "flowHalves", fn := fun _ => fun
  | [d1, d2, d3, d4, d5] => { results := [.lit (.bool true)], args := [d1, d2, d3, d4, d5] }
  | _ => none }
def flowHalvesRow : OpenClaim := { program := "ytiimomonbdckgaa", sum := "ff112a461f1b4c1419d1e67bb613e323ef1cf03e2098c8770670ebea86acf1df", func := "raceway/racewaylaw5.FlowHalves", spec := "flowHalves", apart := false }
def FlowHalvesSaid : Prop := flowHalvesRow.holds Try.pinned (OpenSpec.ofChange flowHalvesSpec)

/-- ITS FALSE NEIGHBOUR: 'it returns false'. Refute it at one input. -/
def flowHalvesWrong : ChangeSpec := { name := "flowHalves", fn := fun _ => fun
  | [d1, d2, d3, d4, d5] => { results := [.lit (.bool false)], args := [d1, d2, d3, d4, d5] }
  | _ => none }
def FlowHalvesWrongFalsely : Prop := flowHalvesRow.holds Try.pinned (OpenSpec.ofChange flowHalvesWrong)

/-- 'racewaylaw5.FlowLoops': WHATEVER THE INPUT: true; the input reads as it did. -/
def flowLoopsSpec : ChangeSpec := { name := "flowLoops", fn := fun _ => fun
  | [d1, d2, d3, d4, d5, d6] => { results := [.lit (.bool true)], args := [d1, d2, d3, d4, d5, d6] }
  | _ => none }
def flowLoopsRow : OpenClaim := { program := "ytiimomonbdckgaa", sum := "ff112a461f1b4c1419d1e67bb613e323ef1cf03e2098c8770670ebea86acf1df", func := "raceway/racewaylaw5.FlowLoops", spec := "flowLoops", apart := false }
def FlowLoopsSaid : Prop := flowLoopsRow.holds Try.pinned (OpenSpec.ofChange flowLoopsSpec)

/-- ITS FALSE NEIGHBOUR: 'it returns false'. Refute it at one input. -/
def flowLoopsWrong : ChangeSpec := { name := "flowLoops", fn := fun _ => fun
  | [d1, d2, d3, d4, d5, d6] => { results := [.lit (.bool false)], args := [d1, d2, d3, d4, d5, d6] }
  | _ => none }
def FlowLoopsWrongFalsely : Prop := flowLoopsRow.holds Try.pinned (OpenSpec.ofChange flowLoopsWrong)

/- THE SECOND FORM. 'bulk': how many values and letters a reading holds, each counted each time it is reached (what is shared counts as often as it is met; a slice's spare places count too). A statement '..UptoSaid' is the law's where the arguments, and the package variables that the reading takes, are together of bulk at most 1048576: NARROWER than '..Said'. Prove '..Said' where nothing that the law and all that it calls make is longer than what came in: it says more and counts as full. Else prove '..UptoSaid'. A law counts once. -/
mutual
def uptoBulk {H : Type} : DataW H → Nat
  | .lit (.string bytes) => bytes.length + 1
  | .lit _ => 1
  | .nil => 1
  | .ptr d => uptoBulk d + 1
  | .slice elems spare => uptoBulkAll elems + uptoBulkAll spare + 1
  | .agg parts => uptoBulkAll parts + 1
  | .iface _ d => uptoBulk d + 1
  | .map entries => uptoBulkEntries entries + 1
  | .held _ => 1
def uptoBulkAll {H : Type} : List (DataW H) → Nat
  | [] => 0
  | d :: r => uptoBulk d + uptoBulkAll r
def uptoBulkEntries {H : Type} : List (Lit × DataW H) → Nat
  | [] => 0
  | x :: r => uptoBulkEntry x + uptoBulkEntries r
def uptoBulkEntry {H : Type} : Lit × DataW H → Nat
  | (.string bytes, d) => bytes.length + uptoBulk d + 1
  | (_, d) => uptoBulk d + 1
 end
def uptoSmall : (H : Type) → List (DataW H) → Bool := fun _ ds => decide (uptoBulkAll ds ≤ 1048576)
def OpenSpec.upto (s : _root_.Go.ChangeSpec) : _root_.Go.OpenSpec := { _root_.Go.OpenSpec.ofChange s with cond := some uptoSmall }

/-- 'racewaylaw5.FlowTells', WHERE WHAT IT READS IS OF BULK AT MOST 1048576: true; the input reads as it did. -/
def flowTellsUptoRow : OpenClaim := { program := "ytiimomonbdckgaa", sum := "ff112a461f1b4c1419d1e67bb613e323ef1cf03e2098c8770670ebea86acf1df", func := "raceway/racewaylaw5.FlowTells", spec := "flowTells", apart := false, narrowed := true }
def FlowTellsUptoSaid : Prop := flowTellsUptoRow.holds Try.pinned (OpenSpec.upto flowTellsSpec)

/-- 'racewaylaw5.FlowRoutes', WHERE WHAT IT READS IS OF BULK AT MOST 1048576: true; the input reads as it did. -/
def flowRoutesUptoRow : OpenClaim := { program := "ytiimomonbdckgaa", sum := "ff112a461f1b4c1419d1e67bb613e323ef1cf03e2098c8770670ebea86acf1df", func := "raceway/racewaylaw5.FlowRoutes", spec := "flowRoutes", apart := false, narrowed := true }
def FlowRoutesUptoSaid : Prop := flowRoutesUptoRow.holds Try.pinned (OpenSpec.upto flowRoutesSpec)

/-- 'racewaylaw5.FlowAdds', WHERE WHAT IT READS IS OF BULK AT MOST 1048576: true; the input reads as it did. -/
def flowAddsUptoRow : OpenClaim := { program := "ytiimomonbdckgaa", sum := "ff112a461f1b4c1419d1e67bb613e323ef1cf03e2098c8770670ebea86acf1df", func := "raceway/racewaylaw5.FlowAdds", spec := "flowAdds", apart := false, narrowed := true }
def FlowAddsUptoSaid : Prop := flowAddsUptoRow.holds Try.pinned (OpenSpec.upto flowAddsSpec)

/-- 'racewaylaw5.FlowBounds', WHERE WHAT IT READS IS OF BULK AT MOST 1048576: true; the input reads as it did. -/
def flowBoundsUptoRow : OpenClaim := { program := "ytiimomonbdckgaa", sum := "ff112a461f1b4c1419d1e67bb613e323ef1cf03e2098c8770670ebea86acf1df", func := "raceway/racewaylaw5.FlowBounds", spec := "flowBounds", apart := false, narrowed := true }
def FlowBoundsUptoSaid : Prop := flowBoundsUptoRow.holds Try.pinned (OpenSpec.upto flowBoundsSpec)

/-- 'racewaylaw5.FlowScales', WHERE WHAT IT READS IS OF BULK AT MOST 1048576: true; the input reads as it did. -/
def flowScalesUptoRow : OpenClaim := { program := "ytiimomonbdckgaa", sum := "ff112a461f1b4c1419d1e67bb613e323ef1cf03e2098c8770670ebea86acf1df", func := "raceway/racewaylaw5.FlowScales", spec := "flowScales", apart := false, narrowed := true }
def FlowScalesUptoSaid : Prop := flowScalesUptoRow.holds Try.pinned (OpenSpec.upto flowScalesSpec)

/-- 'racewaylaw5.FlowHalves', WHERE WHAT IT READS IS OF BULK AT MOST 1048576: true; the input reads as it did. -/
def flowHalvesUptoRow : OpenClaim := { program := "ytiimomonbdckgaa", sum := "ff112a461f1b4c1419d1e67bb613e323ef1cf03e2098c8770670ebea86acf1df", func := "raceway/racewaylaw5.FlowHalves", spec := "flowHalves", apart := false, narrowed := true }
def FlowHalvesUptoSaid : Prop := flowHalvesUptoRow.holds Try.pinned (OpenSpec.upto flowHalvesSpec)

/-- 'racewaylaw5.FlowLoops', WHERE WHAT IT READS IS OF BULK AT MOST 1048576: true; the input reads as it did. -/
def flowLoopsUptoRow : OpenClaim := { program := "ytiimomonbdckgaa", sum := "ff112a461f1b4c1419d1e67bb613e323ef1cf03e2098c8770670ebea86acf1df", func := "raceway/racewaylaw5.FlowLoops", spec := "flowLoops", apart := false, narrowed := true }
def FlowLoopsUptoSaid : Prop := flowLoopsUptoRow.holds Try.pinned (OpenSpec.upto flowLoopsSpec)

end Rows
end Go.Proofs.Ytiimomonbdckgaa
