/-
  DERIVED. GIVEN WITH THE SEED: THE CARDS: each row of YtaepoddmonijkaaDoorRows.lean that lists a variable, with what it lists TIED to the program's text (the seventh form; the later family's looks); each row that meets fmt, with fmt's text TOLD by the authors' own Lean function (tested against real Go, not proved from fmt's source: count such statements apart). THE CARD IS WHAT COUNTS. Prove the row's statement (the work); the ties are given (YtaepoddmonijkaaDoorTie.lean); close each card by the builder's one call (the guide's Derived/Test/ToyasCard.lean, 'card_holds'). Laid BY PROGRAM, IN A SANDBOX (cutbox-door.mjs). By AI agents, Wed Nov 11 2026. No macro, syntax, notation, axiom, sorry.
-/
import Derived.Test.YtaepoddmonijkaaDoorRows
import GoSem.ClaimSeven
namespace Go.Proofs.YtaepoddmonijkaaDoor
namespace Rows

/-- THE TIED CARD OF 'racewaylaw4.DimacsParses'. -/
def dimacsParsesCard : Claim7 := { stood := { row := dimacsParsesRow, standIns := [], harness := (true, "095f34442b11e9ab4112c58148db1ef48b5e41d999fdbea3658d02bfe5492d7b"), looks := true }, kinds := [], alts := [], laidByText := true, laidKinds := [.data, .data, .data, .data, .sentinel, .sentinel, .pinned], laidTests := true, laidLooks := .later }
def DimacsParsesCardSaid : Prop := Claim7.holds Tryd.pinned (.plain (OpenSpec.ofChange dimacsParsesSpec)) dimacsParsesCard

/-- THE TIED CARD OF 'racewaylaw4.DimacsPrints'. -/
def dimacsPrintsCard : Claim7 := { stood := { row := dimacsPrintsRow, standIns := [], harness := (true, "095f34442b11e9ab4112c58148db1ef48b5e41d999fdbea3658d02bfe5492d7b"), looks := true }, kinds := [], alts := [], laidByText := true, laidKinds := [.data, .data, .data, .data, .sentinel, .sentinel, .pinned], laidTests := true, laidLooks := .later }
def DimacsPrintsCardSaid : Prop := Claim7.holds Tryd.pinned (.plain (OpenSpec.ofChange dimacsPrintsSpec)) dimacsPrintsCard

/-- THE TIED CARD OF 'racewaylaw4.DimacsBack'. -/
def dimacsBackCard : Claim7 := { stood := { row := dimacsBackRow, standIns := [], harness := (true, "095f34442b11e9ab4112c58148db1ef48b5e41d999fdbea3658d02bfe5492d7b"), looks := true }, kinds := [], alts := [], laidByText := true, laidKinds := [.data, .data, .data, .data, .sentinel, .sentinel, .pinned], laidTests := true, laidLooks := .later }
def DimacsBackCardSaid : Prop := Claim7.holds Tryd.pinned (.plain (OpenSpec.ofChange dimacsBackSpec)) dimacsBackCard

/-- THE TIED CARD OF 'racewaylaw4.DimacsFirst'. -/
def dimacsFirstCard : Claim7 := { stood := { row := dimacsFirstRow, standIns := [], harness := (true, "095f34442b11e9ab4112c58148db1ef48b5e41d999fdbea3658d02bfe5492d7b"), looks := true }, kinds := [], alts := [], laidByText := true, laidKinds := [.data, .data, .data, .data, .sentinel, .sentinel, .pinned], laidTests := true, laidLooks := .later }
def DimacsFirstCardSaid : Prop := Claim7.holds Tryd.pinned (.plain (OpenSpec.ofChange dimacsFirstSpec)) dimacsFirstCard

/-- THE TIED CARD OF 'racewaylaw4.DimacsSpaces'. -/
def dimacsSpacesCard : Claim7 := { stood := { row := dimacsSpacesRow, standIns := [], harness := (true, "095f34442b11e9ab4112c58148db1ef48b5e41d999fdbea3658d02bfe5492d7b"), looks := true }, kinds := [], alts := [], laidByText := true, laidKinds := [.data, .data, .data, .data, .sentinel, .sentinel, .pinned], laidTests := true, laidLooks := .later }
def DimacsSpacesCardSaid : Prop := Claim7.holds Tryd.pinned (.plain (OpenSpec.ofChange dimacsSpacesSpec)) dimacsSpacesCard

/-- THE TIED CARD OF 'racewaylaw4.DimacsSums'. -/
def dimacsSumsCard : Claim7 := { stood := { row := dimacsSumsRow, standIns := [], harness := (true, "095f34442b11e9ab4112c58148db1ef48b5e41d999fdbea3658d02bfe5492d7b"), looks := true }, kinds := [], alts := [], laidByText := true, laidKinds := [.data, .data, .data, .data, .sentinel, .sentinel, .pinned], laidTests := true, laidLooks := .later }
def DimacsSumsCardSaid : Prop := Claim7.holds Tryd.pinned (.plain (OpenSpec.ofChange dimacsSumsSpec)) dimacsSumsCard

/-- THE TIED CARD OF 'racewaylaw4.DimacsPlaces'. -/
def dimacsPlacesCard : Claim7 := { stood := { row := dimacsPlacesRow, standIns := [], harness := (true, "095f34442b11e9ab4112c58148db1ef48b5e41d999fdbea3658d02bfe5492d7b"), looks := true }, kinds := [], alts := [], laidByText := true, laidKinds := [.data, .data, .data, .data, .sentinel, .sentinel, .pinned], laidTests := true, laidLooks := .later }
def DimacsPlacesCardSaid : Prop := Claim7.holds Tryd.pinned (.plain (OpenSpec.ofChange dimacsPlacesSpec)) dimacsPlacesCard

/-- THE TIED CARD OF 'racewaylaw4.DimacsCounts'. -/
def dimacsCountsCard : Claim7 := { stood := { row := dimacsCountsRow, standIns := [], harness := (true, "095f34442b11e9ab4112c58148db1ef48b5e41d999fdbea3658d02bfe5492d7b"), looks := true }, kinds := [], alts := [], laidByText := true, laidKinds := [.data, .data, .data, .data, .sentinel, .sentinel, .pinned], laidTests := true, laidLooks := .later }
def DimacsCountsCardSaid : Prop := Claim7.holds Tryd.pinned (.plain (OpenSpec.ofChange dimacsCountsSpec)) dimacsCountsCard

/-- THE SECOND FORM's CARD OF 'racewaylaw4.DimacsParses'. -/
def dimacsParsesUptoCard : Claim7 := { stood := { row := dimacsParsesUptoRow, standIns := [], harness := (true, "095f34442b11e9ab4112c58148db1ef48b5e41d999fdbea3658d02bfe5492d7b"), looks := true }, kinds := [], alts := [], laidByText := true, laidKinds := [.data, .data, .data, .data, .sentinel, .sentinel, .pinned], laidTests := true, laidLooks := .later }
def DimacsParsesUptoCardSaid : Prop := Claim7.holds Tryd.pinned (.plain (OpenSpec.upto dimacsParsesSpec)) dimacsParsesUptoCard

/-- THE SECOND FORM's CARD OF 'racewaylaw4.DimacsPrints'. -/
def dimacsPrintsUptoCard : Claim7 := { stood := { row := dimacsPrintsUptoRow, standIns := [], harness := (true, "095f34442b11e9ab4112c58148db1ef48b5e41d999fdbea3658d02bfe5492d7b"), looks := true }, kinds := [], alts := [], laidByText := true, laidKinds := [.data, .data, .data, .data, .sentinel, .sentinel, .pinned], laidTests := true, laidLooks := .later }
def DimacsPrintsUptoCardSaid : Prop := Claim7.holds Tryd.pinned (.plain (OpenSpec.upto dimacsPrintsSpec)) dimacsPrintsUptoCard

/-- THE SECOND FORM's CARD OF 'racewaylaw4.DimacsBack'. -/
def dimacsBackUptoCard : Claim7 := { stood := { row := dimacsBackUptoRow, standIns := [], harness := (true, "095f34442b11e9ab4112c58148db1ef48b5e41d999fdbea3658d02bfe5492d7b"), looks := true }, kinds := [], alts := [], laidByText := true, laidKinds := [.data, .data, .data, .data, .sentinel, .sentinel, .pinned], laidTests := true, laidLooks := .later }
def DimacsBackUptoCardSaid : Prop := Claim7.holds Tryd.pinned (.plain (OpenSpec.upto dimacsBackSpec)) dimacsBackUptoCard

/-- THE SECOND FORM's CARD OF 'racewaylaw4.DimacsFirst'. -/
def dimacsFirstUptoCard : Claim7 := { stood := { row := dimacsFirstUptoRow, standIns := [], harness := (true, "095f34442b11e9ab4112c58148db1ef48b5e41d999fdbea3658d02bfe5492d7b"), looks := true }, kinds := [], alts := [], laidByText := true, laidKinds := [.data, .data, .data, .data, .sentinel, .sentinel, .pinned], laidTests := true, laidLooks := .later }
def DimacsFirstUptoCardSaid : Prop := Claim7.holds Tryd.pinned (.plain (OpenSpec.upto dimacsFirstSpec)) dimacsFirstUptoCard

/-- THE SECOND FORM's CARD OF 'racewaylaw4.DimacsSpaces'. -/
def dimacsSpacesUptoCard : Claim7 := { stood := { row := dimacsSpacesUptoRow, standIns := [], harness := (true, "095f34442b11e9ab4112c58148db1ef48b5e41d999fdbea3658d02bfe5492d7b"), looks := true }, kinds := [], alts := [], laidByText := true, laidKinds := [.data, .data, .data, .data, .sentinel, .sentinel, .pinned], laidTests := true, laidLooks := .later }
def DimacsSpacesUptoCardSaid : Prop := Claim7.holds Tryd.pinned (.plain (OpenSpec.upto dimacsSpacesSpec)) dimacsSpacesUptoCard

/-- THE SECOND FORM's CARD OF 'racewaylaw4.DimacsSums'. -/
def dimacsSumsUptoCard : Claim7 := { stood := { row := dimacsSumsUptoRow, standIns := [], harness := (true, "095f34442b11e9ab4112c58148db1ef48b5e41d999fdbea3658d02bfe5492d7b"), looks := true }, kinds := [], alts := [], laidByText := true, laidKinds := [.data, .data, .data, .data, .sentinel, .sentinel, .pinned], laidTests := true, laidLooks := .later }
def DimacsSumsUptoCardSaid : Prop := Claim7.holds Tryd.pinned (.plain (OpenSpec.upto dimacsSumsSpec)) dimacsSumsUptoCard

/-- THE SECOND FORM's CARD OF 'racewaylaw4.DimacsPlaces'. -/
def dimacsPlacesUptoCard : Claim7 := { stood := { row := dimacsPlacesUptoRow, standIns := [], harness := (true, "095f34442b11e9ab4112c58148db1ef48b5e41d999fdbea3658d02bfe5492d7b"), looks := true }, kinds := [], alts := [], laidByText := true, laidKinds := [.data, .data, .data, .data, .sentinel, .sentinel, .pinned], laidTests := true, laidLooks := .later }
def DimacsPlacesUptoCardSaid : Prop := Claim7.holds Tryd.pinned (.plain (OpenSpec.upto dimacsPlacesSpec)) dimacsPlacesUptoCard

/-- THE SECOND FORM's CARD OF 'racewaylaw4.DimacsCounts'. -/
def dimacsCountsUptoCard : Claim7 := { stood := { row := dimacsCountsUptoRow, standIns := [], harness := (true, "095f34442b11e9ab4112c58148db1ef48b5e41d999fdbea3658d02bfe5492d7b"), looks := true }, kinds := [], alts := [], laidByText := true, laidKinds := [.data, .data, .data, .data, .sentinel, .sentinel, .pinned], laidTests := true, laidLooks := .later }
def DimacsCountsUptoCardSaid : Prop := Claim7.holds Tryd.pinned (.plain (OpenSpec.upto dimacsCountsSpec)) dimacsCountsUptoCard
end Rows
end Go.Proofs.YtaepoddmonijkaaDoor
