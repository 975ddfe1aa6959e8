/-
  DERIVED. GIVEN WITH THE SEED: THE CARDS: each row of YtndgffiihbdppaaDoorRows.lean that lists a variable, with what it lists TIED to the program's text (the seventh form; the later family's looks); each row that meets fmt, with fmt's text TOLD by the authors' own Lean function (tested against real Go, not proved from fmt's source: count such statements apart). THE CARD IS WHAT COUNTS. Prove the row's statement (the work); the ties are given (YtndgffiihbdppaaDoorTie.lean); close each card by the builder's one call (the guide's Derived/Test/ToyasCard.lean, 'card_holds'). Laid BY PROGRAM, IN A SANDBOX (cutbox-door.mjs). By AI agents, Wed Nov 11 2026. No macro, syntax, notation, axiom, sorry.
-/
import Derived.Test.YtndgffiihbdppaaDoorRows
import GoSem.ClaimSeven
namespace Go.Proofs.YtndgffiihbdppaaDoor
namespace Rows

/-- THE TIED CARD OF 'timbkeep1.ColorCounts2'. -/
def colorCounts2Card : Claim7 := { stood := { row := colorCounts2Row, standIns := [], harness := (true, "b5ea7bc0735854d32f753a64b05b555101a53eae774dc64ea3c8c50491b450d0"), looks := false }, kinds := [], alts := [], laidByText := true, laidKinds := [.data, .data], laidTests := true, laidLooks := .later }
def ColorCounts2CardSaid : Prop := Claim7.holds Tryd.pinned (.plain (OpenSpec.ofChange colorCounts2Spec)) colorCounts2Card

/-- THE TIED CARD OF 'timbkeep1.ColorDeterminant'. -/
def colorDeterminantCard : Claim7 := { stood := { row := colorDeterminantRow, standIns := [], harness := (true, "b5ea7bc0735854d32f753a64b05b555101a53eae774dc64ea3c8c50491b450d0"), looks := false }, kinds := [], alts := [], laidByText := true, laidKinds := [.data, .data], laidTests := true, laidLooks := .later }
def ColorDeterminantCardSaid : Prop := Claim7.holds Tryd.pinned (.plain (OpenSpec.ofChange colorDeterminantSpec)) colorDeterminantCard

/-- THE SECOND FORM's CARD OF 'timbkeep1.ColorCounts2'. -/
def colorCounts2UptoCard : Claim7 := { stood := { row := colorCounts2UptoRow, standIns := [], harness := (true, "b5ea7bc0735854d32f753a64b05b555101a53eae774dc64ea3c8c50491b450d0"), looks := false }, kinds := [], alts := [], laidByText := true, laidKinds := [.data, .data], laidTests := true, laidLooks := .later }
def ColorCounts2UptoCardSaid : Prop := Claim7.holds Tryd.pinned (.plain (OpenSpec.upto colorCounts2Spec)) colorCounts2UptoCard

/-- THE SECOND FORM's CARD OF 'timbkeep1.ColorDeterminant'. -/
def colorDeterminantUptoCard : Claim7 := { stood := { row := colorDeterminantUptoRow, standIns := [], harness := (true, "b5ea7bc0735854d32f753a64b05b555101a53eae774dc64ea3c8c50491b450d0"), looks := false }, kinds := [], alts := [], laidByText := true, laidKinds := [.data, .data], laidTests := true, laidLooks := .later }
def ColorDeterminantUptoCardSaid : Prop := Claim7.holds Tryd.pinned (.plain (OpenSpec.upto colorDeterminantSpec)) colorDeterminantUptoCard
end Rows
end Go.Proofs.YtndgffiihbdppaaDoor
