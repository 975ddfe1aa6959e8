/-
  DERIVED. GIVEN WITH THE SEED: THE CARDS: each row of YtndgffiihbdppaaGreatDoorRows.lean that lists a variable, with what it lists TIED to the program's text (the seventh form; the later family's looks); each row that meets fmt, with fmt's text TOLD by the authors' own Lean function (tested against real Go, not proved from fmt's source: count such statements apart). THE CARD IS WHAT COUNTS. Prove the row's statement (the work); the ties are given (YtndgffiihbdppaaGreatDoorTie.lean); close each card by the builder's one call (the guide's Derived/Test/ToyasCard.lean, 'card_holds'). Laid BY PROGRAM, IN A SANDBOX (cutbox-door.mjs). By AI agents, Wed Nov 11 2026. No macro, syntax, notation, axiom, sorry.
-/
import Derived.Test.YtndgffiihbdppaaGreatDoorRows
import GoSem.ClaimSeven
namespace Go.Proofs.YtndgffiihbdppaaGreatDoor
namespace Rows

/-- THE TIED CARD OF 'timbtop.TopTorus'. -/
def topTorusCard : Claim7 := { stood := { row := topTorusRow, standIns := [], harness := (true, "cfececc3fda24681137a1d26d61632d110a83fe501d6e349f9153a7e12aab326"), looks := false }, kinds := [], alts := [], laidByText := true, laidKinds := [.data, .data], laidTests := true, laidLooks := .later }
def TopTorusCardSaid : Prop := Claim7.holds Tryz.pinned (.plain (OpenSpec.ofChange topTorusSpec)) topTorusCard

/-- THE SECOND FORM's CARD OF 'timbtop.TopTorus'. -/
def topTorusUptoCard : Claim7 := { stood := { row := topTorusUptoRow, standIns := [], harness := (true, "cfececc3fda24681137a1d26d61632d110a83fe501d6e349f9153a7e12aab326"), looks := false }, kinds := [], alts := [], laidByText := true, laidKinds := [.data, .data], laidTests := true, laidLooks := .later }
def TopTorusUptoCardSaid : Prop := Claim7.holds Tryz.pinned (.plain (OpenSpec.upto topTorusSpec)) topTorusUptoCard
end Rows
end Go.Proofs.YtndgffiihbdppaaGreatDoor
