/-
  DERIVED. GIVEN WITH THE SEED: THE CARDS: each row of YtbedpgcbfbjgiaaDoorRows.lean that lists a variable, with what it lists TIED to the program's text (the seventh form; the later family's looks); each row that meets fmt, with fmt's text TOLD by the authors' own Lean function (tested against real Go, not proved from fmt's source: count such statements apart). THE CARD IS WHAT COUNTS. Prove the row's statement (the work); the ties are given (YtbedpgcbfbjgiaaDoorTie.lean); close each card by the builder's one call (the guide's Derived/Test/ToyasCard.lean, 'card_holds'). Laid BY PROGRAM, IN A SANDBOX (cutbox-door.mjs). By AI agents, Wed Nov 11 2026. No macro, syntax, notation, axiom, sorry.
-/
import Derived.Test.YtbedpgcbfbjgiaaDoorRows
import GoSem.ClaimSeven
namespace Go.Proofs.YtbedpgcbfbjgiaaDoor
namespace Rows

/-- THE TIED CARD OF 'timblaw1.ColorCounts'. -/
def colorCountsCard : Claim7 := { stood := { row := colorCountsRow, standIns := [], harness := (true, "d3a1b5c804b3384d4ec7a7947d04b5710c412cd915af08020723adfbd589783a"), looks := false }, kinds := [], alts := [], laidByText := true, laidKinds := [.data, .data], laidTests := true, laidLooks := .later }
def ColorCountsCardSaid : Prop := Claim7.holds Tryd.pinned (.plain (OpenSpec.ofChange colorCountsSpec)) colorCountsCard

/-- THE TIED CARD OF 'timbkeep1.ColorLetters'. -/
def colorLettersCard : Claim7 := { stood := { row := colorLettersRow, standIns := [], harness := (true, "d3a1b5c804b3384d4ec7a7947d04b5710c412cd915af08020723adfbd589783a"), looks := false }, kinds := [], alts := [], laidByText := true, laidKinds := [.data, .data], laidTests := true, laidLooks := .later }
def ColorLettersCardSaid : Prop := Claim7.holds Tryd.pinned (.plain (OpenSpec.ofChange colorLettersSpec)) colorLettersCard

/-- THE SECOND FORM's CARD OF 'timblaw1.ColorCounts'. -/
def colorCountsUptoCard : Claim7 := { stood := { row := colorCountsUptoRow, standIns := [], harness := (true, "d3a1b5c804b3384d4ec7a7947d04b5710c412cd915af08020723adfbd589783a"), looks := false }, kinds := [], alts := [], laidByText := true, laidKinds := [.data, .data], laidTests := true, laidLooks := .later }
def ColorCountsUptoCardSaid : Prop := Claim7.holds Tryd.pinned (.plain (OpenSpec.upto colorCountsSpec)) colorCountsUptoCard

/-- THE SECOND FORM's CARD OF 'timbkeep1.ColorLetters'. -/
def colorLettersUptoCard : Claim7 := { stood := { row := colorLettersUptoRow, standIns := [], harness := (true, "d3a1b5c804b3384d4ec7a7947d04b5710c412cd915af08020723adfbd589783a"), looks := false }, kinds := [], alts := [], laidByText := true, laidKinds := [.data, .data], laidTests := true, laidLooks := .later }
def ColorLettersUptoCardSaid : Prop := Claim7.holds Tryd.pinned (.plain (OpenSpec.upto colorLettersSpec)) colorLettersUptoCard
end Rows
end Go.Proofs.YtbedpgcbfbjgiaaDoor
