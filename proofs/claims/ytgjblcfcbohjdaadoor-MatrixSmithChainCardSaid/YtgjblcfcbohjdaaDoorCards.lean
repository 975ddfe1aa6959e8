/-
  DERIVED. GIVEN WITH THE SEED: THE CARDS: each row of YtgjblcfcbohjdaaDoorRows.lean that lists a variable, with what it lists TIED to the program's text (the seventh form; the later family's looks); each row that meets fmt, with fmt's text TOLD by the authors' own Lean function (tested against real Go, not proved from fmt's source: count such statements apart). THE CARD IS WHAT COUNTS. Prove the row's statement (the work); the ties are given (YtgjblcfcbohjdaaDoorTie.lean); close each card by the builder's one call (the guide's Derived/Test/ToyasCard.lean, 'card_holds'). Laid BY PROGRAM, IN A SANDBOX (cutbox-door.mjs). By AI agents, Wed Nov 11 2026. No macro, syntax, notation, axiom, sorry.
-/
import Derived.Test.YtgjblcfcbohjdaaDoorRows
import GoSem.ClaimSeven
namespace Go.Proofs.YtgjblcfcbohjdaaDoor
namespace Rows

/-- THE TIED CARD OF 'timblaw1.MatrixDets'. -/
def matrixDetsCard : Claim7 := { stood := { row := matrixDetsRow, standIns := [], harness := (true, "9d9c25ee1fc54c6c53b9c58c9bf9ef2137d3182e22676c75a2306ded78f1e535"), looks := false }, kinds := [], alts := [], laidByText := true, laidKinds := [.data, .data], laidTests := true, laidLooks := .later }
def MatrixDetsCardSaid : Prop := Claim7.holds Tryd.pinned (.plain (OpenSpec.ofChange matrixDetsSpec)) matrixDetsCard

/-- THE TIED CARD OF 'timblaw1.MatrixSmiths'. -/
def matrixSmithsCard : Claim7 := { stood := { row := matrixSmithsRow, standIns := [], harness := (true, "9d9c25ee1fc54c6c53b9c58c9bf9ef2137d3182e22676c75a2306ded78f1e535"), looks := false }, kinds := [], alts := [], laidByText := true, laidKinds := [.data, .data], laidTests := true, laidLooks := .later }
def MatrixSmithsCardSaid : Prop := Claim7.holds Tryd.pinned (.plain (OpenSpec.ofChange matrixSmithsSpec)) matrixSmithsCard

/-- THE TIED CARD OF 'timblaw1.MatrixSolutions'. -/
def matrixSolutionsCard : Claim7 := { stood := { row := matrixSolutionsRow, standIns := [], harness := (true, "9d9c25ee1fc54c6c53b9c58c9bf9ef2137d3182e22676c75a2306ded78f1e535"), looks := false }, kinds := [], alts := [], laidByText := true, laidKinds := [.data, .data], laidTests := true, laidLooks := .later }
def MatrixSolutionsCardSaid : Prop := Claim7.holds Tryd.pinned (.plain (OpenSpec.ofChange matrixSolutionsSpec)) matrixSolutionsCard

/-- THE TIED CARD OF 'timbkeep1.MatrixDetTimes'. -/
def matrixDetTimesCard : Claim7 := { stood := { row := matrixDetTimesRow, standIns := [], harness := (true, "9d9c25ee1fc54c6c53b9c58c9bf9ef2137d3182e22676c75a2306ded78f1e535"), looks := false }, kinds := [], alts := [], laidByText := true, laidKinds := [.data, .data], laidTests := true, laidLooks := .later }
def MatrixDetTimesCardSaid : Prop := Claim7.holds Tryd.pinned (.plain (OpenSpec.ofChange matrixDetTimesSpec)) matrixDetTimesCard

/-- THE TIED CARD OF 'timbkeep1.MatrixTurned'. -/
def matrixTurnedCard : Claim7 := { stood := { row := matrixTurnedRow, standIns := [], harness := (true, "9d9c25ee1fc54c6c53b9c58c9bf9ef2137d3182e22676c75a2306ded78f1e535"), looks := false }, kinds := [], alts := [], laidByText := true, laidKinds := [.data, .data], laidTests := true, laidLooks := .later }
def MatrixTurnedCardSaid : Prop := Claim7.holds Tryd.pinned (.plain (OpenSpec.ofChange matrixTurnedSpec)) matrixTurnedCard

/-- THE TIED CARD OF 'timbkeep1.MatrixSmithChain'. -/
def matrixSmithChainCard : Claim7 := { stood := { row := matrixSmithChainRow, standIns := [], harness := (true, "9d9c25ee1fc54c6c53b9c58c9bf9ef2137d3182e22676c75a2306ded78f1e535"), looks := false }, kinds := [], alts := [], laidByText := true, laidKinds := [.data, .data], laidTests := true, laidLooks := .later }
def MatrixSmithChainCardSaid : Prop := Claim7.holds Tryd.pinned (.plain (OpenSpec.ofChange matrixSmithChainSpec)) matrixSmithChainCard

/-- THE TIED CARD OF 'timbkeep1.MatrixCounts'. -/
def matrixCountsCard : Claim7 := { stood := { row := matrixCountsRow, standIns := [], harness := (true, "9d9c25ee1fc54c6c53b9c58c9bf9ef2137d3182e22676c75a2306ded78f1e535"), looks := false }, kinds := [], alts := [], laidByText := true, laidKinds := [.data, .data], laidTests := true, laidLooks := .later }
def MatrixCountsCardSaid : Prop := Claim7.holds Tryd.pinned (.plain (OpenSpec.ofChange matrixCountsSpec)) matrixCountsCard

/-- THE SECOND FORM's CARD OF 'timblaw1.MatrixDets'. -/
def matrixDetsUptoCard : Claim7 := { stood := { row := matrixDetsUptoRow, standIns := [], harness := (true, "9d9c25ee1fc54c6c53b9c58c9bf9ef2137d3182e22676c75a2306ded78f1e535"), looks := false }, kinds := [], alts := [], laidByText := true, laidKinds := [.data, .data], laidTests := true, laidLooks := .later }
def MatrixDetsUptoCardSaid : Prop := Claim7.holds Tryd.pinned (.plain (OpenSpec.upto matrixDetsSpec)) matrixDetsUptoCard

/-- THE SECOND FORM's CARD OF 'timblaw1.MatrixSmiths'. -/
def matrixSmithsUptoCard : Claim7 := { stood := { row := matrixSmithsUptoRow, standIns := [], harness := (true, "9d9c25ee1fc54c6c53b9c58c9bf9ef2137d3182e22676c75a2306ded78f1e535"), looks := false }, kinds := [], alts := [], laidByText := true, laidKinds := [.data, .data], laidTests := true, laidLooks := .later }
def MatrixSmithsUptoCardSaid : Prop := Claim7.holds Tryd.pinned (.plain (OpenSpec.upto matrixSmithsSpec)) matrixSmithsUptoCard

/-- THE SECOND FORM's CARD OF 'timblaw1.MatrixSolutions'. -/
def matrixSolutionsUptoCard : Claim7 := { stood := { row := matrixSolutionsUptoRow, standIns := [], harness := (true, "9d9c25ee1fc54c6c53b9c58c9bf9ef2137d3182e22676c75a2306ded78f1e535"), looks := false }, kinds := [], alts := [], laidByText := true, laidKinds := [.data, .data], laidTests := true, laidLooks := .later }
def MatrixSolutionsUptoCardSaid : Prop := Claim7.holds Tryd.pinned (.plain (OpenSpec.upto matrixSolutionsSpec)) matrixSolutionsUptoCard

/-- THE SECOND FORM's CARD OF 'timbkeep1.MatrixDetTimes'. -/
def matrixDetTimesUptoCard : Claim7 := { stood := { row := matrixDetTimesUptoRow, standIns := [], harness := (true, "9d9c25ee1fc54c6c53b9c58c9bf9ef2137d3182e22676c75a2306ded78f1e535"), looks := false }, kinds := [], alts := [], laidByText := true, laidKinds := [.data, .data], laidTests := true, laidLooks := .later }
def MatrixDetTimesUptoCardSaid : Prop := Claim7.holds Tryd.pinned (.plain (OpenSpec.upto matrixDetTimesSpec)) matrixDetTimesUptoCard

/-- THE SECOND FORM's CARD OF 'timbkeep1.MatrixTurned'. -/
def matrixTurnedUptoCard : Claim7 := { stood := { row := matrixTurnedUptoRow, standIns := [], harness := (true, "9d9c25ee1fc54c6c53b9c58c9bf9ef2137d3182e22676c75a2306ded78f1e535"), looks := false }, kinds := [], alts := [], laidByText := true, laidKinds := [.data, .data], laidTests := true, laidLooks := .later }
def MatrixTurnedUptoCardSaid : Prop := Claim7.holds Tryd.pinned (.plain (OpenSpec.upto matrixTurnedSpec)) matrixTurnedUptoCard

/-- THE SECOND FORM's CARD OF 'timbkeep1.MatrixSmithChain'. -/
def matrixSmithChainUptoCard : Claim7 := { stood := { row := matrixSmithChainUptoRow, standIns := [], harness := (true, "9d9c25ee1fc54c6c53b9c58c9bf9ef2137d3182e22676c75a2306ded78f1e535"), looks := false }, kinds := [], alts := [], laidByText := true, laidKinds := [.data, .data], laidTests := true, laidLooks := .later }
def MatrixSmithChainUptoCardSaid : Prop := Claim7.holds Tryd.pinned (.plain (OpenSpec.upto matrixSmithChainSpec)) matrixSmithChainUptoCard

/-- THE SECOND FORM's CARD OF 'timbkeep1.MatrixCounts'. -/
def matrixCountsUptoCard : Claim7 := { stood := { row := matrixCountsUptoRow, standIns := [], harness := (true, "9d9c25ee1fc54c6c53b9c58c9bf9ef2137d3182e22676c75a2306ded78f1e535"), looks := false }, kinds := [], alts := [], laidByText := true, laidKinds := [.data, .data], laidTests := true, laidLooks := .later }
def MatrixCountsUptoCardSaid : Prop := Claim7.holds Tryd.pinned (.plain (OpenSpec.upto matrixCountsSpec)) matrixCountsUptoCard
end Rows
end Go.Proofs.YtgjblcfcbohjdaaDoor
