/- What the given rows list of package math/bits, opened; a world in which it is so. -/
import Derived.Test.YtgjblcfcbohjdaaDoorRows
import Derived.Test.YtgjblcfcbohjdaaDoorTz
import Derived.ProofKit
import Derived.LaidMore
import Derived.OpenShut
import Derived.Stop.Joined
import Derived.Lib.LaidTab
namespace Go.Proofs.YtgjblcfcbohjdaaDoor
open Go.ChangeShapes Go.WideShapes Go.ChangeAt Go.RowKit
set_option linter.unusedVariables false
set_option linter.unusedSimpArgs false

def laidL : List (String × DataW Unit) := [("math/bits.deBruijn32tab", Rows.laid_math_bits_deBruijn32tab), ("math/bits.deBruijn64tab", Rows.laid_math_bits_deBruijn64tab)]
set_option maxRecDepth 100000 in
theorem door_met (os : Os) (args : Array Value) : laidMetH Tryd.prog laidL ((World.doorLaid Tryd.prog 400 os).forCall (fun _ _ => 0) ⟨#[], args, []⟩).memory :=
  laidMetH_of_parts3 (fuel := 8) (laidMet_of_run' 8 (by kernel_rfl) (by kernel_rfl)) (by kernel_rfl) (by kernel_rfl)
theorem gTab : Tryd.prog.globalNamed "math/bits.deBruijn64tab" = some 1 := by kernel_rfl
theorem tTab : (Tryd.prog.globals[1]?).map (·.type) = some 71 := by kernel_rfl
theorem laid_tail {P : Program} {W : World} {x : String × DataW Unit} {l : List (String × DataW Unit)} (h : laidMet P (x :: l) W) : ∃ q, DataW.LaidVars P W l q := by
  obtain ⟨ps, hv, _⟩ := h
  obtain ⟨g, t, cs, f, p, q, h1, h2, h3, h4, h5, h6⟩ := hv
  exact ⟨_, h5⟩
def tzTabI : List Int := [0, 1, 56, 2, 57, 49, 28, 3, 61, 58, 42, 50, 38, 29, 17, 4, 62, 47, 59, 36, 45, 43, 51, 22, 53, 39, 33, 30, 24, 18, 12, 5, 63, 55, 48, 27, 60, 41, 37, 16, 46, 35, 44, 21, 52, 32, 23, 11, 54, 26, 40, 15, 34, 20, 31, 10, 25, 14, 19, 9, 13, 8, 7, 6]
theorem tzTabI_at : ∀ j : Nat, j < 64 → tzTabI.getD j 0 = (tzTab.getD j 0 : Nat) := by decide +kernel
theorem tab_of_laid {W : World} (h : laidMetH Tryd.prog laidL W) : TabW W := by
  rw [MakeChecks.laidMetH_plain _ _ _ (by kernel_rfl)] at h
  obtain ⟨q, g', t', cs, fuel, p, q', hg', ht', hvar, hd, _, _⟩ := laid_tail h
  obtain rfl := Option.some.inj (gTab.symm.trans hg')
  obtain rfl := Option.some.inj (tTab.symm.trans ht')
  have hcs := Lib.cells_of_tab (k := .u8) (zs := tzTabI) Tryd.underlying71 Tryd.underlying5 (by kernel_rfl) (by kernel_rfl) hd
  intro j hj
  have := World.var?_cell gTab hvar j
  rw [this, ← Array.getElem?_toList, hcs]
  have hl : tzTabI.length = 64 := rfl
  have e := tzTabI_at j hj
  rw [← e]
  simp [List.getD, hl, hj]
end Go.Proofs.YtgjblcfcbohjdaaDoor
