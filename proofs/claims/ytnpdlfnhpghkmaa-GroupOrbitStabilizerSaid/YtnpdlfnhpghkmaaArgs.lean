/- A slice of integers that came in as an argument. -/
import Derived.Test.YtnpdlfnhpghkmaaLib
import Derived.ProofKit
import Derived.SizedLaws
namespace Go.Proofs.Ytnpdlfnhpghkmaa
set_option linter.unusedVariables false
set_option linter.unusedSimpArgs false
open Go.RowKit

theorem IL.of_row {W : World} {a : Addr} {len cap : Nat} {zs : List Int} (hl : len ≤ cap) (hz : zs.length = cap) (hr : cap * 8 ≤ 140737488351232) (hcell : ∀ i, i < zs.length → W.cell? (a.add i) = some (.int .i64 (zs.getD i 0))) : IL W (some a) len (zs.take len) := by
  refine ⟨by rw [List.length_take]; omega, by omega, fun h0 => ⟨a, rfl, ?_, fun j hj => ?_⟩⟩
  · have := World.block_lt_of_cell? W _ (hcell 0 (by omega))
    rwa [block_of_add] at this
  · rw [hcell j (by omega)]
    simp [List.getD, List.getElem?_take, hj]
end Go.Proofs.Ytnpdlfnhpghkmaa
