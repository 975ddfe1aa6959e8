/- Rank. -/
import Derived.Test.YtnpdlfnhpghkmaaInv
namespace Go.Proofs.Ytnpdlfnhpghkmaa
set_option linter.unusedVariables false
set_option linter.unusedSimpArgs false
open Go.RowKit

theorem IL.cut {w : World} {ad : Addr} {n k : Nat} {xs : List Int} (h : IL w (some ad) n xs) (hk : k ≤ n) : IL w (some (ad.add k)) (n - k) (xs.drop k) := by
  refine ⟨by rw [List.length_drop, h.len], by have := h.small; omega, fun hn => ?_⟩
  obtain ⟨ad', e, hlt, hc⟩ := h.mem (by omega)
  injection e with e
  subst e
  refine ⟨_, rfl, by rw [block_of_add]; exact hlt, fun j hj => ?_⟩
  rw [add_of_add, hc (k + j) (by omega)]
  simp [List.getD, List.getElem?_drop]

end Go.Proofs.Ytnpdlfnhpghkmaa
