/- Sums and products of small polynomials fit. -/
import Derived.Test.YtgmjighgncpefaaBase
import Derived.Test.YtgmjighgncpefaaPoK
namespace Go.Proofs.Ytgmjighgncpefaa
set_option linter.unusedVariables false
set_option linter.unusedSimpArgs false
open Go.RowKit
namespace LP
/-- A right polynomial. -/
def Rt (x : LP) : Prop := pfl (canon x).1 (canon x).2 = 0
theorem mulR_canon {x y : LP} (hx : Rt x) (hy : Rt y) (h : Rt (x * y)) : mulR (canon x).1 (canon x).2 (canon y).1 (canon y).2 = (0, (canon (x * y)).1, (canon (x * y)).2) := by
  unfold Rt at *
  unfold mulR two2
  rw [if_pos hx, if_pos hy, of_canon, of_canon, fit_ok h]
theorem addR_canon {x y : LP} (hx : Rt x) (hy : Rt y) (h : Rt (x + y)) : addR (canon x).1 (canon x).2 (canon y).1 (canon y).2 = (0, (canon (x + y)).1, (canon (x + y)).2) := by
  unfold Rt at *
  unfold addR two2
  rw [if_pos hx, if_pos hy, of_canon, of_canon, fit_ok h]
theorem subR_canon {x y : LP} (hx : Rt x) (hy : Rt y) (h : Rt (x + -y)) : subR (canon x).1 (canon x).2 (canon y).1 (canon y).2 = (0, (canon (x + -y)).1, (canon (x + -y)).2) := by
  unfold Rt at *
  unfold subR two2
  rw [if_pos hx, if_pos hy, of_canon, of_canon, fit_ok h]
theorem Rt.wf {x : LP} (h : Rt x) : (Lit.int .i64 (canon x).1).wf = true := by
  obtain ⟨_, h1, h2, _⟩ := pfl_zero h
  have h3 : IntKind.i64.min = -9223372036854775808 := by decide
  simp [Lit.wf, h3]
  omega
end LP
theorem rawC_len (raw : List Int) : (rawC raw).length ≤ 12 := by unfold rawC; rw [List.length_map, List.length_take]; omega
theorem rawC_le (raw : List Int) : ∀ c ∈ rawC raw, c.natAbs ≤ 50 := fun c hc => by
  obtain ⟨x, _, rfl⟩ := List.mem_map.1 hc
  have h1 := Int.emod_nonneg x (show (101 : Int) ≠ 0 by omega)
  have h2 := Int.emod_lt_of_pos x (show (0 : Int) < 101 by omega)
  omega
theorem mkP_sm (low : Int) (raw : List Int) : LP.Sm (mkP low raw) (-10) 21 50 := by
  have h1 := Int.emod_nonneg low (show (21 : Int) ≠ 0 by omega)
  have h2 := Int.emod_lt_of_pos low (show (0 : Int) < 21 by omega)
  exact (LP.Sm.of_ (rawC_len raw) (rawC_le raw)).mono (by omega) (by omega) (Nat.le_refl _)
/-- A product with such a polynomial. -/
theorem mkP_mul (low : Int) (raw : List Int) {y : LP} {l h : Int} {C : Nat} (hy : LP.Sm y l h C) : LP.Sm (mkP low raw * y) (l - 10) (h + 21) (12 * (50 * C)) := by
  have h1 := Int.emod_nonneg low (show (21 : Int) ≠ 0 by omega)
  have h2 := Int.emod_lt_of_pos low (show (0 : Int) < 21 by omega)
  exact (LP.Sm.mul_of (rawC_len raw) (rawC_le raw) hy).mono (by omega) (by omega) (Nat.le_refl _)
end Go.Proofs.Ytgmjighgncpefaa
