/- Dividing a product of small polynomials by one of them. -/
import Derived.Test.YtbajelbfgekilaaLpG
namespace Go.Proofs.Ytbajelbfgekilaa
set_option linter.unusedVariables false
set_option linter.unusedSimpArgs false
open Go.RowKit
namespace LP
theorem divR_zero {x y : LP} (hx : Rt x) (hy : Rt y) (h : (canon y).2.length = 0) : divR (canon x).1 (canon x).2 (canon y).1 (canon y).2 = (6, 0, []) := by
  unfold Rt at hx hy
  unfold divR two2 overR
  rw [if_pos hx, if_pos hy, if_pos h]
theorem divR_lead {x y : LP} (hx : Rt x) (hy : Rt y) (h : (canon y).2.length ≠ 0) (hl : (canon y).2.getD ((canon y).2.length - 1) 0 ≠ 1) (hl2 : (canon y).2.getD ((canon y).2.length - 1) 0 ≠ -1) : divR (canon x).1 (canon x).2 (canon y).1 (canon y).2 = (3, 0, []) := by
  unfold Rt at hx hy
  unfold divR two2 overR
  rw [if_pos hx, if_pos hy, if_neg h, if_pos]
  intro e
  generalize (canon y).2.getD ((canon y).2.length - 1) 0 = z at *
  have h1 : z ∣ 1 := ⟨z, e.symm⟩
  have h2 : z.natAbs = 1 := Nat.dvd_one.1 (Int.natAbs_dvd_natAbs.2 h1)
  omega
theorem divR_mul {x y : LP} (hx : Rt x) (hy : Rt y) (hxy : Rt (x * y)) (h : (canon y).2.length ≠ 0) (hl : (canon y).2.getD ((canon y).2.length - 1) 0 = 1 ∨ (canon y).2.getD ((canon y).2.length - 1) 0 = -1) :
    divR (canon (x * y)).1 (canon (x * y)).2 (canon y).1 (canon y).2 = (0, (canon x).1, (canon x).2) := by
  have hx0 := hx
  unfold Rt at hx hy hxy
  obtain ⟨_, _, _, cx, ax⟩ := pfl_zero hx
  obtain ⟨_, _, _, cy, _⟩ := pfl_zero hy
  have hll : (canon y).2.getD ((canon y).2.length - 1) 0 * (canon y).2.getD ((canon y).2.length - 1) 0 = 1 := by rcases hl with e | e <;> rw [e] <;> rfl
  unfold divR two2 overR
  rw [if_pos hxy, if_pos hy, if_neg h, if_neg (by simpa using hll), of_canon, of_canon]
  have key : divS y ((canon y).1 + (canon y).2.length - 1) ((canon y).2.getD ((canon y).2.length - 1) 0) ((canon (x * y)).2.length + 1 - (canon y).2.length) ((canon (x * y)).1 + (canon (x * y)).2.length - (canon y).2.length - (canon y).1) (x * y) 0 = (0, 0, x) := by
    by_cases hA : (canon x).2 = []
    · have hx1 : x = 0 := by rw [← of_canon x, hA]; rfl
      subst hx1
      rw [CR.zero_mul, canon_zero]
      rw [show ([] : List Int).length + 1 - (canon y).2.length = 0 by simp; omega]
      rfl
    · have hB : (canon y).2 ≠ [] := fun e => h (by rw [e]; rfl)
      have hm := canon_mul cx cy hA hB
      rw [of_canon, of_canon] at hm
      have pA : 0 < (canon x).2.length := List.length_pos_iff.2 hA
      rw [hm.1, hm.2, show (canon x).2.length + (canon y).2.length - 1 + 1 - (canon y).2.length = (canon x).2.length by omega]
      rw [show (canon x).1 + (canon y).1 + (((canon x).2.length + (canon y).2.length - 1 : Nat) : Int) - (canon y).2.length - (canon y).1 = (canon x).1 + (canon x).2.length - 1 by omega]
      have hd := divS_mul (la := (canon x).1) (lb := (canon y).1) (by omega : 0 < (canon y).2.length) hll ax (canon x).2.length 0 (Nat.le_refl _)
      rw [List.take_length, of_canon, of_canon, CR.zero_add] at hd
      exact hd
  rw [key]
  show (if (0 : Int) ≠ 0 then _ else if (canon 0).2.length ≠ 0 then _ else fit x) = _
  rw [if_neg (by decide), canon_zero, if_neg (by decide), fit_ok hx0]
end LP
end Go.Proofs.Ytbajelbfgekilaa
