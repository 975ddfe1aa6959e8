/- A sketch for a package that reduces words by pushing and popping (shape: r[:n-1] or append). -/
import Derived.Test.YtbckgomidoelaaaFreeC
namespace Go.Proofs.Ytbckgomidoelaaa
set_option linter.unusedVariables false
set_option linter.unusedSimpArgs false
open Go.RowKit

theorem snc_pop {L : List Int} {x : Int} {m : Nat} (hl : L.length = m) (hm : 0 < m) (h : L.getD (m - 1) 0 = -x) : snc L x = L.take (m - 1) := by
  have hne : L ≠ [] := fun e => by rw [e] at hl; simp at hl; omega
  obtain ⟨C, g, rfl⟩ : ∃ C g, L = C ++ [g] := ⟨L.dropLast, L.getLast hne, (List.dropLast_concat_getLast hne).symm⟩
  subst hl
  rw [getD_last] at h
  simp [snc, h]
theorem snc_push {L : List Int} {x : Int} {m : Nat} (hl : L.length = m) (h : m = 0 ∨ L.getD (m - 1) 0 ≠ -x) : snc L x = L ++ [x] := by
  rcases Nat.eq_zero_or_pos m with h0 | h0
  · obtain rfl : L = [] := List.eq_nil_of_length_eq_zero (by omega)
    rfl
  · have hne : L ≠ [] := fun e => by rw [e] at hl; simp at hl; omega
    obtain ⟨C, g, rfl⟩ : ∃ C g, L = C ++ [g] := ⟨L.dropLast, L.getLast hne, (List.dropLast_concat_getLast hne).symm⟩
    subst hl
    rw [getD_last] at h
    have hg : g ≠ -x := by
      rcases h with h | h
      · simp at h
      · exact h
    have hg2 : ¬ x = -g := by omega
    simp [snc, hg, hg2]
theorem snc_mem {L : List Int} {x y : Int} (h : y ∈ snc L x) : y ∈ L ∨ y = x := by
  by_cases hm : L.length = 0 ∨ L.getD (L.length - 1) 0 ≠ -x
  · rw [snc_push rfl hm] at h
    simpa using h
  · have h1 : 0 < L.length ∧ L.getD (L.length - 1) 0 = -x := by
      constructor
      · rcases Nat.eq_zero_or_pos L.length with h0 | h0
        · exact absurd (.inl h0) hm
        · exact h0
      · by_cases h2 : L.getD (L.length - 1) 0 = -x
        · exact h2
        · exact absurd (.inr h2) hm
    rw [snc_pop rfl h1.1 h1.2] at h
    exact .inl (List.mem_of_mem_take h)
theorem foldl_snc_mem {y : Int} : ∀ (xs L : List Int), y ∈ xs.foldl snc L → y ∈ L ∨ y ∈ xs
  | [], L, h => .inl h
  | x :: t, L, h => by
    rcases foldl_snc_mem t (snc L x) h with h | h
    · rcases snc_mem h with h | h
      · exact .inl h
      · exact .inr (by simp [h])
    · exact .inr (by simp [h])

end Go.Proofs.Ytbckgomidoelaaa
