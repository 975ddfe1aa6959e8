/- slices.Delete of one element of a slice that the call owns. -/
import Derived.Test.YthhcjnmlpojjeaaSmall2
import Derived.Test.YthhcjnmlpojjeaaBase1
namespace Go.Proofs.Ythhcjnmlpojjeaa
set_option linter.unusedVariables false
set_option linter.unusedSimpArgs false
open Go.RowKit

/-- ys written over xs from o on. -/
def setMany (xs : List Int) (o : Nat) : List Int → List Int
  | [] => xs
  | y :: ys => setMany (xs.set o y) (o + 1) ys
theorem setMany_length : ∀ (ys xs : List Int) (o : Nat), (setMany xs o ys).length = xs.length
  | [], _, _ => rfl
  | y :: ys, xs, o => by rw [setMany, setMany_length ys]; simp
theorem setMany_getD : ∀ (ys xs : List Int) (o j : Nat), o + ys.length ≤ xs.length → (setMany xs o ys).getD j 0 = if o ≤ j ∧ j < o + ys.length then ys.getD (j - o) 0 else xs.getD j 0
  | [], xs, o, j, _ => by rw [setMany, if_neg (by simp)]
  | y :: ys, xs, o, j, h => by
    simp only [List.length_cons] at h
    rw [setMany, setMany_getD ys _ _ _ (by simp; omega)]
    by_cases h1 : o + 1 ≤ j ∧ j < o + 1 + ys.length
    · rw [if_pos h1, if_pos (by simp; omega)]
      rw [show j - o = (j - (o + 1)) + 1 from by omega]
      simp [List.getD]
    · rw [if_neg h1]
      by_cases h2 : j = o
      · subst h2
        rw [if_pos (by simp)]
        simp [List.getD, show j < xs.length by omega]
      · rw [if_neg (by simp; omega)]
        have : ¬ o = j := fun e => h2 e.symm
        simp [List.getD, List.getElem?_set, this]

section
variable {w w' : World} {base g n c : Nat} {xs : List Int}
theorem OwnI.shrink {A : Option Addr} {m : Nat} (h : OwnI w base A n c xs) (hm : m ≤ n) (h0 : 0 < n) : OwnI w base A m c (xs.take m) := by
  have hl := h.len
  refine ⟨⟨by simp; omega, ?_⟩, by have := h.small; omega⟩
  rcases h.own.2 with ⟨_, h2⟩ | ⟨g, cap, cur, hv, hg, hh, hnc, hcm, hcs, ht⟩
  · omega
  · simp only [Value.slice.injEq, true_and] at hv
    obtain ⟨rfl, rfl⟩ := hv
    refine .inr ⟨g, c, cur, rfl, hg, hh, by omega, hcm, hcs, ?_⟩
    rw [List.map_take, ← ht, List.take_take]
    congr 1
    omega
end

/-- The list without its element i. -/
def without (xs : List Int) (i : Nat) : List Int := xs.take i ++ xs.drop (i + 1)
theorem without_length {xs : List Int} {i : Nat} (h : i < xs.length) : (without xs i).length = xs.length - 1 := by simp [without]; omega
theorem deleted {xs : List Int} {n i : Nat} (hl : xs.length = n) (hi : i < n) : ((setMany xs i (xs.drop (i + 1))).set (n - 1) 0).take (n - 1) = without xs i := by
  have hx : (setMany xs i (xs.drop (i + 1))).length = n := by rw [setMany_length, hl]
  apply List.ext_getElem?
  intro j
  by_cases hj : j < n - 1
  · rw [List.getElem?_take, if_pos hj, List.getElem?_set, if_neg (by omega)]
    have h1 := setMany_getD (xs.drop (i + 1)) xs i j (by simp; omega)
    have h2 : ((setMany xs i (xs.drop (i + 1)))[j]?) = some ((setMany xs i (xs.drop (i + 1))).getD j 0) := by
      simp [List.getD, List.getElem?_eq_getElem (show j < (setMany xs i (xs.drop (i + 1))).length by omega)]
    rw [h2, h1]
    have h3 : (without xs i)[j]? = some ((without xs i).getD j 0) := by
      simp [List.getD, List.getElem?_eq_getElem (show j < (without xs i).length by rw [without_length (by omega)]; omega)]
    rw [h3]
    congr 1
    by_cases hji : j < i
    · rw [if_neg (by omega)]
      simp only [without, List.getD, List.getElem?_append, List.length_take, List.getElem?_take]
      rw [if_pos (by omega), if_pos hji]
    · rw [if_pos (by simp; omega)]
      simp only [without, List.getD, List.getElem?_append, List.length_take, List.getElem?_drop]
      rw [if_neg (by omega), show min i xs.length = i from by omega]
  · rw [List.getElem?_eq_none (by simp; omega), List.getElem?_eq_none (by rw [without_length (by omega)]; omega)]

end Go.Proofs.Ythhcjnmlpojjeaa
