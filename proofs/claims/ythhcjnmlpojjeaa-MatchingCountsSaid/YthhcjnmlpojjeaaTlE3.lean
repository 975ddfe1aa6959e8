/- timbref1.Planar's closure, all of it. -/
import Derived.Test.YthhcjnmlpojjeaaTlE2
namespace Go.Proofs.Ythhcjnmlpojjeaa
set_option linter.unusedVariables false
set_option linter.unusedSimpArgs false
open Go.RowKit

theorem ptT_pre (i : Nat) (q : Nat → List (List Nat)) (d : List Nat) (k : Nat) : ∃ r, ptT i q d d.length = ptT i q d k ++ r := by
  rw [ptT_all]
  unfold ptT
  conv => enter [1, r, 1, 3]; rw [← List.take_append_drop k d]
  exact ⟨_, parts_append i q _ _ 0⟩
theorem unset2 {D : List Nat} {i k a b : Nat} (hi : i < D.length) (hk : k < D.length) (h1 : D.getD i 0 = 0) (h2 : D.getD k 0 = 0) : ((((D.set i a).set k b).set i 0).set k 0) = D := by
  refine List.ext_getElem (by simp) fun j h3 h4 => ?_
  simp only [List.getElem_set]
  have e1 : D[i] = 0 := by simpa [List.getD, hi] using h1
  have e2 : D[k] = 0 := by simpa [List.getD, hk] using h2
  by_cases g1 : k = j
  · subst g1; simp [e2]
  · by_cases g2 : i = j
    · subst g2; simp [g1, e1]
    · simp [g1, g2]
end Go.Proofs.Ythhcjnmlpojjeaa
