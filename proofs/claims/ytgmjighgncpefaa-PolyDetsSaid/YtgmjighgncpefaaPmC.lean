/- What package polymatrix's functions are to answer; determinants of polynomials. -/
import Derived.Test.YtgmjighgncpefaaSqF
import Derived.Test.YtgmjighgncpefaaN1
import Derived.Test.YtgmjighgncpefaaBase
namespace Go.Proofs.Ytgmjighgncpefaa
set_option linter.unusedVariables false
set_option linter.unusedSimpArgs false
open Go.RowKit

/-- The entries as polynomials. -/
def mP (pss : List (List Po)) : Mtx LP := fun i j => LP.of ((pss.getD i []).getD j (0, [])).1 ((pss.getD i []).getD j (0, [])).2
noncomputable def detPR (pss : List (List Po)) : LP.PR := if sqE pss = 0 then LP.fit (detR pss.length (mP pss)) else (sqE pss, 0, [])
/-- Package polymatrix, as the document asks. -/
structure PmC : Prop where
  check : ∀ (A : Option Addr) (n c : Nat) (pss : List (List Po)) (w : World), SPP w A n c pss → Calls Try.prog 7 #[.slice A n c] w fun e w' => e = .returned (.int .i64 (sqE pss)) ∧ Below w.heap.size w w'
  det : ∀ (A : Option Addr) (n c : Nat) (pss : List (List Po)) (w : World), SPP w A n c pss → Calls Try.prog 5 #[.slice A n c] w (GivesPE w (detPR pss))

theorem polyE_zero {p : Po} (h : polyE p = 0) : LP.pfl p.1 p.2 = 0 ∧ p.2.length ≤ 20 ∧ -20 ≤ p.1 ∧ p.1 ≤ 20 ∧ ∀ c ∈ p.2, c.natAbs ≤ 1000 := by
  unfold polyE at h
  by_cases h1 : LP.pfl p.1 p.2 = 0
  · rw [if_neg (by simp [h1])] at h
    by_cases h2 : 20 < p.2.length ∨ 20 < p.1 ∨ p.1 < -20
    · rw [if_pos h2] at h; omega
    · rw [if_neg h2] at h
      by_cases h3 : p.2.any (fun c => decide (1000 < c) || decide (c < -1000)) = true
      · rw [if_pos h3] at h; omega
      · refine ⟨h1, by omega, by omega, by omega, fun c hc => ?_⟩
        rw [Bool.not_eq_true, List.any_eq_false] at h3
        have h4 := h3 c hc
        simp at h4
        omega
  · rw [if_pos h1] at h; exact absurd h h1
theorem rowE_zero {n : Nat} : ∀ {ps : List Po}, rowE n ps = 0 → ∀ p ∈ ps, polyE p = 0
  | [], _, p, hp => by simp at hp
  | q :: r, h, p, hp => by
    unfold rowE at h
    by_cases h1 : polyE q = 0
    · rw [if_neg (by simp [h1])] at h
      rcases List.mem_cons.1 hp with rfl | h2
      · exact h1
      · exact rowE_zero h p h2
    · rw [if_pos h1] at h; exact absurd h h1
theorem rowsE_zero {n : Nat} : ∀ {pss : List (List Po)}, rowsE n pss = 0 → ∀ r ∈ pss, r.length = n ∧ ∀ p ∈ r, polyE p = 0
  | [], _, p, hp => by simp at hp
  | q :: r, h, p, hp => by
    unfold rowsE at h
    by_cases h1 : q.length = n
    · rw [if_neg (by simp [h1])] at h
      by_cases h2 : rowE n q = 0
      · rw [if_neg (by simp [h2])] at h
        rcases List.mem_cons.1 hp with rfl | h3
        · exact ⟨h1, rowE_zero h2⟩
        · exact rowsE_zero h p h3
      · rw [if_pos h2] at h; exact absurd h h2
    · rw [if_pos h1] at h; omega
theorem sqE_zero {pss : List (List Po)} (h : sqE pss = 0) : pss.length ≤ 4 ∧ ∀ r ∈ pss, r.length = pss.length ∧ ∀ p ∈ r, polyE p = 0 := by
  unfold sqE at h
  by_cases h1 : 4 < pss.length
  · rw [if_pos h1] at h; omega
  · rw [if_neg h1] at h
    exact ⟨by omega, rowsE_zero h⟩
theorem rowE_all {n : Nat} : ∀ {ps : List Po}, (∀ p ∈ ps, polyE p = 0) → rowE n ps = 0
  | [], _ => rfl
  | q :: r, h => by
    unfold rowE
    rw [if_neg (by simp [h q (by simp)])]
    exact rowE_all fun p hp => h p (by simp [hp])
theorem rowsE_all {n : Nat} : ∀ {pss : List (List Po)}, (∀ r ∈ pss, r.length = n ∧ ∀ p ∈ r, polyE p = 0) → rowsE n pss = 0
  | [], _ => rfl
  | q :: r, h => by
    unfold rowsE
    rw [if_neg (by simp [(h q (by simp)).1]), if_neg (by simp [rowE_all (n := n) (h q (by simp)).2])]
    exact rowsE_all fun p hp => h p (by simp [hp])
theorem sqE_all {pss : List (List Po)} (h4 : pss.length ≤ 4) (h : ∀ r ∈ pss, r.length = pss.length ∧ ∀ p ∈ r, polyE p = 0) : sqE pss = 0 := by
  unfold sqE
  rw [if_neg (by omega)]
  exact rowsE_all h
theorem getD_of_lt {α : Type} {l : List α} {i : Nat} (d : α) (h : i < l.length) : l.getD i d = l[i] := by simp [List.getD, List.getElem?_eq_getElem h]
theorem mP_entry {pss : List (List Po)} (h : sqE pss = 0) {i j : Nat} (hi : i < pss.length) (hj : j < pss.length) : ∃ p : Po, (pss.getD i []).getD j (0, []) = p ∧ polyE p = 0 := by
  obtain ⟨h4, hr⟩ := sqE_zero h
  have h1 := hr pss[i] (List.getElem_mem _)
  rw [getD_of_lt [] hi, getD_of_lt (0, []) (by rw [h1.1]; exact hj)]
  exact ⟨_, rfl, h1.2 _ (List.getElem_mem _)⟩
theorem poly_n1 {p : Po} (h : polyE p = 0) : LP.N1 (LP.of p.1 p.2) 40 20000 ∧ ∀ k, (LP.co (LP.of p.1 p.2) k).natAbs ≤ 1000 := by
  obtain ⟨_, h1, h2, h3, h4⟩ := polyE_zero h
  refine ⟨(LP.N1.of_ p.2 p.1 40 1000 (by omega) (by omega) h4).mono (Nat.le_refl _) (by omega), LP.co_of_le h4⟩
theorem fitL_fit (x : LP) : (if LP.pfl (LP.canon x).1 (LP.canon x).2 = 0 then (0, (LP.canon x).1, (LP.canon x).2) else (2, 0, [])) = LP.fit x := rfl
/-- Two by two. -/
theorem detR_two {R : Type} [CR R] (M : Mtx R) : detR 2 M = M 0 0 * M 1 1 + -(M 0 1 * M 1 0) := by
  have h1 : ∀ N : Mtx R, detR 1 N = N 0 0 := fun N => by
    show 0 + CR.sgR R 0 * (N 0 0 * 1) = N 0 0
    rw [CR.zero_add, CR.mul_one, CR.sgR_zero, CR.one_mul]
  show 0 + CR.sgR R 0 * (M 0 0 * detR 1 _) + CR.sgR R 1 * (M 0 1 * detR 1 _) = _
  rw [h1, h1, CR.zero_add, CR.sgR_zero, CR.one_mul, show CR.sgR R 1 = -1 from rfl, CR.neg_mul, CR.one_mul]
  rfl
theorem det_t11t : detPR [[(1, [1]), (0, [1])], [(0, [1]), (1, [1])]] = (0, 0, [-1, 0, 1]) := by
  have h : LP.canon (detR 2 (mP [[(1, [1]), (0, [1])], [(0, [1]), (1, [1])]])) = (0, [-1, 0, 1]) := by
    refine LP.canon_eq (.inr ⟨by decide, by decide, by decide⟩) ?_
    rw [detR_two]
    show LP.of 0 [-1, 0, 1] = LP.of 1 [1] * LP.of 1 [1] + -(LP.of 0 [1] * LP.of 0 [1])
    rw [LP.of_one, LP.of_one, LP.term_mul, LP.term_mul]
    refine LP.ext fun k => ?_
    show LP.co (LP.term 0 (-1) + (LP.term 1 0 + (LP.term 2 1 + 0))) k = _
    rw [LP.co_add, LP.co_add, LP.co_add, LP.co_add, LP.co_neg, LP.co_term, LP.co_term, LP.co_term, LP.co_term, LP.co_term, LP.co_zero]
    split <;> split <;> split <;> omega
  unfold detPR
  rw [show sqE [[(1, [1]), (0, [1])], [(0, [1]), (1, [1])]] = 0 from by decide, if_pos rfl]
  show LP.fit (detR 2 _) = _
  unfold LP.fit
  rw [h]
  decide
end Go.Proofs.Ytgmjighgncpefaa
