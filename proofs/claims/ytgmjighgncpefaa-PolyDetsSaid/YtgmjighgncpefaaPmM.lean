/- Sums of terms as windows of coefficients; wrapping to 64 bits. -/
import Derived.Test.YtgmjighgncpefaaPmC
import Derived.Test.YtgmjighgncpefaaPoK
import Derived.Test.YtgmjighgncpefaaDelete
namespace Go.Proofs.Ytgmjighgncpefaa
set_option linter.unusedVariables false
set_option linter.unusedSimpArgs false
open Go.RowKit

def wr64 (a : Int) : Int := IntKind.i64.wrap a
theorem wr64_eq (a : Int) : wr64 a = (a + 9223372036854775808) % 18446744073709551616 - 9223372036854775808 := by unfold wr64; rw [IntKind.wrap_i64]
theorem wr64_congr {a b : Int} (h : a % 18446744073709551616 = b % 18446744073709551616) : wr64 a = wr64 b := by rw [wr64_eq, wr64_eq]; omega
theorem wr64_mod (a : Int) : wr64 a % 18446744073709551616 = a % 18446744073709551616 := by rw [wr64_eq]; omega
theorem wr64_small {a : Int} (h : a.natAbs ≤ 9223372036854775807) : wr64 a = a := by rw [wr64_eq]; omega
theorem wr64_step (a s x y : Int) : IntKind.i64.wrap (wr64 a + IntKind.i64.wrap (s * x * wr64 y)) = wr64 (a + s * x * y) := by
  show wr64 (wr64 a + wr64 (s * x * wr64 y)) = _
  apply wr64_congr
  have h : (s * x * wr64 y) % 18446744073709551616 = (s * x * y) % 18446744073709551616 := by
    rw [Int.mul_emod, wr64_mod, ← Int.mul_emod]
  have h2 := wr64_mod (s * x * wr64 y)
  have h3 := wr64_mod a
  omega
theorem map_wr64 {ys : List Int} (h : ∀ y ∈ ys, y.natAbs ≤ 9223372036854775807) : ys.map wr64 = ys := by
  conv => rhs; rw [← List.map_id ys]
  exact List.map_congr_left fun y hy => wr64_small (h y hy)
theorem getD_wr64 (ys : List Int) (j : Nat) : (ys.map wr64).getD j 0 = wr64 (ys.getD j 0) := by
  simp only [List.getD, List.getElem?_map]
  cases ys[j]? <;> rfl
theorem set_wr64 (ys : List Int) (j : Nat) (v : Int) : (ys.map wr64).set j (wr64 v) = (ys.set j v).map wr64 := by rw [List.map_set]
theorem LP.of_set {b : Int} {ys : List Int} {j : Nat} (h : j < ys.length) (c : Int) : LP.of b (ys.set j (ys.getD j 0 + c)) = LP.of b ys + LP.term (b + j) c := LP.ext fun k => by
  rw [LP.co_add, LP.co_term, LP.co_of, LP.co_of, List.length_set]
  by_cases hk : b + j = k
  · subst hk
    rw [if_pos (by omega), if_pos (by omega), if_pos rfl, show (b + (j : Int) - b).toNat = j by omega]
    simp [List.getD, h]
  · rw [if_neg hk, Int.add_zero]
    by_cases h2 : b ≤ k ∧ k < b + ys.length
    · rw [if_pos h2, if_pos h2]
      have : j ≠ (k - b).toNat := by omega
      simp [List.getD, List.getElem?_set, this]
    · rw [if_neg h2, if_neg h2]
theorem LP.of_repl (b : Int) (n : Nat) : LP.of b (List.replicate n 0) = 0 := LP.ext fun k => by
  rw [LP.co_of, LP.co_zero]
  split
  · simp [List.getD, List.getElem?_replicate]
    split <;> rfl
  · rfl
/-- What stands in the sum after i letters of p and k of the minor. -/
def apS (S : LP) (sg lo : Int) (xs : List Int) (b : Int) (ys : List Int) (i k : Nat) : LP :=
  S + LP.term 0 sg * (LP.of lo (xs.take i) * LP.of b ys) + LP.term 0 sg * (LP.term (lo + i) (xs.getD i 0) * LP.of b (ys.take k))
theorem LP.of_nil (lo : Int) : LP.of lo [] = 0 := rfl
theorem apS_zero (S : LP) (sg lo : Int) (xs : List Int) (b : Int) (ys : List Int) : apS S sg lo xs b ys 0 0 = S := by
  unfold apS
  simp only [List.take_zero, LP.of_nil, CR.zero_mul, CR.mul_zero, CR.add_zero]
theorem apS_step (S : LP) (sg lo : Int) (xs : List Int) (b : Int) {ys : List Int} (i : Nat) {k : Nat} (hk : k < ys.length) : apS S sg lo xs b ys i (k + 1) = apS S sg lo xs b ys i k + LP.term (lo + i + (b + k)) (sg * xs.getD i 0 * ys.getD k 0) := by
  unfold apS
  have e : LP.term 0 sg * (LP.term (lo + i) (xs.getD i 0) * LP.term (b + k) (ys.getD k 0)) = LP.term (lo + i + (b + k)) (sg * xs.getD i 0 * ys.getD k 0) := by
    rw [LP.term_mul, LP.term_mul, Int.mul_assoc, Int.zero_add]
  rw [LP.of_take hk, CR.mul_add, CR.mul_add, e, ← CR.add_assoc (R := LP)]
theorem apS_row (S : LP) (sg lo : Int) {xs : List Int} (b : Int) (ys : List Int) {i : Nat} (hi : i < xs.length) : apS S sg lo xs b ys i ys.length = apS S sg lo xs b ys (i + 1) 0 := by
  unfold apS
  simp only [List.take_length, List.take_zero, LP.of_nil, CR.mul_zero, CR.add_zero]
  rw [LP.of_take hi, CR.add_mul, CR.mul_add, CR.add_assoc]
theorem apS_end (S : LP) (sg lo : Int) (xs : List Int) (b : Int) (ys : List Int) : apS S sg lo xs b ys xs.length 0 = S + LP.term 0 sg * (LP.of lo xs * LP.of b ys) := by
  unfold apS
  simp only [List.take_length, List.take_zero, LP.of_nil, CR.mul_zero, CR.add_zero]
/-- The matrix of the given rows and columns. -/
def pmM (pss : List (List Po)) (cs : List Int) : Mtx LP := fun i j => LP.of ((pss.getD i []).getD (cs.getD j 0).toNat (0, [])).1 ((pss.getD i []).getD (cs.getD j 0).toNat (0, [])).2
theorem without_getD {xs : List Int} {i b : Nat} (h : i < xs.length) : (without xs i).getD b 0 = xs.getD (CR.skip i b) 0 := by
  unfold without CR.skip
  simp only [List.getD, List.getElem?_append, List.length_take, List.getElem?_take, List.getElem?_drop]
  rw [Nat.min_eq_left (by omega)]
  by_cases h1 : b < i
  · rw [if_pos h1, if_pos h1, if_pos h1]
  · rw [if_neg h1, if_neg h1, show i + 1 + (b - i) = b + 1 by omega]
theorem without_mem {xs : List Int} {i : Nat} {x : Int} (h : x ∈ without xs i) : x ∈ xs := by
  unfold without at h
  rcases List.mem_append.1 h with h | h
  · exact List.mem_of_mem_take h
  · exact List.mem_of_mem_drop h
/-- The expansion along the first row, the first k columns. -/
def pmE (pss : List (List Po)) (cs : List Int) (k n : Nat) : LP := CR.sumN k fun j => CR.sgR LP j * (pmM pss cs 0 j * detR n fun a b => pmM pss cs (a + 1) (CR.skip j b))
theorem pmE_zero (pss : List (List Po)) (cs : List Int) (n : Nat) : pmE pss cs 0 n = 0 := rfl
theorem pmE_full (pss : List (List Po)) (cs : List Int) (n : Nat) : pmE pss cs (n + 1) n = detR (n + 1) (pmM pss cs) := rfl
theorem sgR_tm0 (j : Nat) : CR.sgR LP j = LP.term 0 (CR.sgR Int j) := by
  unfold CR.sgR
  split
  · rfl
  · show -LP.term 0 1 = LP.term 0 (-1)
    refine LP.ext fun k => ?_
    rw [LP.co_neg, LP.co_term, LP.co_term]
    split <;> rfl
theorem pmE_step (ps : List Po) (pss : List (List Po)) {cs : List Int} {k : Nat} (hk : k < cs.length) {lo : Int} {xs : List Int} (hp : ps.getD (cs.getD k 0).toNat (0, []) = (lo, xs)) (n : Nat) (D : LP) (hD : D = detR n (pmM pss (without cs k))) :
    pmE (ps :: pss) cs (k + 1) n = pmE (ps :: pss) cs k n + LP.term 0 (CR.sgR Int k) * (LP.of lo xs * D) := by
  unfold pmE
  rw [CR.sumN_succ, ← sgR_tm0, hD]
  congr 1
  congr 1
  congr 1
  · unfold pmM
    show LP.of (ps.getD (cs.getD k 0).toNat (0, [])).1 _ = _
    rw [hp]
    show LP.of lo (ps.getD (cs.getD k 0).toNat (0, [])).2 = _
    rw [hp]
  · congr 1
    funext a b
    unfold pmM
    rw [without_getD hk]
    rfl
theorem sgI_cases (j : Nat) : CR.sgR Int j = 1 ∨ CR.sgR Int j = -1 := by
  unfold CR.sgR
  split
  · exact .inl rfl
  · exact .inr rfl
end Go.Proofs.Ytgmjighgncpefaa
