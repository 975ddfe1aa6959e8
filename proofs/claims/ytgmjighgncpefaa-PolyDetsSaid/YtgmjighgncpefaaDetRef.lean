/- timbref1.Determinant. -/
import Derived.Test.YtgmjighgncpefaaPermRef
import Derived.Test.YtgmjighgncpefaaParity
namespace Go.Proofs.Ytgmjighgncpefaa
set_option linter.unusedVariables false
set_option linter.unusedSimpArgs false
open Go.RowKit

/-- The entries of a matrix. -/
def matF (xss : List (List Int)) : Mtx Int := fun i j => (xss.getD i []).getD j 0
/-- The product of the first k entries. -/
def pTo (M : Mtx Int) (p : List Nat) : Nat → Int
  | 0 => 1
  | k + 1 => pTo M p k * M k (p.getD k 0)
theorem pTo_drop (M : Mtx Int) (p : List Nat) : ∀ k, k ≤ p.length → pTo M p k * prodP M k (p.drop k) = prodP M 0 p
  | 0, _ => by rw [List.drop_zero]; exact Int.one_mul _
  | k + 1, h => by
    rw [← pTo_drop M p k (by omega), List.drop_eq_getElem_cons (by omega : k < p.length)]
    show pTo M p k * M k (p.getD k 0) * _ = pTo M p k * (M k p[k] * _)
    rw [getD_eq (by omega), Int.mul_assoc]
theorem pTo_all (M : Mtx Int) (p : List Nat) : pTo M p p.length = prodP M 0 p := by
  have h := pTo_drop M p p.length (Nat.le_refl _)
  rw [List.drop_length] at h
  rw [← h]
  exact (Int.mul_one _).symm
theorem abs_mul_le {a b : Int} {x y : Nat} (ha : a.natAbs ≤ x) (hb : b.natAbs ≤ y) : (a * b).natAbs ≤ x * y := by
  rw [Int.natAbs_mul]
  exact Nat.mul_le_mul ha hb
theorem pTo_le {M : Mtx Int} {p : List Nat} {B : Nat} (h : ∀ k, k < p.length → (M k (p.getD k 0)).natAbs ≤ B) : ∀ k, k ≤ p.length → (pTo M p k).natAbs ≤ B ^ k
  | 0, _ => by simp [pTo]
  | k + 1, hk => by
    rw [Nat.pow_succ]
    exact abs_mul_le (pTo_le h k (by omega)) (h k (by omega))
theorem pow_small {B k n : Nat} (hB : B ≤ 100) (hk : k ≤ n) (hn : n ≤ 6) : B ^ k ≤ 1000000000000 := by
  calc B ^ k ≤ 100 ^ k := Nat.pow_le_pow_left hB k
    _ ≤ 100 ^ 6 := Nat.pow_le_pow_right (by omega) (by omega)
    _ = 1000000000000 := by decide
theorem wrap_wrap_add (a b : Int) : wrap64 (wrap64 a + b) = wrap64 (a + b) := by
  unfold wrap64
  omega
def termI (M : Mtx Int) (p : List Nat) : Int := sg (invL p) * prodP M 0 p
def stepI (M : Mtx Int) (s : Int) (p : List Nat) : Int := wrap64 (s + termI M p)
theorem foldl_stepI (M : Mtx Int) : ∀ (l : List (List Nat)) (s : Int), l.foldl (stepI M) (wrap64 s) = wrap64 (s + sumLR (l.map (termI M)))
  | [], s => by
    show wrap64 s = wrap64 (s + 0)
    rw [Int.add_zero]
  | p :: t, s => by
    show t.foldl (stepI M) (wrap64 (wrap64 s + termI M p)) = wrap64 (s + (termI M p + _))
    rw [wrap_wrap_add, foldl_stepI M t, Int.add_assoc]
theorem grownBy_set1 (w : World) (b i : Nat) (v : Value) : w.grownBy (w.setCell ⟨b, i, none⟩ v) (some b) :=
  ⟨rfl, rfl, rfl, by simp, fun k _ hk => Below.heap_setCell w _ v k (fun e => hk (by rw [e]))⟩
theorem natAbs_sum_le {B : Nat} {f : Nat → Int} : ∀ {n : Nat}, (∀ i, i < n → (f i).natAbs ≤ B) → (CR.sumN n f).natAbs ≤ n * B
  | 0, _ => by simp [CR.sumN_zero]
  | n + 1, h => by
    rw [CR.sumN_succ]
    have h1 := natAbs_sum_le (n := n) fun i hi => h i (by omega)
    have h2 := h n (by omega)
    have h3 := Int.natAbs_add_le (CR.sumN n f) (f n)
    rw [Nat.add_one_mul]
    exact Nat.le_trans h3 (by omega)
theorem detR_le {B : Nat} : ∀ (n : Nat) (M : Mtx Int), (∀ i, i < n → ∀ j, j < n → (M i j).natAbs ≤ B) → (detR n M).natAbs ≤ fct n * B ^ n
  | 0, M, _ => by simp [detR, fct]
  | n + 1, M, h => by
    have := natAbs_sum_le (B := B * (fct n * B ^ n)) (n := n + 1) (f := fun j => CR.sgR Int j * (M 0 j * detR n fun a b => M (a + 1) (CR.skip j b))) (fun j hj => by
      have h1 : (CR.sgR Int j).natAbs ≤ 1 := by unfold CR.sgR; split <;> decide
      have h2 := abs_mul_le (h 0 (by omega) j hj) (detR_le n (fun a b => M (a + 1) (CR.skip j b)) fun a ha b hb => h _ (by omega) _ (skip_lt hb))
      have h3 := abs_mul_le h1 h2
      rwa [Nat.one_mul] at h3)
    refine Nat.le_trans this (Nat.le_of_eq ?_)
    show _ = (n + 1) * fct n * B ^ (n + 1)
    rw [Nat.pow_succ]
    ac_rfl

/-- A square matrix that came in before w0 was as it is. -/
structure DJ (w0 : World) (g bm : Nat) (A : Option Addr) (n c : Nat) (s : Int) (w : World) : Prop where
  below : Below w0.heap.size w0 w
  sum : Blk w g 3 #[.int .i64 s]
  box : Blk w bm 41 #[.slice A n c]
  val : ∃ z, s = wrap64 z

end Go.Proofs.Ytgmjighgncpefaa
