/- Sets of rows and columns as numbers; the minors of a matrix by sets, and their expansion along the first row. -/
import Derived.Test.YtgjblcfcbohjdaaDoorIncM
import Derived.Test.YtgjblcfcbohjdaaDoorTz
namespace Go.Proofs.YtgjblcfcbohjdaaDoor
set_option linter.unusedVariables false
set_option linter.unusedSimpArgs false
open Go.RowKit

def bitsL (S : Nat) : List Nat := (List.range 6).filter fun i => S.testBit i
theorem bitsL_length (S : Nat) : (bitsL S).length = sizeN S := rfl
/-- The elements below c. -/
def cntB (S c : Nat) : Nat := ((List.range c).filter fun i => S.testBit i).length
theorem low_facts : ∀ R : Nat, R < 64 → R ≠ 0 → bitsL R = lowN R :: bitsL (R - 2 ^ lowN R) ∧ R.testBit (lowN R) = true ∧ R - 2 ^ lowN R < R ∧ sizeN (R - 2 ^ lowN R) + 1 = sizeN R := by decide +kernel
theorem bit_facts : ∀ C : Nat, C < 64 → ∀ c : Nat, c < 6 → C.testBit c = true → bitsL (C - 2 ^ c) = (bitsL C).eraseIdx (cntB C c) ∧ (bitsL C).getD (cntB C c) 0 = c ∧ cntB C (c + 1) = cntB C c + 1 ∧ sizeN (C - 2 ^ c) + 1 = sizeN C ∧ cntB C c < 6 := by decide +kernel
theorem nobit_facts : ∀ C : Nat, C < 64 → ∀ c : Nat, c < 6 → C.testBit c = false → cntB C (c + 1) = cntB C c := by decide +kernel
theorem cnt_end : ∀ m : Nat, m < 7 → ∀ C : Nat, C < 2 ^ m → cntB C m = sizeN C := by decide +kernel
theorem cnt_le : ∀ m : Nat, m < 7 → ∀ C : Nat, C < 64 → cntB C m ≤ 6 := by decide +kernel
theorem low_below : ∀ n : Nat, n < 7 → ∀ R : Nat, R < 2 ^ n → R ≠ 0 → lowN R < n := by decide +kernel
theorem set_and : ∀ C : Nat, C < 64 → ∀ c : Nat, c < 6 → (bits BinOp.and IntKind.i64 (C : Int) ((2 ^ c : Nat) : Int) != 0) = C.testBit c := by decide +kernel
theorem set_andNot : ∀ C : Nat, C < 64 → ∀ c : Nat, c < 6 → C.testBit c = true → bits BinOp.andNot IntKind.i64 (C : Int) ((2 ^ c : Nat) : Int) = ((C - 2 ^ c : Nat) : Int) := by decide +kernel
theorem size_le : ∀ C : Nat, C < 64 → sizeN C ≤ 6 := by decide +kernel
theorem size_full : ∀ n : Nat, n < 7 → sizeN (2 ^ n - 1) = n ∧ bitsL (2 ^ n - 1) = List.range n := by decide +kernel
theorem bits_below : ∀ n : Nat, n < 7 → ∀ S : Nat, S < 2 ^ n → (∀ x ∈ bitsL S, x < n) ∧ sizeN S ≤ n := by decide +kernel
theorem bits_sorted (S : Nat) : Sorted (bitsL S) := by
  unfold bitsL Sorted
  exact List.Pairwise.filter _ List.pairwise_lt_range
theorem inc_bits {n S : Nat} (hn : n ≤ 6) (hS : S < 2 ^ n) : Inc n (sizeN S) (bitsL S) := ⟨bits_sorted S, rfl, (bits_below n (by omega) S hS).1⟩
theorem sets_all : ∀ n : Nat, n < 7 → ∀ K : Nat, K < 7 → ∀ p ∈ chs n K [] 0, (List.range (2 ^ n)).any (fun S => decide (bitsL S = p)) = true := by decide +kernel
theorem inc_set {n K : Nat} {p : List Nat} (hn : n ≤ 6) (hK : K ≤ 6) (h : Inc n K p) : ∃ S, S < 2 ^ n ∧ bitsL S = p ∧ sizeN S = K := by
  have h1 := sets_all n (by omega) K (by omega) p (mem_chs0.2 h)
  obtain ⟨S, hS, h2⟩ := List.any_eq_true.1 h1
  have h3 : bitsL S = p := of_decide_eq_true h2
  exact ⟨S, List.mem_range.1 hS, h3, by rw [← bitsL_length, h3]; exact h.2.1⟩

/-- The determinant of a square submatrix, by sets; 0 at other pairs. -/
def mnr (M : Mtx Int) (R C : Nat) : Int := if sizeN R = sizeN C then detR (sizeN R) (subM M (bitsL R) (bitsL C)) else 0
theorem mnr_zero (M : Mtx Int) {C : Nat} (h : sizeN 0 = sizeN C) : mnr M 0 C = 1 := by
  unfold mnr
  rw [if_pos h]
  rfl
theorem mnr_ne (M : Mtx Int) {R C : Nat} (h : sizeN R ≠ sizeN C) : mnr M R C = 0 := by unfold mnr; rw [if_neg h]
theorem mnr_full (M : Mtx Int) {n : Nat} (hn : n ≤ 6) : mnr M (2 ^ n - 1) (2 ^ n - 1) = detR n M := by
  obtain ⟨h1, h2⟩ := size_full n (by omega)
  unfold mnr
  rw [if_pos rfl, h1, h2]
  refine detR_congr fun i hi j hj => ?_
  unfold subM
  simp [List.getD, hi, hj]
theorem mnr_le {M : Mtx Int} {R C : Nat} (hR : R < 64) (h : ∀ i j, (M i j).natAbs ≤ 100) : (mnr M R C).natAbs ≤ fct (sizeN R) * 100 ^ sizeN R := by
  unfold mnr
  split
  · exact detR_le _ _ fun i _ j _ => h _ _
  · simp
/-- Term j of the expansion. -/
def expF (M : Mtx Int) (R C j : Nat) : Int := CR.sgR Int j * (subM M (bitsL R) (bitsL C) 0 j * detR (sizeN R - 1) fun a b => subM M (bitsL R) (bitsL C) (a + 1) (CR.skip j b))
def expP (M : Mtx Int) (R C c : Nat) : Int := CR.sumN (cntB C c) (expF M R C)
theorem expP_zero (M : Mtx Int) (R C : Nat) : expP M R C 0 = 0 := rfl
theorem getD_eraseIdx (l : List Nat) (j b : Nat) : (l.eraseIdx j).getD b 0 = l.getD (CR.skip j b) 0 := by
  unfold CR.skip
  simp only [List.getD_eq_getElem?_getD, List.getElem?_eraseIdx]
  split <;> rfl
theorem expF_set {M : Mtx Int} {R C c : Nat} (hR : R < 64) (h0 : R ≠ 0) (hC : C < 64) (hc : c < 6) (hb : C.testBit c = true) (hs : sizeN R = sizeN C) :
    expF M R C (cntB C c) = CR.sgR Int (cntB C c) * (M (lowN R) c * mnr M (R - 2 ^ lowN R) (C - 2 ^ c)) := by
  obtain ⟨l1, l2, l3, l4⟩ := low_facts R hR h0
  obtain ⟨b1, b2, b3, b4, b5⟩ := bit_facts C hC c hc hb
  unfold expF mnr
  rw [if_pos (by omega), show sizeN R - 1 = sizeN (R - 2 ^ lowN R) by omega]
  have e1 : subM M (bitsL R) (bitsL C) 0 (cntB C c) = M (lowN R) c := by unfold subM; rw [l1, b2]; rfl
  rw [e1]
  have e2 : (fun a b => subM M (bitsL R) (bitsL C) (a + 1) (CR.skip (cntB C c) b)) = subM M (bitsL (R - 2 ^ lowN R)) (bitsL (C - 2 ^ c)) := by
    funext a b
    unfold subM
    rw [b1, getD_eraseIdx]
    conv => lhs; rw [l1]
    rfl
  rw [e2]
theorem expP_set {M : Mtx Int} {R C c : Nat} (hR : R < 64) (h0 : R ≠ 0) (hC : C < 64) (hc : c < 6) (hb : C.testBit c = true) (hs : sizeN R = sizeN C) :
    expP M R C (c + 1) = expP M R C c + CR.sgR Int (cntB C c) * M (lowN R) c * mnr M (R - 2 ^ lowN R) (C - 2 ^ c) := by
  unfold expP
  rw [(bit_facts C hC c hc hb).2.2.1, CR.sumN_succ, expF_set hR h0 hC hc hb hs, Int.mul_assoc]
theorem expP_not {M : Mtx Int} {R C c : Nat} (hC : C < 64) (hc : c < 6) (hb : C.testBit c = false) : expP M R C (c + 1) = expP M R C c := by
  unfold expP
  rw [nobit_facts C hC c hc hb]
theorem expP_end {M : Mtx Int} {R C m : Nat} (hR : R < 64) (h0 : R ≠ 0) (hm : m ≤ 6) (hC : C < 2 ^ m) (hs : sizeN R = sizeN C) : expP M R C m = mnr M R C := by
  unfold expP mnr
  rw [cnt_end m (by omega) C hC, if_pos hs, ← hs]
  have := (low_facts R hR h0).2.2.2
  obtain ⟨k, hk⟩ : ∃ k, sizeN R = k + 1 := ⟨sizeN R - 1, by omega⟩
  unfold expF
  rw [hk]
  rfl
theorem fct5 : ∀ k : Nat, k < 6 → fct k * 100 ^ k ≤ 1200000000000 := by decide
theorem expF_le {M : Mtx Int} {R C j : Nat} (hR : R < 64) (h0 : R ≠ 0) (h : ∀ i j, (M i j).natAbs ≤ 100) : (expF M R C j).natAbs ≤ 120000000000000 := by
  have h1 : (CR.sgR Int j).natAbs ≤ 1 := by unfold CR.sgR; split <;> decide
  have h2 := detR_le (B := 100) (sizeN R - 1) (fun a b => subM M (bitsL R) (bitsL C) (a + 1) (CR.skip j b)) fun a _ b _ => h _ _
  have h3 := fct5 (sizeN R - 1) (by have := size_le R hR; omega)
  have h4 := abs_mul_le (h ((bitsL R).getD 0 0) ((bitsL C).getD j 0)) (Nat.le_trans h2 h3)
  have h5 := abs_mul_le h1 h4
  exact Nat.le_trans h5 (by omega)
theorem expP_le {M : Mtx Int} {R C m : Nat} (hR : R < 64) (h0 : R ≠ 0) (hC : C < 64) (hm : m ≤ 6) (h : ∀ i j, (M i j).natAbs ≤ 100) : (expP M R C m).natAbs ≤ 720000000000000 := by
  unfold expP
  have h1 := natAbs_sum_le (B := 120000000000000) (n := cntB C m) (f := expF M R C) fun j _ => expF_le hR h0 h
  have h2 := cnt_le m (by omega) C hC
  exact Nat.le_trans h1 (by omega)
theorem fct6 : ∀ k : Nat, k < 7 → fct k * 100 ^ k ≤ 720000000000000 := by decide
theorem mnr_small {M : Mtx Int} {R C : Nat} (hR : R < 64) (h : ∀ i j, (M i j).natAbs ≤ 100) : (mnr M R C).natAbs ≤ 720000000000000 := Nat.le_trans (mnr_le hR h) (fct6 _ (by have := size_le R hR; omega))
theorem mnr_small5 {M : Mtx Int} {R C : Nat} (hR : R < 64) (h6 : sizeN R < 6) (h : ∀ i j, (M i j).natAbs ≤ 100) : (mnr M R C).natAbs ≤ 1200000000000 := Nat.le_trans (mnr_le hR h) (fct5 _ h6)
theorem sgR_cases (j : Nat) : CR.sgR Int j = 1 ∨ CR.sgR Int j = -1 := by unfold CR.sgR; split <;> simp
theorem sgR_next (j : Nat) : CR.sgR Int (j + 1) = -CR.sgR Int j := by
  unfold CR.sgR
  rcases Nat.mod_two_eq_zero_or_one j with h | h
  · rw [if_neg (by omega), if_pos h]
  · rw [if_pos (by omega), if_neg (by omega)]; rfl
/-- The row of minors of a set of rows. -/
def mnrL (M : Mtx Int) (m R : Nat) : List Int := (List.range (2 ^ m)).map fun C => mnr M R C
theorem mnrL_length (M : Mtx Int) (m R : Nat) : (mnrL M m R).length = 2 ^ m := by simp [mnrL]
theorem mnrL_getD (M : Mtx Int) {m R C : Nat} (h : C < 2 ^ m) : (mnrL M m R).getD C 0 = mnr M R C := by simp [mnrL, List.getD, h]
end Go.Proofs.YtgjblcfcbohjdaaDoor
