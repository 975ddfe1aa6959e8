/- Several texts in one. -/
import Derived.Test.YtbedpgcbfbjgiaaDoorPart2
import Derived.Test.YtbedpgcbfbjgiaaDoorPart3
import Derived.Test.YtbedpgcbfbjgiaaDoorBase1
import Derived.Test.YtbedpgcbfbjgiaaDoorPart1
/- Colorings as solutions of linear equations (mathematics of stages 15 and 16). -/
namespace Go.Proofs.YtbedpgcbfbjgiaaDoor
set_option linter.unusedVariables false
set_option linter.unusedSimpArgs false
open CR

/-- What a letter does to colors: the matrix of the letter for t = -1. -/
def kL (x : Int) : Mtx Int := fun r c =>
  if r + 1 = x.natAbs then (if 0 < x then (if c = r then 2 else if c = r + 1 then -1 else 0) else (if c = r + 1 then 1 else 0))
  else if r = x.natAbs then (if 0 < x then (if c + 1 = r then 1 else 0) else (if c + 1 = r then -1 else if c = r then 2 else 0))
  else if r = c then 1 else 0
theorem kL_row {x : Int} {n r : Nat} (h0 : x ≠ 0) (h1 : x.natAbs < n) (hr : r < n) (v : Nat → Int) : sumN n (fun k => kL x r k * v k) =
    if r + 1 = x.natAbs then (if 0 < x then 2 * v r - v (r + 1) else v (r + 1)) else if r = x.natAbs then (if 0 < x then v (r - 1) else 2 * v r - v (r - 1)) else v r := by
  unfold kL
  by_cases e1 : r + 1 = x.natAbs
  · simp only [if_pos e1]
    by_cases hx : 0 < x
    · simp only [if_pos hx]
      rw [sumN_two (a := r) (b := r + 1) hr (by omega) (by omega) (fun i _ h2 h3 => by rw [if_neg h2, if_neg h3]; exact Int.zero_mul _), if_pos rfl, if_neg (by omega), if_pos rfl]
      show 2 * v r + -1 * v (r + 1) = _
      omega
    · simp only [if_neg hx]
      rw [sumN_single (k := r + 1) (by omega) (fun i _ h2 => by rw [if_neg h2]; exact Int.zero_mul _), if_pos rfl]
      exact Int.one_mul _
  · simp only [if_neg e1]
    by_cases e2 : r = x.natAbs
    · simp only [if_pos e2]
      by_cases hx : 0 < x
      · simp only [if_pos hx]
        rw [sumN_single (k := r - 1) (by omega) (fun i _ h2 => by rw [if_neg (by omega)]; exact Int.zero_mul _), if_pos (by omega)]
        exact Int.one_mul _
      · simp only [if_neg hx]
        rw [sumN_two (a := r - 1) (b := r) (by omega) hr (by omega) (fun i _ h2 h3 => by rw [if_neg (by omega), if_neg h3]; exact Int.zero_mul _), if_pos (by omega), if_neg (by omega), if_pos rfl]
        show -1 * v (r - 1) + 2 * v r = _
        omega
    · simp only [if_neg e2]
      rw [sumN_single (k := r) hr (fun i _ h2 => by rw [if_neg (fun e => h2 e.symm)]; exact Int.zero_mul _), if_pos rfl]
      exact Int.one_mul _
/-- What a word does to colors. -/
def kM (n : Nat) : List Int → Mtx Int
  | [] => oneM
  | x :: w => mulM n (kM n w) (kL x)
theorem dvd_sumN {m : Int} {f : Nat → Int} : ∀ {n : Nat}, (∀ i, i < n → m ∣ f i) → m ∣ sumN n f
  | 0, _ => Int.dvd_zero m
  | n + 1, h => Int.dvd_add (dvd_sumN fun i hi => h i (by omega)) (h n (by omega))
theorem cSt_lin {m x : Int} {c : List Int} {n : Nat} (hl : c.length = n) (h0 : x ≠ 0) (h1 : x.natAbs < n) {j : Nat} (hj : j < n) : m ∣ (cSt m x c).getD j 0 - sumN n fun k => kL x j k * c.getD k 0 := by
  have e : ∀ z : Int, m ∣ z % m - z := fun z => ⟨-(z / m), by
    have h1 := Int.emod_def z m
    have h2 := Int.mul_neg m (z / m)
    omega⟩
  rw [cSt_getD hl h0 h1 hj, kL_row h0 h1 hj]
  by_cases e1 : j + 1 = x.natAbs
  · rw [if_pos e1, if_pos e1]
    split
    · exact e _
    · rw [Int.sub_self]; exact Int.dvd_zero m
  · rw [if_neg e1, if_neg e1]
    by_cases e2 : j = x.natAbs
    · rw [if_pos e2, if_pos e2]
      split
      · rw [Int.sub_self]; exact Int.dvd_zero m
      · exact e _
    · rw [if_neg e2, if_neg e2, Int.sub_self]; exact Int.dvd_zero m
theorem sumN_subI (f g : Nat → Int) : ∀ n, sumN n (fun i => f i - g i) = sumN n f - sumN n g
  | 0 => rfl
  | n + 1 => by
    show sumN n _ + (f n - g n) = sumN n f + f n - (sumN n g + g n)
    rw [sumN_subI f g n]
    omega
theorem cCol_lin {m : Int} {n : Nat} : ∀ {w c : List Int}, (∀ x ∈ w, x ≠ 0 ∧ x.natAbs < n) → c.length = n → ∀ j, j < n → m ∣ (cCol m w c).getD j 0 - sumN n fun k => kM n w j k * c.getD k 0
  | [], c, _, _, j, hj => by
    show m ∣ c.getD j 0 - sumN n fun k => oneM j k * c.getD k 0
    rw [sumN_single (k := j) hj (fun i _ h2 => by
      show (if j = i then (1 : Int) else 0) * _ = 0
      rw [if_neg (fun e => h2 e.symm)]; exact Int.zero_mul _)]
    have e : (oneM j j : Int) = 1 := if_pos rfl
    rw [e, Int.one_mul, Int.sub_self]
    exact Int.dvd_zero m
  | x :: w, c, hw, hl, j, hj => by
    have hx := hw x (by simp)
    have h1 := cCol_lin (m := m) (w := w) (c := cSt m x c) (fun y hy => hw y (by simp [hy])) (by rw [cSt_length]; exact hl) j hj
    have h2 : m ∣ sumN n fun k => kM n w j k * ((cSt m x c).getD k 0 - sumN n fun l => kL x k l * c.getD l 0) := dvd_sumN fun i hi => Int.dvd_mul_of_dvd_right (cSt_lin hl hx.1 hx.2 hi)
    have e3 : (sumN n fun k => kM n w j k * sumN n fun l => kL x k l * c.getD l 0) = sumN n fun k => kM n (x :: w) j k * c.getD k 0 := by
      show _ = sumN n fun k => (sumN n fun l => kM n w j l * kL x l k) * c.getD k 0
      have e4 : (sumN n fun k => (sumN n fun l => kM n w j l * kL x l k) * c.getD k 0) = sumN n fun k => sumN n fun l => kM n w j l * kL x l k * c.getD k 0 := sumN_congr fun i _ => by
        rw [Int.mul_comm]
        rw [show c.getD i 0 * (sumN n fun l => kM n w j l * kL x l i) = sumN n fun l => c.getD i 0 * (kM n w j l * kL x l i) from (sumN_mul _ _ _).symm]
        exact sumN_congr fun l _ => Int.mul_comm _ _
      rw [e4, sumN_swap]
      exact sumN_congr fun i _ => by
        rw [show kM n w j i * (sumN n fun l => kL x i l * c.getD l 0) = sumN n fun l => kM n w j i * (kL x i l * c.getD l 0) from (sumN_mul _ _ _).symm]
        exact sumN_congr fun l _ => (Int.mul_assoc _ _ _).symm
    have e5 : (sumN n fun k => kM n w j k * ((cSt m x c).getD k 0 - sumN n fun l => kL x k l * c.getD l 0)) = (sumN n fun k => kM n w j k * (cSt m x c).getD k 0) - sumN n fun k => kM n (x :: w) j k * c.getD k 0 := by
      rw [← e3, ← sumN_subI]
      exact sumN_congr fun i _ => Int.mul_sub _ _ _
    rw [e5] at h2
    have h6 := Int.dvd_add h1 h2
    show m ∣ (cCol m w (cSt m x c)).getD j 0 - _
    rw [show (cCol m w (cSt m x c)).getD j 0 - (sumN n fun k => kM n (x :: w) j k * c.getD k 0) = (cCol m w (cSt m x c)).getD j 0 - (sumN n fun k => kM n w j k * (cSt m x c).getD k 0) + ((sumN n fun k => kM n w j k * (cSt m x c).getD k 0) - sumN n fun k => kM n (x :: w) j k * c.getD k 0) by omega]
    exact h6
/-- The equations of the colorings. -/
def cEq (n : Nat) (w : List Int) : List (List Int) := (List.range n).map fun i => (List.range n).map fun j => kM n w i j - oneM i j
theorem fix_iff {m : Nat} {n : Nat} {w : List Int} (hm : 1 ≤ m) (hw : ∀ x ∈ w, x ≠ 0 ∧ x.natAbs < n) (t : Nat) : cCol m w (digs m n t) = digs m n t ↔ solB (cEq n w) m t = true := by
  have hc := digs_isC (n := n) hm t
  have hf := hc.word hw
  have hd : ∀ k, k < n → (digs m n t).getD k 0 = digI m t k := fun k hk => by simp [digs, digI, List.getD, hk]
  have key : ∀ j, j < n → ((cCol m w (digs m n t)).getD j 0 = (digs m n t).getD j 0 ↔ (m : Int) ∣ sumN n fun k => (kM n w j k - oneM j k) * digI m t k) := fun j hj => by
    have h1 := cCol_lin (m := m) hw hc.len j hj
    have h2 := hf.col j hj
    have h3 := hc.col j hj
    have e : (sumN n fun k => (kM n w j k - oneM j k) * digI m t k) = (sumN n fun k => kM n w j k * (digs m n t).getD k 0) - (digs m n t).getD j 0 := by
      have e2 : (sumN n fun k => (oneM j k : Int) * (digs m n t).getD k 0) = (digs m n t).getD j 0 := by
        rw [sumN_single (k := j) hj (fun i _ h2 => by
          show (if j = i then (1 : Int) else 0) * _ = 0
          rw [if_neg (fun e => h2 e.symm)]; exact Int.zero_mul _)]
        have e : (oneM j j : Int) = 1 := if_pos rfl
        rw [e, Int.one_mul]
      rw [← e2, ← sumN_subI]
      exact sumN_congr fun i hi => by rw [hd i hi]; exact Int.sub_mul _ _ _
    rw [e]
    generalize (cCol (m : Int) w (digs m n t)).getD j 0 = a at *
    generalize (digs m n t).getD j 0 = b at *
    generalize (sumN n fun k => kM n w j k * (digs m n t).getD k 0) = s at *
    refine ⟨fun h => ?_, fun h => ?_⟩
    · subst h
      have := Int.dvd_neg.2 h1
      rwa [Int.neg_sub] at this
    · have h4 := Int.dvd_add h1 h
      rw [show a - s + (s - b) = a - b by omega] at h4
      obtain ⟨q, hq⟩ := h4
      have hq0 : q = 0 := by
        rcases Int.lt_trichotomy q 0 with h | h | h
        · have := Int.mul_le_mul_of_nonneg_left (show q ≤ -1 by omega) (show (0 : Int) ≤ m by omega)
          omega
        · exact h
        · have := Int.mul_le_mul_of_nonneg_left (show 1 ≤ q by omega) (show (0 : Int) ≤ m by omega)
          omega
      rw [hq0, Int.mul_zero] at hq
      omega
  have hs : solB (cEq n w) m t = true ↔ ∀ j, j < n → (m : Int) ∣ sumN n fun k => (kM n w j k - oneM j k) * digI m t k := by
    unfold solB cEq
    rw [List.all_eq_true]
    have hr : ∀ j, j < n → ((dotI ((List.range n).map fun k => kM n w j k - oneM j k) (digI m t) % (m : Int) == 0) = true ↔ (m : Int) ∣ sumN n fun k => (kM n w j k - oneM j k) * digI m t k) := fun j hj => by
      have e : dotI ((List.range n).map fun k => kM n w j k - oneM j k) (digI m t) = sumN n fun k => (kM n w j k - oneM j k) * digI m t k := by
        unfold dotI
        rw [List.length_map, List.length_range]
        exact sumN_congr fun i hi => by simp [List.getD, hi]
      rw [e, beq_iff_eq]
      exact ⟨Int.dvd_of_emod_eq_zero, Int.emod_eq_zero_of_dvd⟩
    refine ⟨fun h j hj => (hr j hj).1 (h _ (List.mem_map.2 ⟨j, List.mem_range.2 hj, rfl⟩)), fun h r hr2 => ?_⟩
    obtain ⟨j, hj, rfl⟩ := List.mem_map.1 hr2
    exact (hr j (List.mem_range.1 hj)).2 (h j (List.mem_range.1 hj))
  rw [hs]
  refine ⟨fun h j hj => (key j hj).1 (by rw [h]), fun h => list_extI (by rw [hf.len, hc.len]) fun j hj => (key j (by rw [hf.len] at hj; exact hj)).2 (h j (by rw [hf.len] at hj; exact hj))⟩
/-- The number of colorings is a number of solutions. -/
theorem cntC_solN {m n : Nat} {w : List Int} (hm : 1 ≤ m) (hw : ∀ x ∈ w, x ≠ 0 ∧ x.natAbs < n) : cntC n m w = solN (cEq n w) n m := by
  unfold cntC solN
  refine List.countP_congr fun t _ => ?_
  rw [decide_eq_true_iff]
  exact fix_iff hm hw t
end Go.Proofs.YtbedpgcbfbjgiaaDoor
/- The matrix of the differences that package coloring builds has the solutions that the colorings are. -/
namespace Go.Proofs.YtbedpgcbfbjgiaaDoor
set_option linter.unusedVariables false
set_option linter.unusedSimpArgs false
open CR

/-- The list with the color 1 at one position. -/
def uCol (m : Int) (n t : Nat) : List Int := (List.replicate n 0).set t (1 % m)
theorem uCol_length (m : Int) (n t : Nat) : (uCol m n t).length = n := by simp [uCol]
theorem uCol_getD {m : Int} {n t j : Nat} (hj : j < n) : (uCol m n t).getD j 0 = if j = t then 1 % m else 0 := by
  unfold uCol
  simp only [List.getD, List.getElem?_set, List.length_replicate]
  by_cases e : t = j
  · subst e; simp [hj]
  · rw [if_neg e, if_neg (fun h => e h.symm)]
    simp [hj]
theorem uCol_isC {m : Int} {n t : Nat} (hm : 1 ≤ m) : IsC m n (uCol m n t) := by
  refine ⟨uCol_length _ _ _, fun j hj => ?_⟩
  rw [uCol_getD hj]
  split
  · exact ⟨Int.emod_nonneg _ (by omega), Int.emod_lt_of_pos _ (by omega)⟩
  · omega
/-- One element of the matrix. -/
def dEl (m : Int) (n : Nat) (w : List Int) (i t : Nat) : Int := (cCol m w (uCol m n t)).getD i 0 - (uCol m n t).getD i 0
/-- The matrix of the differences. -/
def dMx (m : Int) (n : Nat) (w : List Int) : List (List Int) := (List.range n).map fun i => (List.range n).map fun t => dEl m n w i t
theorem dMx_length (m : Int) (n : Nat) (w : List Int) : (dMx m n w).length = n := by simp [dMx]
theorem dMx_row {m : Int} {n i : Nat} (w : List Int) (h : i < n) : (dMx m n w).getD i [] = (List.range n).map fun t => dEl m n w i t := by simp [dMx, List.getD, h]
theorem dEl_cong {m : Int} {n : Nat} {w : List Int} (hw : ∀ x ∈ w, x ≠ 0 ∧ x.natAbs < n) {i t : Nat} (hi : i < n) (ht : t < n) : m ∣ dEl m n w i t - (kM n w i t - oneM i t) := by
  have h1 := cCol_lin (m := m) hw (uCol_length m n t) i hi
  have e : (sumN n fun k => kM n w i k * (uCol m n t).getD k 0) = kM n w i t * (1 % m) := by
    rw [sumN_single (k := t) ht (fun j hj h2 => by rw [uCol_getD hj, if_neg h2]; exact Int.mul_zero _), uCol_getD ht, if_pos rfl]
  rw [e] at h1
  have h2 : m ∣ 1 % m - 1 := ⟨-(1 / m), by
    have h1 := Int.emod_def 1 m
    have h2 := Int.mul_neg m (1 / m)
    omega⟩
  have h3 : m ∣ kM n w i t * (1 % m) - kM n w i t := by
    have := Int.dvd_mul_of_dvd_right (b := kM n w i t) h2
    rw [Int.mul_sub, Int.mul_one] at this
    exact this
  have h4 : m ∣ (uCol m n t).getD i 0 - oneM i t := by
    rw [uCol_getD hi]
    show m ∣ _ - (if i = t then (1 : Int) else 0)
    split
    · exact h2
    · exact Int.dvd_zero m
  have h5 := Int.dvd_sub (Int.dvd_add h1 h3) h4
  unfold dEl
  generalize (cCol m w (uCol m n t)).getD i 0 = a at *
  generalize (uCol m n t).getD i 0 = b at *
  generalize kM n w i t * (1 % m) = c at *
  generalize kM n w i t = d at *
  generalize (oneM i t : Int) = f at *
  rw [show a - b - (d - f) = a - c + (c - d) - (b - f) by omega]
  exact h5
theorem solB_dMx {m n : Nat} {w : List Int} (hw : ∀ x ∈ w, x ≠ 0 ∧ x.natAbs < n) (t : Nat) : solB (dMx m n w) m t = solB (cEq n w) m t := by
  have hr : ∀ (r : Nat → Int), dotI ((List.range n).map r) (digI m t) = sumN n fun k => r k * digI m t k := fun r => by
    unfold dotI
    rw [List.length_map, List.length_range]
    exact sumN_congr fun i hi => by simp [List.getD, hi]
  have key : ∀ j, j < n → ((dotI ((List.range n).map fun t => dEl m n w j t) (digI m t) % (m : Int) == 0) = (dotI ((List.range n).map fun k => kM n w j k - oneM j k) (digI m t) % (m : Int) == 0)) := fun j hj => by
    rw [hr, hr]
    have hd : (m : Int) ∣ (sumN n fun k => dEl m n w j k * digI m t k) - sumN n fun k => (kM n w j k - oneM j k) * digI m t k := by
      rw [← sumN_subI]
      refine dvd_sumN fun i hi => ?_
      rw [← Int.sub_mul]
      exact Int.dvd_mul_of_dvd_left (dEl_cong hw hj hi)
    generalize (sumN n fun k => dEl m n w j k * digI m t k) = a at *
    generalize (sumN n fun k => (kM n w j k - oneM j k) * digI m t k) = b at *
    have he : a % (m : Int) = b % (m : Int) := Int.emod_eq_emod_iff_emod_sub_eq_zero.2 (Int.emod_eq_zero_of_dvd hd)
    rw [he]
  unfold solB dMx cEq
  rw [List.all_map, List.all_map]
  refine Bool.eq_iff_iff.2 ?_
  rw [List.all_eq_true, List.all_eq_true]
  refine ⟨fun h j hj => ?_, fun h j hj => ?_⟩
  · have := h j hj
    show (dotI _ _ % _ == 0) = true
    rw [← key j (List.mem_range.1 hj)]
    exact this
  · have := h j hj
    show (dotI _ _ % _ == 0) = true
    rw [key j (List.mem_range.1 hj)]
    exact this
theorem solN_dMx {m n : Nat} {w : List Int} (hm : 1 ≤ m) (hw : ∀ x ∈ w, x ≠ 0 ∧ x.natAbs < n) : solN (dMx m n w) n m = cntC n m w := by
  rw [cntC_solN hm hw]
  unfold solN
  refine List.countP_congr fun t _ => ?_
  rw [solB_dMx hw]
theorem dEl_le {m n : Nat} {w : List Int} (hm : 1 ≤ m) (h13 : m ≤ 13) (hw : ∀ x ∈ w, x ≠ 0 ∧ x.natAbs < n) {i t : Nat} (hi : i < n) : dEl m n w i t ≤ 100 ∧ -100 ≤ dEl m n w i t := by
  have h1 := ((uCol_isC (m := (m : Int)) (n := n) (t := t) (by omega)).word hw).col i hi
  have h2 := (uCol_isC (m := (m : Int)) (n := n) (t := t) (by omega)).col i hi
  unfold dEl
  omega
theorem dMx_fault {m n : Nat} {w : List Int} (hm : 1 ≤ m) (h13 : m ≤ 13) (h6 : n ≤ 6) (hw : ∀ x ∈ w, x ≠ 0 ∧ x.natAbs < n) : mfault (dMx m n w) = 0 := by
  refine mfault_ok (k := n) (by rw [dMx_length]; exact h6) h6 fun r hr => ?_
  obtain ⟨i, hi, rfl⟩ := List.mem_map.1 hr
  refine ⟨by simp, fun x hx => ?_⟩
  obtain ⟨t, ht, rfl⟩ := List.mem_map.1 hx
  exact dEl_le hm h13 hw (List.mem_range.1 hi)
theorem dMx_sol {m n : Nat} {w : List Int} (hm : 1 ≤ m) (h13 : m ≤ 13) (h1 : 1 ≤ n) (h6 : n ≤ 6) (hw : ∀ x ∈ w, x ≠ 0 ∧ x.natAbs < n) : solE (dMx m n w) m = 0 ∧ solV (dMx m n w) m = (cntC n m w : Int) := by
  have he : solE (dMx m n w) m = 0 := by
    unfold solE
    rw [if_pos (dMx_fault hm h13 h6 hw), if_neg (by omega)]
  refine ⟨he, ?_⟩
  have hc : colsM (dMx m n w) = n := by
    unfold colsM
    rw [dMx_row w (by omega)]
    simp
  unfold solV
  rw [if_pos he, Int.toNat_natCast, hc, solN_dMx hm hw]
end Go.Proofs.YtbedpgcbfbjgiaaDoor
/- A matrix of integers that a call builds, row by row. -/
namespace Go.Proofs.YtbedpgcbfbjgiaaDoor
set_option linter.unusedVariables false
set_option linter.unusedSimpArgs false
open Go.RowKit

/-- The first k rows of a matrix of rows of n integers: the table in block go, row i in block gr i. -/
structure MaI (w : World) (base go n : Nat) (gr : Nat → Nat) (k : Nat) (X : Nat → Nat → Int) : Prop where
  blk : ∃ cs, Blk w go 22 cs
  out : ∀ i, i < k → w.cell? ⟨go, i, none⟩ = some (.slice (some ⟨gr i, 0, none⟩) n n)
  row : ∀ i, i < k → OwnI w base (some ⟨gr i, 0, none⟩) n n ((List.range n).map (X i))
  ne : ∀ i, i < k → gr i ≠ go
  inj : ∀ i j, i < k → j < k → gr i = gr j → i = j
  lt : ∀ i, i < k → gr i < w.heap.size
  base_le : base ≤ go ∧ ∀ i, i < k → base ≤ gr i
section
variable {w w' : World} {base go n k : Nat} {gr : Nat → Nat} {X Y : Nat → Nat → Int}
theorem MaI.go_lt (h : MaI w base go n gr k X) : go < w.heap.size := by
  obtain ⟨cs, hc⟩ := h.blk
  exact hc.lt
theorem MaI.below (h : MaI w base go n gr k X) (hb : Below w.heap.size w w') : MaI w' base go n gr k X := by
  refine ⟨?_, fun i hi => ?_, fun i hi => (KeepT.below hb).ownI (h.row i hi), h.ne, h.inj, fun i hi => Nat.lt_of_lt_of_le (h.lt i hi) hb.size, h.base_le⟩
  · obtain ⟨cs, hc⟩ := h.blk
    exact ⟨cs, hc.below hb hc.lt⟩
  · rw [← h.out i hi]
    exact hb.cell (p := ⟨go, i, none⟩) h.go_lt
theorem MaI.cell (h : MaI w base go n gr k X) {i j : Nat} (hi : i < k) (hj : j < n) : w.cell? ⟨gr i, j, none⟩ = some (.int .i64 (X i j)) := by
  rw [(h.row i hi).cell hj]
  simp [List.getD, hj]
theorem MaI.frozen (h : MaI w base go n gr k X) {i : Nat} (hi : i < k) (j : Nat) : w.frozen? ⟨gr i, j, none⟩ = false := (h.row i hi).frozen j
/-- One entry. -/
theorem MaI.set_ (h : MaI w base go n gr k X) {r c : Nat} (hr : r < k) (hc : c < n) (v : Int) : MaI (w.setCell ⟨gr r, c, none⟩ (.int .i64 v)) base go n gr k (fun i j => if i = r ∧ j = c then v else X i j) := by
  have hne : go ≠ gr r := fun e => h.ne r hr e.symm
  refine ⟨?_, fun i hi => ?_, fun i hi => ?_, h.ne, h.inj, fun i hi => ?_, h.base_le⟩
  · obtain ⟨cs, hc2⟩ := h.blk
    exact ⟨cs, hc2.far hne _⟩
  · rw [← h.out i hi]
    exact World.cell?_of_block (w := w) (a := ⟨go, i, none⟩) (Below.heap_setCell w ⟨gr r, c, none⟩ _ go hne)
  · by_cases e : i = r
    · subst e
      have h2 := (h.row i hi).set_ c v
      have e2 : ((List.range n).map (X i)).set c v = (List.range n).map fun j => if i = i ∧ j = c then v else X i j := by
        refine List.ext_getElem (by simp) fun j h3 h4 => ?_
        rw [List.getElem_set]
        simp only [List.getElem_map, List.getElem_range, true_and]
        by_cases e3 : c = j
        · rw [if_pos e3, if_pos e3.symm]
        · rw [if_neg e3, if_neg (Ne.symm e3)]
      rwa [e2] at h2
    · have hg : gr i ≠ gr r := fun e2 => e (h.inj i r hi hr e2)
      have e2 : (List.range n).map (fun j => if i = r ∧ j = c then v else X i j) = (List.range n).map (X i) := List.map_congr_left fun j _ => by rw [if_neg (fun h => e h.1)]
      rw [e2]
      have ho := h.row i hi
      refine ⟨⟨ho.own.1, ?_⟩, ho.small⟩
      rcases ho.own.2 with h2 | ⟨b, cap, cur, hv, hb, hh, q⟩
      · exact .inl h2
      · have hbg : b = gr i := by
          injection hv with hv
          injection hv with hv
          injection hv with hv
          exact hv.symm
        exact .inr ⟨b, cap, cur, hv, hb, (Below.heap_setCell w ⟨gr r, c, none⟩ _ b (by rw [hbg]; exact hg)).trans hh, q⟩
  · have := h.lt i hi
    simpa [World.setCell] using this
theorem MaI.congr (h : MaI w base go n gr k X) (e : ∀ i, i < k → ∀ j, j < n → X i j = Y i j) : MaI w base go n gr k Y :=
  ⟨h.blk, h.out, fun i hi => by rw [show (List.range n).map (Y i) = (List.range n).map (X i) from List.map_congr_left fun j hj => (e i hi j (List.mem_range.1 hj)).symm]; exact h.row i hi, h.ne, h.inj, h.lt, h.base_le⟩
/-- One row more. -/
theorem MaI.push (h : MaI w base go n gr k X) {g : Nat} (hb : Below w.heap.size w w') (hg : w.heap.size ≤ g) (ho : OwnI w' base (some ⟨g, 0, none⟩) n n ((List.range n).map (X k))) (hgl : g < w'.heap.size) (hgb : base ≤ g) {u : Value} (hu : w.cell? ⟨go, k, none⟩ = some u) :
    MaI (w'.setCell ⟨go, k, none⟩ (.slice (some ⟨g, 0, none⟩) n n)) base go n (fun i => if i = k then g else gr i) (k + 1) X := by
  have hgo := h.go_lt
  have h1 := h.below hb
  have far : ∀ {g' : Nat} {i : Nat}, g' ≠ go → OwnI w' base (some ⟨g', 0, none⟩) n n ((List.range n).map (X i)) → OwnI (w'.setCell ⟨go, k, none⟩ (.slice (some ⟨g, 0, none⟩) n n)) base (some ⟨g', 0, none⟩) n n ((List.range n).map (X i)) := by
    intro g' i hne ho
    refine ⟨⟨ho.own.1, ?_⟩, ho.small⟩
    rcases ho.own.2 with h2 | ⟨b, cap, cur, hv, hb, hh, q⟩
    · exact .inl h2
    · have hbg : b = g' := by
        injection hv with hv
        injection hv with hv
        injection hv with hv
        exact hv.symm
      exact .inr ⟨b, cap, cur, hv, hb, (Below.heap_setCell w' ⟨go, k, none⟩ _ b (by rw [hbg]; exact hne)).trans hh, q⟩
  have hsz : (w'.setCell ⟨go, k, none⟩ (.slice (some ⟨g, 0, none⟩) n n)).heap.size = w'.heap.size := by simp [World.setCell]
  refine ⟨?_, fun i hi => ?_, fun i hi => ?_, fun i hi => ?_, fun i j hi hj e => ?_, fun i hi => ?_, h.base_le.1, fun i hi => ?_⟩
  · obtain ⟨cs, hc⟩ := h1.blk
    exact ⟨_, hc.set_ k _⟩
  · by_cases e : i = k
    · subst e
      show _ = some (Value.slice (some ⟨if i = i then g else gr i, 0, none⟩) n n)
      rw [if_pos rfl]
      exact World.cell?_setCell_same w' _ _ ((hb.cell (p := ⟨go, i, none⟩) hgo).trans hu)
    · show _ = some (Value.slice (some ⟨if i = k then g else gr i, 0, none⟩) n n)
      rw [if_neg e, World.cell?_setCell_other w' _ _ _ (by intro h2; simp only [Addr.mk.injEq] at h2; omega)]
      exact h1.out i (by omega)
  · by_cases e : i = k
    · subst e; rw [if_pos rfl]; exact far (by omega) ho
    · rw [if_neg e]; exact far (h.ne i (by omega)) (h1.row i (by omega))
  · by_cases e : i = k
    · rw [if_pos e]; omega
    · rw [if_neg e]; exact h.ne i (by omega)
  · by_cases e1 : i = k
    · by_cases e2 : j = k
      · omega
      · rw [if_pos e1, if_neg e2] at e
        have := h.lt j (by omega)
        omega
    · by_cases e2 : j = k
      · rw [if_neg e1, if_pos e2] at e
        have := h.lt i (by omega)
        omega
      · rw [if_neg e1, if_neg e2] at e
        exact h.inj i j (by omega) (by omega) e
  · rw [hsz]
    by_cases e : i = k
    · rw [if_pos e]; exact hgl
    · rw [if_neg e]; exact h1.lt i (by omega)
  · by_cases e : i = k
    · rw [if_pos e]; exact hgb
    · rw [if_neg e]; exact h.base_le.2 i (by omega)
end
theorem gives_indexQ {P : Program} {o : Oper} {a : Act} {w : World} {t e : TypeId} {x y : Operand} {g k n c : Nat} {q : IntKind} (ho : o.op = .indexAddr t x y) (ht : P.underlying t = some (.slice e)) (he : ∀ w, (sizeOf e).run P w = .ok 1 w) (hx : a.eval x = .slice (some ⟨g, 0, none⟩) n c) (hy : a.eval y = .int q k) (hk : k < n) :
    Gives P o a w (.pointer (some ⟨g, k, none⟩)) := by
  have h := gives_indexA (w := w) ho ht he hx hy hk
  rwa [Addr.add_mid, Nat.zero_add] at h
theorem ownV_zero {w : World} {base n c : Nat} {A : Option Addr} (h : w.ownsRow base 22 1 (.slice A n c) n (madeCells #[Value.slice none 0 0] (n * 1)).toList) (hs : n ≤ 1000) : OwnV w base A n c (List.replicate n (.slice none 0 0)) := by
  refine ⟨?_, by omega⟩
  rw [toList_madeCells_one, Nat.mul_one] at h
  simpa using h
theorem MaI.start {w : World} {base go n m : Nat} {vs : List Value} (h : OwnV w base (some ⟨go, 0, none⟩) m m vs) (X : Nat → Nat → Int) : MaI w base go n (fun _ => 0) 0 X := by
  have hb := (h.lt go rfl).1
  refine ⟨?_, fun i hi => absurd hi (Nat.not_lt_zero _), fun i hi => absurd hi (Nat.not_lt_zero _), fun i hi => absurd hi (Nat.not_lt_zero _), fun i j hi => absurd hi (Nat.not_lt_zero _), fun i hi => absurd hi (Nat.not_lt_zero _), hb, fun i hi => absurd hi (Nat.not_lt_zero _)⟩
  rcases h.own.2 with ⟨e, _⟩ | ⟨g, cap, cur, e, _, hh, _⟩
  · cases e
  · simp only [Value.slice.injEq, Option.some.injEq, Addr.mk.injEq, and_true, true_and] at e
    obtain ⟨rfl, _⟩ := e
    exact ⟨cur, hh⟩
theorem map_zero (n : Nat) : (List.range n).map (fun _ => (0 : Int)) = List.replicate n 0 := by
  rw [List.map_const', List.length_range]

end Go.Proofs.YtbedpgcbfbjgiaaDoor
/- A slice of rows that the call itself builds, row by row. -/
namespace Go.Proofs.YtbedpgcbfbjgiaaDoor
set_option linter.unusedVariables false
set_option linter.unusedSimpArgs false
open Go.RowKit

structure MSt (w0 w : World) (A : Option Addr) (n c : Nat) (vs : List Value) (xss : List (List Int)) : Prop where
  own : OwnV w w0.heap.size A n c vs
  rows : RowsI w w0.heap.size vs xss
  below : Below w0.heap.size w0 w
section
variable {w0 w w' : World} {A : Option Addr} {n c : Nat} {vs : List Value} {xss : List (List Int)}
theorem MSt.start (w0 : World) : MSt w0 w0 none 0 0 [] [] := ⟨OwnV.nil_ _ _, RowsI.nil_ _ _, Below.refl _ _⟩
theorem MSt.to (h : MSt w0 w A n c vs xss) (hb : Below w.heap.size w w') : MSt w0 w' A n c vs xss :=
  ⟨h.own.keep (KeepT.below hb), h.rows.keep (KeepT.below hb), h.below.trans (hb.mono h.below.size)⟩
theorem MSt.add {w9 : World} {B A9 : Option Addr} {m d c9 : Nat} {xs : List Int} (h : MSt w0 w A n c vs xss) (hc : OwnI w w0.heap.size B m d xs)
    (happ : AppendedV (w.alloc (.cells #[.slice B m d] 22)) w0.heap.size A (n + 1) c (vs ++ [.slice B m d]) A9 c9 w9) : MSt w0 w9 A9 (n + 1) c9 (vs ++ [.slice B m d]) (xss ++ [xs]) := by
  have hblk : ∀ g, (Value.slice A (n + 1) c).ownBlock = some g → w0.heap.size ≤ g ∧ g < w.heap.size ∧ ∃ (cs : Array Value), w.heap[g]? = some (.cells cs 22 (0, 0)) := by
    intro g hg
    rw [ownBlock_len A (n + 1) n c c] at hg
    obtain ⟨h1, h2⟩ := h.own.lt g hg
    refine ⟨h1, h2, ?_⟩
    rcases h.own.own.2 with ⟨hv, _⟩ | ⟨g', cap, cur, hv, _, hh, _⟩
    · rw [hv] at hg; cases hg
    · rw [hv] at hg
      injection hg with hg
      subst hg
      exact ⟨cur, hh⟩
  have k3 : KeepT 3 w w9 := (KeepT.alloc w _).trans (KeepT.grown happ.grown (fun g hg => by
    obtain ⟨_, h2, cs, h3⟩ := hblk g hg
    exact ⟨22, cs, (Below.heap_alloc w _ g h2).trans h3, by decide⟩))
  exact ⟨happ.own, (h.rows.keep k3).snoc (k3.ownI hc), (h.below.alloc h.below.size _).grown happ.grown (Nat.le_trans h.below.size (by simp)) (fun g hg => (hblk g hg).1)⟩
theorem MSt.len (h : MSt w0 w A n c vs xss) : xss.length = n := by rw [← h.rows.len]; exact h.own.len
end
theorem rows_info : (Tryd.prog.info? 22).map (fun i => (i.zero, i.size, i.bytes)) = some (some (.slice none 0 0), 1, 24) := by kernel_rfl
end Go.Proofs.YtbedpgcbfbjgiaaDoor
/- Package coloring: differences. -/
namespace Go.Proofs.YtbedpgcbfbjgiaaDoor
set_option linter.unusedVariables false
set_option linter.unusedSimpArgs false
open Go.RowKit

theorem OwnI.farC {w : World} {base n c : Nat} {A : Option Addr} {xs : List Int} (h : OwnI w base A n c xs) {p : Addr} (hg : p.block < base) (u : Value) : OwnI (w.setCell p u) base A n c xs := by
  refine ⟨⟨h.own.1, ?_⟩, h.small⟩
  rcases h.own.2 with h2 | ⟨b, cap, cur, hv, hb, hh, r⟩
  · exact .inl h2
  · exact .inr ⟨b, cap, cur, hv, hb, (Below.heap_setCell w p u b (by omega)).trans hh, r⟩
theorem OwnI.keepC {w w' : World} {base n c : Nat} {A : Option Addr} {xs : List Int} (h : OwnI w base A n c xs) (hb : Below w.heap.size w w') : OwnI w' base A n c xs := (KeepT.below hb).ownI h
theorem dMx_sll {w : World} {base gm N : Nat} {gr : Nat → Nat} {m : Int} {xs : List Int} (hN : N ≤ 6) (h : MaI w base gm N gr N (fun i t => dEl m N xs i t)) : SLL w (some ⟨gm, 0, none⟩) N N (dMx m N xs) := by
  refine ⟨dMx_length _ _ _, by omega, fun e => (by cases e), Nat.le_refl _, fun _ => ⟨_, rfl, h.go_lt, fun j hj => ⟨_, _, _, by rw [Addr.add_mid, Nat.zero_add]; exact h.out j hj, ?_⟩⟩⟩
  rw [dMx_row xs hj]
  exact (h.row j hj).sl

set_option maxRecDepth 100000 in
set_option maxHeartbeats 8000000 in
theorem cldiff_any (A : Option Addr) (n c : Nat) (xs : List Int) (k N : Nat) (w : World) (ha : SL w A n c xs) (hx : ∀ x ∈ xs, x ≠ 0 ∧ x.natAbs < N) (hk1 : 1 ≤ k) (hk : k ≤ 13) (hN1 : 1 ≤ N) (hN : N ≤ 6) :
    Calls Tryd.prog 20 #[.int .i64 (N : Int), .slice A n c, .int .i64 (k : Int)] w fun e w' => ∃ g, e = .returned (.slice (some ⟨g, 0, none⟩) N N) ∧ SLL w' (some ⟨g, 0, none⟩) N N (dMx (k : Int) N xs) ∧ Below w.heap.size w w' := by
  obtain ⟨i0, hi0, hz0, hz1, hz2⟩ := info_parts int_info
  have HI0 := hide hi0
  have HY0 := hide hz0
  have HY1 := hide hz1
  have HY2 := hide hz2
  obtain ⟨i1, hj0, hk0, hk1', hk2⟩ := info_parts rows_info
  have HI1 := hide hj0
  have HZ0 := hide hk0
  have HZ1 := hide hk1'
  have HZ2 := hide hk2
  have HA := hide ha
  have HX := hide hx
  clear ha hx hi0 hz0 hz1 hz2 hj0 hk0 hk1' hk2
  go_enter Tryd.func20, Tryd.ntmps20
  go_wp2_with (at_make; refine wpList_make_full _ rfl _ _ 42 rfl w.heap.size 22 i1 (.slice none 0 0) 1 Tryd.underlying42 HI1.out HZ0.out HZ1.out .i64 .i64 _ _ N rfl rfl rfl rfl (by rw [HZ2.out]; omega) (by unfold maxLen; omega) (Nat.le_refl _) ?_; intro w3 hown3 hg3)
  have hB3 : Below w.heap.size w w3 := (Below.refl _ _).grown hg3 (Nat.le_refl _) (by intro k hk; cases hk)
  have ho3 := ownV_zero hown3 (by omega)
  obtain ⟨gm, hgm⟩ : ∃ g, w.heap.size = g := ⟨_, rfl⟩
  rw [hgm] at ho3 hB3 ⊢
  have HM := hide (MaI.start (n := N) ho3 (fun _ _ => 0))
  have HCs : Hid (∀ i, i < N → ∃ v, w3.cell? ⟨gm, i, none⟩ = some v) := hide (fun i hi => by
    obtain ⟨g', e, hc⟩ := ho3.cellAt hi
    injection e with e
    injection e with e
    subst e
    exact ⟨_, hc.trans (by rw [List.getElem?_replicate, if_pos hi])⟩)
  have HB := hide hB3
  have HGM := hide hgm
  clear hown3 hg3 hB3 ho3 hgm
  go_wp2_with fail
  go_loopw [17] (fun iv wr => ∃ (i : Nat) (gr : Nat → Nat), iv = .int .i64 i ∧ i ≤ N ∧ Hid (MaI wr gm gm N gr i (fun _ _ => 0)) ∧ Hid (∀ i, i < N → ∃ v, wr.cell? ⟨gm, i, none⟩ = some v) ∧ Hid (Below gm w wr)) (fun iv _ => N - (intOf iv).toNat)
  case atStart => exact ⟨0, _, by go_num, Nat.zero_le _, HM, HCs, HB⟩
  case round =>
    clear HM HCs HB
    obtain ⟨i, gr, rfl, hi, HM, HCs, HB⟩ := hrel
    by_cases hlt : i < N
    · obtain ⟨v, hv⟩ := HCs.out i hlt
      obtain ⟨cs9, hcs9⟩ := HM.out.blk
      have HK9 := hide hcs9
      have HV := hide hv
      have hbw : gm ≤ wr.heap.size := by have := HM.out.go_lt; omega
      clear hcs9 hv
      go_upto_region 6 with (at_make; refine wpList_make_full _ rfl _ _ 22 rfl wr.heap.size 3 i0 (.int .i64 0) 1 Tryd.underlying22 HI0.out HY0.out HY1.out .i64 .i64 _ _ N rfl rfl rfl rfl (by rw [HY2.out]; omega) (by unfold maxLen; omega) (Nat.le_refl _) ?_; intro w4 hown4 hg4; have hb4 : Below wr.heap.size wr w4 := (Below.refl _ _).grown hg4 (Nat.le_refl _) (by intro k hk; cases hk); have hv4 := (hb4.cell (p := ⟨gm, i, none⟩) HK9.out.lt).trans HV.out; have hf4 := (HK9.out.below hb4 HK9.out.lt).frozen i)
      have ho4 := OwnI.zero (z := #[]) hown4 (by omega)
      have HM4 := hide (HM.out.push (g := wr.heap.size) hb4 (Nat.le_refl _) (by rw [map_zero]; exact ho4.mono hbw) (ho4.lt _ rfl).2 hbw HV.out)
      have HC4 : Hid (∀ j, j < N → ∃ v, (w4.setCell ⟨gm, i, none⟩ (.slice (some ⟨wr.heap.size, 0, none⟩) N N)).cell? ⟨gm, j, none⟩ = some v) := hide (fun j hj => by
        by_cases e : j = i
        · subst e
          exact ⟨_, World.cell?_setCell_same w4 _ _ hv4⟩
        · rw [World.cell?_setCell_other w4 _ _ _ (by intro h2; simp only [Addr.mk.injEq] at h2; omega)]
          obtain ⟨v', hv'⟩ := HCs.out j hj
          exact ⟨v', (hb4.cell (p := ⟨gm, j, none⟩) HK9.out.lt).trans hv'⟩)
      have HB4 := hide ((HB.out.trans (hb4.mono hbw)).setCell (p := ⟨gm, i, none⟩) (Nat.le_refl _) (.slice (some ⟨wr.heap.size, 0, none⟩) N N))
      clear hown4 hg4 hb4 hv4 hf4 ho4 HM HB HCs HV HK9
      go_wp2_with fail
      go_roundw
      case rel => exact ⟨i + 1, _, by go_num, by omega, HM4, HC4, HB4⟩
      case measure => simp [intOf]; omega
    · have hiN : i = N := by omega
      rw [hiN] at HM
      clear hiN HCs
      rename World => w5
      have HM0 : Hid (MaI w5 gm gm N gr N (fun i t => if t < 0 then dEl (k : Int) N xs i t else 0)) := hide (HM.out.congr fun i _ j _ => by simp)
      clear HM
      go_wp2_with fail
      go_loopw [27] (fun iv wr => ∃ t : Nat, iv = .int .i64 t ∧ t ≤ N ∧ Hid (MaI wr gm gm N gr N (fun i t' => if t' < t then dEl (k : Int) N xs i t' else 0)) ∧ Hid (Below gm w wr)) (fun iv _ => N - (intOf iv).toNat)
      case atStart => exact ⟨0, by go_num, Nat.zero_le _, HM0, HB⟩
      case round =>
        clear HM0 HB
        obtain ⟨t, rfl, ht, HM, HB⟩ := hrel
        by_cases hlt : t < N
        · have hbw : gm ≤ wr.heap.size := by have := HM.out.go_lt; omega
          have hkz : ((k : Int) == 0) = false := by simp; omega
          go_upto_region 12 with (at_make; refine wpList_make_full _ rfl _ _ 22 rfl wr.heap.size 3 i0 (.int .i64 0) 1 Tryd.underlying22 HI0.out HY0.out HY1.out .i64 .i64 _ _ N rfl rfl rfl rfl (by rw [HY2.out]; omega) (by unfold maxLen; omega) (Nat.le_refl _) ?_; intro w4 hown4 hg4; have ho4 := OwnI.zero (z := #[]) hown4 (by omega); have hc4 := ho4.cell hlt; have hf4 := ho4.frozen t)
          have hb4 : Below wr.heap.size wr w4 := (Below.refl _ _).grown hg4 (Nat.le_refl _) (by intro k hk; cases hk)
          have hlc : ∀ i, i < N → gr i < wr.heap.size := fun i hi => HM.out.lt i hi
          obtain ⟨gc, hgc⟩ : ∃ g, wr.heap.size = g := ⟨_, rfl⟩
          rw [hgc] at hlc ho4 hb4 hbw ⊢
          have HU4 : Hid (OwnI (w4.setCell ⟨gc, t, none⟩ (.int .i64 (1 % (k : Int)))) gc (some ⟨gc, 0, none⟩) N N (uCol (k : Int) N t)) := hide (ho4.set_ t (1 % (k : Int)))
          have hb5 : Below gc wr (w4.setCell ⟨gc, t, none⟩ (.int .i64 (1 % (k : Int)))) := hb4.setCell (p := ⟨gc, t, none⟩) (Nat.le_refl _) _
          have HB4 := hide (HB.out.trans (hb5.mono hbw))
          have HM4 := hide (HM.out.below (by rw [hgc]; exact hb5))
          have HGC := hide hgc
          have hgs : gc < (w4.setCell ⟨gc, t, none⟩ (.int .i64 (1 % (k : Int)))).heap.size := (HU4.out.lt gc rfl).2
          obtain ⟨w5', hw5⟩ : ∃ x, w4.setCell ⟨gc, t, none⟩ (.int .i64 (1 % (k : Int))) = x := ⟨_, rfl⟩
          rw [hw5] at HU4 HB4 HM4 hgs ⊢
          have HLC := hide hlc
          clear hown4 hg4 ho4 hc4 hf4 hb4 hb5 hw5 hgc hlc HM HB
          go_wp2_with fail
          refine (clprop_any A n c xs (some ⟨gc, 0, none⟩) N N (uCol (k : Int) N t) k N _ (HA.out.below (by rw [HGM.out]; exact HB4.out)) HU4.out.sl (uCol_isC (by omega)) HX.out hk hN1 hN).mono ?_
          rintro e w6 ⟨R, rn, rc, rfl, ho, hb⟩
          have HIC : Hid (IsC (k : Int) N (cCol (k : Int) xs (uCol (k : Int) N t))) := hide ((uCol_isC (by omega)).word HX.out)
          have hrn : rn = N := by rw [← ho.len]; exact HIC.out.len
          subst hrn
          obtain ⟨q, rfl, hq1, hq2⟩ := ho.form (by omega)
          have hbw5 : gm ≤ w5'.heap.size := by omega
          have HB6 := hide (HB4.out.trans (hb.mono hbw5))
          have HM6 := hide (HM4.out.below hb)
          have HU6 := hide (HU4.out.keepC hb)
          have HR6 := hide ho
          have hq0 : gc < w5'.heap.size := hgs
          obtain ⟨gq, hgq⟩ : ∃ g, w5'.heap.size = g := ⟨_, rfl⟩
          rw [hgq] at HR6 hq0 hq1
          clear hb ho hgq HU4 HM4 HB4 hq2
          have hlq : ∀ i, i < rn → gr i < gq := fun i hi => by have := HLC.out i hi; omega
          have HLQ := hide hlq
          obtain ⟨V, hV⟩ : ∃ V, cCol (k : Int) xs (uCol (k : Int) rn t) = V := ⟨_, rfl⟩
          obtain ⟨U, hU⟩ : ∃ U, uCol (k : Int) rn t = U := ⟨_, rfl⟩
          have HUC : Hid (IsC (k : Int) rn U) := hide (by rw [← hU]; exact uCol_isC (by omega))
          have HD : Hid (∀ i, dEl (k : Int) rn xs i t = V.getD i 0 - U.getD i 0) := hide (fun i => by unfold dEl; rw [hV, hU])
          rw [hV] at HR6 HIC
          rw [hU] at HU6
          have HM7 : Hid (MaI w6 gm gm rn gr rn (fun i t' => if t' < t ∨ t' = t ∧ i < 0 then dEl (k : Int) rn xs i t' else 0)) := hide (HM6.out.congr fun i _ j _ => by simp)
          clear hlq hV hU HM6 hkz
          go_wp2_with fail
          go_loopw [42] (fun iv wr => ∃ j : Nat, iv = .int .i64 j ∧ j ≤ rn ∧ Hid (MaI wr gm gm rn gr rn (fun i t' => if t' < t ∨ t' = t ∧ i < j then dEl (k : Int) rn xs i t' else 0)) ∧ Hid (OwnI wr gc (some ⟨gc, 0, none⟩) rn rn U) ∧ Hid (OwnI wr gq (some ⟨q, 0, none⟩) rn rc V) ∧ Hid (Below gm w wr)) (fun iv _ => rn - (intOf iv).toNat)
          case atStart => exact ⟨0, by go_num, Nat.zero_le _, HM7, HU6, HR6, HB6⟩
          case round =>
            clear HM7 HU6 HR6 HB6
            obtain ⟨j, rfl, hj, HM, HU, HR, HB⟩ := hrel
            by_cases hlj : j < rn
            · have hcx := HR.out.cell hlj
              have hcu := HU.out.cell hlj
              have hcr := HM.out.out j hlj
              have hct := HM.out.cell hlj hlt
              rw [if_neg (by omega)] at hct
              have hft := HM.out.frozen hlj t
              have bv := HIC.out.col j hlj
              have bu := HUC.out.col j hlj
              have HDj := HD.out j
              obtain ⟨a, hae⟩ : ∃ a, V.getD j 0 = a := ⟨_, rfl⟩
              obtain ⟨b, hbe⟩ : ∃ b, U.getD j 0 = b := ⟨_, rfl⟩
              rw [hae] at hcx bv HDj
              rw [hbe] at hcu bu HDj
              have hsub : IntKind.i64.wrap (a - b) = a - b := by rw [IntKind.wrap_i64]; omega
              have hgj : gm ≤ gr j := HM.out.base_le.2 j hlj
              have HJ := hide HDj
              clear hae hbe bv bu HDj
              go_upto_region 15 with fail
              refine wp_region_T (S := fun w' => w'.cell? ⟨gm, j, none⟩ = some (.slice (some ⟨gr j, 0, none⟩) rn rn) ∧ w'.cell? ⟨gc, j, none⟩ = some (.int .i64 b) ∧ w'.cell? ⟨gr j, t, none⟩ = some (.int .i64 0)) 12 (by kernel_rfl) ⟨hcr, hcu, hct⟩ (fun hS => ?_)
              refine wpT_tk 0 (v := .slice (some ⟨gm, 0, none⟩) rn rn) rfl (by kernel_rfl) (by kernel_rfl) (by kernel_rfl) (by kernel_rfl) (yi rfl fun w' hw' => gives_move (.inl rfl) rfl) hS ?_
              go_frame
              refine wpT_tk 1 (v := .int .i64 (j : Nat)) rfl (by kernel_rfl) (by kernel_rfl) (by kernel_rfl) (by kernel_rfl) (yi rfl fun w' hw' => gives_move (.inl rfl) rfl) hS ?_
              go_frame
              refine wpT_tk 2 (v := .pointer (some ⟨gm, j, none⟩)) rfl (by kernel_rfl) (by kernel_rfl) (by kernel_rfl) (by kernel_rfl) (yi rfl fun w' hw' => gives_indexQ rfl Tryd.underlying42 (fun _ => by kernel_rfl) rfl rfl hlj) hS ?_
              go_frame
              refine wpT_tk 3 (v := .slice (some ⟨gr j, 0, none⟩) rn rn) rfl (by kernel_rfl) (by kernel_rfl) (by kernel_rfl) (by kernel_rfl) (yi rfl fun w' hw' => gives_load1 rfl (by kernel_rfl) rfl hw'.1) hS ?_
              go_frame
              refine wpT_tk 4 (v := .int .i64 (t : Nat)) rfl (by kernel_rfl) (by kernel_rfl) (by kernel_rfl) (by kernel_rfl) (yi rfl fun w' hw' => gives_move (.inl rfl) rfl) hS ?_
              go_frame
              refine wpT_tk 5 (v := .int .i64 a) rfl (by kernel_rfl) (by kernel_rfl) (by kernel_rfl) (by kernel_rfl) (yi rfl fun w' hw' => gives_move (.inl rfl) rfl) hS ?_
              go_frame
              refine wpT_tk 6 (v := .slice (some ⟨gc, 0, none⟩) rn rn) rfl (by kernel_rfl) (by kernel_rfl) (by kernel_rfl) (by kernel_rfl) (yi rfl fun w' hw' => gives_move (.inl rfl) rfl) hS ?_
              go_frame
              refine wpT_tk 7 (v := .int .i64 (j : Nat)) rfl (by kernel_rfl) (by kernel_rfl) (by kernel_rfl) (by kernel_rfl) (yi rfl fun w' hw' => gives_move (.inl rfl) rfl) hS ?_
              go_frame
              refine wpT_tk 8 (v := .pointer (some ⟨gc, j, none⟩)) rfl (by kernel_rfl) (by kernel_rfl) (by kernel_rfl) (by kernel_rfl) (yi rfl fun w' hw' => gives_indexQ rfl Tryd.underlying22 (fun _ => by kernel_rfl) rfl rfl hlj) hS ?_
              go_frame
              refine wpT_tk 9 (v := .int .i64 b) rfl (by kernel_rfl) (by kernel_rfl) (by kernel_rfl) (by kernel_rfl) (yi rfl fun w' hw' => gives_load1 rfl (by kernel_rfl) rfl hw'.2.1) hS ?_
              go_frame
              refine wpT_tk 10 (v := .int .i64 (a - b)) rfl (by kernel_rfl) (by kernel_rfl) (by kernel_rfl) (by kernel_rfl) (yi rfl fun w' hw' => gives_sub rfl rfl rfl hsub) hS ?_
              go_frame
              refine wpT_tk 11 (v := .pointer (some ⟨gr j, t, none⟩)) rfl (by kernel_rfl) (by kernel_rfl) (by kernel_rfl) (by kernel_rfl) (yi rfl fun w' hw' => gives_indexQ rfl Tryd.underlying22 (fun _ => by kernel_rfl) rfl rfl hlt) hS ?_
              go_frame
              refine wpT_1 12 rfl (by kernel_rfl) ?_
              refine wp_storeI rfl (by kernel_rfl) (by kernel_rfl) rfl rfl hS.2.2 hft ?_
              refine ⟨fun h => absurd rfl h, ?_⟩
              go_frame
              refine wpT_done (by kernel_rfl) (noPanic_mk ?_) _
              have hdr : Below wr.heap.size wr wr.drew := (Below.refl _ _).drew
              have hgw : gm ≤ wr.heap.size := by have := HM.out.go_lt; omega
              have HM9 := hide (((HM.out.below hdr).set_ hlj hlt (a - b)).congr (Y := fun i t' => if t' < t ∨ t' = t ∧ i < j + 1 then dEl (k : Int) rn xs i t' else 0) fun i _ t' _ => by
                show (if i = j ∧ t' = t then a - b else if t' < t ∨ t' = t ∧ i < j then dEl (k : Int) rn xs i t' else 0) = _
                by_cases e : i = j ∧ t' = t
                · obtain ⟨rfl, rfl⟩ := e
                  rw [if_pos ⟨rfl, rfl⟩, if_pos (by omega), HJ.out]
                · rw [if_neg e]
                  by_cases e2 : t' < t ∨ t' = t ∧ i < j
                  · rw [if_pos e2, if_pos (by omega)]
                  · rw [if_neg e2, if_neg (by omega)])
              have HB9 := hide ((HB.out.trans (hdr.mono hgw)).setCell (p := ⟨gr j, t, none⟩) hgj (.int .i64 (a - b)))
              have HU9 := hide ((HU.out.keepC hdr).farC (p := ⟨gr j, t, none⟩) (HLC.out j hlj) (.int .i64 (a - b)))
              have HR9 := hide ((HR.out.keepC hdr).farC (p := ⟨gr j, t, none⟩) (HLQ.out j hlj) (.int .i64 (a - b)))
              clear HM HB HU HR hcx hcu hcr hct hft hdr hgw hsub hgj
              go_wp2_with fail
              go_roundw
              case rel => exact ⟨j + 1, by go_num, by omega, HM9, HU9, HR9, HB9⟩
              case measure => simp [intOf]; omega
            · have HM9 : Hid (MaI wr gm gm rn gr rn (fun i t' => if t' < t + 1 then dEl (k : Int) rn xs i t' else 0)) := hide (HM.out.congr fun i hi t' _ => by
                show (if t' < t ∨ t' = t ∧ i < j then _ else _) = if t' < t + 1 then _ else _
                by_cases e : t' < t + 1
                · rw [if_pos e, if_pos (by omega)]
                · rw [if_neg e, if_neg (by omega)])
              clear HM HU HR
              go_wp2_with fail
              go_roundw
              case rel => exact ⟨t + 1, by go_num, by omega, HM9, HB⟩
              case measure => simp [intOf]; omega
        · have HM9 := hide (dMx_sll hN (HM.out.congr (Y := fun i t' => dEl (k : Int) N xs i t') fun i hi t' ht' => by
            show (if t' < t then _ else _) = _
            rw [if_pos (by omega)]))
          have HB9 : Hid (Below w.heap.size w wr) := hide (by rw [HGM.out]; exact HB.out)
          clear HM HB
          go_wp2_with fail
          go_ret
          exact ⟨_, rfl, HM9.out, HB9.out⟩
end Go.Proofs.YtbedpgcbfbjgiaaDoor
