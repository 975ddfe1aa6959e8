/- What the invariant factors of a small matrix are like; adding a row to another one. -/
import Derived.Test.YtgjblcfcbohjdaaDoorLawMTurned
import Derived.Test.YtgjblcfcbohjdaaDoorFacRef2
namespace Go.Proofs.YtgjblcfcbohjdaaDoor
set_option linter.unusedVariables false
set_option linter.unusedSimpArgs false
open Go.RowKit

theorem prodF_le {n m k : Nat} {A : Mtx Int} {s : Nat → Int} (h : ∀ i, i + 1 < min n m → s i ∣ s (i + 1)) (he : El n m A (diagM s)) (hk : k ≤ min n m) (hk6 : k ≤ 6) (hA : ∀ i j, (A i j).natAbs ≤ 100) : (prodF s k).natAbs ≤ 720000000000000 := by
  by_cases h0 : prodF s k = 0
  · rw [h0]; simp
  have h1 : DivAll n m k A (prodF s k) := (smith_div h he hk (prodF s k)).2 (Int.dvd_refl _)
  refine Classical.byContradiction fun hlt => h0 (Int.zero_dvd.1 ((smith_div h he hk 0).1 ?_))
  intro I J hI hJ
  have h2 := h1 I J hI hJ
  by_cases hz : minorM k A I J = 0
  · rw [hz]; exact Int.dvd_refl _
  · exfalso
    apply hlt
    have h3 : (minorM k A I J).natAbs ≤ 720000000000000 := detR_small hk6 fun i _ j _ => hA _ _
    exact Nat.le_trans (Nat.le_of_dvd (by omega) (Int.natAbs_dvd_natAbs.2 h2)) h3

structure ChainP (k m : Nat) (X : List (List Int)) (P : Nat → Int) : Prop where
  zero : P 0 = 1
  len : (smithL X).length = min k m
  nonneg : ∀ j, j < min k m → 0 ≤ (smithL X).getD j 0
  le : ∀ j, j < min k m → (smithL X).getD j 0 ≤ 720000000000000
  step : ∀ j, j < min k m → P (j + 1) = P j * (smithL X).getD j 0
  pos : ∀ j, j ≤ min k m → 0 ≤ P j ∧ P j ≤ 720000000000000
  div : ∀ j, j + 1 < min k m → (smithL X).getD j 0 ≠ 0 → ((smithL X).getD (j + 1) 0).tmod ((smithL X).getD j 0) = 0
  none : ∀ j, j + 1 < min k m → (smithL X).getD j 0 = 0 → (smithL X).getD (j + 1) 0 = 0
  det : k = m → P k = ((detR k (matF X)).natAbs : Int)
theorem chain_facts {k m B : Nat} {X : List (List Int)} (hB : Box k m B X) (hk0 : 0 < k) (hk : k ≤ 6) (hm : m ≤ 6) (hB1 : B ≤ 100) : ∃ P, ChainP k m X P := by
  have hf := hB.fault hk hm hB1
  have hc := hB.cols hk0
  have hch := smithS_chain k m (matF X)
  have hel := smithS_el k m (matF X)
  have hL : smithL X = (List.range (min k m)).map fun i => ((smithS k m (matF X) i).natAbs : Int) := by unfold smithL; rw [if_pos hf, hB.len, hc]
  obtain ⟨S, hS⟩ : ∃ S, smithS k m (matF X) = S := ⟨_, rfl⟩
  rw [hS] at hch hel hL
  have hget : ∀ j, j < min k m → (smithL X).getD j 0 = ((S j).natAbs : Int) := fun j hj => by rw [hL]; simp [List.getD, hj]
  have hA : ∀ i j, (matF X i j).natAbs ≤ 100 := fun i j => Nat.le_trans (hB.le i j) hB1
  have hP : ∀ j, j ≤ min k m → (prodF S j).natAbs ≤ 720000000000000 := fun j hj => prodF_le hch hel hj (by omega) hA
  refine ⟨fun j => ((prodF S j).natAbs : Int), rfl, by rw [hL]; simp, fun j hj => by rw [hget j hj]; omega, fun j hj => ?_, fun j hj => ?_, fun j hj => ⟨by omega, by have := hP j hj; omega⟩, fun j hj hz => ?_, fun j hj hz => ?_, fun e => ?_⟩
  · rw [hget j hj]
    have h1 := hP (j + 1) hj
    have h2 : prodF S (j + 1) = prodF S j * S j := rfl
    by_cases hz : prodF S j = 0
    · rw [prodF_chain hch j hj hz]; simp
    · rw [h2, Int.natAbs_mul] at h1
      have : (S j).natAbs ≤ (prodF S j).natAbs * (S j).natAbs := Nat.le_mul_of_pos_left _ (by omega)
      omega
  · show ((prodF S (j + 1)).natAbs : Int) = _
    rw [hget j hj, show prodF S (j + 1) = prodF S j * S j from rfl, Int.natAbs_mul]
    push_cast
    rfl
  · rw [hget j (by omega)] at hz ⊢
    rw [hget (j + 1) hj]
    exact Int.tmod_eq_zero_of_dvd (Int.ofNat_dvd.2 (Int.natAbs_dvd_natAbs.2 (hch j hj)))
  · rw [hget j (by omega)] at hz
    rw [hget (j + 1) hj]
    have h0 : S j = 0 := by omega
    have := hch j hj
    rw [h0] at this
    rw [Int.zero_dvd.1 this]; rfl
  · subst e
    show ((prodF S k).natAbs : Int) = _
    rw [det_prod hel]

/-- The matrix whose row x has got row y added. -/
def addL (X : List (List Int)) (m x y : Nat) : List (List Int) := X.set x ((List.range m).map fun j => matF X x j + matF X y j)
theorem addL_matF {k m B : Nat} {X : List (List Int)} (hB : Box k m B X) {x y : Nat} (hx : x < k) (hy : y < k) {i j : Nat} (hj : j < m) : matF (addL X m x y) i j = addR (matF X) x y 1 i j := by
  unfold addL addR updR
  by_cases e : i = x
  · subst e
    rw [if_pos rfl]
    have : (X.set i ((List.range m).map fun j => matF X i j + matF X y j)).getD i [] = (List.range m).map fun j => matF X i j + matF X y j := by
      simp only [List.getD_eq_getElem?_getD]; rw [List.getElem?_set_self (by rw [hB.len]; exact hx)]; rfl
    show ((X.set i ((List.range m).map fun j => matF X i j + matF X y j)).getD i []).getD j 0 = _
    rw [this]
    show _ = matF X i j + 1 * matF X y j
    rw [Int.one_mul]
    simp [List.getD, hj]
  · rw [if_neg e]
    show ((X.set x ((List.range m).map fun j => matF X x j + matF X y j)).getD i []).getD j 0 = (X.getD i []).getD j 0
    rw [List.getD_eq_getElem?_getD (l := X.set x _), List.getElem?_set_ne (fun h => e h.symm), ← List.getD_eq_getElem?_getD]
theorem Box.add {k m B : Nat} {X : List (List Int)} (hB : Box k m B X) {x y : Nat} (hx : x < k) (hy : y < k) : Box k m (2 * B) (addL X m x y) := by
  have hrow : ∀ i, i < k → ((addL X m x y).getD i []).length = m := fun i hi => by
    unfold addL
    by_cases e : i = x
    · subst e
      rw [List.getD_eq_getElem?_getD, List.getElem?_set_self (by rw [hB.len]; exact hx)]; simp
    · rw [List.getD_eq_getElem?_getD, List.getElem?_set_ne (fun h => e h.symm), ← List.getD_eq_getElem?_getD]; exact hB.row i hi
  refine ⟨by simp [addL, hB.len], hrow, fun i j => ?_⟩
  by_cases hj : j < m
  · rw [addL_matF hB hx hy hj]
    unfold addR updR
    have h1 := hB.le x j
    have h2 := hB.le y j
    have h3 := hB.le i j
    split
    · show (matF X x j + 1 * matF X y j).natAbs ≤ _
      rw [Int.one_mul]; omega
    · omega
  · by_cases hi : i < k
    · unfold matF
      rw [List.getD_eq_getElem?_getD (l := (addL X m x y).getD i []), List.getElem?_eq_none (by rw [hrow i hi]; omega)]
      simp
    · unfold matF
      have : (addL X m x y).getD i [] = [] := by rw [List.getD_eq_getElem?_getD, List.getElem?_eq_none (by simp [addL, hB.len]; omega)]; rfl
      rw [this]; simp
theorem smith_add {k m B : Nat} {X : List (List Int)} (hB : Box k m B X) (hk0 : 0 < k) (hk : k ≤ 6) (hm : m ≤ 6) (hB1 : 2 * B ≤ 100) {x y : Nat} (hx : x < k) (hy : y < k) (hne : x ≠ y) : smithL (addL X m x y) = smithL X :=
  smithL_eq ((hB.add hx hy).fault hk hm hB1) (hB.fault hk hm (by omega)) (hB.add hx hy).len ((hB.add hx hy).cols hk0) hB.len (hB.cols hk0) rfl fun q g hq => by
    have h1 : El k m (matF X) (matF (addL X m x y)) := (El.row (matF X) x y 1 hx hy hne).trans (.ext fun i hi j hj => (addL_matF hB hx hy hj).symm)
    exact h1.symm.div_iff
theorem zeros_len (l : List Int) : (l.countP fun x => !(x != 0)) + (l.countP fun x => !(x == 0)) = l.length := by
  induction l with
  | nil => rfl
  | cons a l ih =>
    simp only [List.countP_cons, List.length_cons]
    by_cases h : a = 0 <;> simp [h] at ih ⊢ <;> omega
end Go.Proofs.YtgjblcfcbohjdaaDoor
