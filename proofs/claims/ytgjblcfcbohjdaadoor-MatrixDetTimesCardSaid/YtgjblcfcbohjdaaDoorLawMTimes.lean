/- CAUCHY, BINET: timbkeep1.MatrixDetTimes, for a package intmatrix that answers as it should. -/
import Derived.Test.YtgjblcfcbohjdaaDoorLawMDets
import Derived.Test.YtgjblcfcbohjdaaDoorMMat
import Derived.Test.YtgjblcfcbohjdaaDoorMProd
namespace Go.Proofs.YtgjblcfcbohjdaaDoor
set_option linter.unusedVariables false
set_option linter.unusedSimpArgs false
open Go.RowKit

/-- A list of n rows of m small numbers. -/
structure Box (n m : Nat) (B : Nat) (xss : List (List Int)) : Prop where
  len : xss.length = n
  row : ∀ i, i < n → (xss.getD i []).length = m
  le : ∀ i j, (matF xss i j).natAbs ≤ B
theorem Box.fault {n m B : Nat} {xss : List (List Int)} (h : Box n m B xss) (hn : n ≤ 6) (hm : m ≤ 6) (hB : B ≤ 100) : mfault xss = 0 := by
  refine mfault_ok (k := m) (by rw [h.len]; exact hn) hm fun r hr => ?_
  obtain ⟨i, hi, rfl⟩ := List.getElem_of_mem hr
  have e : xss[i] = xss.getD i [] := by simp [List.getD, List.getElem?_eq_getElem hi]
  rw [e]
  refine ⟨h.row i (by have := h.len; omega), fun x hx => ?_⟩
  obtain ⟨j, hj, rfl⟩ := List.getElem_of_mem hx
  have h2 := h.le i j
  have e2 : (xss.getD i [])[j] = matF xss i j := by unfold matF; exact (by simp only [List.getD_eq_getElem?_getD (l := xss.getD i []), List.getElem?_eq_getElem hj]; rfl)
  rw [e2]
  omega
theorem Box.cols {n m B : Nat} {xss : List (List Int)} (h : Box n m B xss) (h0 : 0 < n) : colsM xss = m := h.row 0 h0
theorem Box.det {n B : Nat} {xss : List (List Int)} (h : Box n n B xss) (h0 : 0 < n) (hn : n ≤ 6) (hB : B ≤ 100) : detE xss = 0 ∧ detV xss = detR n (matF xss) := by
  have e : detE xss = 0 := by unfold detE; rw [if_pos (h.fault hn hn hB), if_neg (by rw [h.cols h0, h.len]; omega)]
  refine ⟨e, ?_⟩
  unfold detV
  rw [if_pos e, h.len]
theorem rawM_box (n m : Nat) (raw : List Int) (b : Nat) : Box n m b (rawM n m raw b) := by
  refine ⟨by simp [rawM], fun i hi => ?_, fun i j => ?_⟩
  · have : (rawM n m raw b).getD i [] = rawRow raw m b i := by simp [rawM, List.getD, hi]
    rw [this, rawRow_length]
  · unfold matF
    by_cases hi : i < n
    · have : (rawM n m raw b).getD i [] = rawRow raw m b i := by simp [rawM, List.getD, hi]
      rw [this]
      by_cases hj : j < m
      · rw [rawRow_getD raw hj]; exact rawE_le _ _ _
      · rw [List.getD_eq_getElem?_getD, List.getElem?_eq_none (by rw [rawRow_length]; omega)]; simp
    · have : (rawM n m raw b).getD i [] = [] := by rw [List.getD_eq_getElem?_getD, List.getElem?_eq_none (by simp [rawM]; omega)]; rfl
      rw [this]; simp
theorem tabL_box {n m B : Nat} {M : Mtx Int} (h : ∀ i, i < n → ∀ j, j < m → (M i j).natAbs ≤ B) : Box n m B (tabL n m M) := by
  refine ⟨by simp [tabL], fun i hi => by rw [tabL_row n m M hi]; simp, fun i j => ?_⟩
  by_cases hi : i < n
  · by_cases hj : j < m
    · rw [tabL_matF n m M hi hj]; exact h i hi j hj
    · unfold matF
      rw [tabL_row n m M hi, List.getD_eq_getElem?_getD, List.getElem?_eq_none (by simp; omega)]; simp
  · unfold matF
    have : (tabL n m M).getD i [] = [] := by rw [List.getD_eq_getElem?_getD, List.getElem?_eq_none (by simp [tabL]; omega)]; rfl
    rw [this]; simp
theorem detR_bound {n B : Nat} {M : Mtx Int} (hn : n ≤ 6) (hB : B ≤ 100) (h : ∀ i j, (M i j).natAbs ≤ B) : (detR n M).natAbs ≤ 720000000000000 := detR_small hn fun i _ j _ => Nat.le_trans (h i j) hB

set_option maxRecDepth 100000 in
set_option maxHeartbeats 4000000 in
theorem matrixDetTimes_any (F : MatC) (A B : Option Addr) (n c m d : Nat) (n0 : Int) (xs ys : List Int) (w : World) (ha : SL w A n c xs) (hb : SL w B m d ys) (hT : TabW w) :
    Calls Tryd.prog 6 #[.int .i64 n0, .slice A n c, .slice B m d] w fun e w' => e = .returned (.bool true) ∧ Below w.heap.size w w' := by
  have HF := hide F
  have HTW := hide hT
  clear hT
  have HA := hide ha
  have HB := hide hb
  obtain ⟨j, hj, hj2⟩ : ∃ j : Nat, j < 4 ∧ n0 % ((4 : Nat) : Int) = (j : Int) := ⟨(n0 % 4).toNat, by omega, by omega⟩
  have HM : Hid (Calls Tryd.prog 21 #[.int .i64 n0, .int .i64 4] w fun e w' => e = .returned (.int .i64 j) ∧ w = w') := hide (by
    have h := mbelow_any n0 4 w (by omega) (by omega)
    rw [hj2] at h
    exact h)
  obtain ⟨k, hk⟩ : ∃ k, 1 + j = k := ⟨_, rfl⟩
  have hk1 : 0 < k := by omega
  have hk4 : k ≤ 4 := by omega
  have hjk : (1 : Int) + (j : Int) = (k : Int) := by omega
  have HBX := hide (rawM_box k k xs 5)
  have HBY := hide (rawM_box k k ys 5)
  have HBP : Hid (Box k k 100 (tabL k k (mulM k (matF (rawM k k xs 5)) (matF (rawM k k ys 5))))) := hide (tabL_box fun i _ j _ => by
    have := natAbs_sum_le (B := 25) (n := k) (f := fun t => matF (rawM k k xs 5) i t * matF (rawM k k ys 5) t j) (fun t _ => abs_mul_le (HBX.out.le i t) (HBY.out.le t j))
    refine Nat.le_trans this ?_
    omega)
  have hdx : (detR k (matF (rawM k k xs 5))).natAbs ≤ 15000 := Nat.le_trans (detR_le (B := 5) k _ fun i _ j _ => HBX.out.le i j) (by
    have : k = 1 ∨ k = 2 ∨ k = 3 ∨ k = 4 := by omega
    rcases this with h | h | h | h <;> subst h <;> decide)
  have hdy : (detR k (matF (rawM k k ys 5))).natAbs ≤ 15000 := Nat.le_trans (detR_le (B := 5) k _ fun i _ j _ => HBY.out.le i j) (by
    have : k = 1 ∨ k = 2 ∨ k = 3 ∨ k = 4 := by omega
    rcases this with h | h | h | h <;> subst h <;> decide)
  have hdp : detR k (matF (tabL k k (mulM k (matF (rawM k k xs 5)) (matF (rawM k k ys 5))))) = detR k (matF (rawM k k xs 5)) * detR k (matF (rawM k k ys 5)) := by
    rw [← show _ = _ from detR_mul k (matF (rawM k k xs 5)) (matF (rawM k k ys 5))]
    exact detR_congr fun i hi j hj => tabL_matF k k _ hi hj
  have HDX := hide (HBX.out.det hk1 (by omega) (by omega))
  have HDY := hide (HBY.out.det hk1 (by omega) (by omega))
  have HDP := hide (HBP.out.det hk1 (by omega) (by omega))
  rw [hdp] at HDP
  have HMX : Hid (∀ (w : World) (A : Option Addr) (n c : Nat), SL w A n c xs → Calls Tryd.prog 22 #[.int .i64 k, .int .i64 k, .slice A n c, .int .i64 5] w fun e w' => ∃ A m d, e = .returned (.slice A m d) ∧ SLL w' A m d (rawM k k xs 5) ∧ Below w.heap.size w w') := hide (fun w A n c h => mmatrix_any A n c xs k k 5 w h.il (by omega) (by omega) (by omega))
  have HMY : Hid (∀ (w : World) (A : Option Addr) (n c : Nat), SL w A n c ys → Calls Tryd.prog 22 #[.int .i64 k, .int .i64 k, .slice A n c, .int .i64 5] w fun e w' => ∃ A m d, e = .returned (.slice A m d) ∧ SLL w' A m d (rawM k k ys 5) ∧ Below w.heap.size w w') := hide (fun w A n c h => mmatrix_any A n c ys k k 5 w h.il (by omega) (by omega) (by omega))
  obtain ⟨X, hX⟩ : ∃ X, rawM k k xs 5 = X := ⟨_, rfl⟩
  obtain ⟨Y, hY⟩ : ∃ Y, rawM k k ys 5 = Y := ⟨_, rfl⟩
  rw [hX] at HBX HBP HDX HDP HMX hdx hdp
  rw [hY] at HBY HBP HDY HDP HMY hdy hdp
  clear F ha hb hj2 hX hY hdp hj
  go_enter Tryd.func6, Tryd.ntmps6
  go_wp2_with fail
  refine HM.out.mono ?_
  rintro e w' ⟨rfl, rfl⟩
  clear HM hk
  go_wp2_with fail
  refine (HMX.out _ _ _ _ HA.out).mono ?_
  rintro e w1 ⟨Xp, xn, xc, rfl, hs, hb⟩
  have HX := hide hs
  have HW := hide hb
  replace HB := hide (HB.out.below hb)
  clear hs hb HMX HA
  go_wp2_with fail
  refine (HMY.out _ _ _ _ HB.out).mono ?_
  rintro e w2 ⟨Yp, yn, yc, rfl, hs, hb⟩
  have HY := hide hs
  replace HX := hide (HX.out.below hb)
  replace HW := hide (HW.out.trans (hb.mono HW.out.size))
  clear hs hb HMY HB
  have hxn : xn = k := by rw [← HX.out.len]; exact HBX.out.len
  have hyn : yn = k := by rw [← HY.out.len]; exact HBY.out.len
  subst hxn
  subst hyn
  go_wp2_with fail
  refine (HF.out.det Xp _ xc X _ HX.out (HTW.out.below HW.out)).mono ?_
  rintro e w3 ⟨rfl, hb⟩
  rw [HDX.out.1, HDX.out.2]
  replace HX := hide (HX.out.below hb)
  replace HY := hide (HY.out.below hb)
  replace HW := hide (HW.out.trans (hb.mono HW.out.size))
  clear hb
  go_wp2_with fail
  refine (HF.out.det Yp _ yc Y _ HY.out (HTW.out.below HW.out)).mono ?_
  rintro e w4 ⟨rfl, hb⟩
  rw [HDY.out.1, HDY.out.2]
  replace HX := hide (HX.out.below hb)
  replace HY := hide (HY.out.below hb)
  replace HW := hide (HW.out.trans (hb.mono HW.out.size))
  clear hb
  go_wp2_with fail
  refine (mproduct_any Xp Yp _ xc 0 yc X Y _ HX.out.ill HY.out.ill hk1 (by omega) HBX.out.row HBY.out.row (fun i j => Nat.le_trans (HBX.out.le i j) (by omega)) (fun i j => Nat.le_trans (HBY.out.le i j) (by omega))).mono ?_
  rintro e w5 ⟨Pp, pn, pc, rfl, hs, hb⟩
  have HP := hide hs
  replace HW := hide (HW.out.trans (hb.mono HW.out.size))
  clear hs hb HX HY
  go_wp2_with fail
  refine (HF.out.det Pp pn pc _ _ HP.out (HTW.out.below HW.out)).mono ?_
  rintro e w6 ⟨rfl, hb⟩
  rw [HDP.out.1, HDP.out.2]
  replace HW := hide (HW.out.trans (hb.mono HW.out.size))
  clear hb HP
  go_wp2_with fail
  refine (reckoned2_any HF.out _ (HTW.out.below HW.out)).mono ?_
  rintro e w7 ⟨rfl, hb⟩
  replace HW := hide (HW.out.trans (hb.mono HW.out.size))
  clear hb
  generalize detR yn (matF X) = dx at *
  generalize detR yn (matF Y) = dy at *
  have hwd : IntKind.i64.wrap (dx * dy) = dx * dy := by
    have h1 := abs_mul_le hdx hdy
    rw [IntKind.wrap_i64]
    omega
  go_wp2_with fail
  go_ret
  exact ⟨by simp, HW.out⟩
end Go.Proofs.YtgjblcfcbohjdaaDoor
