/- The planar matchings come in order of their lists, Catalan numbers of them. -/
import Derived.Test.YthhcjnmlpojjeaaTlX
import Derived.Test.YthhcjnmlpojjeaaCompare
namespace Go.Proofs.Ythhcjnmlpojjeaa
set_option linter.unusedVariables false
set_option linter.unusedSimpArgs false
open Go.RowKit

def ltB : List Nat → List Nat → Bool
  | [], [] => false
  | [], _ :: _ => true
  | _ :: _, [] => false
  | x :: r, y :: s => cond (Nat.blt x y) true (cond (Nat.blt y x) false (ltB r s))
theorem ltB_cmp : ∀ a b : List Nat, ltB a b = true ↔ cmpI (zs a) (zs b) < 0
  | [], [] => by simp [ltB, zs, cmpI]
  | [], y :: s => by simp [ltB, zs, cmpI]
  | x :: r, [] => by simp [ltB, zs, cmpI]
  | x :: r, y :: s => by
    have ih := ltB_cmp r s
    unfold zs at ih
    unfold ltB zs
    rw [List.map_cons, List.map_cons, cmpI]
    simp only [Int.ofNat_eq_natCast] at ih ⊢
    by_cases h : x < y
    · have h1 : Nat.blt x y = true := by rw [Nat.blt_eq]; exact h
      rw [h1, if_pos (by omega)]
      simp
    · have h1 : Nat.blt x y = false := by rw [Bool.eq_false_iff]; intro hh; rw [Nat.blt_eq] at hh; exact h hh
      rw [h1, if_neg (by omega)]
      by_cases h2 : y < x
      · have h3 : Nat.blt y x = true := by rw [Nat.blt_eq]; exact h2
        rw [h3, if_pos (by omega)]
        simp
      · have h3 : Nat.blt y x = false := by rw [Bool.eq_false_iff]; intro hh; rw [Nat.blt_eq] at hh; exact h2 hh
        rw [h3, if_neg (by omega)]
        simpa using ih
theorem ltB_trans : ∀ a b c : List Nat, ltB a b = true → ltB b c = true → ltB a c = true
  | [], [], c, h, _ => by simp [ltB] at h
  | [], _ :: _, [], _, h => by simp [ltB] at h
  | [], _ :: _, _ :: _, _, _ => by simp [ltB]
  | _ :: _, [], _, h, _ => by simp [ltB] at h
  | _ :: _, _ :: _, [], _, h => by simp [ltB] at h
  | x :: r, y :: s, z :: t, h, g => by
    have ih := ltB_trans r s t
    unfold ltB at h g ⊢
    simp only [Bool.cond_eq_ite, Nat.blt_eq] at h g ⊢
    grind
theorem ltB_irr : ∀ a : List Nat, ltB a a = false
  | [] => rfl
  | x :: r => by
    have ih := ltB_irr r
    unfold ltB
    simp only [Bool.cond_eq_ite, Nat.blt_eq, Nat.lt_irrefl, if_false]
    exact ih
theorem cmpI_same : ∀ a : List Int, cmpI a a = 0
  | [] => rfl
  | x :: r => by rw [cmpI, if_neg (by omega), if_neg (by omega)]; exact cmpI_same r
def sortB : List (List Nat) → Bool
  | [] => true
  | [_] => true
  | a :: b :: t => cond (ltB a b) (sortB (b :: t)) false
theorem sortB_pw : ∀ l : List (List Nat), sortB l = true → l.Pairwise fun a b => ltB a b = true
  | [], _ => List.Pairwise.nil
  | [a], _ => by simp
  | a :: b :: t, h => by
    unfold sortB at h
    rw [Bool.cond_eq_ite] at h
    by_cases hab : ltB a b = true
    · rw [if_pos hab] at h
      have ih := sortB_pw (b :: t) h
      refine List.Pairwise.cons (fun c hc => ?_) ih
      rcases List.mem_cons.1 hc with rfl | hc
      · exact hab
      · exact ltB_trans a b c hab ((List.pairwise_cons.1 ih).1 c hc)
    · rw [if_neg hab] at h; cases h
set_option maxRecDepth 100000 in
theorem plan_sort_all : (List.range 7).all (fun n => sortB (Tl.plan n)) = true := by decide +kernel
theorem plan_sort {n : Nat} (h6 : n ≤ 6) : (Tl.plan n).Pairwise fun a b => ltB a b = true := by
  have h := plan_sort_all
  rw [List.all_eq_true] at h
  exact sortB_pw _ (h n (List.mem_range.2 (by omega)))
theorem plan_lt {n : Nat} (h6 : n ≤ 6) {i j : Nat} (hij : i < j) (hj : j < (Tl.plan n).length) : cmpI (((Tl.plan n).map zs).getD i []) (((Tl.plan n).map zs).getD j []) < 0 := by
  have h := List.pairwise_iff_getElem.1 (plan_sort h6) i j (by omega) hj hij
  rw [List.getD_eq_getElem?_getD, List.getD_eq_getElem?_getD, List.getElem?_map, List.getElem?_map, List.getElem?_eq_getElem hj, List.getElem?_eq_getElem (show i < (Tl.plan n).length by omega)]
  exact (ltB_cmp _ _).1 h
theorem ltB_asymm {a b : List Nat} (h : ltB a b = true) : ¬ cmpI (zs b) (zs a) < 0 := fun hh => by
  have := ltB_trans _ _ _ h ((ltB_cmp _ _).2 hh)
  rw [ltB_irr] at this
  cases this
/-- Where a planar matching stands in the list. -/
theorem plan_place {n : Nat} (h6 : n ≤ 6) {d : List Nat} (hd : d ∈ Tl.plan n) :
    ∃ p, p < (Tl.plan n).length ∧ (∀ j, j < p → cmpI (((Tl.plan n).map zs).getD j []) (zs d) < 0) ∧ (∀ j, p ≤ j → j < (Tl.plan n).length → ¬ cmpI (((Tl.plan n).map zs).getD j []) (zs d) < 0) ∧ cmpI (((Tl.plan n).map zs).getD p []) (zs d) = 0 := by
  obtain ⟨p, hp, rfl⟩ := List.mem_iff_getElem.1 hd
  have hz : ∀ j, (hj : j < (Tl.plan n).length) → ((Tl.plan n).map zs).getD j [] = zs (Tl.plan n)[j] := fun j hj => by
    rw [List.getD_eq_getElem?_getD, List.getElem?_map, List.getElem?_eq_getElem hj]
    rfl
  refine ⟨p, hp, fun j hj => ?_, fun j hpj hj => ?_, ?_⟩
  · rw [← hz p hp]
    exact plan_lt h6 hj hp
  · rw [hz j hj]
    by_cases h : p = j
    · subst h
      rw [cmpI_same]
      omega
    · exact ltB_asymm (List.pairwise_iff_getElem.1 (plan_sort h6) p j hp hj (by omega))
  · rw [hz p hp]
    exact cmpI_same _
theorem plan_len : (Tl.plan 1).length = 1 ∧ (Tl.plan 2).length = 2 ∧ (Tl.plan 3).length = 5 ∧ (Tl.plan 4).length = 14 ∧ (Tl.plan 5).length = 42 ∧ (Tl.plan 6).length = 132 := by decide +kernel
end Go.Proofs.Ythhcjnmlpojjeaa
