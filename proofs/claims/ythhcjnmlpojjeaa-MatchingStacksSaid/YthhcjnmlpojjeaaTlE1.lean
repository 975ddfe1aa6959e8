/- What timbref1.Planar goes through: mathematics. -/
import Derived.Test.YthhcjnmlpojjeaaTlQ
namespace Go.Proofs.Ythhcjnmlpojjeaa
set_option linter.unusedVariables false
set_option linter.unusedSimpArgs false
open Go.RowKit

theorem parts_append (i : Nat) (q : Nat → List (List Nat)) : ∀ (l1 l2 : List Nat) (k : Nat), Tl.partsL i q (l1 ++ l2) k = Tl.partsL i q l1 k ++ Tl.partsL i q l2 (k + l1.length)
  | [], l2, k => by simp [Tl.partsL]
  | c :: l1, l2, k => by
    have ih := parts_append i q l1 l2 (k + 1)
    rw [List.cons_append, Tl.partsL, Tl.partsL, ih, List.length_cons, show k + 1 + l1.length = k + (l1.length + 1) by omega]
    cases Nat.beq c 0 <;> cases Nat.blt i k <;> simp
theorem parts_low (i : Nat) (q : Nat → List (List Nat)) : ∀ (l : List Nat) (k : Nat), k + l.length ≤ i + 1 → Tl.partsL i q l k = []
  | [], k, _ => rfl
  | c :: l, k, h => by
    rw [List.length_cons] at h
    have ih := parts_low i q l (k + 1) (by omega)
    have hb : Nat.blt i k = false := by rw [Bool.eq_false_iff]; intro hh; rw [Nat.blt_eq] at hh; omega
    rw [Tl.partsL, ih, hb]
    cases Nat.beq c 0 <;> rfl
/-- The parts of the first k places. -/
def ptT (i : Nat) (q : Nat → List (List Nat)) (d : List Nat) (k : Nat) : List (List Nat) := Tl.partsL i q (d.take k) 0
theorem ptT_low (i : Nat) (q : Nat → List (List Nat)) (d : List Nat) : ptT i q d (i + 1) = [] := parts_low i q _ 0 (by rw [List.length_take]; omega)
theorem ptT_all (i : Nat) (q : Nat → List (List Nat)) (d : List Nat) : ptT i q d d.length = Tl.partsL i q d 0 := by unfold ptT; rw [List.take_length]
theorem ptT_succ {i : Nat} {q : Nat → List (List Nat)} {d : List Nat} {k : Nat} (hk : k < d.length) (hi : i < k) : ptT i q d (k + 1) = ptT i q d k ++ (if d.getD k 0 = 0 then q k else []) := by
  unfold ptT
  rw [List.take_succ_eq_append_getElem hk, parts_append, List.length_take, Nat.min_eq_left (by omega), Nat.zero_add, show d.getD k 0 = d[k] by simp [List.getD, hk]]
  congr 1
  have hb : Nat.blt i k = true := by rw [Nat.blt_eq]; exact hi
  rw [Tl.partsL, hb]
  by_cases h : d[k] = 0
  · rw [h, if_pos rfl]
    show q k ++ Tl.partsL i q [] (k + 1) = q k
    simp [Tl.partsL]
  · rw [if_neg h]
    have hc : Nat.beq d[k] 0 = false := by rw [Bool.eq_false_iff]; intro hh; exact h (Nat.eq_of_beq_eq_true hh)
    rw [hc]
    rfl
/-- A part of some matching, by itself. -/
structure Inp (N : Nat) (d : List Nat) : Prop where
  len : d.length = N
  at_ : ∀ i, i < N → d.getD i 0 ≠ 0 → d.getD i 0 ≤ N ∧ d.getD i 0 ≠ i + 1 ∧ d.getD (d.getD i 0 - 1) 0 = i + 1
theorem Inp.zero (N : Nat) : Inp N (List.replicate N 0) := ⟨by simp, fun i hi h => absurd (by simp [List.getD, hi]) h⟩
theorem Inp.step {N : Nat} {d : List Nat} (h : Inp N d) {i k : Nat} (hik : i < k) (hk : k < N) (h1 : d.getD i 0 = 0) (h2 : d.getD k 0 = 0) : Inp N ((d.set i (k + 1)).set k (i + 1)) := by
  refine ⟨by simp [h.len], fun j hj hne => ?_⟩
  have hl := h.len
  have g : ∀ j, j < N → ((d.set i (k + 1)).set k (i + 1)).getD j 0 = if k = j then i + 1 else if i = j then k + 1 else d.getD j 0 := fun j hj => set2_getD (by omega)
  rw [g j hj] at hne ⊢
  by_cases e1 : k = j
  · subst e1
    rw [if_pos rfl] at hne ⊢
    refine ⟨by omega, by omega, ?_⟩
    rw [show i + 1 - 1 = i by omega, g i (by omega), if_neg (by omega), if_pos rfl]
  · rw [if_neg e1] at hne ⊢
    by_cases e2 : i = j
    · subst e2
      rw [if_pos rfl] at hne ⊢
      refine ⟨by omega, by omega, ?_⟩
      rw [show k + 1 - 1 = k by omega, g k hk, if_pos rfl]
    · rw [if_neg e2] at hne ⊢
      obtain ⟨a1, a2, a3⟩ := h.at_ j hj hne
      refine ⟨a1, a2, ?_⟩
      rw [g _ (by omega)]
      by_cases e3 : k = d.getD j 0 - 1
      · rw [← e3, h2] at a3
        omega
      · rw [if_neg e3]
        by_cases e4 : i = d.getD j 0 - 1
        · rw [← e4, h1] at a3
          omega
        · rw [if_neg e4]
          exact a3
theorem toI_set (D : List Nat) (j x : Nat) : toI (D.set j x) = (toI D).set j ((x : Int) - 1) := by
  unfold toI
  rw [List.map_set]
end Go.Proofs.Ythhcjnmlpojjeaa
