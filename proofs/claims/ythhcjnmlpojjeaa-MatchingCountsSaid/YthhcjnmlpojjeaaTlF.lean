/- timbref1: Straight, Hook; joined points: Points, At, Join. -/
import Derived.Test.YthhcjnmlpojjeaaBase1
import Derived.Test.YthhcjnmlpojjeaaSmall2
import Derived.Test.YthhcjnmlpojjeaaTimes
import Derived.Handy
namespace Go.Proofs.Ythhcjnmlpojjeaa
set_option linter.unusedVariables false
set_option linter.unusedSimpArgs false
open Go.RowKit

theorem zs_set (l : List Nat) (i x : Nat) : (zs l).set i (x : Int) = zs (l.set i x) := by
  unfold zs
  rw [List.map_set]
  rfl
/-! ### joined points -/
/-- The pointers, the labels. -/
structure UF (par lab : List Nat) : Prop where
  len : par.length = lab.length
  ok : Tl.Ok lab
  dp : ∃ dp : Nat → Nat, ∀ a, a < lab.length → par.getD a 0 < lab.length ∧ ((par.getD a 0 = a ∧ Tl.at_ lab a = a) ∨ (par.getD a 0 ≠ a ∧ Tl.at_ lab a ≠ a ∧ Tl.at_ lab (par.getD a 0) = Tl.at_ lab a ∧ dp (par.getD a 0) < dp a))
theorem UF.range (N : Nat) : UF (List.range N) (List.range N) := ⟨rfl, Tl.Ok.range N, fun _ => 0, fun a ha => by
  rw [List.length_range] at ha ⊢
  have e : (List.range N).getD a 0 = a := Tl.range_at ha
  exact ⟨by rw [e]; exact ha, .inl ⟨e, e⟩⟩⟩
theorem UF.root {par lab : List Nat} (h : UF par lab) {a : Nat} (ha : a < lab.length) : par.getD (Tl.at_ lab a) 0 = Tl.at_ lab a := by
  obtain ⟨dp, hd⟩ := h.dp
  rcases (hd _ (h.ok.lt a ha)).2 with ⟨h1, _⟩ | ⟨_, h2, _⟩
  · exact h1
  · exact absurd (h.ok.idem a ha) h2
theorem getD_setN {l : List Nat} {i x j : Nat} (hj : j < l.length) : (l.set i x).getD j 0 = if i = j then x else l.getD j 0 := by
  by_cases e : i = j
  · subst e; simp [List.getD, hj]
  · rw [if_neg e]; simp [List.getD, List.getElem?_set_ne e]
theorem UF.join {par lab : List Nat} (h : UF par lab) {x y : Nat} (hx : x < lab.length) (hy : y < lab.length) : UF (par.set (Tl.at_ lab x) (Tl.at_ lab y)) (Tl.join lab x y) := by
  by_cases e : Tl.at_ lab x = Tl.at_ lab y
  · have e1 : par.set (Tl.at_ lab x) (Tl.at_ lab y) = par := by
      rw [← e]
      conv => lhs; rw [show par.set (Tl.at_ lab x) (Tl.at_ lab x) = par.set (Tl.at_ lab x) (par.getD (Tl.at_ lab x) 0) by rw [h.root hx]]
      have hlt := h.ok.lt x hx
      refine List.ext_getElem (by simp) fun j h1 h2 => ?_
      rw [List.getElem_set]
      split
      · rename_i e2; subst e2; rw [List.getD_eq_getElem?_getD, List.getElem?_eq_getElem h2]; rfl
      · rfl
    rw [e1, Tl.join_id e]
    exact h
  · obtain ⟨dp, hd⟩ := h.dp
    have hl := Tl.join_length lab x y
    refine ⟨by rw [List.length_set, hl]; exact h.len, h.ok.join hx hy, fun a => if Tl.at_ lab a = Tl.at_ lab x then dp a + dp (Tl.at_ lab y) + 1 else dp a, fun a ha => ?_⟩
    rw [hl] at ha ⊢
    rw [getD_setN (by rw [h.len]; exact ha), Tl.join_at ha]
    obtain ⟨d1, d2⟩ := hd a ha
    have hyl := h.ok.lt y hy
    have hyi := h.ok.idem y hy
    by_cases e2 : Tl.at_ lab x = a
    · subst e2
      have hxi := h.ok.idem x hx
      rw [if_pos rfl, hxi, if_pos rfl]
      refine ⟨hyl, .inr ⟨fun e3 => e e3.symm, fun e3 => e e3.symm, ?_, ?_⟩⟩
      · rw [Tl.join_at hyl, hyi, if_neg (fun e3 => e e3.symm)]
      · show (if Tl.at_ lab (Tl.at_ lab y) = Tl.at_ lab x then _ else dp (Tl.at_ lab y)) < if Tl.at_ lab (Tl.at_ lab x) = Tl.at_ lab x then _ else _
        rw [if_neg (show ¬ Tl.at_ lab (Tl.at_ lab y) = Tl.at_ lab x by rw [hyi]; exact fun e3 => e e3.symm), if_pos hxi]
        omega
    · rw [if_neg e2]
      refine ⟨d1, ?_⟩
      rw [Tl.join_at d1]
      rcases d2 with ⟨h1, h2⟩ | ⟨h1, h2, h3, h4⟩
      · refine .inl ⟨h1, ?_⟩
        rw [h2, if_neg (fun e3 => e2 e3.symm)]
      · refine .inr ⟨h1, ?_, by rw [h3], ?_⟩
        · by_cases e3 : Tl.at_ lab a = Tl.at_ lab x
          · rw [if_pos e3]
            intro e4
            rw [← e4, hyi] at h2
            exact h2 rfl
          · rw [if_neg e3]; exact h2
        · show (if Tl.at_ lab (par.getD a 0) = Tl.at_ lab x then dp (par.getD a 0) + _ + 1 else dp (par.getD a 0)) < if Tl.at_ lab a = Tl.at_ lab x then _ else _
          rw [h3]
          by_cases e3 : Tl.at_ lab a = Tl.at_ lab x
          · rw [if_pos e3, if_pos e3]; omega
          · rw [if_neg e3, if_neg e3]; exact h4

end Go.Proofs.Ythhcjnmlpojjeaa
