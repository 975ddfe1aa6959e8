/- Two planar matchings have enough sets. -/
import Derived.Test.YthhcjnmlpojjeaaTlQ
namespace Go.Proofs.Ythhcjnmlpojjeaa.Tl
set_option linter.unusedVariables false
set_option linter.unusedSimpArgs false

/-- What is joined here is joined there. -/
structure Sub (f : Nat → Nat) (l2 l1 : List Nat) : Prop where
  ok2 : Ok l2
  ok1 : Ok l1
  lt : ∀ a, a < l2.length → f a < l1.length
  rel : ∀ a b, a < l2.length → b < l2.length → same l2 a b → same l1 (f a) (f b)
theorem Sub.join {f : Nat → Nat} {l2 l1 : List Nat} (h : Sub f l2 l1) {x y : Nat} (hx : x < l2.length) (hy : y < l2.length) :
    Sub f (Tl.join l2 x y) (Tl.join l1 (f x) (f y)) ∧ cnt l1 + cnt (Tl.join l2 x y) ≤ cnt (Tl.join l1 (f x) (f y)) + cnt l2 := by
  have gx := h.lt x hx
  have gy := h.lt y hy
  refine ⟨⟨h.ok2.join hx hy, h.ok1.join gx gy, fun a ha => ?_, fun a b ha hb => ?_⟩, ?_⟩
  · rw [join_length] at ha ⊢; exact h.lt a ha
  · rw [join_length] at ha hb
    rw [join_same ha hb, join_same (h.lt a ha) (h.lt b hb)]
    rintro (k | ⟨k1, k2⟩ | ⟨k1, k2⟩)
    · exact .inl (h.rel a b ha hb k)
    · exact .inr (.inl ⟨h.rel a x ha hx k1, h.rel y b hy hb k2⟩)
    · exact .inr (.inr ⟨h.rel a y ha hy k1, h.rel x b hx hb k2⟩)
  · have c1 := join_cnt h.ok1 gx gy
    have c2 := join_cnt h.ok2 hx hy
    have hr := h.rel x y hx hy
    by_cases e : same l2 x y
    · rw [if_pos e] at c2
      rw [if_pos (hr e)] at c1
      omega
    · rw [if_neg e] at c2
      split at c1 <;> omega
theorem Sub.joins {f : Nat → Nat} {es : List (Nat × Nat)} : ∀ {l2 l1 : List Nat}, Sub f l2 l1 → (∀ e ∈ es, e.1 < l2.length ∧ e.2 < l2.length) →
    cnt l1 + cnt (Tl.joins l2 es) ≤ cnt (Tl.joins l1 (es.map fun e => (f e.1, f e.2))) + cnt l2 := by
  induction es with
  | nil => intro l2 l1 h _; exact Nat.le_refl _
  | cons e es ih =>
    intro l2 l1 h he
    have h1 := he e (by simp)
    obtain ⟨s, c⟩ := h.join h1.1 h1.2
    have c2 := ih s (fun e' h' => by rw [join_length]; exact he e' (by simp [h']))
    show cnt l1 + cnt (Tl.joins (Tl.join l2 e.1 e.2) es) ≤ cnt (Tl.joins (Tl.join l1 (f e.1) (f e.2)) (es.map fun e => (f e.1, f e.2))) + cnt l2
    omega
theorem two_le {n : Nat} {x y : List Nat} (hx : Base n x) (hy : Base n y) : n ≤ cnt (labS n [x, y]) := by
  have hox := labS_ok (n := n) (l := [x]) (fun d hd => by simp at hd; subst hd; exact hx.mat.ok)
  have l1 : (labS n [x]).length = n * 2 := labS_length n [x]
  have hS : Sub (n + ·) (List.range (2 * n)) (labS n [x] ++ (List.range n).map ((labS n [x]).length + ·)) := by
    refine ⟨Ok.range _, hox.app n, fun a ha => ?_, fun a b ha hb h => ?_⟩
    · rw [List.length_range] at ha
      rw [List.length_append, List.length_map, List.length_range, l1]
      omega
    · rw [List.length_range] at ha hb
      unfold same at h
      rw [range_at ha, range_at hb] at h
      rw [h]
  have hj := hS.joins (es := lay 0 y) (fun e he => by rw [List.length_range]; exact lay_lt hy.mat.ok (by omega) e he)
  have e1 : (lay 0 y).map (fun e => (n + e.1, n + e.2)) = lay (1 * n) y := by
    unfold lay
    rw [List.map_map]
    refine List.map_congr_left fun i _ => ?_
    simp
  have e2 : cnt (joins (List.range (2 * n)) (lay 0 y)) = n := by
    have := hy.cnt
    rw [labS_one, Nat.mul_comm] at this
    exact this
  rw [e1, e2, cnt_range, cnt_app hox, hx.cnt, ← labS_two n hx.mat.ok] at hj
  omega
end Go.Proofs.Ythhcjnmlpojjeaa.Tl
