/- Plain mathematics: insertion sort; the lengths of the cycles of a conjugate. -/
import Derived.Test.YtnpdlfnhpghkmaaMath7
namespace Go.Proofs.Ytnpdlfnhpghkmaa
set_option linter.unusedVariables false
set_option linter.unusedSimpArgs false

/-- Elements j and j + 1 exchanged. -/
def swp (ys : List Int) (j : Nat) : List Int := (ys.set (j + 1) (ys.getD j 0)).set j (ys.getD (j + 1) 0)
theorem swp_length (ys : List Int) (j : Nat) : (swp ys j).length = ys.length := by simp [swp]
theorem getD_eqI {a : List Int} {j : Nat} (hj : j < a.length) : a.getD j 0 = a[j] := by
  simp [List.getD, List.getElem?_eq_getElem hj]
theorem swp_perm {ys : List Int} {j : Nat} (hj : j + 1 < ys.length) : (swp ys j).Perm ys := by
  unfold swp
  rw [getD_eqI (by omega), getD_eqI hj]
  exact List.set_set_perm hj (show j < ys.length by omega)
theorem swp_getD {ys : List Int} {j : Nat} (hj : j + 1 < ys.length) (q : Nat) : (swp ys j).getD q 0 = if q = j then ys.getD (j + 1) 0 else if q = j + 1 then ys.getD j 0 else ys.getD q 0 := by
  unfold swp
  by_cases h1 : q = j
  · subst h1
    rw [if_pos rfl]
    simp only [List.getD]
    rw [List.getElem?_set_self (by simp; omega)]
    rfl
  · rw [if_neg h1]
    simp only [List.getD]
    rw [List.getElem?_set_ne (fun e => h1 e.symm)]
    by_cases h2 : q = j + 1
    · subst h2
      rw [if_pos rfl, List.getElem?_set_self (by omega)]
      rfl
    · rw [if_neg h2, List.getElem?_set_ne (fun e => h2 e.symm)]
/-- The first i elements are sorted. -/
def SortTo (ys : List Int) (i : Nat) : Prop := ∀ p q, p < q → q < i → ys.getD p 0 ≤ ys.getD q 0
/-- The first i + 1 elements are sorted but for element j, which is at most what follows. -/
structure InsSt (xs ys : List Int) (i j : Nat) : Prop where
  perm : ys.Perm xs
  rest : ∀ p q, p < q → q ≤ i → p ≠ j → q ≠ j → ys.getD p 0 ≤ ys.getD q 0
  low : ∀ q, j < q → q ≤ i → ys.getD j 0 ≤ ys.getD q 0
theorem InsSt.start {xs ys : List Int} {i : Nat} (hp : ys.Perm xs) (h : SortTo ys i) : InsSt xs ys i i :=
  ⟨hp, fun p q h1 h2 _ h4 => h p q h1 (by omega), fun q h1 h2 => by omega⟩
theorem InsSt.swap {xs ys : List Int} {i j : Nat} (h : InsSt xs ys i (j + 1)) (hi : i < ys.length) (hj : j + 1 ≤ i) (hlt : ys.getD (j + 1) 0 < ys.getD j 0) : InsSt xs (swp ys j) i j := by
  have hjl : j + 1 < ys.length := by omega
  refine ⟨(swp_perm hjl).trans h.perm, fun p q h1 h2 h3 h4 => ?_, fun q h1 h2 => ?_⟩
  · rw [swp_getD hjl, swp_getD hjl, if_neg h3, if_neg h4]
    by_cases e1 : p = j + 1
    · rw [if_pos e1, if_neg (by omega)]
      exact h.rest j q (by omega) h2 (by omega) (by omega)
    · rw [if_neg e1]
      by_cases e2 : q = j + 1
      · rw [if_pos e2]
        exact h.rest p j (by omega) (by omega) e1 (by omega)
      · rw [if_neg e2]
        exact h.rest p q h1 h2 e1 e2
  · rw [swp_getD hjl, swp_getD hjl, if_pos rfl, if_neg (by omega)]
    by_cases e2 : q = j + 1
    · rw [if_pos e2]
      omega
    · rw [if_neg e2]
      exact h.low q (by omega) h2
theorem InsSt.stop {xs ys : List Int} {i j : Nat} (h : InsSt xs ys i j) (hj : j ≤ i) (hs : j = 0 ∨ ys.getD (j - 1) 0 ≤ ys.getD j 0) : SortTo ys (i + 1) := by
  intro p q h1 h2
  by_cases e1 : p = j
  · subst e1
    exact h.low q h1 (by omega)
  · by_cases e2 : q = j
    · subst e2
      rcases hs with h0 | h0
      · omega
      · by_cases e3 : p = q - 1
        · rw [e3]; exact h0
        · have := h.rest p (q - 1) (by omega) (by omega) e1 (by omega)
          omega
    · exact h.rest p q h1 (by omega) e1 e2
theorem sorted_unique : ∀ {l l' : List Int}, l.Perm l' → l.Pairwise (· ≤ ·) → l'.Pairwise (· ≤ ·) → l = l'
  | [], l', h, _, _ => h.symm.eq_nil.symm
  | x :: r, [], h, _, _ => by have := h.length_eq; simp at this
  | x :: r, y :: s, h, h1, h2 => by
    have h1' := List.pairwise_cons.1 h1
    have h2' := List.pairwise_cons.1 h2
    have e : x = y := by
      have a1 : x ∈ y :: s := h.mem_iff.1 (List.mem_cons_self ..)
      have a2 : y ∈ x :: r := h.mem_iff.2 (List.mem_cons_self ..)
      rcases List.mem_cons.1 a1 with e | a1
      · exact e
      · rcases List.mem_cons.1 a2 with e | a2
        · exact e.symm
        · have := h1'.1 y a2
          have := h2'.1 x a1
          omega
    subst e
    rw [sorted_unique h.cons_inv h1'.2 h2'.2]
theorem sortTo_pairwise {ys : List Int} (h : SortTo ys ys.length) : ys.Pairwise (· ≤ ·) := by
  rw [List.pairwise_iff_getElem]
  intro i j hi hj hij
  have := h i j hij hj
  rwa [getD_eqI hi, getD_eqI hj] at this
/-! The lengths of the cycles of a conjugate. -/
def lens (a : List Nat) : List Nat := (cycs a).map List.length
theorem lens_eq (a : List Nat) : lens a = ((List.range a.length).filter fun i => isMin a i && decide (1 < perOf a i)).map (perOf a) := by
  unfold lens cycs cycsTo
  rw [List.map_map]
  congr 1
  funext i
  exact cyc_length a i
theorem lens_count_small (a : List Nat) {L : Nat} (hL : L ≤ 1) : (lens a).count L = 0 := by
  rw [List.count_eq_zero, lens_eq]
  intro h
  obtain ⟨i, hi, he⟩ := List.mem_map.1 h
  have := (List.mem_filter.1 hi).2
  simp at this
  omega
theorem lens_count (a : List Nat) {L : Nat} (hL : 1 < L) : (lens a).count L = ((List.range a.length).filter fun i => isMin a i && decide (perOf a i = L)).length := by
  rw [lens_eq, List.count, List.countP_map, List.countP_filter, List.countP_eq_length_filter]
  congr 1
  apply List.filter_congr
  intro i _
  simp only [Function.comp]
  cases isMin a i
  · simp
  · by_cases e : perOf a i = L
    · simp [e, hL]
    · simp [e]
theorem sum_const {f : Nat → Nat} {L : Nat} : ∀ (l : List Nat), (∀ x ∈ l, f x = L) → (l.map f).sum = l.length * L
  | [], _ => by simp
  | x :: r, h => by
    rw [List.map_cons, List.sum_cons, sum_const r (fun y hy => h y (by simp [hy])), h x (by simp), List.length_cons, Nat.add_mul, Nat.one_mul, Nat.add_comm]
theorem min_count {a : List Nat} (h : isP a) (L : Nat) : ((List.range a.length).filter fun i => isMin a i && decide (perOf a i = L)).length * L = ((List.range a.length).filter fun i => decide (perOf a i = L)).length := by
  have h1 := (cyc_partition h (fun i => decide (perOf a i = L)) (fun s hs x hx => by rw [per_cyc h hs hx])).length_eq
  rw [List.length_flatMap] at h1
  rw [← h1]
  exact (sum_const _ (fun x hx => by
    have := (List.mem_filter.1 hx).2
    simp at this
    rw [cyc_length]
    exact this.2)).symm
theorem conj_it {x y z : List Nat} (px : isP x) (hxy : x.length = y.length) (hc : ∀ s, s < x.length → z.getD (y.getD s 0) 0 = y.getD (x.getD s 0) 0) {s : Nat} (hs : s < x.length) : ∀ t, it z t (y.getD s 0) = y.getD (it x t s) 0
  | 0 => rfl
  | t + 1 => by rw [it, conj_it px hxy hc hs t, hc _ (it_lt px hs t)]; rfl
theorem conj_per {x y z : List Nat} (px : isP x) (py : isP y) (pz : isP z) (hxy : x.length = y.length) (hzy : z.length = y.length) (hc : ∀ s, s < x.length → z.getD (y.getD s 0) 0 = y.getD (x.getD s 0) 0) {s : Nat} (hs : s < x.length) :
    perOf z (y.getD s 0) = perOf x s := by
  have hys : y.getD s 0 < z.length := by rw [hzy]; exact py.lt (by omega)
  have key : ∀ t, it z t (y.getD s 0) = y.getD s 0 ↔ it x t s = s := by
    intro t
    rw [conj_it px hxy hc hs t]
    constructor
    · intro e
      have := it_lt px hs t
      exact py.inj (by omega) (by omega) e
    · intro e
      rw [e]
  refine Nat.dvd_antisymm ?_ ?_
  · rw [← it_self pz hys, key]
    exact (per_spec px hs).2.2.1
  · rw [← it_self px hs, ← key]
    exact (per_spec pz hys).2.2.1
theorem conj_lens {x y z : List Nat} (px : isP x) (py : isP y) (pz : isP z) (hxy : x.length = y.length) (hzy : z.length = y.length) (hc : ∀ s, s < x.length → z.getD (y.getD s 0) 0 = y.getD (x.getD s 0) 0) : (lens x).Perm (lens z) := by
  rw [List.perm_iff_count]
  intro L
  by_cases hL : 1 < L
  · rw [lens_count x hL, lens_count z hL]
    have hx := min_count px L
    have hz := min_count pz L
    have hyz : (List.range z.length).Perm ((List.range x.length).map fun s => y.getD s 0) := by
      have e : (List.range x.length).map (fun s => y.getD s 0) = y := by
        have := range_comp y
        rw [← hxy] at this
        exact this
      rw [e, hzy]
      exact py.perm.symm
    have e : ((List.range z.length).filter fun i => decide (perOf z i = L)).length = ((List.range x.length).filter fun i => decide (perOf x i = L)).length := by
      rw [← List.countP_eq_length_filter, ← List.countP_eq_length_filter, hyz.countP_eq, List.countP_map]
      apply List.countP_congr
      intro s hs
      simp only [Function.comp]
      rw [conj_per px py pz hxy hzy hc (List.mem_range.1 hs)]
    rw [e, ← hx] at hz
    exact (Nat.eq_of_mul_eq_mul_right (by omega) hz).symm
  · rw [lens_count_small x (by omega), lens_count_small z (by omega)]
theorem conj_law {x y : List Nat} (px : isP x) (py : isP y) (hxy : x.length = y.length) : (lens x).Perm (lens (comp (comp (inv y) x) y)) := by
  have h1 : isP (comp (inv y) x) := comp_isP (inv_isP py) px (by rw [inv_length]; omega)
  have hl1 : (comp (inv y) x).length = y.length := by rw [comp_length, inv_length]
  refine conj_lens px py (comp_isP h1 py hl1) hxy (by rw [comp_length, hl1]) ?_
  intro s hs
  have hys := py.lt (j := s) (by omega)
  rw [comp_getD (by rw [hl1]; exact hys), comp_getD (by rw [inv_length]; exact hys), inv_getD_self py (by omega)]

end Go.Proofs.Ytnpdlfnhpghkmaa
