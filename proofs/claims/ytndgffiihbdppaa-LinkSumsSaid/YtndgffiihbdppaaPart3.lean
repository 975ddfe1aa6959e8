/- Several texts in one. -/
import Derived.Test.YtndgffiihbdppaaPart2
import Derived.Test.YtndgffiihbdppaaBase1
import Derived.Test.YtndgffiihbdppaaPart1
import Derived.BigRegion
import Derived.Test.YtndgffiihbdppaaProg
import Derived.WalkKit
import Derived.Deep.QuietTactic
import Derived.BigQuiet
import Derived.WalkSpells
import Derived.WalkLawsBesides
import Derived.Outline
/- Linking numbers: what LinkSums says (mathematics). -/
namespace Go.Proofs.Ytndgffiihbdppaa
set_option linter.unusedVariables false
set_option linter.unusedSimpArgs false

/-! ### sums over squares -/
def sqS (K : Nat) (F : Nat → Nat → Int) : Int := ((List.range K).map fun i => ((List.range K).map fun k => F i k).sum).sum
theorem sum_addI {f g : Nat → Int} : ∀ l : List Nat, (l.map fun i => f i + g i).sum = (l.map f).sum + (l.map g).sum
  | [] => rfl
  | a :: l => by simp only [List.map_cons, List.sum_cons, sum_addI l]; omega
theorem sum_hit {s : Nat} {c : Int} : ∀ K, ((List.range K).map fun k => if s = k then c else 0).sum = if s < K then c else 0
  | 0 => by simp
  | K + 1 => by
    rw [List.range_succ, List.map_append, List.sum_append, sum_hit K]
    simp only [List.map_cons, List.map_nil, List.sum_cons, List.sum_nil, Int.add_zero]
    by_cases h1 : s < K
    · rw [if_pos h1, if_neg (by omega), if_pos (by omega), Int.add_zero]
    · rw [if_neg h1]
      by_cases h2 : s = K
      · rw [if_pos h2, if_pos (by omega), Int.zero_add]
      · rw [if_neg h2, if_neg (by omega)]; rfl
theorem sum_zero {l : List Nat} : (l.map fun _ => (0 : Int)).sum = 0 := by
  induction l with
  | nil => rfl
  | cons a l ih => simp only [List.map_cons, List.sum_cons, ih]; rfl
theorem sqS_add {K : Nat} {F G : Nat → Nat → Int} : sqS K (fun i k => F i k + G i k) = sqS K F + sqS K G := by
  unfold sqS
  rw [← sum_addI]
  congr 1
  exact List.map_congr_left fun i _ => sum_addI _
theorem sqS_hit {K s t : Nat} {c : Int} (hs : s < K) (ht : t < K) : sqS K (fun i k => if s = i ∧ t = k then c else 0) = c := by
  unfold sqS
  have e : (fun i => ((List.range K).map fun k => if s = i ∧ t = k then c else 0).sum) = fun i => if s = i then c else 0 := by
    funext i
    by_cases h : s = i
    · rw [if_pos h]
      rw [show (fun k => if s = i ∧ t = k then c else 0) = fun k => if t = k then c else 0 by funext k; simp [h], sum_hit, if_pos ht]
    · rw [if_neg h]
      rw [show (fun k => if s = i ∧ t = k then c else 0) = fun _ => (0 : Int) by funext k; simp [h], sum_zero]
  rw [e, sum_hit, if_pos hs]
/-! ### components -/
theorem prt_mem {a : List Nat} (h : isP a) {c : List Nat} (hc : c ∈ prtL a) : ∃ i, i < a.length ∧ isMin a i = true ∧ ∀ x, x ∈ c ↔ x ∈ cyc a i := by
  unfold prtL at hc
  obtain ⟨i, hi, rfl⟩ := List.mem_map.1 hc
  obtain ⟨h1, h2⟩ := List.mem_filter.1 hi
  have h1' := List.mem_range.1 h1
  refine ⟨i, h1', h2, fun x => ?_⟩
  rw [List.mem_filter, List.mem_range, decide_eq_true_iff]
  exact ⟨fun e => e.2, fun e => ⟨cyc_lt h h1' e, e⟩⟩
theorem lkAt_next {a : List Nat} (h : isP a) {s : Nat} (hs : s < a.length) : lkAt a (a.getD s 0) = lkAt a s := by
  unfold lkAt
  have e : ∀ l : List (List Nat), (∀ c ∈ l, c ∈ prtL a) → (l.findIdx fun c => decide (a.getD s 0 ∈ c)) = l.findIdx fun c => decide (s ∈ c) := by
    intro l hl
    induction l with
    | nil => rfl
    | cons c l ih =>
      obtain ⟨i, hi, _, hc⟩ := prt_mem h (hl c (by simp))
      have e2 : decide (a.getD s 0 ∈ c) = decide (s ∈ c) := by
        rw [decide_eq_decide, hc, hc]
        refine ⟨fun e => ?_, fun e => cyc_next h hi e⟩
        have m1 : a.getD s 0 ∈ cyc a s := (mem_cyc h hs).2 ⟨1, rfl⟩
        exact cyc_trans h hi e (cyc_symm h hs m1)
      rw [List.findIdx_cons, List.findIdx_cons, e2, ih fun c hc => hl c (by simp [hc])]
  exact e _ fun c hc => hc
theorem lkAt_lt {a : List Nat} (h : isP a) {s : Nat} (hs : s < a.length) : lkAt a s < (prtL a).length := by
  unfold lkAt
  refine List.findIdx_lt_length_of_exists ?_
  obtain ⟨h1, h2, h3⟩ := repS_spec h hs
  refine ⟨(List.range a.length).filter fun j => decide (j ∈ cyc a (repS a s)), ?_, ?_⟩
  · unfold prtL
    exact List.mem_map.2 ⟨repS a s, List.mem_filter.2 ⟨List.mem_range.2 h1, h3⟩, rfl⟩
  · rw [decide_eq_true_iff, List.mem_filter, List.mem_range, decide_eq_true_iff]
    exact ⟨hs, cyc_symm h hs h2⟩
/-- A component has as many strands as its cycle. -/
theorem prt_len {a : List Nat} (h : isP a) {i : Nat} (hi : i < a.length) : ((List.range a.length).filter fun j => decide (j ∈ cyc a i)).length = (cyc a i).length := by
  refine List.Perm.length_eq ((List.perm_ext_iff_of_nodup (nodup_filter _ List.nodup_range) (cyc_nodup h hi)).2 fun x => ?_)
  rw [List.mem_filter, List.mem_range, decide_eq_true_iff]
  exact ⟨fun e => e.2, fun e => ⟨cyc_lt h hi e, e⟩⟩
theorem prt_lens {a : List Nat} (h : isP a) : (prtL a).map List.length = ((List.range a.length).filter fun i => isMin a i).map fun i => (cyc a i).length := by
  unfold prtL
  rw [List.map_map]
  refine List.map_congr_left fun i hi => ?_
  exact prt_len h (List.mem_range.1 (List.mem_filter.1 hi).1)
/-- All strands lie in components. -/
theorem prt_many {a : List Nat} (h : isP a) : ((prtL a).map List.length).sum = a.length := by
  have hp := (cyc_partition h (fun _ => true) (fun _ _ _ _ => rfl)).length_eq
  rw [List.length_flatMap, List.filter_eq_self.2 (fun _ _ => rfl), List.length_range] at hp
  rw [prt_lens h]
  refine Eq.trans ?_ hp
  congr 2
  refine List.filter_congr fun i _ => ?_
  rw [Bool.and_true]
/-- Components of more than one strand are the cycles. -/
theorem prt_longer {a : List Nat} (h : isP a) : ((prtL a).countP fun c => decide (1 < c.length)) = (cycs a).length := by
  unfold cycs cycsTo
  rw [List.length_map]
  have e : ((prtL a).countP fun c => decide (1 < c.length)) = ((prtL a).map List.length).countP fun k => decide (1 < k) := by rw [List.countP_map]; rfl
  rw [e, prt_lens h, List.countP_map, List.countP_eq_length_filter, List.filter_filter]
  congr 1
  refine List.filter_congr fun i _ => ?_
  show (decide (1 < (cyc a i).length) && isMin a i) = _
  rw [cyc_length, Bool.and_comm]
theorem prt_sorted {a : List Nat} {c : List Nat} (hc : c ∈ prtL a) : c.Pairwise (· < ·) := by
  unfold prtL at hc
  obtain ⟨i, _, rfl⟩ := List.mem_map.1 hc
  exact List.Pairwise.filter _ List.pairwise_lt_range

/-! ### crossings of two components -/
theorem idxOf_map {f : Nat → Nat} (hf : ∀ s, f (f s) = s) (p : Nat) : ∀ l : List Nat, (l.map f).idxOf p = l.idxOf (f p)
  | [] => rfl
  | a :: l => by
    rw [List.map_cons, List.idxOf_cons, List.idxOf_cons, idxOf_map hf p l]
    have e : (f a == p) = (a == f p) := by
      rw [Bool.eq_iff_iff, beq_iff_eq, beq_iff_eq]
      exact ⟨fun e => by rw [← e, hf], fun e => by rw [e, hf]⟩
    rw [e]
theorem lkS_snoc {n : Nat} {u : List Int} {x : Int} (hx : x ≠ 0) (p : Nat) : lkS n (u ++ [x]) p = lkS n u (stepE p x) := by
  unfold lkS
  rw [← idxOf_map (f := fun s => stepE s x) (fun s => stepE_twice hx s)]
  congr 1
  unfold endsL
  rw [List.map_map]
  exact List.map_congr_left fun s _ => endE_snoc u x s
theorem lkS_lt {n : Nat} {u : List Int} (hu : okB n u) {p : Nat} (hp : p < n) : lkS n u p < n := by
  unfold lkS
  have h := ends_isP hu
  obtain ⟨j, hj, e⟩ := h.surj (i := p) (by rw [endsL_length]; exact hp)
  have := List.idxOf_lt_length_of_mem (a := p) (l := endsL n u) (by
    rw [← e]
    exact getD_mem hj)
  rwa [endsL_length] at this
/-- Pairs of the colors i, k in this order. -/
def pairs (i k : Nat) : List Nat → Nat
  | [] => 0
  | c :: l => (if c = i then l.count k else 0) + pairs i k l
theorem pairs_swap {i k : Nat} (h : i ≠ k) (x y : Nat) (r : List Nat) : ∀ l, (pairs i k (l ++ x :: y :: r) + pairs i k (l ++ y :: x :: r) + ((if x = i ∧ y = k then 1 else 0) + (if y = i ∧ x = k then 1 else 0))) % 2 = 0
  | [] => by
    simp only [List.nil_append, pairs, List.count_cons]
    by_cases h1 : x = i
    · subst h1
      by_cases h2 : y = k
      · subst h2
        simp [h, Ne.symm h]
        omega
      · by_cases h3 : y = x
        · subst h3; simp [h, h2]; omega
        · simp [h, h2, h3]; omega
    · by_cases h2 : y = i
      · subst h2
        by_cases h3 : x = k
        · subst h3; simp [h, Ne.symm h]; omega
        · simp [h1, h3, h]; omega
      · simp [h1, h2]; omega
  | c :: l => by
    have ih := pairs_swap h x y r l
    have e : (l ++ x :: y :: r).count k = (l ++ y :: x :: r).count k := by
      simp only [List.count_append, List.count_cons]; omega
    simp only [List.cons_append, pairs, e]
    by_cases hc : c = i
    · simp only [if_pos hc]; omega
    · simp only [if_neg hc]; omega
/-- The colors of the positions behind a word. -/
def colP (n : Nat) (a : List Nat) (u : List Int) : List Nat := (List.range n).map fun p => lkAt a (lkS n u p)
theorem range_cut {n m : Nat} (h0 : 1 ≤ m) (h1 : m < n) (g : Nat → Nat) : (List.range n).map g = (List.range (m - 1)).map g ++ g (m - 1) :: g m :: (List.range (n - m - 1)).map fun j => g (m + 1 + j) := by
  have e : n = (m - 1) + (2 + (n - m - 1)) := by omega
  have e2 : List.range n = List.range ((m - 1) + (2 + (n - m - 1))) := by rw [← e]
  rw [e2, List.range_add, List.range_add, List.map_append]
  congr 1
  rw [List.map_append, List.map_append]
  simp only [List.range_succ, List.range_zero, List.nil_append, List.map_cons, List.map_nil, List.map_append, List.cons_append, List.singleton_append, List.map_map]
  rw [show m - 1 + 0 = m - 1 by omega, show m - 1 + 1 = m by omega]
  congr 2
  refine List.map_congr_left fun j _ => ?_
  show g (m - 1 + (2 + j)) = g (m + 1 + j)
  rw [show m - 1 + (2 + j) = m + 1 + j by omega]
theorem colP_step {n : Nat} {a : List Nat} {u : List Int} {x : Int} (h0 : x ≠ 0) (h1 : x.natAbs < n) {i k : Nat} (hik : i ≠ k) :
    (pairs i k (colP n a u) + pairs i k (colP n a (u ++ [x])) + ((if lkAt a (lkS n u (x.natAbs - 1)) = i ∧ lkAt a (lkS n u x.natAbs) = k then 1 else 0) + (if lkAt a (lkS n u x.natAbs) = i ∧ lkAt a (lkS n u (x.natAbs - 1)) = k then 1 else 0))) % 2 = 0 := by
  have hm : 1 ≤ x.natAbs := by omega
  have e1 : colP n a u = _ := range_cut hm h1 _
  have e2 : colP n a (u ++ [x]) = (List.range (x.natAbs - 1)).map (fun p => lkAt a (lkS n u p)) ++ lkAt a (lkS n u x.natAbs) :: lkAt a (lkS n u (x.natAbs - 1)) :: (List.range (n - x.natAbs - 1)).map fun j => lkAt a (lkS n u (x.natAbs + 1 + j)) := by
    unfold colP
    rw [range_cut hm h1]
    have s1 : stepE (x.natAbs - 1) x = x.natAbs := by unfold stepE; rw [if_pos (by omega)]; omega
    have s2 : stepE x.natAbs x = x.natAbs - 1 := by unfold stepE; rw [if_neg (by omega), if_pos rfl]
    rw [lkS_snoc h0, lkS_snoc h0, s1, s2]
    congr 1
    · refine List.map_congr_left fun p hp => ?_
      have := List.mem_range.1 hp
      rw [lkS_snoc h0, show stepE p x = p by unfold stepE; rw [if_neg (by omega), if_neg (by omega)]]
    · congr 2
      refine List.map_congr_left fun p hp => ?_
      rw [lkS_snoc h0, show stepE (x.natAbs + 1 + p) x = x.natAbs + 1 + p by unfold stepE; rw [if_neg (by omega), if_neg (by omega)]]
  rw [e1, e2]
  exact pairs_swap hik _ _ _ _
theorem sign_odd {x : Int} (h : x ≠ 0) : x.sign = 1 ∨ x.sign = -1 := by
  rcases Int.lt_trichotomy x 0 with h1 | h1 | h1
  · exact .inr (Int.sign_eq_neg_one_of_neg h1)
  · exact absurd h1 h
  · exact .inl (Int.sign_eq_one_of_pos h1)
theorem lkSum_par {n : Nat} {a : List Nat} {i k : Nat} (hik : i ≠ k) : ∀ (w u : List Int), (∀ x ∈ w, x ≠ 0 ∧ x.natAbs < n) → (lkSum n a i k u w + (pairs i k (colP n a u) : Int) + (pairs i k (colP n a (u ++ w)) : Int)) % 2 = 0
  | [], u, _ => by
    rw [List.append_nil]
    show (0 + _ + _) % (2 : Int) = 0
    omega
  | x :: w, u, h => by
    have hx := h x (by simp)
    have ih := lkSum_par (n := n) (a := a) hik w (u ++ [x]) fun y hy => h y (by simp [hy])
    have st := colP_step (n := n) (a := a) (u := u) hx.1 hx.2 hik
    rw [show u ++ [x] ++ w = u ++ x :: w by simp] at ih
    show (((if lkAt a (lkS n u (x.natAbs - 1)) = i ∧ lkAt a (lkS n u x.natAbs) = k then x.sign else 0) + (if lkAt a (lkS n u x.natAbs) = i ∧ lkAt a (lkS n u (x.natAbs - 1)) = k then x.sign else 0)) + lkSum n a i k (u ++ [x]) w + _ + _) % 2 = 0
    rcases sign_odd hx.1 with e | e <;> rw [e] <;> split at st <;> split at st <;> simp_all <;> omega
theorem colP_end {n : Nat} {w : List Int} (hw : okB n w) : colP n (endsL n w) w = colP n (endsL n w) [] := by
  have h := ends_isP hw
  have hl := endsL_length n w
  refine List.map_congr_left fun p hp => ?_
  have hp' := List.mem_range.1 hp
  obtain ⟨s, hs, e⟩ := h.surj (i := p) (by rw [hl]; exact hp')
  have hs' : s < n := by rwa [hl] at hs
  have e1 : lkS n w p = s := by
    unfold lkS
    have hlt := lkS_lt hw hp'
    unfold lkS at hlt
    refine h.inj (by rw [hl]; exact hlt) hs ?_
    rw [e]
    have h2 : (endsL n w).idxOf p < (endsL n w).length := by rw [hl]; exact hlt
    rw [List.getD, List.getElem?_eq_getElem h2, Option.getD_some, List.getElem_idxOf]
  have e2 : lkS n [] p = p := by
    unfold lkS
    have hlt := lkS_lt (n := n) (u := []) (fun x hx => by cases hx) hp'
    unfold lkS at hlt
    have h2 : (endsL n []).idxOf p < (endsL n []).length := by rw [endsL_length]; exact hlt
    have h3 : (endsL n []).getD ((endsL n []).idxOf p) 0 = p := by rw [List.getD, List.getElem?_eq_getElem h2, Option.getD_some, List.getElem_idxOf]
    rw [endsL_getD [] hlt] at h3
    exact h3
  rw [e1, e2, ← e, lkAt_next h hs]
theorem lkSum_same {n : Nat} {a : List Nat} {i : Nat} : ∀ (w u : List Int), lkSum n a i i u w % 2 = 0
  | [], u => rfl
  | x :: w, u => by
    have ih := lkSum_same (n := n) (a := a) (i := i) w (u ++ [x])
    show (((if lkAt a (lkS n u (x.natAbs - 1)) = i ∧ lkAt a (lkS n u x.natAbs) = i then x.sign else 0) + (if lkAt a (lkS n u x.natAbs) = i ∧ lkAt a (lkS n u (x.natAbs - 1)) = i then x.sign else 0)) + lkSum n a i i (u ++ [x]) w) % 2 = 0
    by_cases h1 : lkAt a (lkS n u (x.natAbs - 1)) = i <;> by_cases h2 : lkAt a (lkS n u x.natAbs) = i <;> simp [h1, h2] <;> omega
theorem lkSum_even {n : Nat} {w : List Int} (hw : okB n w) (i k : Nat) : lkSum n (endsL n w) i k [] w % 2 = 0 := by
  by_cases hik : i = k
  · subst hik; exact lkSum_same w []
  · have h := lkSum_par (n := n) (a := endsL n w) hik w [] fun x hx => hw x hx
    rw [List.nil_append, colP_end hw] at h
    omega
theorem lkSum_symm {n : Nat} {a : List Nat} (i k : Nat) : ∀ (w u : List Int), lkSum n a i k u w = lkSum n a k i u w
  | [], u => rfl
  | x :: w, u => by
    show ((if lkAt a (lkS n u (x.natAbs - 1)) = i ∧ lkAt a (lkS n u x.natAbs) = k then x.sign else 0) + (if lkAt a (lkS n u x.natAbs) = i ∧ lkAt a (lkS n u (x.natAbs - 1)) = k then x.sign else 0)) + lkSum n a i k (u ++ [x]) w = ((if lkAt a (lkS n u (x.natAbs - 1)) = k ∧ lkAt a (lkS n u x.natAbs) = i then x.sign else 0) + (if lkAt a (lkS n u x.natAbs) = k ∧ lkAt a (lkS n u (x.natAbs - 1)) = i then x.sign else 0)) + lkSum n a k i (u ++ [x]) w
    rw [lkSum_symm i k w (u ++ [x]), Int.add_comm (if lkAt a (lkS n u (x.natAbs - 1)) = i ∧ lkAt a (lkS n u x.natAbs) = k then x.sign else 0)]
    congr 2 <;> simp only [and_comm]
theorem lkSum_total {n : Nat} {a : List Nat} {K : Nat} (hK : ∀ (u : List Int) (p : Nat), okB n u → p < n → lkAt a (lkS n u p) < K) : ∀ (w u : List Int), okB n w → okB n u → sqS K (fun i k => lkSum n a i k u w) = 2 * LP.expo w
  | [], u, _, _ => by
    show sqS K (fun _ _ => 0) = 0
    unfold sqS
    simp only [sum_zero]
  | x :: w, u, hw, hu => by
    have hx := hw x (by simp)
    have ih := lkSum_total hK w (u ++ [x]) (fun y hy => hw y (by simp [hy])) (fun y hy => by
      rcases List.mem_append.1 hy with h | h
      · exact hu y h
      · rw [List.mem_singleton.1 h]; exact hx)
    have e : (fun i k => lkSum n a i k u (x :: w)) = fun i k => ((if lkAt a (lkS n u (x.natAbs - 1)) = i ∧ lkAt a (lkS n u x.natAbs) = k then x.sign else 0) + (if lkAt a (lkS n u x.natAbs) = i ∧ lkAt a (lkS n u (x.natAbs - 1)) = k then x.sign else 0)) + lkSum n a i k (u ++ [x]) w := rfl
    have k1 := hK u (x.natAbs - 1) hu (by have := hx.2; omega)
    have k2 := hK u x.natAbs hu hx.2
    rw [e, sqS_add (F := fun i k => ((if lkAt a (lkS n u (x.natAbs - 1)) = i ∧ lkAt a (lkS n u x.natAbs) = k then x.sign else 0) + (if lkAt a (lkS n u x.natAbs) = i ∧ lkAt a (lkS n u (x.natAbs - 1)) = k then x.sign else 0))) (G := fun i k => lkSum n a i k (u ++ [x]) w), sqS_add (F := fun i k => (if lkAt a (lkS n u (x.natAbs - 1)) = i ∧ lkAt a (lkS n u x.natAbs) = k then x.sign else 0)) (G := fun i k => (if lkAt a (lkS n u x.natAbs) = i ∧ lkAt a (lkS n u (x.natAbs - 1)) = k then x.sign else 0)), sqS_hit k1 k2, sqS_hit k2 k1, ih]
    have e2 : LP.expo (x :: w) = x.sign + LP.expo w := by unfold LP.expo wsum; simp
    rw [e2]
    omega
/-- An entry of the matrix of linking numbers. -/
def lkE (n : Nat) (w : List Int) (i k : Nat) : Int := (lkSum n (endsL n w) i k [] w).tdiv 2
/-- GAUSS: all linking numbers add up to the exponent sum. -/
theorem lk_total {n : Nat} {w : List Int} (hw : okB n w) : sqS (prtL (endsL n w)).length (lkE n w) = LP.expo w := by
  have h := ends_isP hw
  have hl := endsL_length n w
  have t := lkSum_total (n := n) (a := endsL n w) (K := (prtL (endsL n w)).length) (fun u p hu hp => lkAt_lt h (by rw [hl]; exact lkS_lt hu hp)) w [] hw (fun x hx => by cases hx)
  have e : (fun i k => lkSum n (endsL n w) i k [] w) = fun i k => lkE n w i k + lkE n w i k := by
    funext i k
    have := lkSum_even hw i k
    unfold lkE
    obtain ⟨z, hz⟩ : ∃ z, lkSum n (endsL n w) i k [] w = 2 * z := ⟨lkSum n (endsL n w) i k [] w / 2, by omega⟩
    rw [hz, Int.mul_tdiv_cancel_left z (by omega)]
    omega
  rw [e, sqS_add] at t
  omega
theorem lkE_symm {n : Nat} {w : List Int} (i k : Nat) : lkE n w i k = lkE n w k i := by unfold lkE; rw [lkSum_symm]
theorem lkM_eq {n : Nat} {w : List Int} (h : bfault (n : Int) w = 0) : lkM (n : Int) w = (List.range (prtL (endsL n w)).length).map fun i => (List.range (prtL (endsL n w)).length).map fun k => lkE n w i k := by
  unfold lkM lkE
  rw [if_pos h, Int.toNat_natCast]
end Go.Proofs.Ytndgffiihbdppaa
/- slices.Sort of at most nine integers. -/
namespace Go.Proofs.Ytndgffiihbdppaa
set_option linter.unusedVariables false
set_option linter.unusedSimpArgs false
open Go.RowKit

/-- Whether x < y, kept from the walk. -/
def ltB (x y : Int) : Bool := decide (x < y)
theorem less_any (x y : Int) (w : World) : Calls Try.prog 64 #[.int .i64 x, .int .i64 y] w fun e w' => e = .returned (.bool (ltB x y)) ∧ w' = w := by
  have hx : (x != x) = false := by simp
  have hy : (y != y) = false := by simp
  by_cases h : x < y
  · have HE : Hid (ltB x y = true) := decide_eq_true h
    go_enter Try.func64, Try.ntmps64
    go_wp2
    go_ret
    rw [HE.out]
    exact ⟨rfl, rfl⟩
  · have HE : Hid (ltB x y = false) := decide_eq_false h
    go_enter Try.func64, Try.ntmps64
    go_wp2
    go_ret
    rw [HE.out]
    exact ⟨rfl, rfl⟩

theorem less_no {x y : Int} (h : ¬ x < y) (w : World) : Calls Try.prog 64 #[.int .i64 x, .int .i64 y] w fun e w' => e = .returned (.bool false) ∧ w' = w := by
  have := less_any x y w
  rw [show ltB x y = false from decide_eq_false h] at this
  exact this

theorem grownBy_setS {a w : World} {g : Nat} (h : a.grownBy w (some g)) (i : Nat) (u : Value) : a.grownBy (w.setCell ⟨g, i, none⟩ u) (some g) :=
  ⟨h.os, h.tape, h.output, by simpa [World.setCell] using h.size, fun k hk hne => (Below.heap_setCell w ⟨g, i, none⟩ u k (fun e => hne (by rw [e]))).trans (h.block k hk hne)⟩

/-- What the loops of the sort know. -/
structure SoSt (w wr : World) (base g n c : Nat) (xs ys : List Int) (i : Nat) : Prop where
  own : OwnI wr base (some ⟨g, 0, none⟩) n c ys
  grown : w.grownBy wr (some g)
  perm : ys.Perm xs
  sort : SortTo ys i
structure SiSt (w wr : World) (base g n c : Nat) (xs ys : List Int) (i j : Nat) : Prop where
  own : OwnI wr base (some ⟨g, 0, none⟩) n c ys
  grown : w.grownBy wr (some g)
  ins : InsSt xs ys i j
theorem SiSt.drewN {w wr : World} {base g n c i j : Nat} {xs ys : List Int} (h : SiSt w wr base g n c xs ys i j) (k : Nat) : SiSt w (wr.drewN k) base g n c xs ys i j :=
  ⟨h.own.drewN k, ⟨h.grown.os, h.grown.tape, h.grown.output, h.grown.size, h.grown.block⟩, h.ins⟩
theorem SiSt.swap {w wr : World} {base g n c i j : Nat} {xs ys : List Int} {x y : Int} (h : SiSt w wr base g n c xs ys i (j + 1)) (hi : i < n) (hj : j + 1 ≤ i) (hx : ys.getD (j + 1) 0 = x) (hy : ys.getD j 0 = y) (hlt : x < y) :
    SiSt w ((wr.setCell ⟨g, j + 1, none⟩ (.int .i64 y)).setCell ⟨g, j, none⟩ (.int .i64 x)).drew base g n c xs (swp ys j) i j := by
  have hl := h.own.len
  have h1 := (h.own.set_ (j + 1) y).set_ j x
  have e : (ys.set (j + 1) y).set j x = swp ys j := by unfold swp; rw [hx, hy]
  rw [e] at h1
  have hg := grownBy_setS (grownBy_setS h.grown (j + 1) (.int .i64 y)) j (.int .i64 x)
  exact ⟨h1.drew, ⟨hg.os, hg.tape, hg.output, hg.size, hg.block⟩, h.ins.swap (by omega) hj (by rw [hx, hy]; exact hlt)⟩
theorem SiSt.stop {w wr : World} {base g n c i j : Nat} {xs ys : List Int} (h : SiSt w wr base g n c xs ys i j) (hj : j ≤ i) (hs : j = 0 ∨ ys.getD (j - 1) 0 ≤ ys.getD j 0) : SoSt w wr base g n c xs ys (i + 1) :=
  ⟨h.own, h.grown, h.ins.perm, h.ins.stop hj hs⟩

end Go.Proofs.Ytndgffiihbdppaa
/- A cell that is there has a plain address. -/
namespace Go.Proofs.Ytndgffiihbdppaa
open Go.RowKit

theorem addr_at {w : World} {a : Addr} {v : Value} (h : w.cell? a = some v) : ∃ g o, a = ⟨g, o, none⟩ := by
  obtain ⟨g, o, p⟩ := a
  cases p with
  | none => exact ⟨g, o, rfl⟩
  | some p =>
    exfalso
    unfold World.cell? at h
    split at h
    · simp at h
    · cases h

end Go.Proofs.Ytndgffiihbdppaa
/- slices.IsSorted of integers that are in order; timbkeep1.linked. -/
namespace Go.Proofs.Ytndgffiihbdppaa
set_option linter.unusedVariables false
set_option linter.unusedSimpArgs false
open Go.RowKit

set_option maxHeartbeats 2000000 in
theorem isSorted_yes (A : Option Addr) (n c : Nat) (xs : List Int) (w : World) (ha : IL w A n xs) (hs : ∀ j, 0 < j → j < n → ¬ xs.getD j 0 < xs.getD (j - 1) 0) :
    Calls Try.prog 28 #[.slice A n c] w fun e w' => e = .returned (.bool true) ∧ Below w.heap.size w w' := by
  have hna := ha.small
  have HA := hide ha
  have HS := hide hs
  clear ha hs
  have f1 : IntKind.i64.wrap ((n : Int) - 1) = (n : Int) - 1 := by rw [IntKind.wrap_i64]; omega
  obtain ⟨z0, hz0⟩ : ∃ z : Int, (n : Int) - 1 = z := ⟨_, rfl⟩
  rw [hz0] at f1
  have HZ0 : Hid (-1 ≤ z0 ∧ z0 < n) := hide (by omega)
  go_enter Try.func28, Try.ntmps28
  go_wp2_with fail
  go_loopw [3] (fun iv wr => ∃ z : Int, iv = .int .i64 z ∧ -1 ≤ z ∧ z < n ∧ Hid (Below w.heap.size w wr)) (fun iv _ => (intOf iv).toNat)
  case atStart => exact ⟨z0, by first | rfl | rw [← hz0], HZ0.out.1, HZ0.out.2, hide (Below.refl _ _)⟩
  case round =>
    obtain ⟨z, rfl, h1, h2, hnx⟩ := hrel
    clear f1 hz0
    by_cases hz : 0 < z
    · obtain ⟨p, rfl⟩ : ∃ p : Nat, z = (p : Int) := ⟨z.toNat, by omega⟩
      have hp0 : 0 < p := by omega
      have hpn : p < n := by omega
      obtain ⟨q, hq⟩ : ∃ q, p - 1 = q := ⟨_, rfl⟩
      have hl := HS.out p hp0 hpn
      rw [hq] at hl
      have f2 : IntKind.i64.wrap ((p : Int) - 1) = (q : Int) := by rw [IntKind.wrap_i64]; omega
      have hqn : q < n := by omega
      obtain ⟨ad, rfl, hc1⟩ := (HA.out.below hnx.out).at_ hpn
      obtain ⟨ad2, e2, hc2⟩ := (HA.out.below hnx.out).at_ hqn
      injection e2 with e2
      subst e2
      have HLS : Hid (∀ w, Calls Try.prog 64 #[.int .i64 (xs.getD p 0), .int .i64 (xs.getD q 0)] w fun e w' => e = .returned (.bool false) ∧ w' = w) := hide fun w => less_no (by omega) w
      have hqp : q < p := by omega
      clear hl hq h1 h2
      generalize xs.getD p 0 = x at *
      generalize xs.getD q 0 = y at *
      go_wp2_with fail
      go_quiet ((go_at_call 64; exact Calls.quiet_of_same (HLS.out _)))
      go_wp2_with fail
      go_roundw
      case rel => exact ⟨q, by go_num, by omega, by omega, hide (below_drewN hnx.out _)⟩
      case measure => simp [intOf]; omega
    · have hz2 : decide (0 < z) = false := by simp; omega
      go_wp2_with fail
      go_ret
      exact ⟨rfl, hnx.out⟩
set_option maxRecDepth 100000 in
set_option maxHeartbeats 4000000 in
theorem linked_k (F : LinkC) (w : World) : Calls Try.prog 31 #[] w fun e w' => e = .returned (.bool true) ∧ Below w.heap.size w w' := by
  have HF := hide F
  clear F
  go_enter Try.func31, Try.ntmps31
  go_wp2_with fail
  have hlit : SL (w.alloc (.cells #[.int .i64 (-1), .int .i64 (-1)] 3)) (some ⟨w.heap.size, 0, none⟩) 2 2 [-1, -1] := SL.lit w [-1, -1] (by decide) rfl rfl
  have hal : Below w.heap.size w (w.alloc (.cells #[.int .i64 (-1), .int .i64 (-1)] 3)) := (Below.refl _ _).alloc (Nat.le_refl _) _
  refine (HF.out.link 2 _ 2 2 [-1, -1] _ hlit (by decide)).mono ?_
  rintro e w1 ⟨P, pn, pc, rfl, hs, hb0⟩
  have HW := hide (hal.trans (hb0.mono hal.size))
  rw [show bfault 2 [-1, -1] = 0 by decide]
  rw [lk_11.2] at hs
  have hpn : 2 = pn := hs.len
  subst hpn
  obtain ⟨ad, B0, m0, d0, rfl, hc0, hs0⟩ := hs.at_ (k := 0) (by omega)
  obtain ⟨ad', B1, m1, d1, e1, hc1, hs1⟩ := hs.at_ (k := 1) (by omega)
  injection e1 with e1
  subst e1
  rw [show ad.add 0 = ad by unfold Addr.add; simp] at hc0
  obtain ⟨g0, o0, hg⟩ := addr_at hc0
  subst hg
  rw [show (⟨g0, o0, none⟩ : Addr).add 1 = ⟨g0, o0 + 1, none⟩ by rw [Addr.add_mid]] at hc1
  have hlt : g0 < w1.heap.size := by
    obtain ⟨ad2, e2, hl, _⟩ := hs.mem (by omega)
    cases e2
    exact hl
  have S0 : Hid (SL w1 B0 m0 d0 [0, -1]) := hide hs0
  have S1 : Hid (SL w1 B1 m1 d1 [-1, 0]) := hide hs1
  have HC1 := hide hc1
  have HLT := hide hlt
  clear hs hs0 hs1 hlit hal hb0 hc1 hlt
  go_wp2_with fail
  have hlit : SL (w1.alloc (.cells #[.int .i64 0, .int .i64 (-1)] 3)) (some ⟨w1.heap.size, 0, none⟩) 2 2 [0, -1] := SL.lit w1 [0, -1] (by decide) rfl rfl
  have hal : Below w1.heap.size w1 (w1.alloc (.cells #[.int .i64 0, .int .i64 (-1)] 3)) := (Below.refl _ _).alloc (Nat.le_refl _) _
  refine (equal_any B0 (some ⟨w1.heap.size, 0, none⟩) m0 2 d0 2 _ _ _ (S0.out.below hal).il hlit.il).mono ?_
  rintro e w2 ⟨rfl, hb0⟩
  rw [eqB_true rfl]
  have hb := hal.trans (hb0.mono hal.size)
  replace S1 := hide (S1.out.below hb)
  replace HW := hide (HW.out.trans (hb.mono HW.out.size))
  have hc1 : w2.cell? ⟨g0, o0 + 1, none⟩ = some (.slice B1 m1 d1) := (hb.cell (p := ⟨g0, o0 + 1, none⟩) HLT.out).trans HC1.out
  clear hb hb0 hal hlit S0 hc0
  go_wp2_with fail
  have hlit : SL (w2.alloc (.cells #[.int .i64 (-1), .int .i64 0] 3)) (some ⟨w2.heap.size, 0, none⟩) 2 2 [-1, 0] := SL.lit w2 [-1, 0] (by decide) rfl rfl
  have hal : Below w2.heap.size w2 (w2.alloc (.cells #[.int .i64 (-1), .int .i64 0] 3)) := (Below.refl _ _).alloc (Nat.le_refl _) _
  refine (equal_any B1 (some ⟨w2.heap.size, 0, none⟩) m1 2 d1 2 _ _ _ (S1.out.below hal).il hlit.il).mono ?_
  rintro e w3 ⟨rfl, hb0⟩
  rw [eqB_true rfl]
  have hb := hal.trans (hb0.mono hal.size)
  replace HW := hide (HW.out.trans (hb.mono HW.out.size))
  clear hb hb0 hal hlit S1 hc1
  go_wp2_with fail
  go_ret
  exact ⟨rfl, HW.out⟩
end Go.Proofs.Ytndgffiihbdppaa
/- LinkSums: sums as loops take them (mathematics), the cells of a matrix of linking numbers. -/
namespace Go.Proofs.Ytndgffiihbdppaa
set_option linter.unusedVariables false
set_option linter.unusedSimpArgs false
open Go.RowKit

def sumTo (f : Nat → Int) : Nat → Int
  | 0 => 0
  | k + 1 => sumTo f k + f k
theorem sumTo_succ (f : Nat → Int) (k : Nat) : sumTo f (k + 1) = sumTo f k + f k := rfl
theorem sumTo_range (f : Nat → Int) : ∀ k, ((List.range k).map f).sum = sumTo f k
  | 0 => rfl
  | k + 1 => by rw [List.range_succ, List.map_append, List.sum_append, sumTo_range f k]; simp [sumTo]
theorem sqS_to (K : Nat) (F : Nat → Nat → Int) : sqS K F = sumTo (fun i => sumTo (F i) K) K := by
  unfold sqS
  rw [sumTo_range]
  congr 1
  funext i
  exact sumTo_range _ _
theorem sumTo_bd {f : Nat → Int} {b : Int} (h : ∀ i, -b ≤ f i ∧ f i ≤ b) : ∀ k : Nat, -((k : Int) * b) ≤ sumTo f k ∧ sumTo f k ≤ (k : Int) * b
  | 0 => by simp [sumTo]
  | k + 1 => by
    have ih := sumTo_bd h k
    have := h k
    rw [sumTo_succ, show (((k + 1 : Nat) : Int) * b) = (k : Int) * b + b by rw [Int.natCast_add, Int.add_mul]; omega]
    omega
theorem sumTo_take (l : List Nat) : ∀ k, k ≤ l.length → sumTo (fun j => ((l.getD j 0 : Nat) : Int)) k = ((l.take k).sum : Nat)
  | 0, _ => by simp [sumTo]
  | k + 1, h => by
    rw [sumTo_succ, sumTo_take l k (by omega), List.take_succ_eq_append_getElem (by omega), List.sum_append]
    simp [List.getD, List.getElem?_eq_getElem (show k < l.length by omega)]
theorem sumTo_count (l : List Nat) : ∀ k, k ≤ l.length → sumTo (fun j => if 1 < l.getD j 0 then 1 else 0) k = ((l.take k).countP fun x => decide (1 < x) : Nat)
  | 0, _ => by simp [sumTo]
  | k + 1, h => by
    rw [sumTo_succ, sumTo_count l k (by omega), List.take_succ_eq_append_getElem (by omega), List.countP_append]
    simp only [List.getD, List.getElem?_eq_getElem (show k < l.length by omega), Option.getD_some, List.countP_cons, List.countP_nil]
    by_cases h1 : 1 < l[k]
    · simp [h1]
    · simp [h1]
theorem lkSum_bd {n : Nat} {a : List Nat} (i k : Nat) : ∀ (w u : List Int), (lkSum n a i k u w).natAbs ≤ 2 * w.length
  | [], u => by simp [lkSum]
  | x :: w, u => by
    have ih := lkSum_bd (n := n) (a := a) i k w (u ++ [x])
    have hs := LP.sign_le x
    show (((if lkAt a (lkS n u (x.natAbs - 1)) = i ∧ lkAt a (lkS n u x.natAbs) = k then x.sign else 0) + (if lkAt a (lkS n u x.natAbs) = i ∧ lkAt a (lkS n u (x.natAbs - 1)) = k then x.sign else 0)) + lkSum n a i k (u ++ [x]) w).natAbs ≤ _
    rw [List.length_cons]
    split <;> split <;> omega
theorem lkE_bd {n : Nat} {w : List Int} (hw : okB n w) (hl : w.length ≤ 30) (i k : Nat) : -30 ≤ lkE n w i k ∧ lkE n w i k ≤ 30 := by
  have h := lkSum_bd (n := n) (a := endsL n w) i k w []
  have e := lkSum_even hw i k
  unfold lkE
  obtain ⟨z, hz⟩ : ∃ z, lkSum n (endsL n w) i k [] w = 2 * z := ⟨lkSum n (endsL n w) i k [] w / 2, by omega⟩
  rw [hz] at h ⊢
  rw [Int.mul_tdiv_cancel_left z (by omega)]
  omega
theorem prt_pos {n : Nat} {w : List Int} (hw : okB n w) (hn : 0 < n) : 0 < (prtL (endsL n w)).length := by
  have := lkAt_lt (ends_isP hw) (s := 0) (by rw [endsL_length]; exact hn)
  omega
theorem prt_le {n : Nat} (w : List Int) : (prtL (endsL n w)).length ≤ n := by
  have := prtL_le (endsL n w)
  rwa [endsL_length] at this
theorem lkM_cells {w : World} {A : Option Addr} {n c N : Nat} {xs : List Int} (h : SLL w A n c (lkM (N : Int) xs)) (hb : bfault (N : Int) xs = 0) (hok : okB N xs) (hN : 0 < N) :
    ∃ ad, A = some ad ∧ (prtL (endsL N xs)).length = n ∧ ∀ i, i < n → ∃ bd d, w.cell? (ad.add i) = some (.slice (some bd) n d) ∧ ∀ k, k < n → w.cell? (bd.add k) = some (.int .i64 (lkE N xs i k)) := by
  rw [lkM_eq hb] at h
  have hp := prt_pos hok hN
  obtain ⟨K, hK⟩ : ∃ K, (prtL (endsL N xs)).length = K := ⟨_, rfl⟩
  rw [hK] at h hp ⊢
  have hl : K = n := by have := h.len; simpa using this
  subst hl
  obtain ⟨ad, rfl, _, hc⟩ := h.mem hp
  refine ⟨ad, rfl, rfl, fun i hi => ?_⟩
  obtain ⟨B, m, d, h1, h2⟩ := hc i hi
  rw [show (List.map (fun i => List.map (fun k => lkE N xs i k) (List.range K)) (List.range K)).getD i [] = List.map (fun k => lkE N xs i k) (List.range K) by simp [List.getD, hi]] at h2
  have hm : K = m := by have := h2.il.len; simpa using this
  subst hm
  obtain ⟨bd, rfl, _⟩ := h2.il.at_ hp
  refine ⟨bd, d, h1, fun k hk => ?_⟩
  obtain ⟨be, e, h3⟩ := h2.il.at_ hk
  injection e with e
  subst e
  rw [h3]
  simp [List.getD, hk]
/-- The rows of Components. -/
theorem lkL_cells {w : World} {A : Option Addr} {n c N : Nat} {xs : List Int} (h : SLL w A n c (lkL (N : Int) xs)) (hb : bfault (N : Int) xs = 0) :
    (prtL (endsL N xs)).length = n ∧ ∀ j, j < n → ∃ ad B d, A = some ad ∧ w.cell? (ad.add j) = some (.slice B (((prtL (endsL N xs)).map List.length).getD j 0) d) ∧ IL w B (((prtL (endsL N xs)).map List.length).getD j 0) (zs ((prtL (endsL N xs)).getD j [])) := by
  unfold lkL at h
  rw [if_pos hb, Int.toNat_natCast] at h
  have hl : (prtL (endsL N xs)).length = n := by have := h.len; simpa using this
  refine ⟨hl, fun j hj => ?_⟩
  obtain ⟨ad, B, m, d, e, h1, h2⟩ := h.at_ hj
  have e2 : ((prtL (endsL N xs)).map zs).getD j [] = zs ((prtL (endsL N xs)).getD j []) := by
    simp [List.getD, List.getElem?_eq_getElem (show j < (prtL (endsL N xs)).length by omega)]
  rw [e2] at h2
  have hm : m = ((prtL (endsL N xs)).map List.length).getD j 0 := by
    have := h2.il.len
    rw [zs_length] at this
    rw [← this]
    simp [List.getD, List.getElem?_eq_getElem (show j < (prtL (endsL N xs)).length by omega)]
  rw [← hm]
  exact ⟨ad, B, d, e, h1, h2.il⟩
theorem prt_row_sorted {a : List Nat} {j m : Nat} (hj : j < (prtL a).length) (hm : m = ((prtL a).map List.length).getD j 0) : ∀ i, 0 < i → i < m → ¬ (zs ((prtL a).getD j [])).getD i 0 < (zs ((prtL a).getD j [])).getD (i - 1) 0 := by
  intro i hi him
  have e : (prtL a).getD j [] = (prtL a)[j] := by simp [List.getD, List.getElem?_eq_getElem hj]
  rw [e]
  have hs := prt_sorted (List.getElem_mem hj)
  have hl : i < (prtL a)[j].length := by
    rw [hm] at him
    simpa [List.getD, List.getElem?_eq_getElem hj] using him
  have h := List.pairwise_iff_getElem.1 hs (i - 1) i (by omega) hl (by omega)
  rw [zs_getD, zs_getD]
  simp only [List.getD, List.getElem?_eq_getElem hl, List.getElem?_eq_getElem (show i - 1 < (prtL a)[j].length by omega), Option.getD_some]
  omega
end Go.Proofs.Ytndgffiihbdppaa
/- cycleFrom. -/
namespace Go.Proofs.Ytndgffiihbdppaa
set_option linter.unusedVariables false
set_option linter.unusedSimpArgs false
open Go.RowKit

/-- The first j elements of the cycle of s. -/
def cycTo (a : List Nat) (s j : Nat) : List Nat := (List.range j).map fun t => it a t s
theorem cycTo_succ (a : List Nat) (s j : Nat) : zs (cycTo a s (j + 1)) = zs (cycTo a s j) ++ [((it a j s : Nat) : Int)] := by
  unfold cycTo zs
  rw [List.range_succ]
  simp
theorem cycTo_one (a : List Nat) (s : Nat) : zs (cycTo a s 1) = [(s : Int)] := rfl

theorem cycle_step {w wr w9 : World} {ad : Addr} {n j c5 c9 x y : Nat} {A5 A9 : Option Addr} {a : List Nat} {ys zz : List Int} (ha : IL w (some ad) n (zs a)) (hx : x < n) (hy : a.getD x 0 = y) (hnx : Below w.heap.size w wr)
    (hown : OwnI wr w.heap.size A5 j c5 ys) {o : Obj} (happ : Appended (wr.alloc o) w.heap.size A5 (j + 1) c5 zz A9 c9 w9) :
    w9.cell? (ad.add x) = some (.int .i64 y) ∧ Below w.heap.size w w9 := by
  have hb : Below w.heap.size w w9 := (hnx.alloc hnx.size o).grown happ.grown (Nat.le_trans hnx.size (by simp)) (fun g hg => (hown.lt g (by rw [ownBlock_len A5 j (j + 1) c5 c5]; exact hg)).1)
  obtain ⟨ad', e, hc⟩ := (ha.below hb).at_ hx
  injection e with e
  subst e
  rw [hc, zs_getD, hy]
  exact ⟨rfl, hb⟩

set_option maxRecDepth 100000 in
set_option maxHeartbeats 1000000 in
theorem cycleFrom_any (A : Option Addr) (n c s : Nat) (a : List Nat) (w : World) (ha : IL w A n (zs a)) (pa : isP a) (hs : s < n) :
    Calls Try.prog 68 #[.slice A n c, .int .i64 s] w (GivesOwn w (zs (cyc a s))) := by
  obtain ⟨i0, hi0, hz0, hz1, hz2⟩ := info_parts int_info
  have hna := ha.small
  have HL : Hid (a.length = n) := by have := ha.len; rwa [zs_length] at this
  have HP := hide pa
  have hp := per_spec pa (s := s) (by rw [HL.out]; exact hs)
  have hp1 := hp.1
  have hp2 : perOf a s ≤ n := by rw [← HL.out]; exact hp.2.1
  have HQ := hide hp.2.2
  clear hp pa
  have HC : Hid (cycTo a s (perOf a s) = cyc a s) := rfl
  generalize perOf a s = p at *
  obtain ⟨ad, hA, hcs⟩ := ha.at_ hs
  subst hA
  rw [zs_getD] at hcs
  have H1 : Hid (((a.getD s 0 : Nat) : Int) = ((it a 1 s : Nat) : Int)) := rfl
  rw [H1.out] at hcs
  go_enter Try.func68, Try.ntmps68
  have hca := ha.alloc (.cells #[.int .i64 s] 3)
  have hl0 : OwnI (w.alloc (.cells #[.int .i64 s] 3)) w.heap.size (some ⟨w.heap.size, 0, none⟩) 1 1 (zs (cycTo a s 1)) := by
    rw [cycTo_one]
    exact OwnI.lit w [(s : Int)] (Nat.le_refl _) (by simp) rfl rfl rfl
  have hcs' : (w.alloc (.cells #[.int .i64 s] 3)).cell? (ad.add s) = some (.int .i64 ((it a 1 s : Nat) : Int)) := by
    obtain ⟨ad', e, hc⟩ := hca.at_ hs
    injection e with e
    subst e
    rw [hc, zs_getD]
    rfl
  clear hcs hca
  go_wp2
  go_loopw [5, 6] (fun cv x wr => ∃ (j c5 : Nat) (A5 : Option Addr), 1 ≤ j ∧ j ≤ p ∧ cv = .slice A5 j c5 ∧ x = .int .i64 ((it a j s : Nat) : Int) ∧ OwnI wr w.heap.size A5 j c5 (zs (cycTo a s j)) ∧ Below w.heap.size w wr)
    (fun cv x _ => match cv with | .slice _ j _ => p - j | _ => 0)
  case atStart => exact ⟨1, 1, _, Nat.le_refl _, hp1, rfl, rfl, hl0, (Below.refl _ _).alloc (Nat.le_refl _) _⟩
  case round =>
    obtain ⟨j, c5, A5, hj1, hjp, rfl, rfl, hown, hnx⟩ := hrel
    clear hl0 hcs'
    by_cases hlt : j < p
    · have hne : ((it a j s : Nat) : Int) ≠ (s : Int) := fun e => HQ.out.2 j hj1 hlt (by omega)
      have hbne : (((it a j s : Nat) : Int) != (s : Int)) = true := by simpa using hne
      have hxl : it a j s < n := by have := it_lt HP.out (s := s) (by rw [HL.out]; exact hs) j; rw [HL.out] at this; exact this
      have HA := hide ha
      have hyx : a.getD (it a j s) 0 = it a (j + 1) s := rfl
      have HY := hide hyx
      have HS := hide (cycTo_succ a s j)
      clear hne hyx ha
      generalize hye : it a (j + 1) s = y at *
      have HYE := hide hye
      clear hye
      generalize it a j s = x at *
      have hsz := hnx.size
      go_wp2_with (at_builtin; refine wpList_append_int _ rfl (.tmp 20) (.tmp 22) 22 rfl w.heap.size i0 Try.underlying22 hi0 hz0 hz1 hz2 A5 j c5 (zs (cycTo a s j)) rfl (hown.alloc _) (some ⟨wr.heap.size, 0, none⟩) 1 1 [(x : Int)] rfl (IL.lit wr [(x : Int)] (by simp) rfl rfl) (by omega) (Nat.le_trans hsz (by simp)) ?_; intro A9 c9 w9 happ; have hcx := (cycle_step HA.out hxl HY.out hnx hown happ).1)
      have hb9 := (cycle_step HA.out hxl HY.out hnx hown happ).2
      have hown9 := happ.own
      rw [← HS.out] at hown9
      clear happ hown hcx
      go_roundw
      case rel => exact ⟨j + 1, c9, A9, by omega, by omega, rfl, by rw [HYE.out], hown9, hb9⟩
      case measure => simp; omega
    · have hjp' : j = p := by omega
      have hbne : (((it a j s : Nat) : Int) != (s : Int)) = false := by rw [hjp', HQ.out.1]; simp
      have HE : Hid (cycTo a s j = cyc a s) := by rw [hjp']; exact HC.out
      clear hjp'
      generalize it a j s = x at *
      go_wp2
      go_ret
      rw [HE.out] at hown
      exact ⟨_, _, _, rfl, hown, hnx⟩
end Go.Proofs.Ytndgffiihbdppaa
/- perm.Check. -/
namespace Go.Proofs.Ytndgffiihbdppaa
set_option linter.unusedVariables false
set_option linter.unusedSimpArgs false
open Go.RowKit

/-- The array 'seen': which of 0 to 8 lie in xs. -/
def seenA (xs : List Int) : Array Value := ((List.range 9).map fun j : Nat => Value.bool (decide ((j : Int) ∈ xs))).toArray
theorem seenA_get (xs : List Int) (j : Nat) (hj : j < 9) : (seenA xs)[j]? = some (.bool (decide ((j : Int) ∈ xs))) := by
  simp [seenA, hj]
theorem seenA_set (xs : List Int) (j : Nat) : (seenA xs).setIfInBounds j (.bool true) = seenA (xs ++ [(j : Int)]) := by
  apply Array.ext_getElem?
  intro i
  by_cases hi : i < 9
  · rw [seenA_get _ i hi, Array.getElem?_setIfInBounds]
    by_cases hij : j = i
    · subst hij
      have : j < (seenA xs).size := by simp [seenA]; omega
      simp [this]
    · rw [if_neg hij, seenA_get _ i hi]
      have : ¬ ((i : Int) = (j : Int)) := by omega
      simp [this]
  · rw [Array.getElem?_eq_none (by simp [seenA]; omega), Array.getElem?_eq_none (by simp [seenA]; omega)]

theorem pf_big {xs : List Int} (h : 9 < xs.length) : pf xs = 2 := by unfold pf; rw [if_pos h]
theorem pf_small {xs : List Int} (h : xs.length ≤ 9) : pf xs = pfGo xs.length [] xs := by unfold pf; rw [if_neg (by omega)]
theorem take_snoc (xs : List Int) (k : Nat) (h : k < xs.length) : xs.take (k + 1) = xs.take k ++ [xs.getD k 0] := by
  rw [List.take_succ_eq_append_getElem h]
  simp [List.getD, List.getElem?_eq_getElem h]

set_option maxHeartbeats 1000000 in
theorem check_any (A : Option Addr) (n c : Nat) (xs : List Int) (w : World) (ha : IL w A n xs) :
    Calls Try.prog 67 #[.slice A n c] w fun e w' => e = .returned (.int .i64 (pf xs)) ∧ Below w.heap.size w w' := by
  have hna := ha.small
  have HL := hide ha.len
  by_cases h9 : 9 < n
  · have HE := hide (pf_big (xs := xs) (by have := HL.out; omega))
    clear ha
    go_enter Try.func67, Try.ntmps67
    go_wp2
    go_ret
    rw [HE.out]
    exact ⟨rfl, Below.refl _ _⟩
  · go_enter Try.func67, Try.ntmps67
    go_wp2
    go_loopw [11] (fun i wr => ∃ k : Nat, k ≤ n ∧ i = .int .i64 k ∧ Hid (pf xs = pfGo xs.length (xs.take k) (xs.drop k)) ∧ Blk wr w.heap.size 77 (seenA (xs.take k)) ∧ Below w.heap.size w wr) (fun i _ => n - (intOf i).toNat)
    case atStart => exact ⟨0, Nat.zero_le _, rfl, pf_small (by have := HL.out; omega), Blk.new _ _ _, (Below.refl _ _).alloc (Nat.le_refl _) _⟩
    case round =>
      obtain ⟨k, hk, rfl, hpf, hblk, hnx⟩ := hrel
      have ha' := ha.below hnx
      by_cases hlt : k < n
      · obtain ⟨ad, rfl, hca⟩ := ha'.at_ hlt
        have HT := hide (take_snoc xs k (by have := HL.out; omega))
        have HP := hide (pf_step (xs := xs) (k := k) (by have := HL.out; omega))
        clear ha ha'
        generalize xs.getD k 0 = x at *
        by_cases h1 : x < 0
        · have HE : Hid (pf xs = 1) := by rw [hpf.out, HP.out, if_pos (.inl h1)]; exact rfl
          go_wp2
          go_ret
          rw [HE.out]
          exact ⟨rfl, hnx⟩
        · by_cases h2 : (n : Int) ≤ x
          · have HE : Hid (pf xs = 1) := by rw [hpf.out, HP.out, if_pos (.inr (by rw [HL.out]; exact h2))]; exact rfl
            go_wp2
            go_ret
            rw [HE.out]
            exact ⟨rfl, hnx⟩
          · obtain ⟨u, rfl⟩ : ∃ u : Nat, x = (u : Int) := ⟨x.toNat, by omega⟩
            have hu9 : u < 9 := by omega
            have hun : u < n := by omega
            have hcell := (hblk.cell u).trans (seenA_get _ u hu9)
            have hfr := hblk.frozen u
            by_cases h3 : (u : Int) ∈ xs.take k
            · have HE : Hid (pf xs = 5) := by rw [hpf.out, HP.out, if_neg (by rw [HL.out]; omega), if_pos h3]; exact rfl
              rw [decide_eq_true h3] at hcell
              clear h3
              go_wp2
              go_ret
              rw [HE.out]
              exact ⟨rfl, hnx⟩
            · have HE : Hid (pf xs = pfGo xs.length (xs.take (k + 1)) (xs.drop (k + 1))) := by rw [hpf.out, HP.out, if_neg (by rw [HL.out]; omega), if_neg h3]; exact rfl
              rw [decide_eq_false h3] at hcell
              clear h3
              go_wp2
              go_roundw
              case rel => exact ⟨k + 1, by omega, by go_num, HE, by rw [HT.out, ← seenA_set]; exact hblk.set_ _ _, hnx.setCell (Nat.le_refl _) _⟩
              case measure => simp [intOf]; omega
      · have HE : Hid (pf xs = 0) := by rw [hpf.out, pf_end xs _ k (by rw [HL.out]; omega)]; exact rfl
        go_wp2
        go_ret
        rw [HE.out]
        exact ⟨rfl, hnx⟩
end Go.Proofs.Ytndgffiihbdppaa
