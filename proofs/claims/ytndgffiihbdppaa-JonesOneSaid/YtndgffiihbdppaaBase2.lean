/- Several texts in one. -/
import Derived.Test.YtndgffiihbdppaaBase1
import Derived.Laws.EntriesVeiled
import Derived.Maps.RangeWalk
import Derived.Maps.Keyed
import Derived.ProofKit
import Derived.SizedLaws
/- Plain mathematics: the sign by cycles is the sign by inversions. -/
namespace Go.Proofs.Ytndgffiihbdppaa
set_option linter.unusedVariables false
set_option linter.unusedSimpArgs false

/-- 1, or -1 for an odd number of lengths that are even. -/
def sgnL (xss : List (List Nat)) : Int := xss.foldl (fun s c => if c.length % 2 = 0 then -s else s) 1
theorem foldl_sgn : ∀ (xss : List (List Nat)) (s : Int), (∀ c ∈ xss, 1 ≤ c.length) → xss.foldl (fun s c => if c.length % 2 = 0 then -s else s) s = s * sg ((xss.map fun c => c.length - 1).sum)
  | [], s, _ => by simp [sg]
  | c :: r, s, h => by
    have hc := h c (by simp)
    rw [List.foldl_cons, foldl_sgn r _ (fun d hd => h d (by simp [hd])), List.map_cons, List.sum_cons, sg_add]
    by_cases he : c.length % 2 = 0
    · have : sg (c.length - 1) = -1 := by unfold sg; rw [if_neg (by omega)]
      rw [if_pos he, this]
      simp [Int.neg_mul, Int.mul_neg]
    · have : sg (c.length - 1) = 1 := by unfold sg; rw [if_pos (by omega)]
      rw [if_neg he, this, Int.one_mul]

theorem cyc_nodup {a : List Nat} (h : isP a) {s : Nat} (hs : s < a.length) : (cyc a s).Nodup := by
  obtain ⟨h1, _, h3, h4⟩ := per_spec h hs
  unfold cyc
  rw [List.nodup_iff_pairwise_ne, List.pairwise_map]
  refine List.Pairwise.imp_of_mem ?_ (List.pairwise_lt_range (n := perOf a s))
  intro i j hi hj hij e
  simp at hi hj
  refine h4 (j - i) (by omega) (by omega) (it_back h hs (t := i) ?_)
  rw [show i + (j - i) = j from by omega]
  exact e.symm
theorem min_unique {a : List Nat} (h : isP a) {i j x : Nat} (hi : i < a.length) (hj : j < a.length) (mi : isMin a i = true) (mj : isMin a j = true) (hx : x ∈ cyc a i) (hy : x ∈ cyc a j) : i = j := by
  unfold isMin at mi mj
  rw [decide_eq_true_iff] at mi mj
  have h1 : j ∈ cyc a i := cyc_trans h hi hx (cyc_symm h hj hy)
  have h2 : i ∈ cyc a j := cyc_trans h hj hy (cyc_symm h hi hx)
  have := mi j h1
  have := mj i h2
  omega
theorem nodup_filter (p : Nat → Bool) {l : List Nat} (h : l.Nodup) : (l.filter p).Nodup :=
  List.nodup_iff_pairwise_ne.2 (List.Pairwise.filter _ (List.nodup_iff_pairwise_ne.1 h))
theorem length_filter_not (p : Nat → Bool) : ∀ (l : List Nat), l.length = (l.filter p).length + (l.filter fun x => !p x).length
  | [] => rfl
  | x :: r => by
    have ih := length_filter_not p r
    cases hp : p x
    · rw [List.filter_cons_of_neg (by simp [hp]), List.filter_cons_of_pos (by simp [hp])]
      simp only [List.length_cons]
      omega
    · rw [List.filter_cons_of_pos hp, List.filter_cons_of_neg (by simp [hp])]
      simp only [List.length_cons]
      omega
/-- The cycles are a partition. -/
theorem cyc_partition {a : List Nat} (h : isP a) (q : Nat → Bool) (hq : ∀ s, s < a.length → ∀ x ∈ cyc a s, q x = q s) :
    (((List.range a.length).filter fun i => isMin a i && q i).flatMap (cyc a)).Perm ((List.range a.length).filter q) := by
  refine (List.perm_ext_iff_of_nodup ?_ (nodup_filter _ List.nodup_range)).2 fun x => ?_
  · rw [List.nodup_iff_pairwise_ne, List.pairwise_flatMap]
    constructor
    · intro i hi
      have hi' := List.mem_range.1 (List.mem_filter.1 hi).1
      exact (List.nodup_iff_pairwise_ne.1 (cyc_nodup h hi'))
    · refine List.Pairwise.imp_of_mem ?_ (List.nodup_iff_pairwise_ne.1 (nodup_filter (fun i => isMin a i && q i) (List.nodup_range (n := a.length))))
      intro i j hi hj hij x hx y hy e
      subst e
      have hi' := List.mem_filter.1 hi
      have hj' := List.mem_filter.1 hj
      simp at hi' hj'
      exact hij (min_unique h hi'.1 hj'.1 hi'.2.1 hj'.2.1 hx hy)
  · rw [List.mem_flatMap]
    simp only [List.mem_filter, List.mem_range, Bool.and_eq_true]
    constructor
    · rintro ⟨i, ⟨hi, _, hqi⟩, hx⟩
      exact ⟨cyc_lt h hi hx, by rw [hq i hi x hx]; exact hqi⟩
    · rintro ⟨hx, hqx⟩
      obtain ⟨m, hm, hmem, hmin⟩ := min_ex h hx
      refine ⟨m, ⟨hm, hmin, by rw [hq x hx m hmem]; exact hqx⟩, cyc_symm h hx hmem⟩

theorem sum_filter {f : Nat → Nat} {p q : Nat → Bool} : ∀ (l : List Nat), (∀ x ∈ l, p x = true → q x = false → f x = 0) → ((l.filter fun x => p x && q x).map f).sum = ((l.filter p).map f).sum
  | [], _ => rfl
  | x :: r, h => by
    have ih := sum_filter r (fun y hy => h y (by simp [hy]))
    by_cases hp : p x = true
    · by_cases hq : q x = true
      · rw [List.filter_cons_of_pos (by simp [hp, hq]), List.filter_cons_of_pos hp, List.map_cons, List.map_cons, List.sum_cons, List.sum_cons, ih]
      · rw [List.filter_cons_of_neg (by simp [hq]), List.filter_cons_of_pos hp, List.map_cons, List.sum_cons, ih, h x (by simp) hp (by simpa using hq), Nat.zero_add]
    · rw [List.filter_cons_of_neg (by simp [hp]), List.filter_cons_of_neg hp, ih]
theorem sum_pred {f : Nat → Nat} : ∀ (l : List Nat), (∀ x ∈ l, 1 ≤ f x) → (l.map fun x => f x - 1).sum + l.length = (l.map f).sum
  | [], _ => rfl
  | x :: r, h => by
    have ih := sum_pred r (fun y hy => h y (by simp [hy]))
    have := h x (by simp)
    simp only [List.map_cons, List.sum_cons, List.length_cons]
    omega
/-- How many elements are not the smallest of their cycles. -/
def nonMin (a : List Nat) : Nat := ((List.range a.length).filter fun i => !isMin a i).length
theorem sgn_nonMin {a : List Nat} (h : isP a) : sgnL (cycs a) = sg (nonMin a) := by
  unfold sgnL
  rw [foldl_sgn _ _ (fun c hc => by
    obtain ⟨i, hi, rfl⟩ := List.mem_map.1 hc
    rw [cyc_length]
    exact (per_spec h (List.mem_range.1 (List.mem_filter.1 hi).1)).1), Int.one_mul]
  congr 1
  unfold cycs cycsTo
  rw [List.map_map]
  have e1 : ((fun c : List Nat => c.length - 1) ∘ cyc a) = fun i => perOf a i - 1 := by
    funext i
    simp [cyc_length]
  rw [e1, sum_filter (p := isMin a) (q := fun i => decide (1 < perOf a i)) (f := fun i => perOf a i - 1) _ (fun x _ _ hq => by simp at hq; omega)]
  have h2 := sum_pred (f := perOf a) ((List.range a.length).filter (isMin a)) (fun x hx => (per_spec h (List.mem_range.1 (List.mem_filter.1 hx).1)).1)
  have h3 := (cyc_partition h (fun _ => true) (fun _ _ _ _ => rfl)).length_eq
  have e2 : ((List.range a.length).filter fun i => isMin a i && true) = (List.range a.length).filter (isMin a) := by
    congr 1
    funext i
    simp
  rw [e2, List.length_flatMap] at h3
  have e3 : ((List.range a.length).filter (isMin a)).map (fun i => (cyc a i).length) = ((List.range a.length).filter (isMin a)).map (perOf a) := by
    congr 1
    funext i
    exact cyc_length a i
  rw [e3] at h3
  have e4 : ((List.range a.length).filter fun _ => true) = List.range a.length := List.filter_eq_self.2 (fun _ _ => rfl)
  rw [e4, List.length_range] at h3
  have h5 : ((List.range a.length).filter (isMin a)).length + ((List.range a.length).filter fun i => !isMin a i).length = a.length := by
    have := length_filter_not (isMin a) (List.range a.length)
    rw [List.length_range] at this
    omega
  unfold nonMin
  omega

/-! One point less. -/
def red (a : List Nat) (n : Nat) : List Nat := (a.take n).map fun x => if x = n then a.getD n 0 else x
section
variable {a : List Nat} {n : Nat}
theorem red_length (hl : a.length = n + 1) : (red a n).length = n := by simp [red]; omega
theorem red_getD (hl : a.length = n + 1) {s : Nat} (hs : s < n) : (red a n).getD s 0 = if a.getD s 0 = n then a.getD n 0 else a.getD s 0 := by
  unfold red
  rw [getD_map_nat (by simp; omega)]
  have : (a.take n).getD s 0 = a.getD s 0 := by
    simp [List.getD, List.getElem?_take, hs]
  rw [this]
theorem red_isP (h : isP a) (hl : a.length = n + 1) : isP (red a n) := by
  have hlt : ∀ s, s < n → a.getD s 0 < n + 1 := fun s hs => by have := h.lt (j := s) (by omega); omega
  have hv := h.lt (j := n) (by omega)
  refine isP_of ?_ ?_
  · intro s hs
    rw [red_length hl] at hs ⊢
    rw [red_getD hl hs]
    by_cases e : a.getD s 0 = n
    · rw [if_pos e]
      have : a.getD n 0 ≠ n := fun e2 => by
        have := h.inj (i := s) (j := n) (by omega) (by omega) (by rw [e, e2])
        omega
      omega
    · rw [if_neg e]
      have := hlt s hs
      omega
  · intro i j hi hj he
    rw [red_length hl] at hi hj
    rw [red_getD hl hi, red_getD hl hj] at he
    by_cases ei : a.getD i 0 = n <;> by_cases ej : a.getD j 0 = n
    · exact h.inj (by omega) (by omega) (by rw [ei, ej])
    · rw [if_pos ei, if_neg ej] at he
      have := h.inj (i := n) (j := j) (by omega) (by omega) he
      omega
    · rw [if_neg ei, if_pos ej] at he
      have := h.inj (i := i) (j := n) (by omega) (by omega) he
      omega
    · rw [if_neg ei, if_neg ej] at he
      exact h.inj (by omega) (by omega) he
theorem cyc_next (h : isP a) {s y : Nat} (hs : s < a.length) (hy : y ∈ cyc a s) : a.getD y 0 ∈ cyc a s := by
  obtain ⟨t, rfl⟩ := (mem_cyc h hs).1 hy
  exact (mem_cyc h hs).2 ⟨t + 1, rfl⟩
theorem red_cyc (h : isP a) (hl : a.length = n + 1) {s x : Nat} (hs : s < n) (hx : x < n) : x ∈ cyc (red a n) s ↔ x ∈ cyc a s := by
  have hb := red_isP h hl
  have hbl := red_length hl
  constructor
  · intro hm
    obtain ⟨t, rfl⟩ := (mem_cyc hb (by omega)).1 hm
    clear hm hx
    induction t with
    | zero => exact cyc_self h (by omega)
    | succ t ih =>
      have hy := it_lt hb (s := s) (by omega) t
      rw [hbl] at hy
      have h1 := cyc_next h (by omega) ih
      rw [it, red_getD hl hy]
      split
      · rename_i e
        rw [e] at h1
        exact cyc_next h (by omega) h1
      · exact h1
  · intro hm
    obtain ⟨t, rfl⟩ := (mem_cyc h (by omega)).1 hm
    have key : ∀ t, (it a t s ≠ n → it a t s ∈ cyc (red a n) s) ∧ (it a t s = n → a.getD n 0 ≠ n ∧ a.getD n 0 ∈ cyc (red a n) s) := by
      intro t
      induction t with
      | zero => exact ⟨fun _ => cyc_self hb (by omega), fun e => by have : s = n := e; omega⟩
      | succ t ih =>
        by_cases e : it a t s = n
        · obtain ⟨h1, h2⟩ := ih.2 e
          have e2 : it a (t + 1) s = a.getD n 0 := by rw [it, e]
          rw [e2]
          exact ⟨fun _ => h2, fun e3 => absurd e3 h1⟩
        · have h1 := ih.1 e
          have hlt : it a t s < n := by have := it_lt h (s := s) (by omega) t; omega
          have h2 := cyc_next hb (by omega) h1
          rw [red_getD hl hlt] at h2
          have e2 : it a (t + 1) s = a.getD (it a t s) 0 := rfl
          rw [e2]
          constructor
          · intro e3
            rw [if_neg e3] at h2
            exact h2
          · intro e3
            rw [if_pos e3] at h2
            refine ⟨fun e4 => ?_, h2⟩
            have := h.inj (i := it a t s) (j := n) (by omega) (by omega) (by rw [e3, e4])
            exact e this
    exact (key t).1 (by omega)
theorem red_min (h : isP a) (hl : a.length = n + 1) {s : Nat} (hs : s < n) : isMin (red a n) s = isMin a s := by
  have hb := red_isP h hl
  have hbl := red_length hl
  unfold isMin
  rw [decide_eq_decide]
  constructor
  · intro hall x hx
    by_cases e : x < n
    · exact hall x ((red_cyc h hl hs e).2 hx)
    · omega
  · intro hall x hx
    have hxl := cyc_lt hb (s := s) (by omega) hx
    rw [hbl] at hxl
    exact hall x ((red_cyc h hl hs hxl).1 hx)
theorem last_min (h : isP a) (hl : a.length = n + 1) : isMin a n = decide (a.getD n 0 = n) := by
  unfold isMin
  rw [decide_eq_decide]
  constructor
  · intro hall
    have h1 := hall _ (cyc_next h (by omega) (cyc_self h (s := n) (by omega)))
    have h2 := h.lt (j := n) (by omega)
    omega
  · intro e x hx
    obtain ⟨t, rfl⟩ := (mem_cyc h (by omega)).1 hx
    have : ∀ t, it a t n = n := by
      intro t
      induction t with
      | zero => rfl
      | succ t ih => rw [it, ih, e]
    rw [this t]
    exact Nat.le_refl n
theorem red_nonMin (h : isP a) (hl : a.length = n + 1) : nonMin a = nonMin (red a n) + if a.getD n 0 = n then 0 else 1 := by
  unfold nonMin
  rw [hl, red_length hl, List.range_succ, List.filter_append, List.length_append]
  have e1 : ((List.range n).filter fun i => !isMin a i) = (List.range n).filter fun i => !isMin (red a n) i := by
    apply List.filter_congr
    intro s hs
    rw [red_min h hl (List.mem_range.1 hs)]
  rw [e1]
  congr 1
  have := last_min h hl
  by_cases e : a.getD n 0 = n
  · rw [if_pos e]
    rw [decide_eq_true e] at this
    simp [this]
  · rw [if_neg e]
    rw [decide_eq_false e] at this
    simp [this]

theorem invL_append : ∀ (l r : List Nat), invL (l ++ r) = invL l + invL r + (l.map (cntN r)).sum
  | [], r => by simp [invL]
  | x :: l, r => by
    rw [List.cons_append, invL, invL_append l r, cntN_append, invL, List.map_cons, List.sum_cons]
    omega
theorem cnt_split {l : List Nat} {v : Nat} : (∀ x ∈ l, x ≠ v) → l.length = cntN l v + cntG l v := by
  induction l with
  | nil => intro _; rfl
  | cons x r ih =>
    intro h
    have ih' := ih (fun y hy => h y (by simp [hy]))
    have hx := h x (by simp)
    have e : cntG (x :: r) v = cntG r v + if v < x then 1 else 0 := by
      unfold cntG
      rw [List.countP_cons]
      simp
    rw [List.length_cons, cntN_cons, e]
    rcases Nat.lt_or_gt_of_ne hx with h1 | h1
    · rw [if_pos h1, if_neg (by omega)]; omega
    · rw [if_neg (by omega), if_pos h1]; omega
theorem cnt_all {l : List Nat} {v : Nat} : (∀ x ∈ l, x < v) → cntN l v = l.length ∧ cntG l v = 0 := by
  induction l with
  | nil => intro _; exact ⟨rfl, rfl⟩
  | cons x r ih =>
    intro h
    obtain ⟨h1, h2⟩ := ih (fun y hy => h y (by simp [hy]))
    have hx := h x (by simp)
    have e : cntG (x :: r) v = cntG r v + if v < x then 1 else 0 := by
      unfold cntG
      rw [List.countP_cons]
      simp
    rw [cntN_cons, e, h1, h2, if_pos hx, if_neg (by omega)]
    exact ⟨rfl, rfl⟩
theorem red_inv (h : isP a) (hl : a.length = n + 1) : sg (invL a) = (if a.getD n 0 = n then 1 else -1) * sg (invL (red a n)) := by
  have hsplit : a = a.take n ++ [a.getD n 0] := by
    have := List.take_append_drop n a
    rw [List.drop_eq_getElem_cons (show n < a.length by omega), List.drop_eq_nil_of_le (by omega), ← getD_eq (by omega)] at this
    exact this.symm
  have hnd : (a.take n ++ [a.getD n 0]).Nodup := by rw [← hsplit]; exact h.2
  rw [List.nodup_append] at hnd
  have hlt : ∀ x ∈ a.take n, x < n + 1 := fun x hx => by have := h.1 x (List.mem_of_mem_take hx); omega
  have hne : ∀ x ∈ a.take n, x ≠ a.getD n 0 := fun x hx => hnd.2.2 x hx _ (by simp)
  generalize hT : a.take n = T at *
  generalize hv : a.getD n 0 = v at *
  have hvlt : v < n + 1 := by have := h.lt (j := n) (by omega); rw [hv] at this; omega
  have hred : red a n = T.map fun x => if x = n then v else x := by unfold red; rw [hT, hv]
  rw [hred, hsplit]
  by_cases e : v = n
  · subst e
    have hid : (T.map fun x => if x = v then v else x) = T := by
      conv => rhs; rw [← List.map_id T]
      apply List.map_congr_left
      intro x hx
      rw [if_neg (hne x hx)]
      rfl
    rw [if_pos rfl, hid, Int.one_mul, invL_snoc, (cnt_all (fun x hx => by have := hlt x hx; have := hne x hx; omega)).2, Nat.add_zero]
  · have hn : n ∈ a := h.mem (by omega)
    rw [hsplit, List.mem_append] at hn
    have hnT : n ∈ T := by
      rcases hn with h1 | h1
      · exact h1
      · simp at h1; exact absurd h1.symm e
    obtain ⟨l1, l2, rfl⟩ := List.append_of_mem hnT
    have hnd1 := hnd.1
    rw [List.nodup_append] at hnd1
    have hl1 : ∀ x ∈ l1, x ≠ n := fun x hx => hnd1.2.2 x hx n (by simp)
    have hl2 : ∀ x ∈ l2, x ≠ n := fun x hx e2 => by
      have := (List.nodup_cons.1 hnd1.2.1).1
      rw [e2] at hx
      exact this hx
    have hm1 : (l1.map fun x => if x = n then v else x) = l1 := by
      conv => rhs; rw [← List.map_id l1]
      apply List.map_congr_left
      intro x hx
      rw [if_neg (hl1 x hx)]; rfl
    have hm2 : (l2.map fun x => if x = n then v else x) = l2 := by
      conv => rhs; rw [← List.map_id l2]
      apply List.map_congr_left
      intro x hx
      rw [if_neg (hl2 x hx)]; rfl
    rw [if_neg e, List.map_append, List.map_cons, hm1, hm2, if_pos rfl, List.append_assoc, List.cons_append, invL_append, invL_append l1 (v :: l2), invL, invL, invL_snoc, cntN_append]
    have hc2 : cntN l2 n = l2.length := (cnt_all (fun x hx => by have := hlt x (by simp [hx]); have := hl2 x hx; omega)).1
    have hcv : cntN [v] n = 1 := by rw [cntN_cons, if_pos (by omega)]; rfl
    have hsp := cnt_split (l := l2) (v := v) (fun x hx => hne x (by simp [hx]))
    have hcross : l1.map (cntN (n :: (l2 ++ [v]))) = l1.map (cntN (v :: l2)) := by
      apply List.map_congr_left
      intro x hx
      have hxn : x < n := by have := hlt x (by simp [hx]); have := hl1 x hx; omega
      have e1 : cntN [v] x = if v < x then 1 else 0 := by rw [cntN_cons]; simp [cntN]
      rw [cntN_cons, cntN_append, e1, cntN_cons, if_neg (show ¬ n < x by omega)]
      omega
    rw [hcross, hc2, hcv]
    have e5 : invL l1 + (l2.length + 1 + (invL l2 + cntG l2 v)) + (l1.map (cntN (v :: l2))).sum = (invL l1 + (cntN l2 v + invL l2) + (l1.map (cntN (v :: l2))).sum) + (cntG l2 v + cntG l2 v) + 1 := by omega
    rw [e5, sg_succ, sg_add, sg_add (cntG l2 v), sg_sq, Int.mul_one, Int.neg_mul, Int.one_mul]
end

theorem sign_inv : ∀ (n : Nat) {a : List Nat}, isP a → a.length = n → sg (nonMin a) = sg (invL a)
  | 0, a, _, hl => by
    have : a = [] := List.eq_nil_of_length_eq_zero hl
    subst this
    rfl
  | n + 1, a, h, hl => by
    rw [red_inv h hl, ← sign_inv n (red_isP h hl) (red_length hl), red_nonMin h hl]
    by_cases e : a.getD n 0 = n
    · rw [if_pos e, if_pos e, Nat.add_zero, Int.one_mul]
    · rw [if_neg e, if_neg e, sg_succ, Int.neg_mul, Int.one_mul]
theorem sgn_comp {a b : List Nat} (pa : isP a) (pb : isP b) (hl : a.length = b.length) : sgnL (cycs (comp a b)) = sgnL (cycs a) * sgnL (cycs b) := by
  have pc := comp_isP pa pb hl
  rw [sgn_nonMin pa, sgn_nonMin pb, sgn_nonMin pc, sign_inv _ pa rfl, sign_inv _ pb rfl, sign_inv _ pc rfl, sg_comp pa pb hl]
end Go.Proofs.Ytndgffiihbdppaa
/- Plain mathematics: insertion sort; the lengths of the cycles of a conjugate. -/
namespace Go.Proofs.Ytndgffiihbdppaa
set_option linter.unusedVariables false
set_option linter.unusedSimpArgs false

/-- Elements j and j + 1 exchanged. -/
def swp (ys : List Int) (j : Nat) : List Int := (ys.set (j + 1) (ys.getD j 0)).set j (ys.getD (j + 1) 0)
theorem getD_eqI {a : List Int} {j : Nat} (hj : j < a.length) : a.getD j 0 = a[j] := by
  simp [List.getD, List.getElem?_eq_getElem hj]
theorem swp_perm {ys : List Int} {j : Nat} (hj : j + 1 < ys.length) : (swp ys j).Perm ys := by
  unfold swp
  rw [getD_eqI (by omega), getD_eqI hj]
  exact List.set_set_perm hj (show j < ys.length by omega)
theorem swp_getD {ys : List Int} {j : Nat} (hj : j + 1 < ys.length) (q : Nat) : (swp ys j).getD q 0 = if q = j then ys.getD (j + 1) 0 else if q = j + 1 then ys.getD j 0 else ys.getD q 0 := by
  unfold swp
  by_cases h1 : q = j
  · subst h1
    rw [if_pos rfl]
    simp only [List.getD]
    rw [List.getElem?_set_self (by simp; omega)]
    rfl
  · rw [if_neg h1]
    simp only [List.getD]
    rw [List.getElem?_set_ne (fun e => h1 e.symm)]
    by_cases h2 : q = j + 1
    · subst h2
      rw [if_pos rfl, List.getElem?_set_self (by omega)]
      rfl
    · rw [if_neg h2, List.getElem?_set_ne (fun e => h2 e.symm)]
/-- The first i elements are sorted. -/
def SortTo (ys : List Int) (i : Nat) : Prop := ∀ p q, p < q → q < i → ys.getD p 0 ≤ ys.getD q 0
/-- The first i + 1 elements are sorted but for element j, which is at most what follows. -/
structure InsSt (xs ys : List Int) (i j : Nat) : Prop where
  perm : ys.Perm xs
  rest : ∀ p q, p < q → q ≤ i → p ≠ j → q ≠ j → ys.getD p 0 ≤ ys.getD q 0
  low : ∀ q, j < q → q ≤ i → ys.getD j 0 ≤ ys.getD q 0
theorem InsSt.start {xs ys : List Int} {i : Nat} (hp : ys.Perm xs) (h : SortTo ys i) : InsSt xs ys i i :=
  ⟨hp, fun p q h1 h2 _ h4 => h p q h1 (by omega), fun q h1 h2 => by omega⟩
theorem InsSt.swap {xs ys : List Int} {i j : Nat} (h : InsSt xs ys i (j + 1)) (hi : i < ys.length) (hj : j + 1 ≤ i) (hlt : ys.getD (j + 1) 0 < ys.getD j 0) : InsSt xs (swp ys j) i j := by
  have hjl : j + 1 < ys.length := by omega
  refine ⟨(swp_perm hjl).trans h.perm, fun p q h1 h2 h3 h4 => ?_, fun q h1 h2 => ?_⟩
  · rw [swp_getD hjl, swp_getD hjl, if_neg h3, if_neg h4]
    by_cases e1 : p = j + 1
    · rw [if_pos e1, if_neg (by omega)]
      exact h.rest j q (by omega) h2 (by omega) (by omega)
    · rw [if_neg e1]
      by_cases e2 : q = j + 1
      · rw [if_pos e2]
        exact h.rest p j (by omega) (by omega) e1 (by omega)
      · rw [if_neg e2]
        exact h.rest p q h1 h2 e1 e2
  · rw [swp_getD hjl, swp_getD hjl, if_pos rfl, if_neg (by omega)]
    by_cases e2 : q = j + 1
    · rw [if_pos e2]
      omega
    · rw [if_neg e2]
      exact h.low q (by omega) h2
theorem InsSt.stop {xs ys : List Int} {i j : Nat} (h : InsSt xs ys i j) (hj : j ≤ i) (hs : j = 0 ∨ ys.getD (j - 1) 0 ≤ ys.getD j 0) : SortTo ys (i + 1) := by
  intro p q h1 h2
  by_cases e1 : p = j
  · subst e1
    exact h.low q h1 (by omega)
  · by_cases e2 : q = j
    · subst e2
      rcases hs with h0 | h0
      · omega
      · by_cases e3 : p = q - 1
        · rw [e3]; exact h0
        · have := h.rest p (q - 1) (by omega) (by omega) e1 (by omega)
          omega
    · exact h.rest p q h1 (by omega) e1 e2
/-! The lengths of the cycles of a conjugate. -/
end Go.Proofs.Ytndgffiihbdppaa
/- More facts of operations in regions that draw their order: function values, minima and maxima of integers, three at once. -/
namespace Go.Proofs.Ytndgffiihbdppaa
set_option linter.unusedVariables false
set_option linter.unusedSimpArgs false
open Go.RowKit Go.Maps

theorem gives_minI {P : Program} {o : Oper} {a : Act} {w : World} {x y : Operand} {ts : Array TypeId} {m n r : Int} (ho : o.op = .call { callee := .builtin .min, args := #[x, y], argTypes := ts }) (hx : a.eval x = .int .i64 m) (hy : a.eval y = .int .i64 n) (h : min m n = r) : Gives P o a w (.int .i64 r) := by
  have hr : (if n < m then n else m) = r := by
    by_cases h1 : n < m
    · rw [if_pos h1]; omega
    · rw [if_neg h1]; omega
  unfold Gives execOp
  rw [ho]
  simp only [resolve, invoke, builtin, Sem.run_bind, Sem.run_pure, Result.andThen_ok, List.map_toArray, List.map_cons, List.map_nil, hx, hy, run_min_int2, hr]
theorem gives_maxI {P : Program} {o : Oper} {a : Act} {w : World} {x y : Operand} {ts : Array TypeId} {m n r : Int} (ho : o.op = .call { callee := .builtin .max, args := #[x, y], argTypes := ts }) (hx : a.eval x = .int .i64 m) (hy : a.eval y = .int .i64 n) (h : max m n = r) : Gives P o a w (.int .i64 r) := by
  have hr : (if n > m then n else m) = r := by
    by_cases h1 : n > m
    · rw [if_pos h1]; omega
    · rw [if_neg h1]; omega
  unfold Gives execOp
  rw [ho]
  simp only [resolve, invoke, builtin, Sem.run_bind, Sem.run_pure, Result.andThen_ok, List.map_toArray, List.map_cons, List.map_nil, hx, hy, run_max_int2, hr]
theorem gives_makeFunc {P : Program} {o : Oper} {a : Act} {w : World} {fn : Fn} {l : List Operand} {vs : List Value} (ho : o.op = .makeFunc fn #[] l.toArray) (hx : l.map a.eval = vs) : Gives P o a w (.func fn #[] vs.toArray) := by
  subst hx
  unfold Gives execOp
  rw [ho]
  have h : ∀ (fn : Fn) (first cap : Array Value) (w : World), (Instr.makeFunc fn first cap).run P w = .ok (.func fn first cap) w := fun _ _ _ _ => rfl
  simp [h, Result.andThen]
theorem gives_fld {P : Program} {o : Oper} {a : Act} {w : World} {s : TypeId} {fs : Array Field} {f : Field} {x : Operand} {k g off : Nat} (ho : o.op = .fieldAddr s x k) (hs : P.underlying s = some (.struct fs)) (hf : fs[k]? = some f) (hoff : f.offset = off) (hx : a.eval x = .pointer (some ⟨g, 0, none⟩)) (hp : ∀ w, (fieldPlace ⟨g, 0, none⟩ f).run P w = .ok ⟨g, off, none⟩ w) :
    Gives P o a w (.pointer (some ⟨g, off, none⟩)) := by
  subst hoff
  exact gives_fieldAddr ho hs hf hx hp
/-- A function value stored into a cell. -/
theorem wp_storeF {P : Program} {o : Oper} {a : Act} {w : World} {K : Act → World → Prop} {Q : Exit → Act → World → Prop} {ty : TypeId} {x y : Operand} {ad : Addr} {fn : Fn} {f c : Array Value} {old : Value} (ho : o.op = .store ty x y) (h1 : (isAgg ty).run P w = .ok false w) (hsz : (sizeOf ty).run P w = .ok 1 w) (hx : a.eval x = .pointer (some ad)) (hy : a.eval y = .func fn f c)
    (hc : w.cell? ad = some old) (hf : w.frozen? ad = false) (hK : K (a.put o.dst undef) (w.setCell ad (.func fn f c))) : o.wp P a w K Q := by
  unfold Oper.wp execOp
  rw [ho]
  simp only [hx, hy, Instr.storeAt, Instr.sureAddr, Sem.run_bind, Sem.run_pure, Result.andThen_ok]
  have e0 : ad.add 0 = ad := by unfold Addr.add; simp
  simp [storeVar, Sem.run_bind, h1, hsz, Value.cells, storeCells, run_store_func, stored, e0, hc, hf, Result.andThen]
  exact hK
/-- One of three, written out. -/
theorem wpAnyH_3 {P : Program} {ops : Array Oper} {Q : Exit → Act → World → Prop} {S : World → Prop} {md : Region.Mode} (i k m : Nat) {d d' d'' : Option Tmp} {op op' op'' : Op} {ty ty' ty'' : TypeId} {pos pos' pos'' : String} {af af' af'' : Array Edge} {fuel : Nat} {listed : Array Bool} {a : Act} {w : World}
    (ho : ops[i]? = some ⟨d, op, ty, pos, af, none⟩) (ho' : ops[k]? = some ⟨d', op', ty', pos', af', none⟩) (ho'' : ops[m]? = some ⟨d'', op'', ty'', pos'', af'', none⟩) (hr : Region.ready md ops listed = [i, k, m])
    (h : Oper.wp P ⟨d, op, ty, pos, af, none⟩ a w (fun a' w' => S w' ∧ wpAnyH P md ops Q S fuel (listed.setIfInBounds i true) a' w') Q) (h' : Oper.wp P ⟨d', op', ty', pos', af', none⟩ a w (fun a' w' => S w' ∧ wpAnyH P md ops Q S fuel (listed.setIfInBounds k true) a' w') Q)
    (h'' : Oper.wp P ⟨d'', op'', ty'', pos'', af'', none⟩ a w (fun a' w' => S w' ∧ wpAnyH P md ops Q S fuel (listed.setIfInBounds m true) a' w') Q) : wpAnyH P md ops Q S (fuel + 1) listed a w := by
  refine wpAnyH_all hr (by simp) fun j hj => ?_
  unfold wpOp
  rcases List.mem_cons.1 hj with rfl | hj
  · rw [ho]; simp only [show Region.wanted ⟨d, op, ty, pos, af, none⟩ (yielded ops a.tmps) = true from rfl, if_true]; exact .inl h
  rcases List.mem_cons.1 hj with rfl | hj
  · rw [ho']; simp only [show Region.wanted ⟨d', op', ty', pos', af', none⟩ (yielded ops a.tmps) = true from rfl, if_true]; exact .inl h'
  · obtain rfl : j = m := by simpa using hj
    rw [ho'']; simp only [show Region.wanted ⟨d'', op'', ty'', pos'', af'', none⟩ (yielded ops a.tmps) = true from rfl, if_true]; exact .inl h''
end Go.Proofs.Ytndgffiihbdppaa
/- Lists of the call's own that grow side by side (round 2's text as a template). -/
namespace Go.Proofs.Ytndgffiihbdppaa
open Go.RowKit
set_option linter.unusedVariables false
set_option linter.unusedSimpArgs false

def zssW (l : List (List Nat)) : List (List Int) := l.map zs
theorem zssW_getD {l : List (List Nat)} {k : Nat} (hk : k < l.length) : (zssW l).getD k [] = zs (l.getD k []) := by
  simp [zssW, List.getD, List.getElem?_eq_getElem hk]
/-- A slice of lists, each in a block of its own. -/
structure WR (w : World) (base : Nat) (Q : Option Addr) (q d : Nat) (vs : List Value) (want : List (List Nat)) : Prop where
  own : OwnV w base Q q d vs
  rows : RowsI w base vs (zssW want)
  apart : ∀ (p p' : Nat) (v v' : Value), p ≠ p' → vs[p]? = some v → vs[p']? = some v' → ∀ b, v.ownBlock = some b → v'.ownBlock ≠ some b
section
variable {w w' : World} {base q d : Nat} {Q : Option Addr} {vs : List Value} {want : List (List Nat)}
theorem WR.nil_ (w : World) (base : Nat) : WR w base none 0 0 [] [] := ⟨OwnV.nil_ _ _, RowsI.nil_ _ _, fun p p' v v' _ h => by simp at h⟩
theorem WR.len (h : WR w base Q q d vs want) : want.length = q := by
  have h1 := h.own.len
  have h2 := h.rows.len
  simp [zssW] at h2
  omega
theorem WR.to (h : WR w base Q q d vs want) (hb : Below w.heap.size w w') : WR w' base Q q d vs want := ⟨h.own.keep (KeepT.below hb), h.rows.keep (KeepT.below hb), h.apart⟩
theorem WR.row (h : WR w base Q q d vs want) {p : Nat} (hp : p < q) : ∃ A n c, vs[p]? = some (.slice A n c) ∧ OwnI w base A n c (zs (want.getD p [])) := by
  have := h.own.len
  obtain ⟨A, n, c, e, ho⟩ := h.rows.row p (by omega)
  rw [zssW_getD (by rw [h.len]; exact hp)] at ho
  exact ⟨A, n, c, e, ho⟩
theorem WR.add (h : WR w base Q q d vs want) (hb : base ≤ w.heap.size) (i : Nat) {Q' : Option Addr} {d' : Nat} {w4 : World}
    (hap : AppendedV ((w.alloc (.cells #[.int .i64 i] 3)).alloc (.cells #[.slice (some ⟨w.heap.size, 0, none⟩) 1 1] 22)) base Q (q + 1) d (vs ++ [.slice (some ⟨w.heap.size, 0, none⟩) 1 1]) Q' d' w4) :
    WR w4 base Q' (q + 1) d' (vs ++ [.slice (some ⟨w.heap.size, 0, none⟩) 1 1]) (want ++ [[i]]) := by
  have ha1 : Below w.heap.size w (w.alloc (.cells #[.int .i64 i] 3)) := (Below.refl _ _).alloc (Nat.le_refl _) _
  have o1 : OwnI (w.alloc (.cells #[.int .i64 i] 3)) base (some ⟨w.heap.size, 0, none⟩) 1 1 (zs [i]) := OwnI.lit w (zs [i]) hb (by simp [zs]) rfl rfl rfl
  have h2 := (h.to ha1).to ((Below.refl _ _).alloc (Nat.le_refl _) (.cells #[.slice (some ⟨w.heap.size, 0, none⟩) 1 1] 22))
  have kk : KeepT 3 ((w.alloc (.cells #[.int .i64 i] 3)).alloc (.cells #[.slice (some ⟨w.heap.size, 0, none⟩) 1 1] 22)) w4 := KeepT.grown hap.grown (fun b hb => h2.own.block b (by rw [← hb]; exact ownBlock_len Q q (q + 1) d d))
  refine ⟨hap.own, ?_, ?_⟩
  · have := (h2.rows.keep kk).snoc (kk.ownI (o1.alloc _))
    rw [show zssW (want ++ [[i]]) = zssW want ++ [zs [i]] by simp [zssW]]
    exact this
  · have hnew : ∀ p v b, p < vs.length → (vs ++ [Value.slice (some ⟨w.heap.size, 0, none⟩) 1 1])[p]? = some v → v.ownBlock = some b → b < w.heap.size := fun p v b hp hv hvb => by
      rw [List.getElem?_append_left hp] at hv
      obtain ⟨A, n, c, e, ho⟩ := h.rows.row p hp
      rw [hv] at e
      injection e with e
      rw [e] at hvb
      exact (ho.lt b hvb).2
    intro p p' v v' hne hv hv' b hvb hvb'
    by_cases hp : p < vs.length
    · by_cases hp' : p' < vs.length
      · rw [List.getElem?_append_left hp] at hv
        rw [List.getElem?_append_left hp'] at hv'
        exact h.apart p p' v v' hne hv hv' b hvb hvb'
      · have hl := hnew p v b hp hv hvb
        have e : p' = vs.length := by
          have := (List.getElem?_eq_some_iff.1 hv').1
          simp at this; omega
        subst e
        simp at hv'
        subst hv'
        simp [Value.ownBlock] at hvb'
        omega
    · have e : p = vs.length := by
        have := (List.getElem?_eq_some_iff.1 hv).1
        simp at this; omega
      subst e
      simp at hv
      subst hv
      have hp' : p' < vs.length := by
        have := (List.getElem?_eq_some_iff.1 hv').1
        simp at this; omega
      have hl := hnew p' v' b hp' hv' hvb'
      simp [Value.ownBlock] at hvb
      omega
theorem WR.put {gQ a m cc c' i : Nat} {R R' : Option Addr} {w2 : World} (h : WR w base (some ⟨gQ, 0, none⟩) q d vs want) (hb : base ≤ w.heap.size) (ha : a < q) (hv : vs[a]? = some (.slice R m cc)) (ho : OwnI w base R m cc (zs (want.getD a [])))
    (hap : Appended (w.alloc (.cells #[.int .i64 i] 3)) base R (m + 1) cc (zs (want.getD a []) ++ [(i : Int)]) R' c' w2) :
    WR (w2.setCell ⟨gQ, a, none⟩ (.slice R' (m + 1) c')) base (some ⟨gQ, 0, none⟩) q d (vs.set a (.slice R' (m + 1) c')) (want.set a (want.getD a [] ++ [i])) := by
  have hvl := h.own.len
  have hwl := h.len
  have ha1 : Below w.heap.size w (w.alloc (.cells #[.int .i64 i] 3)) := (Below.refl _ _).alloc (Nat.le_refl _) _
  have h1 := h.to ha1
  have o1 := ho.alloc (.cells #[.int .i64 i] 3)
  have hrow : (Value.slice R (m + 1) cc).ownBlock = (Value.slice R m cc).ownBlock := ownBlock_len R (m + 1) m cc cc
  have k23 : KeepT 22 (w.alloc (.cells #[.int .i64 i] 3)) w2 := KeepT.grown hap.grown (fun b hb => by
    rw [hrow] at hb
    rcases o1.own.2 with ⟨e, _⟩ | ⟨g, cap, cur, e, _, hh, _⟩
    · rw [e] at hb; cases hb
    · rw [e] at hb
      injection hb with hb
      subst hb
      exact ⟨3, cur, hh, by decide⟩)
  have own2 := h1.own.keep k23
  obtain ⟨curQ, BQ⟩ : ∃ cur, Blk w2 gQ 22 cur := by
    rcases own2.own.2 with ⟨_, h0⟩ | ⟨g, cap, cur, e, _, hh, _⟩
    · omega
    · simp only [Value.slice.injEq, Option.some.injEq, Addr.mk.injEq, and_true, true_and] at e
      obtain ⟨rfl, _⟩ := e
      exact ⟨cur, hh⟩
  have k3 : KeepT 3 w2 (w2.setCell ⟨gQ, a, none⟩ (.slice R' (m + 1) c')) := KeepT.set_ BQ (by decide) a _
  refine ⟨⟨(own2.own.stored a _).1, h.own.small⟩, ⟨by simp [zssW]; omega, fun p hp => ?_⟩, ?_⟩
  · rw [List.length_set] at hp
    by_cases e : p = a
    · subst e
      refine ⟨R', m + 1, c', by simp [hp], ?_⟩
      rw [zssW_getD (by rw [List.length_set]; omega)]
      rw [show (want.set p (want.getD p [] ++ [i])).getD p [] = want.getD p [] ++ [i] by
        have hpw : p < want.length := by omega
        simp [List.getD, List.getElem?_set, hpw]]
      rw [show zs (want.getD p [] ++ [i]) = zs (want.getD p []) ++ [(i : Int)] by simp [zs]]
      exact k3.ownI hap.own
    · obtain ⟨A, n, c, e1, ho1⟩ := h1.row (p := p) (by omega)
      refine ⟨A, n, c, by rw [List.getElem?_set_ne (fun h => e h.symm)]; exact e1, ?_⟩
      rw [zssW_getD (by rw [List.length_set]; omega)]
      rw [show (want.set a (want.getD a [] ++ [i])).getD p [] = want.getD p [] by
        simp only [List.getD, List.getElem?_set]
        rw [if_neg (fun h => e h.symm)]]
      refine k3.ownI (ho1.kept hap.grown ?_)
      rw [hrow]
      cases hA : (Value.slice A n c).ownBlock with
      | none => exact .inl rfl
      | some b => exact .inr (fun e2 => h.apart p a _ _ e e1 hv b hA e2.symm)
  · intro p p' v v' hne hpv hpv' b hb1 hb2
    have hold : ∀ p v b, p ≠ a → (vs.set a (.slice R' (m + 1) c'))[p]? = some v → v.ownBlock = some b → vs[p]? = some v ∧ b < (w.alloc (.cells #[.int .i64 i] 3)).heap.size ∧ some b ≠ (Value.slice R m cc).ownBlock := fun p v b hpa hpv hb => by
      rw [List.getElem?_set_ne (fun h => hpa h.symm)] at hpv
      have hpl := (List.getElem?_eq_some_iff.1 hpv).1
      obtain ⟨A, n, c, e1, ho1⟩ := h1.row (p := p) (by omega)
      rw [hpv] at e1
      injection e1 with e1
      refine ⟨hpv, ?_, fun e => ?_⟩
      · rw [e1] at hb
        exact (ho1.lt b hb).2
      · exact h.apart p a _ _ hpa hpv hv b hb e.symm
    have hself : ∀ v b, (vs.set a (.slice R' (m + 1) c'))[a]? = some v → v.ownBlock = some b → some b = (Value.slice R m cc).ownBlock ∨ b = (w.alloc (.cells #[.int .i64 i] 3)).heap.size := fun v b hv2 hb => by
      have : v = .slice R' (m + 1) c' := by
        simp [List.getElem?_set] at hv2
        exact hv2.2.symm
      rw [this] at hb
      rcases hap.lies with h3 | h3
      · left
        rw [← hrow, ← h3, hb]
      · right
        rw [h3] at hb
        injection hb with hb
        exact hb.symm
    by_cases e : p = a
    · subst e
      obtain ⟨_, h3, h4⟩ := hold p' v' b (fun h => hne h.symm) hpv' hb2
      rcases hself v b hpv hb1 with h5 | h5
      · exact h4 h5
      · omega
    · obtain ⟨h2, h3, h4⟩ := hold p v b e hpv hb1
      by_cases e' : p' = a
      · subst e'
        rcases hself v' b hpv' hb2 with h5 | h5
        · exact h4 h5
        · omega
      · obtain ⟨h6, _, _⟩ := hold p' v' b e' hpv' hb2
        exact h.apart p p' v v' hne h2 h6 b hb1 hb2
end
end Go.Proofs.Ytndgffiihbdppaa
/- Maps of any keys and elements as lists of entries; a range over one, whatever its order. -/
namespace Go.Proofs.Ytndgffiihbdppaa
set_option linter.unusedVariables false
set_option linter.unusedSimpArgs false
open Go.RowKit Go.Maps

open Classical in
/-- The element at a key. -/
noncomputable def lookW : List (Value × Value) → Value → Option Value
  | [], _ => none
  | p :: l, x => if p.1 = x then some p.2 else lookW l x
open Classical in
/-- v is put at x. -/
noncomputable def putW : List (Value × Value) → Value → Value → List (Value × Value)
  | [], x, v => [(x, v)]
  | p :: l, x, v => if p.1 = x then (x, v) :: l else p :: putW l x v
theorem lookW_none : ∀ {o : List (Value × Value)} {x : Value}, lookW o x = none ↔ ∀ p ∈ o, p.1 ≠ x
  | [], x => by simp [lookW]
  | p :: l, x => by
    unfold lookW
    by_cases h : p.1 = x
    · rw [if_pos h]; simp [h]
    · rw [if_neg h, lookW_none]; simp [h]
theorem lookW_mem : ∀ {o : List (Value × Value)} {x v : Value}, lookW o x = some v → (x, v) ∈ o
  | [], x, v, h => by cases h
  | p :: l, x, v, h => by
    unfold lookW at h
    by_cases he : p.1 = x
    · rw [if_pos he] at h
      injection h with h
      subst he; subst h
      exact List.mem_cons_self
    · rw [if_neg he] at h
      exact List.mem_cons_of_mem _ (lookW_mem h)
theorem lookW_of_mem : ∀ {o : List (Value × Value)} {x v : Value}, (o.map (·.1)).Nodup → (x, v) ∈ o → lookW o x = some v
  | p :: l, x, v, hn, h => by
    have hn' := List.nodup_cons.1 hn
    unfold lookW
    rcases List.mem_cons.1 h with h | h
    · subst h
      rw [if_pos rfl]
    · have : p.1 ≠ x := fun e' => hn'.1 (by show p.1 ∈ _; rw [e']; exact List.mem_map.2 ⟨(x, v), h, rfl⟩)
      rw [if_neg this]
      exact lookW_of_mem hn'.2 h
theorem putW_keys : ∀ (o : List (Value × Value)) (x v : Value), ∀ p ∈ putW o x v, p ∈ o ∨ p = (x, v)
  | [], x, v, p, h => .inr (by simpa [putW] using h)
  | e :: l, x, v, p, h => by
    unfold putW at h
    by_cases he : e.1 = x
    · rw [if_pos he] at h
      rcases List.mem_cons.1 h with h | h
      · exact .inr h
      · exact .inl (List.mem_cons_of_mem _ h)
    · rw [if_neg he] at h
      rcases List.mem_cons.1 h with h | h
      · exact .inl (by rw [h]; exact List.mem_cons_self)
      · rcases putW_keys l x v p h with h | h
        · exact .inl (List.mem_cons_of_mem _ h)
        · exact .inr h
theorem putW_look : ∀ (o : List (Value × Value)) (x v y : Value), lookW (putW o x v) y = open Classical in if y = x then some v else lookW o y
  | [], x, v, y => by
    unfold putW lookW
    by_cases h : x = y
    · rw [if_pos h, if_pos h.symm]
    · rw [if_neg h, if_neg fun e => h e.symm]; rfl
  | e :: l, x, v, y => by
    unfold putW
    by_cases he : e.1 = x
    · rw [if_pos he]
      unfold lookW
      by_cases h : x = y
      · rw [if_pos h, if_pos h.symm]
      · rw [if_neg h, if_neg fun e' => h e'.symm, if_neg fun e' => h (he.symm.trans e')]
    · rw [if_neg he]
      unfold lookW
      rw [putW_look l x v y]
      by_cases h : e.1 = y
      · rw [if_pos h, if_pos h, if_neg fun e' => he (h.trans e')]
      · rw [if_neg h, if_neg h]
theorem putW_nodup : ∀ (o : List (Value × Value)) (x v : Value), (o.map (·.1)).Nodup → ((putW o x v).map (·.1)).Nodup
  | [], x, v, _ => by simp [putW]
  | e :: l, x, v, h => by
    have h' := List.nodup_cons.1 h
    unfold putW
    by_cases he : e.1 = x
    · rw [if_pos he]
      subst he
      exact h
    · rw [if_neg he]
      refine List.nodup_cons.2 ⟨fun hm => ?_, putW_nodup l x v h'.2⟩
      obtain ⟨p, hp, e1⟩ := List.mem_map.1 hm
      rcases putW_keys l x v p hp with h1 | h1
      · exact h'.1 (by show e.1 ∈ _; rw [← show p.1 = e.1 from e1]; exact List.mem_map.2 ⟨p, h1, rfl⟩)
      · rw [h1] at e1
        exact he e1.symm
theorem putW_length : ∀ (o : List (Value × Value)) (x v : Value), (putW o x v).length = if (lookW o x).isSome then o.length else o.length + 1
  | [], x, v => rfl
  | e :: l, x, v => by
    unfold putW lookW
    by_cases he : e.1 = x
    · rw [if_pos he, if_pos he]; rfl
    · rw [if_neg he, if_neg he]
      show (putW l x v).length + 1 = _
      rw [putW_length l x v]
      split <;> rfl

/-- Block b is a map with just the entries o. -/
structure MapV (P : Program) (k : TypeId) (w : World) (b : Nat) (o : List (Value × Value)) : Prop where
  dict : Dict P k w b o.length (lookW o)
  nodup : (o.map (·.1)).Nodup
section
variable {P : Program} {k : TypeId} {w w' : World} {b : Nat} {o : List (Value × Value)}
theorem MapV.lt (h : MapV P k w b o) : b < w.heap.size := h.dict.lt
theorem MapV.below (h : MapV P k w b o) (hb : Below w.heap.size w w') : MapV P k w' b o := ⟨h.dict.below hb, h.nodup⟩
theorem MapV.kept {row : Option Nat} (h : MapV P k w b o) (hg : w.grownBy w' row) (hne : some b ≠ row) : MapV P k w' b o := ⟨h.dict.kept hg hne, h.nodup⟩
theorem MapV.made (w : World) (P : Program) (k : TypeId) : MapV P k (w.alloc (.map #[] 0)) w.heap.size [] := ⟨(Dict.made w P k).congr rfl fun key kl _ => rfl, List.nodup_nil⟩
theorem MapV.setCell (h : MapV P k w b o) {a : Addr} (ha : b ≠ a.block) (u : Value) : MapV P k (w.setCell a u) b o := ⟨h.dict.setCell ha u, h.nodup⟩
theorem MapV.setRow (h : MapV P k w b o) {g : Nat} (ha : b ≠ g) (cs : Array Value) : MapV P k (w.setRow g cs) b o := ⟨h.dict.setRow ha cs, h.nodup⟩
theorem MapV.look (h : MapV P k w b o) {t e : TypeId} (K : Keyed P k) (ht : P.underlying t = some (.map k e)) {z : Value} (hz : (zeroValue e).run P w = .ok z w) {key : Value} {kl : Lit} (hkey : keyOf P k key = some kl) :
    (Instr.lookup t (.map (some b)) key false).run P w = .ok ((lookW o key).getD z) w := h.dict.look K ht hz hkey
theorem MapV.wp_put (h : MapV P k w b o) {oo : Oper} {a : Act} {Q : Exit → Act → World → Prop} {KK : Act → World → Prop} {m x v : Operand} {t e : TypeId} (hop : oo.op = Op.mapUpdate t m x v ∨ oo.op = Op.insert t m x v) (K : Keyed P k) (ht : P.underlying t = some (.map k e)) (hn : o.length < maxLen)
    (hm : a.eval m = .map (some b)) (key val : Value) (kl : Lit) (hx : a.eval x = key) (hv : a.eval v = val) (hkey : keyOf P k key = some kl)
    (hK : ∀ w', MapV P k w' b (putW o key val) → w.grownBy w' (some b) → w'.heap.size = w.heap.size → KK (a.put oo.dst undef) w') : oo.wp P a w KK Q :=
  wp_mput hop K ht b o.length (lookW o) hm h.dict hn key val kl hx hv hkey (lookW (putW o key val)) (by rw [putW_look, if_pos rfl]) (fun y l _ hne => by rw [putW_look, if_neg hne]) fun w' h1 h2 h3 => hK w' ⟨h1.congr (putW_length o key val).symm fun _ _ _ => rfl, putW_nodup o key val h.nodup⟩ h2 h3
end

/-! ### a range -/
/-- A range over the map with entries T: rem(aining). -/
structure RangeW (P : Program) (k : TypeId) (w : World) (b r : Nat) (T rem : List (Value × Value)) (cnt : Nat) : Prop where
  nodup : (T.map (·.1)).Nodup
  nodupR : (rem.map (·.1)).Nodup
  sub : ∀ p ∈ rem, p ∈ T
  run : ∃ (n : Nat) (D : DataW Value) (left : Lit → Bool), w.ranges P k HR b r n D left cnt ∧ (∀ p ∈ T, ∀ kl, keyOf P k p.1 = some kl → ∀ z, D.atKey kl z = .held p.2) ∧ (∀ x kl, keyOf P k x = some kl → (left kl = true ↔ ∃ c, (x, c) ∈ rem)) ∧ ∀ p ∈ T, ∃ kl, keyOf P k p.1 = some kl
section
variable {P : Program} {k : TypeId} {w w' : World} {b r cnt : Nat} {T rem : List (Value × Value)}
theorem RangeW.kept {row : Option Nat} (h : RangeW P k w b r T rem cnt) (hg : w.grownBy w' row) (hb : some b ≠ row) (hr : some r ≠ row) : RangeW P k w' b r T rem cnt := by
  obtain ⟨n, D, left, h1, h2⟩ := h.run
  exact ⟨h.nodup, h.nodupR, h.sub, n, D, left, h1.kept hg hb hr, h2⟩
theorem RangeW.left_eq (h : RangeW P k w b r T rem cnt) : w.rangeLeft b r = cnt := by
  obtain ⟨n, D, left, h1, _⟩ := h.run
  exact h1.left_eq
theorem RangeW.lt (h : RangeW P k w b r T rem cnt) : r < w.heap.size := by
  obtain ⟨n, D, left, h1, _⟩ := h.run
  exact h1.lt
end
section
variable {P : Program} {k : TypeId} (w : World) {ops : Array Oper} {rest : List Oper} {o : Oper} {a : Act} {Q : Exit → Act → World → Prop}
theorem wpList_rangeW (hg : o.guard = none) (m : Operand) (t e : TypeId) (hop : o.op = Op.range t m) (K : Keyed P k) (ht : P.underlying t = some (.map k e)) (b : Nat) (T : List (Value × Value)) (hm : a.eval m = .map (some b)) (h : MapV P k w b T) (hwf : ∀ p ∈ T, ∃ kl, keyOf P k p.1 = some kl)
    (hK : ∀ w' cnt, RangeW P k w' b w.heap.size T T cnt → w.grownBy w' none → w'.heap.size = w.heap.size + 1 → wpList P ops Q rest (a.put o.dst (.pointer (some ⟨w.heap.size, 0, none⟩))) w') :
    wpList P ops Q (o :: rest) a w := by
  obtain ⟨D, hD, hT, hs, hf⟩ := h.dict.own
  refine wpList_range_own w hg m t hop k e K ht HR b _ D hm hD fun w' hr hgr hsz => hK w' _ ⟨h.nodup, h.nodup, fun p hp => hp, _, D, Maps.has D, hr, fun p hp kl hkl z => ?_, fun x kl hkl => ?_, hwf⟩ hgr hsz
  · have := hf p.1 kl hkl
    rw [lookW_of_mem h.nodup (show (p.1, p.2) ∈ T from hp)] at this
    exact this.2 z
  · have := hf x kl hkl
    cases hl : lookW T x with
    | none =>
      rw [hl] at this
      have this : Maps.has D kl = false := this
      rw [this]
      have h0 := lookW_none.1 hl
      exact ⟨fun h => (by cases h), fun ⟨c, hc⟩ => absurd rfl (h0 _ hc)⟩
    | some c =>
      rw [hl] at this
      have this : Maps.has D kl = true ∧ _ := this
      exact ⟨fun _ => ⟨c, lookW_mem hl⟩, fun _ => this.1⟩
theorem wpList_nextW (hg : o.guard = none) (it : Operand) (hop : o.op = Op.next it false) (K : Keyed P k) (b r : Nat) (T rem : List (Value × Value)) (cnt : Nat) (hit : a.eval it = .pointer (some ⟨r, 0, none⟩)) (h : RangeW P k w b r T rem cnt)
    (hDone : rem = [] → wpList P ops Q rest (a.put o.dst (.tuple #[.bool false])) w)
    (hMore : ∀ (x c : Value) (rem' : List (Value × Value)) (w' : World) (cnt' : Nat), rem.Perm ((x, c) :: rem') → RangeW P k w' b r T rem' cnt' → cnt' < cnt → w.grownBy w' (some r) → w'.heap.size = w.heap.size →
      (Instr.entry (.pointer (some ⟨r, 0, none⟩))).run P w' = .ok (.tuple #[x, c]) w' → wpList P ops Q rest (a.put o.dst (.tuple #[.bool true, x, c])) w') :
    wpList P ops Q (o :: rest) a w := by
  obtain ⟨n, D, left, h1, h2, h3, h4⟩ := h.run
  refine wpList_next_ranges w hg it hop k K HR (fun v : Value => v) (fun v : Value => v) (fun key kl _ => ⟨key, rfl⟩) (fun v y _ => ⟨v, rfl⟩) b r n D left cnt hit h1 (fun _ hl => hDone ?_) ?_
  · match rem, h3, h.sub with
    | [], _, _ => rfl
    | (x, c) :: l, h3, hp =>
      obtain ⟨kl, hkl⟩ := h4 _ (hp _ List.mem_cons_self)
      have := (h3 x kl hkl).2 ⟨c, List.mem_cons_self⟩
      rw [hl] at this
      cases this
  · intro x v kl y w' cnt' hkey hlk hv hat hrg hlt hgr hsz hen
    obtain ⟨c, hc⟩ := (h3 x kl hkey).1 hlk
    have hmT : (x, c) ∈ T := h.sub _ hc
    have hvy := HR_inv (v := v) (d := y.1) (ps := y.2) hv
    have e1 := h2 _ hmT kl hkey (.held v)
    rw [hat, hvy] at e1
    injection e1 with e1
    have e1 : v = c := e1
    subst e1
    obtain ⟨l1, l2, hl⟩ := List.append_of_mem hc
    have hp2 : rem.Perm ((x, v) :: (l1 ++ l2)) := by rw [hl]; exact List.perm_middle
    have hnd : (((x, v) :: (l1 ++ l2)).map (·.1)).Nodup := (hp2.map (·.1)).nodup_iff.1 h.nodupR
    have hnd' := List.nodup_cons.1 hnd
    refine hMore x v (l1 ++ l2) w' cnt' hp2 ⟨h.nodup, hnd'.2, fun p hp => h.sub p (hp2.symm.subset (List.mem_cons_of_mem _ hp)), n, D, _, hrg, h2, fun z zl hz => ?_, h4⟩ hlt hgr hsz hen
    show (left zl && !zl.sameKey kl) = true ↔ _
    have hnx : ∀ d, (x, d) ∉ l1 ++ l2 := fun d hd => hnd'.1 (List.mem_map.2 ⟨(x, d), hd, rfl⟩)
    by_cases e : z = x
    · subst e
      have e2 : zl = kl := by rw [hz] at hkey; injection hkey
      subst e2
      have : zl.sameKey zl = true := WideAt.sameKey_self (K.key hz)
      rw [this]
      simp only [Bool.not_true, Bool.and_false]
      exact ⟨fun h => (by cases h), fun ⟨d, hd⟩ => absurd hd (hnx d)⟩
    · have hne : zl ≠ kl := fun e2 => e (K.inj hz (e2 ▸ hkey))
      have : zl.sameKey kl = false := by
        cases hs : zl.sameKey kl
        · rfl
        · exact absurd (WideAt.sameKey_eq hs) hne
      rw [this]
      simp only [Bool.not_false, Bool.and_true]
      rw [h3 z zl hz]
      constructor
      · rintro ⟨d, hd⟩
        refine ⟨d, ?_⟩
        rcases List.mem_cons.1 (hp2.subset hd) with h | h
        · injection h with h _; exact absurd h e
        · exact h
      · rintro ⟨d, hd⟩
        exact ⟨d, hp2.symm.subset (List.mem_cons_of_mem _ hd)⟩
end
end Go.Proofs.Ytndgffiihbdppaa
/- Planar matchings: a generator closes at most one loop, a closure has one at least; their elements are small. (Checks in the kernel.) -/
namespace Go.Proofs.Ytndgffiihbdppaa.Tl
set_option linter.unusedVariables false
set_option linter.unusedSimpArgs false

def oneB (n : Nat) (f : List Nat) : Bool :=
  cond (f.all fun x => Nat.ble x 1000) (cond (forceN (cirF n f) fun k => cond (Nat.ble 1 k) (Nat.ble k 6) false) (forceL (layJ 0 f 0 (List.range (n * 3))) fun lab0 => (gens n).all fun g => forceL (layJ n g 0 lab0) fun lab => Nat.ble (cn lab 0) (n + 1)) false) false
set_option maxRecDepth 100000 in
theorem one_low : (List.range 6).all (fun n => n == 0 || (plan n).all (oneB n)) = true := by decide +kernel
set_option maxRecDepth 100000 in
theorem one_6a : ((plan 6).take 66).all (oneB 6) = true := by decide +kernel
set_option maxRecDepth 100000 in
theorem one_6b : ((plan 6).drop 66).all (oneB 6) = true := by decide +kernel
theorem plan_one {n : Nat} (h1 : 1 ≤ n) (h6 : n ≤ 6) {f : List Nat} (hf : f ∈ plan n) : (∀ x ∈ f, x ≤ 1000) ∧ (1 ≤ cir n f ∧ cir n f ≤ 6) ∧ ∀ g ∈ gens n, (mul n f g).2 ≤ 1 := by
  have h : oneB n f = true := by
    by_cases e : n = 6
    · subst e
      have : (plan 6).all (oneB 6) = true := by
        rw [← List.take_append_drop 66 (plan 6), List.all_append, one_6a, one_6b]; rfl
      rw [List.all_eq_true] at this
      exact this f hf
    · have h1' := one_low
      rw [List.all_eq_true] at h1'
      have h2 := h1' n (List.mem_range.2 (by omega))
      rw [Bool.or_eq_true, beq_iff_eq, List.all_eq_true] at h2
      rcases h2 with h2 | h2
      · omega
      · exact h2 f hf
  unfold oneB at h
  obtain ⟨ha, h⟩ := cond_tt h
  obtain ⟨hb, h⟩ := cond_tt h
  simp only [forceL_eq, forceN_eq] at hb h
  rw [List.all_eq_true] at ha h
  refine ⟨fun x hx => Nat.le_of_ble_eq_true (ha x hx), ?_, fun g hg => ?_⟩
  · rw [cirF_eq (unit_r h6 hf).2] at hb
    obtain ⟨hb1, hb2⟩ := cond_tt hb
    exact ⟨Nat.le_of_ble_eq_true hb1, Nat.le_of_ble_eq_true hb2⟩
  · have h3 := Nat.le_of_ble_eq_true (h g hg)
    rw [show layJ n g 0 (layJ 0 f 0 (List.range (n * 3))) = labF2 n f g from rfl] at h3
    have e1 := stkF_eq n f g
    show (stk n [f, g]).2 ≤ 1
    rw [← e1]
    show cn (labF2 n f g) 0 - n ≤ 1
    omega
end Go.Proofs.Ytndgffiihbdppaa.Tl
/- Lines and joints between points: what following them passes. -/
namespace Go.Proofs.Ytndgffiihbdppaa.Tl
set_option linter.unusedVariables false
set_option linter.unusedSimpArgs false

/-- Each of N points is the end of a line; a joint continues some of them. -/
structure Dg (N : Nat) (L : Nat → Nat) (J : Nat → Option Nat) : Prop where
  llt : ∀ i, i < N → L i < N
  linv : ∀ i, i < N → L (L i) = i
  jlt : ∀ i j, i < N → J i = some j → j < N
  jinv : ∀ i j, i < N → J i = some j → J j = some i
/-- A set that no line and no joint leaves. -/
structure Cl (N : Nat) (L : Nat → Nat) (J : Nat → Option Nat) (S : Nat → Bool) : Prop where
  line : ∀ i, i < N → S i = true → S (L i) = true
  joint : ∀ i j, i < N → J i = some j → S i = true → S j = true
theorem Cl.not {N : Nat} {L : Nat → Nat} {J : Nat → Option Nat} {S : Nat → Bool} (hD : Dg N L J) (h : Cl N L J S) : Cl N L J (fun i => !S i) := by
  refine ⟨fun i hi hs => ?_, fun i j hi hj hs => ?_⟩
  · cases e : S (L i) with
    | false => rfl
    | true =>
      have := h.line (L i) (hD.llt i hi) e
      rw [hD.linv i hi] at this
      rw [this] at hs; cases hs
  · cases e : S j with
    | false => rfl
    | true =>
      have := h.joint j i (hD.jlt i j hi hj) (hD.jinv i j hi hj) e
      rw [this] at hs; cases hs
theorem Cl.or {N : Nat} {L : Nat → Nat} {J : Nat → Option Nat} {S T : Nat → Bool} (h : Cl N L J S) (k : Cl N L J T) : Cl N L J (fun i => S i || T i) := by
  refine ⟨fun i hi hs => ?_, fun i j hi hj hs => ?_⟩
  · rcases Bool.or_eq_true_iff.1 hs with e | e
    · exact Bool.or_eq_true_iff.2 (.inl (h.line i hi e))
    · exact Bool.or_eq_true_iff.2 (.inr (k.line i hi e))
  · rcases Bool.or_eq_true_iff.1 hs with e | e
    · exact Bool.or_eq_true_iff.2 (.inl (h.joint i j hi hj e))
    · exact Bool.or_eq_true_iff.2 (.inr (k.joint i j hi hj e))

/-- The points at which lines were entered, the last one first. -/
inductive Wk (N : Nat) (L : Nat → Nat) (J : Nat → Option Nat) (s : Nat) : List Nat → Prop
  | one : Wk N L J s [s]
  | step : ∀ {i : Nat} {is : List Nat} {j : Nat}, Wk N L J s (i :: is) → J (L i) = some j → j ≠ s → Wk N L J s (j :: i :: is)
section
variable {N : Nat} {L : Nat → Nat} {J : Nat → Option Nat} {s : Nat}
theorem Wk.lt (hD : Dg N L J) (hs : s < N) {l : List Nat} (h : Wk N L J s l) : ∀ x ∈ l, x < N := by
  induction h with
  | one => intro x hx; rw [List.mem_singleton.1 hx]; exact hs
  | step h1 hj hne ih =>
    intro x hx
    rcases List.mem_cons.1 hx with e | e
    · rw [e]; exact hD.jlt _ _ (hD.llt _ (ih _ (by simp))) hj
    · exact ih x e
theorem Wk.pred {l : List Nat} (h : Wk N L J s l) : ∀ x ∈ l, x ≠ s → ∃ y ∈ l.tail, J (L y) = some x := by
  induction h with
  | one => intro x hx hne; exact absurd (List.mem_singleton.1 hx) hne
  | @step i is j h1 hj hne ih =>
    intro x hx hxs
    rcases List.mem_cons.1 hx with e | e
    · exact ⟨i, by simp, by rw [e]; exact hj⟩
    · obtain ⟨y, hy, hJ⟩ := ih x e hxs
      exact ⟨y, List.mem_cons_of_mem _ hy, hJ⟩
theorem Wk.succ {l : List Nat} (h : Wk N L J s l) : ∀ x ∈ l.tail, ∃ y ∈ l, J (L x) = some y := by
  induction h with
  | one => intro x hx; cases hx
  | @step i is j h1 hj hne ih =>
    intro x hx
    rcases List.mem_cons.1 hx with e | e
    · exact ⟨j, by simp, by rw [e]; exact hj⟩
    · obtain ⟨y, hy, hJ⟩ := ih x e
      exact ⟨y, List.mem_cons_of_mem _ hy, hJ⟩
theorem Wk.start {l : List Nat} (h : Wk N L J s l) : s ∈ l := by
  induction h with
  | one => simp
  | step h1 hj hne ih => exact List.mem_cons_of_mem _ ih
theorem Wk.nodup (hD : Dg N L J) (hs : s < N) {l : List Nat} (h : Wk N L J s l) : l.Nodup := by
  induction h with
  | one => simp
  | @step i is j h1 hj hne ih =>
    rw [List.nodup_cons]
    refine ⟨fun hm => ?_, ih⟩
    obtain ⟨y, hy, hJ⟩ := h1.pred j hm hne
    have hi := h1.lt hD hs i (by simp)
    have hyN := h1.lt hD hs y (List.mem_cons_of_mem _ hy)
    have e1 := hD.jinv _ _ (hD.llt i hi) hj
    have e2 := hD.jinv _ _ (hD.llt y hyN) hJ
    rw [e1] at e2
    injection e2 with e2
    have e3 := congrArg L e2
    rw [hD.linv i hi, hD.linv y hyN] at e3
    rw [← e3] at hy
    exact (List.nodup_cons.1 ih).1 hy
theorem nodup_len : ∀ {N : Nat} {l : List Nat}, l.Nodup → (∀ x ∈ l, x < N) → l.length ≤ N
  | 0, [], _, _ => Nat.le_refl _
  | 0, x :: l, _, h => absurd (h x (by simp)) (by omega)
  | N + 1, l, hd, h => by
    have h1 : (l.filter (· != N)).length ≤ N := nodup_len (hd.filter _) (fun x hx => by
      have hx := List.mem_filter.1 hx
      have := h x hx.1
      have h2 : x ≠ N := by simpa using hx.2
      omega)
    have h2 : l.count N ≤ 1 := List.nodup_iff_count.1 hd N
    have h3 : (l.filter (· != N)).length + l.count N = l.length := by
      clear h1 h2 hd h
      induction l with
      | nil => rfl
      | cons a l ih =>
        rw [List.filter_cons, List.count_cons, List.length_cons]
        by_cases e : a = N
        · subst e; simp at ih ⊢; omega
        · rw [if_pos (by simpa using e), List.length_cons, if_neg (by simpa using e)]; omega
    omega
theorem Wk.len (hD : Dg N L J) (hs : s < N) {l : List Nat} (h : Wk N L J s l) : l.length ≤ N := nodup_len (h.nodup hD hs) (h.lt hD hs)
/-- What is passed on the way. -/
def pas (L : Nat → Nat) (l : List Nat) (x : Nat) : Bool := l.contains x || l.contains (L x)
theorem pas_iff {L : Nat → Nat} {l : List Nat} {x : Nat} : pas L l x = true ↔ x ∈ l ∨ L x ∈ l := by unfold pas; simp
/-- A closed set with the start has all of it. -/
theorem Wk.sub (hD : Dg N L J) (hs : s < N) {S : Nat → Bool} (hS : Cl N L J S) (h0 : S s = true) {l : List Nat} (h : Wk N L J s l) : ∀ x, x < N → pas L l x = true → S x = true := by
  have h1 : ∀ x ∈ l, S x = true := by
    induction h with
    | one => intro x hx; rw [List.mem_singleton.1 hx]; exact h0
    | @step i is j h1 hj hne ih =>
      intro x hx
      rcases List.mem_cons.1 hx with e | e
      · have hi := h1.lt hD hs i (by simp)
        rw [e]
        exact hS.joint _ _ (hD.llt i hi) hj (hS.line i hi (ih i (by simp)))
      · exact ih x e
  intro x hx hp
  rcases pas_iff.1 hp with e | e
  · exact h1 x e
  · have := hS.line _ (hD.llt x hx) (h1 _ e)
    rwa [hD.linv x hx] at this
/-- Where it ends, all is passed that is joined. -/
theorem Wk.closed (hD : Dg N L J) (hs : s < N) {i : Nat} {is : List Nat} (h : Wk N L J s (i :: is)) (hend : J (L i) = some s ∨ (J (L i) = none ∧ J s = none)) : Cl N L J (pas L (i :: is)) := by
  have hlt := h.lt hD hs
  refine ⟨fun x hx hp => ?_, fun x j hx hj hp => ?_⟩
  · rw [pas_iff] at hp ⊢
    rw [hD.linv x hx]
    exact hp.symm
  · rw [pas_iff] at hp ⊢
    rcases hp with hp | hp
    · by_cases e : x = s
      · subst e
        rcases hend with h1 | ⟨_, h2⟩
        · have h3 := hD.jinv _ _ (hD.llt i (hlt i (by simp))) h1
          rw [hj] at h3
          injection h3 with h3
          rw [h3, hD.linv i (hlt i (by simp))]
          exact .inr (by simp)
        · rw [hj] at h2; cases h2
      · obtain ⟨y, hy, hJ⟩ := h.pred x hp e
        have hyN := hlt y (List.mem_cons_of_mem _ hy)
        have h3 := hD.jinv _ _ (hD.llt y hyN) hJ
        rw [hj] at h3
        injection h3 with h3
        rw [h3, hD.linv y hyN]
        exact .inr (List.mem_cons_of_mem _ hy)
    · obtain ⟨z, hz⟩ : ∃ z, L x = z := ⟨_, rfl⟩
      rw [hz] at hp
      have hxz : x = L z := by rw [← hz, hD.linv x hx]
      rw [hxz] at hj
      rcases List.mem_cons.1 hp with e | e
      · subst e
        rcases hend with h1 | ⟨h1, _⟩
        · rw [hj] at h1
          injection h1 with h1
          rw [h1]
          exact .inl h.start
        · rw [hj] at h1; cases h1
      · obtain ⟨y, hy, hJ⟩ := h.succ z e
        rw [hj] at hJ
        injection hJ with hJ
        rw [hJ]
        exact .inl hy
/-- Its two ends. -/
theorem Wk.ends (hD : Dg N L J) (hs : s < N) {i : Nat} {is : List Nat} (h : Wk N L J s (i :: is)) {x : Nat} (hx : x < N) (hp : pas L (i :: is) x = true) (hJ : J x = none) : x = s ∨ x = L i := by
  rcases pas_iff.1 hp with e | e
  · by_cases e2 : x = s
    · exact .inl e2
    · obtain ⟨y, hy, hJy⟩ := h.pred x e e2
      have hyN := h.lt hD hs y (List.mem_cons_of_mem _ hy)
      have h3 := hD.jinv _ _ (hD.llt y hyN) hJy
      rw [hJ] at h3; cases h3
  · rcases List.mem_cons.1 e with e2 | e2
    · right; rw [← e2, hD.linv x hx]
    · obtain ⟨y, hy, hJy⟩ := h.succ _ e2
      rw [hD.linv x hx, hJ] at hJy; cases hJy
/-- Colors that change along each line and each joint. -/
theorem Wk.col (hD : Dg N L J) (hs : s < N) {c : Nat → Bool} (hl : ∀ i, i < N → c (L i) = !c i) (hj : ∀ i j, i < N → J i = some j → c j = !c i) {l : List Nat} (h : Wk N L J s l) : ∀ x ∈ l, c x = c s := by
  induction h with
  | one => intro x hx; rw [List.mem_singleton.1 hx]
  | @step i is j h1 hJ hne ih =>
    intro x hx
    rcases List.mem_cons.1 hx with e | e
    · have hi := h1.lt hD hs i (by simp)
      rw [e, hj _ _ (hD.llt i hi) hJ, hl i hi, ih i (by simp), Bool.not_not]
    · exact ih x e
end
/-- What following from s leaves: the end E and the points passed. -/
structure Fol (N : Nat) (L : Nat → Nat) (J : Nat → Option Nat) (s E : Nat) (V : Nat → Bool) : Prop where
  cl : Cl N L J V
  st : V s = true
  en : V E = true
  elt : E < N
  sub : ∀ S : Nat → Bool, Cl N L J S → S s = true → ∀ x, x < N → V x = true → S x = true
  ends : J s = none → J E = none ∧ ∀ x, x < N → V x = true → J x = none → x = s ∨ x = E
  col : ∀ c : Nat → Bool, (∀ i, i < N → c (L i) = !c i) → (∀ i j, i < N → J i = some j → c j = !c i) → J s = none → E ≠ s
theorem Wk.fol_open {N : Nat} {L : Nat → Nat} {J : Nat → Option Nat} {s i : Nat} {is : List Nat} (hD : Dg N L J) (hs : s < N) (h : Wk N L J s (i :: is)) (he : J (L i) = none) (h0 : J s = none) : Fol N L J s (L i) (pas L (i :: is)) := by
  have hi := h.lt hD hs i (by simp)
  refine ⟨h.closed hD hs (.inr ⟨he, h0⟩), pas_iff.2 (.inl h.start), pas_iff.2 (.inr (by rw [hD.linv i hi]; simp)), hD.llt i hi, fun S hS h1 => h.sub hD hs hS h1, fun _ => ⟨he, fun x hx hp hJ => h.ends hD hs hx hp hJ⟩, fun c hl hj _ e => ?_⟩
  have h1 := h.col hD hs hl hj i (by simp)
  have h2 := hl i hi
  rw [e, h1] at h2
  cases hc : c s <;> rw [hc] at h2 <;> cases h2
theorem Wk.fol_closed {N : Nat} {L : Nat → Nat} {J : Nat → Option Nat} {s i : Nat} {is : List Nat} (hD : Dg N L J) (hs : s < N) (h : Wk N L J s (i :: is)) (he : J (L i) = some s) : Fol N L J s s (pas L (i :: is)) := by
  have hi := h.lt hD hs i (by simp)
  have h3 := hD.jinv _ _ (hD.llt i hi) he
  refine ⟨h.closed hD hs (.inl he), pas_iff.2 (.inl h.start), pas_iff.2 (.inl h.start), hs, fun S hS h1 => h.sub hD hs hS h1, fun h0 => (by rw [h3] at h0; cases h0), fun c hl hj h0 => (by rw [h3] at h0; cases h0)⟩

/-! ### labels -/
theorem joins_resp {Q : Nat → Prop} {M : Nat} : ∀ {es : List (Nat × Nat)} {lab : List Nat}, lab.length = M → (∀ e ∈ es, e.1 < M ∧ e.2 < M ∧ (Q e.1 ↔ Q e.2)) → (∀ a b, a < M → b < M → same lab a b → (Q a ↔ Q b)) → ∀ a b, a < M → b < M → same (joins lab es) a b → (Q a ↔ Q b)
  | [], lab, _, _, h => h
  | e :: es, lab, hl, he, h => by
    obtain ⟨h1, h2, h3⟩ := he e (by simp)
    refine joins_resp (es := es) (lab := join lab e.1 e.2) (by rw [join_length]; exact hl) (fun e' h' => he e' (by simp [h'])) (fun a b ha hb hs => ?_)
    rw [join_same (by omega) (by omega)] at hs
    rcases hs with hs | ⟨k1, k2⟩ | ⟨k1, k2⟩
    · exact h a b ha hb hs
    · exact ((h a e.1 ha h1 k1).trans h3).trans (h e.2 b h2 hb k2)
    · exact ((h a e.2 ha h2 k1).trans h3.symm).trans (h e.1 b h1 hb k2)
theorem joins_grow {es : List (Nat × Nat)} : ∀ {lab : List Nat} {a b : Nat}, a < lab.length → b < lab.length → (∀ e ∈ es, e.1 < lab.length ∧ e.2 < lab.length) → same lab a b → same (joins lab es) a b := by
  induction es with
  | nil => intro lab a b _ _ _ h; exact h
  | cons e es ih =>
    intro lab a b ha hb he h
    exact ih (by rw [join_length]; exact ha) (by rw [join_length]; exact hb) (fun e' h' => by rw [join_length]; exact he e' (by simp [h'])) ((join_same ha hb _ _).2 (.inl h))
theorem joins_edge {es : List (Nat × Nat)} : ∀ {lab : List Nat}, (∀ e ∈ es, e.1 < lab.length ∧ e.2 < lab.length) → ∀ e ∈ es, same (joins lab es) e.1 e.2 := by
  induction es with
  | nil => intro lab _ e h; cases h
  | cons e0 es ih =>
    intro lab he e h
    have h0 := he e0 (by simp)
    have hes : ∀ e ∈ es, e.1 < (join lab e0.1 e0.2).length ∧ e.2 < (join lab e0.1 e0.2).length := fun e' h' => by rw [join_length]; exact he e' (by simp [h'])
    rcases List.mem_cons.1 h with e1 | e1
    · subst e1
      show same (joins (join lab e.1 e.2) es) e.1 e.2
      exact joins_grow (by rw [join_length]; exact h0.1) (by rw [join_length]; exact h0.2) hes ((join_same h0.1 h0.2 _ _).2 (.inr (.inl ⟨rfl, rfl⟩)))
    · exact ih hes e e1
/-- Labels of M places that say what is joined among N points, by the place of each point. -/
structure Lb (N : Nat) (L : Nat → Nat) (J : Nat → Option Nat) (M : Nat) (p : Nat → Nat) (lab : List Nat) : Prop where
  dg : Dg N L J
  ok : Ok lab
  len : lab.length = M
  plt : ∀ i, i < N → p i < M
  sur : ∀ m, m < M → ∃ i, i < N ∧ p i = m
  fib : ∀ i j, i < N → j < N → p i = p j → i = j ∨ J i = some j
  li : ∀ i, i < N → same lab (p i) (p (L i))
  jo : ∀ i j, i < N → J i = some j → same lab (p i) (p j)
  resp : ∀ S : Nat → Bool, Cl N L J S → ∀ i j, i < N → j < N → same lab (p i) (p j) → S i = S j
theorem Lb.of {N M : Nat} {L : Nat → Nat} {J : Nat → Option Nat} {p : Nat → Nat} {es : List (Nat × Nat)} (hD : Dg N L J) (plt : ∀ i, i < N → p i < M) (sur : ∀ m, m < M → ∃ i, i < N ∧ p i = m) (fib : ∀ i j, i < N → j < N → p i = p j → i = j ∨ J i = some j)
    (he : ∀ e ∈ es, e.1 < M ∧ e.2 < M) (h1 : ∀ i, i < N → (p i, p (L i)) ∈ es) (h2 : ∀ i j, i < N → J i = some j → p i = p j ∨ (p i, p j) ∈ es) (h3 : ∀ e ∈ es, ∃ i j, i < N ∧ p i = e.1 ∧ p j = e.2 ∧ (j = L i ∨ J i = some j)) : Lb N L J M p (joins (List.range M) es) := by
  have he2 : ∀ e ∈ es, e.1 < (List.range M).length ∧ e.2 < (List.range M).length := fun e hm => by rw [List.length_range]; exact he e hm
  have hed := joins_edge he2
  refine ⟨hD, (Ok.range M).joins he2, by rw [joins_length, List.length_range], plt, sur, fib, fun i hi => hed _ (h1 i hi), fun i j hi hj => ?_, fun S hS i j hi hj hs => ?_⟩
  · rcases h2 i j hi hj with e | e
    · unfold same; rw [e]
    · exact hed _ e
  · have key : ∀ a b, a < N → b < N → p a = p b → S a = true → S b = true := fun a b ha hb e h => by
      rcases fib a b ha hb e with e2 | e2
      · rw [← e2]; exact h
      · exact hS.joint a b ha e2 h
    have hr := joins_resp (Q := fun m => ∃ i, i < N ∧ p i = m ∧ S i = true) (M := M) (es := es) (lab := List.range M) (List.length_range ..) (fun e hm => ?_) (fun a b ha hb hab => by
      unfold same at hab
      rw [range_at ha, range_at hb] at hab
      rw [hab]) (p i) (p j) (plt i hi) (plt j hj) hs
    · cases h : S i with
      | true =>
        obtain ⟨k, hk, e, hS2⟩ := hr.1 ⟨i, hi, rfl, h⟩
        exact (key k j hk hj e hS2).symm
      | false =>
        cases h' : S j with
        | false => rfl
        | true =>
          obtain ⟨k, hk, e, hS2⟩ := hr.2 ⟨j, hj, rfl, h'⟩
          rw [key k i hk hi e hS2] at h; cases h
    · refine ⟨(he e hm).1, (he e hm).2, ?_⟩
      obtain ⟨i, j, hi, e1, e2, hij⟩ := h3 e hm
      have hjN : j < N := by
        rcases hij with h | h
        · rw [h]; exact hD.llt i hi
        · exact hD.jlt i j hi h
      have st : S i = true ↔ S j = true := by
        rcases hij with h | h
        · constructor
          · intro k; rw [h]; exact hS.line i hi k
          · intro k
            rw [h] at k
            have := hS.line _ (hD.llt i hi) k
            rwa [hD.linv i hi] at this
        · exact ⟨hS.joint i j hi h, hS.joint j i hjN (hD.jinv i j hi h)⟩
      constructor
      · rintro ⟨k, hk, e, hk2⟩
        exact ⟨j, hjN, e2, st.1 (key k i hk hi (e.trans e1.symm) hk2)⟩
      · rintro ⟨k, hk, e, hk2⟩
        exact ⟨i, hi, e1, st.2 (key k j hk hjN (e.trans e2.symm) hk2)⟩
section
variable {N M : Nat} {L : Nat → Nat} {J : Nat → Option Nat} {p : Nat → Nat} {lab : List Nat}
/-- What is passed is all that has the label of the start. -/
theorem Lb.fol (h : Lb N L J M p lab) {s E : Nat} {V : Nat → Bool} (hs : s < N) (hF : Fol N L J s E V) {x : Nat} (hx : x < N) : V x = true ↔ same lab (p s) (p x) := by
  constructor
  · intro hV
    have := hF.sub (fun y => decide (same lab (p s) (p y))) ⟨fun i hi hc => ?_, fun i j hi hj hc => ?_⟩ (by simp [same]) x hx hV
    · exact of_decide_eq_true this
    · exact decide_eq_true ((of_decide_eq_true hc : same lab (p s) (p i)).trans (h.li i hi))
    · exact decide_eq_true ((of_decide_eq_true hc : same lab (p s) (p i)).trans (h.jo i j hi hj))
  · intro hs2
    rw [← h.resp V hF.cl s x hs hx hs2]
    exact hF.st
/-- The sets whose points are in S. -/
def cntS (p : Nat → Nat) (N : Nat) (lab : List Nat) (S : Nat → Bool) : Nat := (List.range lab.length).countP fun r => (at_ lab r == r) && (List.range N).any fun i => (p i == r) && S i
theorem cntS_none (p : Nat → Nat) (N : Nat) (lab : List Nat) : cntS p N lab (fun _ => false) = 0 := by
  unfold cntS
  rw [List.countP_eq_zero]
  intro r _
  simp
theorem Lb.cntS_all (h : Lb N L J M p lab) {S : Nat → Bool} (hS : ∀ i, i < N → S i = true) : cntS p N lab S = cnt lab := by
  unfold cntS cnt
  refine List.countP_congr fun r hr => ?_
  have hr := List.mem_range.1 hr
  obtain ⟨i, hi, e⟩ := h.sur r (by rw [← h.len]; exact hr)
  have : ((List.range N).any fun i => (p i == r) && S i) = true := List.any_eq_true.2 ⟨i, List.mem_range.2 hi, by rw [hS i hi, e]; simp⟩
  rw [this, Bool.and_true]
/-- One more set. -/
theorem Lb.cntS_step (h : Lb N L J M p lab) {S : Nat → Bool} (hS : Cl N L J S) {s E : Nat} {V : Nat → Bool} (hs : s < N) (h0 : S s = false) (hF : Fol N L J s E V) : cntS p N lab (fun i => S i || V i) = cntS p N lab S + 1 := by
  have hlt : at_ lab (p s) < lab.length := h.ok.lt _ (by rw [h.len]; exact h.plt s hs)
  obtain ⟨r, hr, her⟩ := h.sur (at_ lab (p s)) (by rw [← h.len]; exact hlt)
  have hsr : same lab (p s) (p r) := by unfold same; rw [her, h.ok.idem _ (by rw [h.len]; exact h.plt s hs)]
  have hVr := (h.fol hs hF hr).2 hsr
  have hSr : S r = false := by rw [← h.resp S hS s r hs hr hsr]; exact h0
  unfold cntS
  refine countP_but hlt ?_ ?_ ?_
  · rw [Bool.and_eq_true]
    refine ⟨by simpa using h.ok.idem _ (by rw [h.len]; exact h.plt s hs), List.any_eq_true.2 ⟨r, List.mem_range.2 hr, ?_⟩⟩
    show (p r == at_ lab (p s) && (S r || V r)) = true
    rw [her, hVr]; simp
  · refine Bool.eq_false_iff.2 fun hc => ?_
    rw [Bool.and_eq_true, List.any_eq_true] at hc
    obtain ⟨_, i, hi, hc⟩ := hc
    have hi := List.mem_range.1 hi
    rw [Bool.and_eq_true, beq_iff_eq] at hc
    have : S i = S r := h.resp S hS i r hi hr (by unfold same; rw [hc.1, her])
    rw [hc.2, hSr] at this; cases this
  · intro q hq
    by_cases e1 : at_ lab q = q
    · have : ((List.range N).any fun i => (p i == q) && (S i || V i)) = ((List.range N).any fun i => (p i == q) && S i) := by
        rw [Bool.eq_iff_iff, List.any_eq_true, List.any_eq_true]
        constructor
        · rintro ⟨i, hi, e⟩
          refine ⟨i, hi, ?_⟩
          have hi := List.mem_range.1 hi
          rw [Bool.and_eq_true, Bool.or_eq_true, beq_iff_eq] at e
          rcases e with ⟨e2, e3 | e3⟩
          · rw [Bool.and_eq_true, beq_iff_eq]; exact ⟨e2, e3⟩
          · have h5 := (h.fol hs hF hi).1 e3
            unfold same at h5
            rw [e2, e1] at h5
            exact absurd h5.symm hq
        · rintro ⟨i, hi, e⟩
          refine ⟨i, hi, ?_⟩
          rw [Bool.and_eq_true, Bool.or_eq_true] at *
          exact ⟨e.1, .inl e.2⟩
      rw [this]
    · rw [beq_false_of_ne e1]; rfl
end
end Go.Proofs.Ytndgffiihbdppaa.Tl
/- Stacks and closures of planar matchings by following lines and joints. -/
namespace Go.Proofs.Ytndgffiihbdppaa.Tl
set_option linter.unusedVariables false
set_option linter.unusedSimpArgs false

/-- The colors of the points: the two ends of a line of a planar matching differ. -/
def colr (n i : Nat) : Bool := if i < n then i % 2 == 0 else (i - n) % 2 == 1
theorem col_all : (List.range 7).all (fun n => (plan n).all fun d => (List.range (2 * n)).all fun i => colr n (d.getD i 0) == !colr n i) = true := by decide +kernel
theorem plan_col {n : Nat} (h6 : n ≤ 6) {d : List Nat} (hd : d ∈ plan n) {i : Nat} (hi : i < 2 * n) : colr n (d.getD i 0) = !colr n i := by
  have h1 := col_all
  rw [List.all_eq_true] at h1
  have h2 := h1 n (List.mem_range.2 (by omega))
  rw [List.all_eq_true] at h2
  have h3 := h2 d hd
  rw [List.all_eq_true] at h3
  simpa using h3 i (List.mem_range.2 hi)
theorem Base.inv {n : Nat} {f : List Nat} (h : Base n f) {i : Nat} (hi : i < 2 * n) : f.getD i 0 < 2 * n ∧ f.getD (f.getD i 0) 0 = i := by
  have h1 := h.mat.ok.getD hi
  refine ⟨h1, ?_⟩
  have h2 := (h.rel hi h1).2 (.inr rfl)
  have h3 := (h.rel h1 hi).1 h2.symm
  rcases h3 with h3 | h3
  · exact absurd h3.symm (h.mat.ne i hi)
  · exact h3.symm

/-! ### a stack of two -/
def lin2 (n : Nat) (a b : List Nat) (i : Nat) : Nat := if i < 2 * n then a.getD i 0 else 2 * n + b.getD (i - 2 * n) 0
def jnt2 (n i : Nat) : Option Nat := if i < n then none else if i < 2 * n then some (i + n) else if i < 3 * n then some (i - n) else none
def pl2 (n i : Nat) : Nat := if i < 2 * n then i else i - n
/-- The outer points. -/
def st2 (n k : Nat) : Nat := if k < n then k else 2 * n + k
def pt2 (n e : Nat) : Nat := if e < n then e else e - 2 * n
theorem dg2 {n : Nat} {a b : List Nat} (ha : Base n a) (hb : Base n b) : Dg (4 * n) (lin2 n a b) (jnt2 n) := by
  refine ⟨fun i hi => ?_, fun i hi => ?_, fun i j hi hj => ?_, fun i j hi hj => ?_⟩
  · unfold lin2
    by_cases h : i < 2 * n
    · rw [if_pos h]; have := (ha.inv h).1; omega
    · rw [if_neg h]; have := (hb.inv (i := i - 2 * n) (by omega)).1; omega
  · unfold lin2
    by_cases h : i < 2 * n
    · rw [if_pos h, if_pos (ha.inv h).1]; exact (ha.inv h).2
    · obtain ⟨h1, h2⟩ := hb.inv (i := i - 2 * n) (by omega)
      rw [if_neg h, if_neg (by omega), Nat.add_sub_cancel_left, h2]; omega
  · unfold jnt2 at hj
    split at hj
    · cases hj
    · split at hj
      · injection hj with hj; omega
      · split at hj
        · injection hj with hj; omega
        · cases hj
  · unfold jnt2 at hj ⊢
    split at hj
    · cases hj
    · split at hj
      · injection hj with hj
        rw [if_neg (by omega), if_neg (by omega), if_pos (by omega)]
        congr 1; omega
      · split at hj
        · injection hj with hj
          rw [if_neg (by omega), if_pos (by omega)]
          congr 1; omega
        · cases hj
theorem lb2 {n : Nat} {a b : List Nat} (ha : Base n a) (hb : Base n b) : Lb (4 * n) (lin2 n a b) (jnt2 n) (n * 3) (pl2 n) (labS n [a, b]) := by
  have hla := ha.mat.ok.1
  have hlb := hb.mat.ok.1
  have e : labS n [a, b] = joins (List.range (n * 3)) (lay 0 a ++ lay n b) := by simp [labS, edges]
  rw [e]
  have ma : ∀ i, i < 2 * n → (i, a.getD i 0) ∈ lay 0 a ++ lay n b := fun i hi => List.mem_append.2 (.inl (by
    unfold lay
    refine List.mem_map.2 ⟨i, List.mem_range.2 (by omega), ?_⟩
    rw [Nat.zero_add, Nat.zero_add]))
  have mb : ∀ i, i < 2 * n → (n + i, n + b.getD i 0) ∈ lay 0 a ++ lay n b := fun i hi => List.mem_append.2 (.inr (by
    unfold lay
    exact List.mem_map.2 ⟨i, List.mem_range.2 (by omega), rfl⟩))
  have un : ∀ e ∈ lay 0 a ++ lay n b, (∃ i, i < 2 * n ∧ e = (i, a.getD i 0)) ∨ (∃ i, i < 2 * n ∧ e = (n + i, n + b.getD i 0)) := fun e he => by
    rcases List.mem_append.1 he with h | h
    · unfold lay at h
      obtain ⟨i, hi, rfl⟩ := List.mem_map.1 h
      have := List.mem_range.1 hi
      exact .inl ⟨i, by omega, by rw [Nat.zero_add, Nat.zero_add]⟩
    · unfold lay at h
      obtain ⟨i, hi, rfl⟩ := List.mem_map.1 h
      have := List.mem_range.1 hi
      exact .inr ⟨i, by omega, rfl⟩
  refine Lb.of (dg2 ha hb) (fun i hi => by unfold pl2; split <;> omega) (fun m hm => ?_) (fun i j hi hj h => ?_) (fun e he => ?_) (fun i hi => ?_) (fun i j hi hj => ?_) (fun e he => ?_)
  · by_cases h : m < 2 * n
    · exact ⟨m, by omega, by unfold pl2; rw [if_pos h]⟩
    · exact ⟨m + n, by omega, by unfold pl2; rw [if_neg (by omega)]; omega⟩
  · unfold pl2 at h
    unfold jnt2
    split at h <;> split at h
    · exact .inl h
    · right; rw [if_neg (by omega), if_pos (by omega)]; congr 1; omega
    · right; rw [if_neg (by omega), if_neg (by omega), if_pos (by omega), h]
    · left; omega
  · rcases un e he with ⟨i, hi, rfl⟩ | ⟨i, hi, rfl⟩
    · have := (ha.inv hi).1
      exact ⟨by show i < _; omega, by show a.getD i 0 < _; omega⟩
    · have := (hb.inv hi).1
      exact ⟨by show n + i < _; omega, by show n + b.getD i 0 < _; omega⟩
  · unfold lin2 pl2
    by_cases h : i < 2 * n
    · rw [if_pos h, if_pos h, if_pos (ha.inv h).1]
      exact ma i h
    · have h1 := (hb.inv (i := i - 2 * n) (by omega)).1
      rw [if_neg h, if_neg h, if_neg (by omega)]
      have := mb (i - 2 * n) (by omega)
      rw [show i - n = n + (i - 2 * n) by omega, show 2 * n + b.getD (i - 2 * n) 0 - n = n + b.getD (i - 2 * n) 0 by omega]
      exact this
  · left
    unfold jnt2 at hj
    unfold pl2
    split at hj
    · cases hj
    · split at hj
      · injection hj with hj; rw [if_pos (by omega), if_neg (by omega)]; omega
      · split at hj
        · injection hj with hj; rw [if_neg (by omega), if_pos (by omega)]; omega
        · cases hj
  · rcases un e he with ⟨i, hi, rfl⟩ | ⟨i, hi, rfl⟩
    · refine ⟨i, a.getD i 0, by omega, ?_, ?_, .inl ?_⟩
      · unfold pl2; rw [if_pos hi]
      · unfold pl2; rw [if_pos (ha.inv hi).1]
      · unfold lin2; rw [if_pos hi]
    · refine ⟨2 * n + i, 2 * n + b.getD i 0, by omega, ?_, ?_, .inl ?_⟩
      · unfold pl2; rw [if_neg (by omega)]; show _ = n + i; omega
      · unfold pl2; rw [if_neg (by omega)]; show _ = n + b.getD i 0; omega
      · unfold lin2; rw [if_neg (by omega), Nat.add_sub_cancel_left]
theorem st2_lt {n k : Nat} (hk : k < 2 * n) : st2 n k < 4 * n := by unfold st2; split <;> omega
theorem st2_none {n k : Nat} (hk : k < 2 * n) : jnt2 n (st2 n k) = none := by
  unfold st2 jnt2
  by_cases h : k < n
  · rw [if_pos h, if_pos h]
  · rw [if_neg h, if_neg (by omega), if_neg (by omega), if_neg (by omega)]
theorem st2_pl {n k : Nat} (hk : k < 2 * n) : pl2 n (st2 n k) = outer n 2 k := by
  unfold st2 pl2 outer
  by_cases h : k < n
  · rw [if_pos h, if_pos (by omega), if_pos h]
  · rw [if_neg h, if_neg (by omega), if_neg h]; omega
theorem pt2_st {n k : Nat} (hk : k < 2 * n) : pt2 n (st2 n k) = k := by
  unfold st2 pt2
  by_cases h : k < n
  · rw [if_pos h, if_pos h]
  · rw [if_neg h, if_neg (by omega)]; omega
theorem st2_pt {n e : Nat} (he : e < 4 * n) (hn : jnt2 n e = none) : pt2 n e < 2 * n ∧ st2 n (pt2 n e) = e := by
  unfold jnt2 at hn
  unfold pt2 st2
  by_cases h : e < n
  · rw [if_pos h]; exact ⟨by omega, by rw [if_pos h]⟩
  · rw [if_neg h] at hn
    rw [if_neg h]
    split at hn
    · cases hn
    · split at hn
      · cases hn
      · exact ⟨by omega, by rw [if_neg (by omega)]; omega⟩
theorem col2 {n : Nat} (h6 : n ≤ 6) {a b : List Nat} (ha : a ∈ plan n) (hb : b ∈ plan n) : (∀ i, i < 4 * n → (fun i => if i < 2 * n then colr n i else colr n (i - 2 * n)) (lin2 n a b i) = !(fun i => if i < 2 * n then colr n i else colr n (i - 2 * n)) i) ∧ (∀ i j, i < 4 * n → jnt2 n i = some j → (fun i => if i < 2 * n then colr n i else colr n (i - 2 * n)) j = !(fun i => if i < 2 * n then colr n i else colr n (i - 2 * n)) i) := by
  have Ba := plan_base h6 ha
  have Bb := plan_base h6 hb
  constructor
  · intro i hi
    show (if lin2 n a b i < 2 * n then _ else _) = !(if i < 2 * n then _ else _)
    by_cases h : i < 2 * n
    · have e : lin2 n a b i = a.getD i 0 := by unfold lin2; rw [if_pos h]
      rw [e, if_pos (Ba.inv h).1, if_pos h]
      exact plan_col h6 ha h
    · have e : lin2 n a b i = 2 * n + b.getD (i - 2 * n) 0 := by unfold lin2; rw [if_neg h]
      rw [e, if_neg (by omega), if_neg h, Nat.add_sub_cancel_left]
      exact plan_col h6 hb (by omega)
  · intro i j hi hj
    show (if j < 2 * n then _ else _) = !(if i < 2 * n then _ else _)
    unfold jnt2 at hj
    split at hj
    · cases hj
    · split at hj
      · injection hj with hj
        rw [if_neg (by omega), if_pos (by omega), show j - 2 * n = i - n by omega]
        unfold colr
        rw [if_pos (by omega), if_neg (by omega)]
        rcases Nat.mod_two_eq_zero_or_one (i - n) with h | h <;> rw [h] <;> rfl
      · split at hj
        · injection hj with hj
          rw [if_pos (by omega), if_neg (by omega), show i - 2 * n = j - n by omega]
          unfold colr
          rw [if_neg (by omega), if_pos (by omega)]
          rcases Nat.mod_two_eq_zero_or_one (j - n) with h | h <;> rw [h] <;> rfl
        · cases hj
theorem countP_pair {N x y : Nat} (hx : x < N) (hy : y < N) (hne : x ≠ y) : (List.range N).countP (fun i => decide (i = x ∨ i = y)) = 2 := by
  rw [countP_but (q := fun i => decide (i = y)) hx (by simp) (by simpa using hne) (fun i hi => by simp [hi]), countP_but (q := fun i => false) hy (by simp) rfl (fun i hi => by simpa using hi)]
  rw [List.countP_eq_zero.2 (by simp)]
section
variable {n : Nat} {a b : List Nat} {E : Nat → Nat} {V : Nat → Nat → Bool}
/-- The ends of the paths from the outer points are the product's lines. -/
theorem fol_mat (h6 : n ≤ 6) (ha : a ∈ plan n) (hb : b ∈ plan n) (hF : ∀ k, k < 2 * n → Fol (4 * n) (lin2 n a b) (jnt2 n) (st2 n k) (E k) (V k)) : Mat n 2 ((List.range (2 * n)).map fun k => pt2 n (E k)) (labS n [a, b]) := by
  have hL := lb2 (plan_base h6 ha) (plan_base h6 hb)
  have hg : ∀ i, i < 2 * n → ((List.range (2 * n)).map fun k => pt2 n (E k)).getD i 0 = pt2 n (E i) := fun i hi => by simp [List.getD, hi]
  have hE : ∀ i, i < 2 * n → pt2 n (E i) < 2 * n ∧ st2 n (pt2 n (E i)) = E i := fun i hi => st2_pt (hF i hi).elt ((hF i hi).ends (st2_none hi)).1
  obtain ⟨c1, c2⟩ := col2 h6 ha hb
  refine ⟨⟨by simp, fun x hx => ?_⟩, fun i hi => ?_, fun i k hi hk => ?_⟩
  · obtain ⟨k, hk, rfl⟩ := List.mem_map.1 hx
    exact (hE k (List.mem_range.1 hk)).1
  · rw [hg i hi]
    intro e
    have h1 := (hE i hi).2
    rw [e] at h1
    exact (hF i hi).col _ c1 c2 (st2_none hi) h1.symm
  · rw [hg i hi, ← st2_pl hi, ← st2_pl hk, ← hL.fol (st2_lt hi) (hF i hi) (st2_lt hk)]
    constructor
    · intro hv
      rcases ((hF i hi).ends (st2_none hi)).2 _ (st2_lt hk) hv (st2_none hk) with h | h
      · left
        have := congrArg (pt2 n) h
        rwa [pt2_st hk, pt2_st hi] at this
      · right
        rw [← h, pt2_st hk]
    · rintro (h | h)
      · rw [h]; exact (hF i hi).st
      · rw [h, (hE i hi).2]; exact (hF i hi).en
theorem fol_mul (h6 : n ≤ 6) (ha : a ∈ plan n) (hb : b ∈ plan n) (hF : ∀ k, k < 2 * n → Fol (4 * n) (lin2 n a b) (jnt2 n) (st2 n k) (E k) (V k)) : (mul n a b).1 = (List.range (2 * n)).map fun k => pt2 n (E k) := (fol_mat h6 ha hb hF).out
/-- The outer points lie in n sets. -/
theorem fol_cnt (h6 : n ≤ 6) (ha : a ∈ plan n) (hb : b ∈ plan n) (hF : ∀ k, k < 2 * n → Fol (4 * n) (lin2 n a b) (jnt2 n) (st2 n k) (E k) (V k)) {S : Nat → Bool} (hS : Cl (4 * n) (lin2 n a b) (jnt2 n) S) (h1 : ∀ k, k < 2 * n → S (st2 n k) = true) (h2 : ∀ T : Nat → Bool, Cl (4 * n) (lin2 n a b) (jnt2 n) T → (∀ k, k < 2 * n → T (st2 n k) = true) → ∀ x, x < 4 * n → S x = true → T x = true) :
    cntS (pl2 n) (4 * n) (labS n [a, b]) S = n := by
  have hL := lb2 (plan_base h6 ha) (plan_base h6 hb)
  have hM := fol_mat h6 ha hb hF
  generalize ((List.range (2 * n)).map fun k => pt2 n (E k)) = f at hM
  generalize labS n [a, b] = lab at *
  have lt : ∀ i ∈ List.range (2 * n), at_ lab (outer n 2 i) < lab.length := fun i hi => hL.ok.lt _ (by rw [hL.len, ← st2_pl (List.mem_range.1 hi)]; exact hL.plt _ (st2_lt (List.mem_range.1 hi)))
  have hs := sum_hit (fun i => at_ lab (outer n 2 i)) lab.length (List.range (2 * n)) lt
  rw [List.length_range] at hs
  have h3 : ∀ r, r < lab.length → ((List.range (2 * n)).countP fun i => at_ lab (outer n 2 i) == r) = if ((at_ lab r == r) && (List.range (4 * n)).any fun i => (pl2 n i == r) && S i) = true then 2 else 0 := by
    intro r hr
    have ex : ∀ k, k < 2 * n → at_ lab (outer n 2 k) = r → ((at_ lab r == r) && (List.range (4 * n)).any fun i => (pl2 n i == r) && S i) = true := fun k hk hkr => by
      have hrt : at_ lab r = r := by
        have := hL.ok.idem (outer n 2 k) (by rw [hL.len, ← st2_pl hk]; exact hL.plt _ (st2_lt hk))
        rwa [hkr] at this
      obtain ⟨i, hi, hir⟩ := hL.sur r (by rw [← hL.len]; exact hr)
      have hsi : S i = true := by
        rw [← hL.resp S hS (st2 n k) i (st2_lt hk) hi (by unfold same; rw [st2_pl hk, hkr, hir, hrt])]
        exact h1 k hk
      rw [Bool.and_eq_true, List.any_eq_true]
      exact ⟨by simpa using hrt, i, List.mem_range.2 hi, by simp [hir, hsi]⟩
    by_cases hc : ((at_ lab r == r) && (List.range (4 * n)).any fun i => (pl2 n i == r) && S i) = true
    · rw [if_pos hc]
      rw [Bool.and_eq_true, List.any_eq_true, beq_iff_eq] at hc
      obtain ⟨hrt, i, hi, hir⟩ := hc
      rw [Bool.and_eq_true, beq_iff_eq] at hir
      have hi := List.mem_range.1 hi
      have hT := h2 (fun x => (List.range (2 * n)).any fun k => decide (same lab (outer n 2 k) (pl2 n x))) ⟨fun x hx ht => ?_, fun x y hx hxy ht => ?_⟩ (fun k hk => ?_) i hi hir.2
      · obtain ⟨k, hk, hk2⟩ := List.any_eq_true.1 hT
        have hk := List.mem_range.1 hk
        have hk2 : at_ lab (outer n 2 k) = r := by
          have := of_decide_eq_true hk2
          unfold same at this
          rwa [hir.1, hrt] at this
        have hcc : (List.range (2 * n)).countP (fun i => at_ lab (outer n 2 i) == r) = (List.range (2 * n)).countP fun i => decide (i = k ∨ i = f.getD k 0) := by
          refine List.countP_congr fun j hj => ?_
          have := hM.rel k j hk (List.mem_range.1 hj)
          simp only [beq_iff_eq, decide_eq_true_eq]
          rw [← this]
          unfold same
          rw [hk2]
          exact ⟨fun z => z.symm, fun z => z.symm⟩
        rw [hcc]
        exact countP_pair hk (hM.ok.getD hk) (fun e => hM.ne k hk e.symm)
      · obtain ⟨k, hk, hk2⟩ := List.any_eq_true.1 ht
        exact List.any_eq_true.2 ⟨k, hk, decide_eq_true ((of_decide_eq_true hk2 : same lab (outer n 2 k) (pl2 n x)).trans (hL.li x hx))⟩
      · obtain ⟨k, hk, hk2⟩ := List.any_eq_true.1 ht
        exact List.any_eq_true.2 ⟨k, hk, decide_eq_true ((of_decide_eq_true hk2 : same lab (outer n 2 k) (pl2 n x)).trans (hL.jo x y hx hxy))⟩
      · exact List.any_eq_true.2 ⟨k, List.mem_range.2 hk, decide_eq_true (by rw [st2_pl hk])⟩
    · rw [if_neg hc, List.countP_eq_zero]
      intro i hi hir
      exact hc (ex i (List.mem_range.1 hi) (by simpa using hir))
  have h4 : ∀ K, K ≤ lab.length → ((List.range K).map fun r => (List.range (2 * n)).countP fun i => at_ lab (outer n 2 i) == r).sum = 2 * (List.range K).countP fun r => (at_ lab r == r) && (List.range (4 * n)).any fun i => (pl2 n i == r) && S i := by
    intro K
    induction K with
    | zero => intro _; simp
    | succ K ih =>
      intro hK
      rw [List.range_succ, List.map_append, List.sum_append, List.countP_append, ih (by omega)]
      simp only [List.map_cons, List.map_nil, List.sum_cons, List.sum_nil, List.countP_singleton]
      rw [h3 K (by omega)]
      split <;> omega
  have h5 := h4 lab.length (Nat.le_refl _)
  rw [hs] at h5
  unfold cntS
  omega
end

/-! ### a closure -/
def jntC (n i : Nat) : Option Nat := some (if i < n then n + i else i - n)
theorem dgC {n : Nat} {d : List Nat} (h : Base n d) : Dg (2 * n) (fun i => d.getD i 0) (jntC n) := by
  refine ⟨fun i hi => (h.inv hi).1, fun i hi => (h.inv hi).2, fun i j hi hj => ?_, fun i j hi hj => ?_⟩
  · unfold jntC at hj; injection hj with hj; split at hj <;> omega
  · unfold jntC at hj ⊢
    injection hj with hj
    congr 1
    split at hj
    · rw [if_neg (by omega)]; omega
    · rw [if_pos (by omega)]; omega
theorem lbC {n : Nat} {d : List Nat} (h : Base n d) : Lb (2 * n) (fun i => d.getD i 0) (jntC n) (2 * n) id (joins (List.range (2 * n)) (cirE n d)) := by
  have hm : ∀ i, i < 2 * n → (i + n) % (2 * n) = if i < n then n + i else i - n := fun i hi => by
    split
    · rw [Nat.mod_eq_of_lt (by omega)]; omega
    · rw [show i + n = i - n + 2 * n by omega, Nat.add_mod_right, Nat.mod_eq_of_lt (by omega)]
  have un : ∀ e ∈ cirE n d, ∃ i, i < 2 * n ∧ (e = (i, d.getD i 0) ∨ e = (i, (i + n) % (2 * n))) := fun e he => by
    unfold cirE at he
    obtain ⟨i, hi, h2⟩ := List.mem_flatMap.1 he
    refine ⟨i, List.mem_range.1 hi, ?_⟩
    simpa using h2
  refine Lb.of (dgC h) (fun i hi => hi) (fun m hm => ⟨m, hm, rfl⟩) (fun i j _ _ e => .inl e) (fun e he => ?_) (fun i hi => ?_) (fun i j hi hj => .inr ?_) (fun e he => ?_)
  · obtain ⟨i, hi, rfl | rfl⟩ := un e he
    · exact ⟨hi, (h.inv hi).1⟩
    · exact ⟨hi, Nat.mod_lt _ (by omega)⟩
  · unfold cirE
    exact List.mem_flatMap.2 ⟨i, List.mem_range.2 hi, by simp⟩
  · unfold cirE jntC at *
    injection hj with hj
    refine List.mem_flatMap.2 ⟨i, List.mem_range.2 hi, ?_⟩
    rw [← hj, ← hm i hi]
    simp
  · obtain ⟨i, hi, rfl | rfl⟩ := un e he
    · exact ⟨i, d.getD i 0, hi, rfl, rfl, .inl rfl⟩
    · exact ⟨i, (i + n) % (2 * n), hi, rfl, rfl, .inr (by unfold jntC; rw [← hm i hi])⟩
end Go.Proofs.Ytndgffiihbdppaa.Tl
/- A slice of integers that came in as an argument. -/
namespace Go.Proofs.Ytndgffiihbdppaa
set_option linter.unusedVariables false
set_option linter.unusedSimpArgs false
open Go.RowKit

theorem IL.of_row {W : World} {a : Addr} {len cap : Nat} {zs : List Int} (hl : len ≤ cap) (hz : zs.length = cap) (hr : cap * 8 ≤ 140737488351232) (hcell : ∀ i, i < zs.length → W.cell? (a.add i) = some (.int .i64 (zs.getD i 0))) : IL W (some a) len (zs.take len) := by
  refine ⟨by rw [List.length_take]; omega, by omega, fun h0 => ⟨a, rfl, ?_, fun j hj => ?_⟩⟩
  · have := World.block_lt_of_cell? W _ (hcell 0 (by omega))
    rwa [block_of_add] at this
  · rw [hcell j (by omega)]
    simp [List.getD, List.getElem?_take, hj]
end Go.Proofs.Ytndgffiihbdppaa
