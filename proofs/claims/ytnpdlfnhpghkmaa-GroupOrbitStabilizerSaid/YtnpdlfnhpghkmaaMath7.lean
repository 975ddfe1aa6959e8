/- Plain mathematics: the sign by cycles is the sign by inversions. -/
import Derived.Test.YtnpdlfnhpghkmaaMath6
namespace Go.Proofs.Ytnpdlfnhpghkmaa
set_option linter.unusedVariables false
set_option linter.unusedSimpArgs false

/-- 1, or -1 for an odd number of lengths that are even. -/
def sgnL (xss : List (List Nat)) : Int := xss.foldl (fun s c => if c.length % 2 = 0 then -s else s) 1
theorem foldl_sgn : ∀ (xss : List (List Nat)) (s : Int), (∀ c ∈ xss, 1 ≤ c.length) → xss.foldl (fun s c => if c.length % 2 = 0 then -s else s) s = s * sg ((xss.map fun c => c.length - 1).sum)
  | [], s, _ => by simp [sg]
  | c :: r, s, h => by
    have hc := h c (by simp)
    rw [List.foldl_cons, foldl_sgn r _ (fun d hd => h d (by simp [hd])), List.map_cons, List.sum_cons, sg_add]
    by_cases he : c.length % 2 = 0
    · have : sg (c.length - 1) = -1 := by unfold sg; rw [if_neg (by omega)]
      rw [if_pos he, this]
      simp [Int.neg_mul, Int.mul_neg]
    · have : sg (c.length - 1) = 1 := by unfold sg; rw [if_pos (by omega)]
      rw [if_neg he, this, Int.one_mul]

theorem cyc_nodup {a : List Nat} (h : isP a) {s : Nat} (hs : s < a.length) : (cyc a s).Nodup := by
  obtain ⟨h1, _, h3, h4⟩ := per_spec h hs
  unfold cyc
  rw [List.nodup_iff_pairwise_ne, List.pairwise_map]
  refine List.Pairwise.imp_of_mem ?_ (List.pairwise_lt_range (n := perOf a s))
  intro i j hi hj hij e
  simp at hi hj
  refine h4 (j - i) (by omega) (by omega) (it_back h hs (t := i) ?_)
  rw [show i + (j - i) = j from by omega]
  exact e.symm
theorem min_unique {a : List Nat} (h : isP a) {i j x : Nat} (hi : i < a.length) (hj : j < a.length) (mi : isMin a i = true) (mj : isMin a j = true) (hx : x ∈ cyc a i) (hy : x ∈ cyc a j) : i = j := by
  unfold isMin at mi mj
  rw [decide_eq_true_iff] at mi mj
  have h1 : j ∈ cyc a i := cyc_trans h hi hx (cyc_symm h hj hy)
  have h2 : i ∈ cyc a j := cyc_trans h hj hy (cyc_symm h hi hx)
  have := mi j h1
  have := mj i h2
  omega
theorem nodup_filter (p : Nat → Bool) {l : List Nat} (h : l.Nodup) : (l.filter p).Nodup :=
  List.nodup_iff_pairwise_ne.2 (List.Pairwise.filter _ (List.nodup_iff_pairwise_ne.1 h))
theorem length_filter_not (p : Nat → Bool) : ∀ (l : List Nat), l.length = (l.filter p).length + (l.filter fun x => !p x).length
  | [] => rfl
  | x :: r => by
    have ih := length_filter_not p r
    cases hp : p x
    · rw [List.filter_cons_of_neg (by simp [hp]), List.filter_cons_of_pos (by simp [hp])]
      simp only [List.length_cons]
      omega
    · rw [List.filter_cons_of_pos hp, List.filter_cons_of_neg (by simp [hp])]
      simp only [List.length_cons]
      omega
/-- The cycles are a partition. -/
theorem cyc_partition {a : List Nat} (h : isP a) (q : Nat → Bool) (hq : ∀ s, s < a.length → ∀ x ∈ cyc a s, q x = q s) :
    (((List.range a.length).filter fun i => isMin a i && q i).flatMap (cyc a)).Perm ((List.range a.length).filter q) := by
  refine (List.perm_ext_iff_of_nodup ?_ (nodup_filter _ List.nodup_range)).2 fun x => ?_
  · rw [List.nodup_iff_pairwise_ne, List.pairwise_flatMap]
    constructor
    · intro i hi
      have hi' := List.mem_range.1 (List.mem_filter.1 hi).1
      exact (List.nodup_iff_pairwise_ne.1 (cyc_nodup h hi'))
    · refine List.Pairwise.imp_of_mem ?_ (List.nodup_iff_pairwise_ne.1 (nodup_filter (fun i => isMin a i && q i) (List.nodup_range (n := a.length))))
      intro i j hi hj hij x hx y hy e
      subst e
      have hi' := List.mem_filter.1 hi
      have hj' := List.mem_filter.1 hj
      simp at hi' hj'
      exact hij (min_unique h hi'.1 hj'.1 hi'.2.1 hj'.2.1 hx hy)
  · rw [List.mem_flatMap]
    simp only [List.mem_filter, List.mem_range, Bool.and_eq_true]
    constructor
    · rintro ⟨i, ⟨hi, _, hqi⟩, hx⟩
      exact ⟨cyc_lt h hi hx, by rw [hq i hi x hx]; exact hqi⟩
    · rintro ⟨hx, hqx⟩
      obtain ⟨m, hm, hmem, hmin⟩ := min_ex h hx
      refine ⟨m, ⟨hm, hmin, by rw [hq x hx m hmem]; exact hqx⟩, cyc_symm h hx hmem⟩

theorem sum_filter {f : Nat → Nat} {p q : Nat → Bool} : ∀ (l : List Nat), (∀ x ∈ l, p x = true → q x = false → f x = 0) → ((l.filter fun x => p x && q x).map f).sum = ((l.filter p).map f).sum
  | [], _ => rfl
  | x :: r, h => by
    have ih := sum_filter r (fun y hy => h y (by simp [hy]))
    by_cases hp : p x = true
    · by_cases hq : q x = true
      · rw [List.filter_cons_of_pos (by simp [hp, hq]), List.filter_cons_of_pos hp, List.map_cons, List.map_cons, List.sum_cons, List.sum_cons, ih]
      · rw [List.filter_cons_of_neg (by simp [hq]), List.filter_cons_of_pos hp, List.map_cons, List.sum_cons, ih, h x (by simp) hp (by simpa using hq), Nat.zero_add]
    · rw [List.filter_cons_of_neg (by simp [hp]), List.filter_cons_of_neg hp, ih]
theorem sum_pred {f : Nat → Nat} : ∀ (l : List Nat), (∀ x ∈ l, 1 ≤ f x) → (l.map fun x => f x - 1).sum + l.length = (l.map f).sum
  | [], _ => rfl
  | x :: r, h => by
    have ih := sum_pred r (fun y hy => h y (by simp [hy]))
    have := h x (by simp)
    simp only [List.map_cons, List.sum_cons, List.length_cons]
    omega
/-- How many elements are not the smallest of their cycles. -/
def nonMin (a : List Nat) : Nat := ((List.range a.length).filter fun i => !isMin a i).length
theorem sgn_nonMin {a : List Nat} (h : isP a) : sgnL (cycs a) = sg (nonMin a) := by
  unfold sgnL
  rw [foldl_sgn _ _ (fun c hc => by
    obtain ⟨i, hi, rfl⟩ := List.mem_map.1 hc
    rw [cyc_length]
    exact (per_spec h (List.mem_range.1 (List.mem_filter.1 hi).1)).1), Int.one_mul]
  congr 1
  unfold cycs cycsTo
  rw [List.map_map]
  have e1 : ((fun c : List Nat => c.length - 1) ∘ cyc a) = fun i => perOf a i - 1 := by
    funext i
    simp [cyc_length]
  rw [e1, sum_filter (p := isMin a) (q := fun i => decide (1 < perOf a i)) (f := fun i => perOf a i - 1) _ (fun x _ _ hq => by simp at hq; omega)]
  have h2 := sum_pred (f := perOf a) ((List.range a.length).filter (isMin a)) (fun x hx => (per_spec h (List.mem_range.1 (List.mem_filter.1 hx).1)).1)
  have h3 := (cyc_partition h (fun _ => true) (fun _ _ _ _ => rfl)).length_eq
  have e2 : ((List.range a.length).filter fun i => isMin a i && true) = (List.range a.length).filter (isMin a) := by
    congr 1
    funext i
    simp
  rw [e2, List.length_flatMap] at h3
  have e3 : ((List.range a.length).filter (isMin a)).map (fun i => (cyc a i).length) = ((List.range a.length).filter (isMin a)).map (perOf a) := by
    congr 1
    funext i
    exact cyc_length a i
  rw [e3] at h3
  have e4 : ((List.range a.length).filter fun _ => true) = List.range a.length := List.filter_eq_self.2 (fun _ _ => rfl)
  rw [e4, List.length_range] at h3
  have h5 : ((List.range a.length).filter (isMin a)).length + ((List.range a.length).filter fun i => !isMin a i).length = a.length := by
    have := length_filter_not (isMin a) (List.range a.length)
    rw [List.length_range] at this
    omega
  unfold nonMin
  omega

/-! One point less. -/
def red (a : List Nat) (n : Nat) : List Nat := (a.take n).map fun x => if x = n then a.getD n 0 else x
section
variable {a : List Nat} {n : Nat}
theorem red_length (hl : a.length = n + 1) : (red a n).length = n := by simp [red]; omega
theorem red_getD (hl : a.length = n + 1) {s : Nat} (hs : s < n) : (red a n).getD s 0 = if a.getD s 0 = n then a.getD n 0 else a.getD s 0 := by
  unfold red
  rw [getD_map_nat (by simp; omega)]
  have : (a.take n).getD s 0 = a.getD s 0 := by
    simp [List.getD, List.getElem?_take, hs]
  rw [this]
theorem red_isP (h : isP a) (hl : a.length = n + 1) : isP (red a n) := by
  have hlt : ∀ s, s < n → a.getD s 0 < n + 1 := fun s hs => by have := h.lt (j := s) (by omega); omega
  have hv := h.lt (j := n) (by omega)
  refine isP_of ?_ ?_
  · intro s hs
    rw [red_length hl] at hs ⊢
    rw [red_getD hl hs]
    by_cases e : a.getD s 0 = n
    · rw [if_pos e]
      have : a.getD n 0 ≠ n := fun e2 => by
        have := h.inj (i := s) (j := n) (by omega) (by omega) (by rw [e, e2])
        omega
      omega
    · rw [if_neg e]
      have := hlt s hs
      omega
  · intro i j hi hj he
    rw [red_length hl] at hi hj
    rw [red_getD hl hi, red_getD hl hj] at he
    by_cases ei : a.getD i 0 = n <;> by_cases ej : a.getD j 0 = n
    · exact h.inj (by omega) (by omega) (by rw [ei, ej])
    · rw [if_pos ei, if_neg ej] at he
      have := h.inj (i := n) (j := j) (by omega) (by omega) he
      omega
    · rw [if_neg ei, if_pos ej] at he
      have := h.inj (i := i) (j := n) (by omega) (by omega) he
      omega
    · rw [if_neg ei, if_neg ej] at he
      exact h.inj (by omega) (by omega) he
theorem cyc_next (h : isP a) {s y : Nat} (hs : s < a.length) (hy : y ∈ cyc a s) : a.getD y 0 ∈ cyc a s := by
  obtain ⟨t, rfl⟩ := (mem_cyc h hs).1 hy
  exact (mem_cyc h hs).2 ⟨t + 1, rfl⟩
theorem red_cyc (h : isP a) (hl : a.length = n + 1) {s x : Nat} (hs : s < n) (hx : x < n) : x ∈ cyc (red a n) s ↔ x ∈ cyc a s := by
  have hb := red_isP h hl
  have hbl := red_length hl
  constructor
  · intro hm
    obtain ⟨t, rfl⟩ := (mem_cyc hb (by omega)).1 hm
    clear hm hx
    induction t with
    | zero => exact cyc_self h (by omega)
    | succ t ih =>
      have hy := it_lt hb (s := s) (by omega) t
      rw [hbl] at hy
      have h1 := cyc_next h (by omega) ih
      rw [it, red_getD hl hy]
      split
      · rename_i e
        rw [e] at h1
        exact cyc_next h (by omega) h1
      · exact h1
  · intro hm
    obtain ⟨t, rfl⟩ := (mem_cyc h (by omega)).1 hm
    have key : ∀ t, (it a t s ≠ n → it a t s ∈ cyc (red a n) s) ∧ (it a t s = n → a.getD n 0 ≠ n ∧ a.getD n 0 ∈ cyc (red a n) s) := by
      intro t
      induction t with
      | zero => exact ⟨fun _ => cyc_self hb (by omega), fun e => by have : s = n := e; omega⟩
      | succ t ih =>
        by_cases e : it a t s = n
        · obtain ⟨h1, h2⟩ := ih.2 e
          have e2 : it a (t + 1) s = a.getD n 0 := by rw [it, e]
          rw [e2]
          exact ⟨fun _ => h2, fun e3 => absurd e3 h1⟩
        · have h1 := ih.1 e
          have hlt : it a t s < n := by have := it_lt h (s := s) (by omega) t; omega
          have h2 := cyc_next hb (by omega) h1
          rw [red_getD hl hlt] at h2
          have e2 : it a (t + 1) s = a.getD (it a t s) 0 := rfl
          rw [e2]
          constructor
          · intro e3
            rw [if_neg e3] at h2
            exact h2
          · intro e3
            rw [if_pos e3] at h2
            refine ⟨fun e4 => ?_, h2⟩
            have := h.inj (i := it a t s) (j := n) (by omega) (by omega) (by rw [e3, e4])
            exact e this
    exact (key t).1 (by omega)
theorem red_min (h : isP a) (hl : a.length = n + 1) {s : Nat} (hs : s < n) : isMin (red a n) s = isMin a s := by
  have hb := red_isP h hl
  have hbl := red_length hl
  unfold isMin
  rw [decide_eq_decide]
  constructor
  · intro hall x hx
    by_cases e : x < n
    · exact hall x ((red_cyc h hl hs e).2 hx)
    · omega
  · intro hall x hx
    have hxl := cyc_lt hb (s := s) (by omega) hx
    rw [hbl] at hxl
    exact hall x ((red_cyc h hl hs hxl).1 hx)
theorem last_min (h : isP a) (hl : a.length = n + 1) : isMin a n = decide (a.getD n 0 = n) := by
  unfold isMin
  rw [decide_eq_decide]
  constructor
  · intro hall
    have h1 := hall _ (cyc_next h (by omega) (cyc_self h (s := n) (by omega)))
    have h2 := h.lt (j := n) (by omega)
    omega
  · intro e x hx
    obtain ⟨t, rfl⟩ := (mem_cyc h (by omega)).1 hx
    have : ∀ t, it a t n = n := by
      intro t
      induction t with
      | zero => rfl
      | succ t ih => rw [it, ih, e]
    rw [this t]
    exact Nat.le_refl n
theorem red_nonMin (h : isP a) (hl : a.length = n + 1) : nonMin a = nonMin (red a n) + if a.getD n 0 = n then 0 else 1 := by
  unfold nonMin
  rw [hl, red_length hl, List.range_succ, List.filter_append, List.length_append]
  have e1 : ((List.range n).filter fun i => !isMin a i) = (List.range n).filter fun i => !isMin (red a n) i := by
    apply List.filter_congr
    intro s hs
    rw [red_min h hl (List.mem_range.1 hs)]
  rw [e1]
  congr 1
  have := last_min h hl
  by_cases e : a.getD n 0 = n
  · rw [if_pos e]
    rw [decide_eq_true e] at this
    simp [this]
  · rw [if_neg e]
    rw [decide_eq_false e] at this
    simp [this]

theorem invL_append : ∀ (l r : List Nat), invL (l ++ r) = invL l + invL r + (l.map (cntN r)).sum
  | [], r => by simp [invL]
  | x :: l, r => by
    rw [List.cons_append, invL, invL_append l r, cntN_append, invL, List.map_cons, List.sum_cons]
    omega
theorem cnt_split {l : List Nat} {v : Nat} : (∀ x ∈ l, x ≠ v) → l.length = cntN l v + cntG l v := by
  induction l with
  | nil => intro _; rfl
  | cons x r ih =>
    intro h
    have ih' := ih (fun y hy => h y (by simp [hy]))
    have hx := h x (by simp)
    have e : cntG (x :: r) v = cntG r v + if v < x then 1 else 0 := by
      unfold cntG
      rw [List.countP_cons]
      simp
    rw [List.length_cons, cntN_cons, e]
    rcases Nat.lt_or_gt_of_ne hx with h1 | h1
    · rw [if_pos h1, if_neg (by omega)]; omega
    · rw [if_neg (by omega), if_pos h1]; omega
theorem cnt_all {l : List Nat} {v : Nat} : (∀ x ∈ l, x < v) → cntN l v = l.length ∧ cntG l v = 0 := by
  induction l with
  | nil => intro _; exact ⟨rfl, rfl⟩
  | cons x r ih =>
    intro h
    obtain ⟨h1, h2⟩ := ih (fun y hy => h y (by simp [hy]))
    have hx := h x (by simp)
    have e : cntG (x :: r) v = cntG r v + if v < x then 1 else 0 := by
      unfold cntG
      rw [List.countP_cons]
      simp
    rw [cntN_cons, e, h1, h2, if_pos hx, if_neg (by omega)]
    exact ⟨rfl, rfl⟩
theorem red_inv (h : isP a) (hl : a.length = n + 1) : sg (invL a) = (if a.getD n 0 = n then 1 else -1) * sg (invL (red a n)) := by
  have hsplit : a = a.take n ++ [a.getD n 0] := by
    have := List.take_append_drop n a
    rw [List.drop_eq_getElem_cons (show n < a.length by omega), List.drop_eq_nil_of_le (by omega), ← getD_eq (by omega)] at this
    exact this.symm
  have hnd : (a.take n ++ [a.getD n 0]).Nodup := by rw [← hsplit]; exact h.2
  rw [List.nodup_append] at hnd
  have hlt : ∀ x ∈ a.take n, x < n + 1 := fun x hx => by have := h.1 x (List.mem_of_mem_take hx); omega
  have hne : ∀ x ∈ a.take n, x ≠ a.getD n 0 := fun x hx => hnd.2.2 x hx _ (by simp)
  generalize hT : a.take n = T at *
  generalize hv : a.getD n 0 = v at *
  have hvlt : v < n + 1 := by have := h.lt (j := n) (by omega); rw [hv] at this; omega
  have hred : red a n = T.map fun x => if x = n then v else x := by unfold red; rw [hT, hv]
  rw [hred, hsplit]
  by_cases e : v = n
  · subst e
    have hid : (T.map fun x => if x = v then v else x) = T := by
      conv => rhs; rw [← List.map_id T]
      apply List.map_congr_left
      intro x hx
      rw [if_neg (hne x hx)]
      rfl
    rw [if_pos rfl, hid, Int.one_mul, invL_snoc, (cnt_all (fun x hx => by have := hlt x hx; have := hne x hx; omega)).2, Nat.add_zero]
  · have hn : n ∈ a := h.mem (by omega)
    rw [hsplit, List.mem_append] at hn
    have hnT : n ∈ T := by
      rcases hn with h1 | h1
      · exact h1
      · simp at h1; exact absurd h1.symm e
    obtain ⟨l1, l2, rfl⟩ := List.append_of_mem hnT
    have hnd1 := hnd.1
    rw [List.nodup_append] at hnd1
    have hl1 : ∀ x ∈ l1, x ≠ n := fun x hx => hnd1.2.2 x hx n (by simp)
    have hl2 : ∀ x ∈ l2, x ≠ n := fun x hx e2 => by
      have := (List.nodup_cons.1 hnd1.2.1).1
      rw [e2] at hx
      exact this hx
    have hm1 : (l1.map fun x => if x = n then v else x) = l1 := by
      conv => rhs; rw [← List.map_id l1]
      apply List.map_congr_left
      intro x hx
      rw [if_neg (hl1 x hx)]; rfl
    have hm2 : (l2.map fun x => if x = n then v else x) = l2 := by
      conv => rhs; rw [← List.map_id l2]
      apply List.map_congr_left
      intro x hx
      rw [if_neg (hl2 x hx)]; rfl
    rw [if_neg e, List.map_append, List.map_cons, hm1, hm2, if_pos rfl, List.append_assoc, List.cons_append, invL_append, invL_append l1 (v :: l2), invL, invL, invL_snoc, cntN_append]
    have hc2 : cntN l2 n = l2.length := (cnt_all (fun x hx => by have := hlt x (by simp [hx]); have := hl2 x hx; omega)).1
    have hcv : cntN [v] n = 1 := by rw [cntN_cons, if_pos (by omega)]; rfl
    have hsp := cnt_split (l := l2) (v := v) (fun x hx => hne x (by simp [hx]))
    have hcross : l1.map (cntN (n :: (l2 ++ [v]))) = l1.map (cntN (v :: l2)) := by
      apply List.map_congr_left
      intro x hx
      have hxn : x < n := by have := hlt x (by simp [hx]); have := hl1 x hx; omega
      have e1 : cntN [v] x = if v < x then 1 else 0 := by rw [cntN_cons]; simp [cntN]
      rw [cntN_cons, cntN_append, e1, cntN_cons, if_neg (show ¬ n < x by omega)]
      omega
    rw [hcross, hc2, hcv]
    have e5 : invL l1 + (l2.length + 1 + (invL l2 + cntG l2 v)) + (l1.map (cntN (v :: l2))).sum = (invL l1 + (cntN l2 v + invL l2) + (l1.map (cntN (v :: l2))).sum) + (cntG l2 v + cntG l2 v) + 1 := by omega
    rw [e5, sg_succ, sg_add, sg_add (cntG l2 v), sg_sq, Int.mul_one, Int.neg_mul, Int.one_mul]
end

theorem sign_inv : ∀ (n : Nat) {a : List Nat}, isP a → a.length = n → sg (nonMin a) = sg (invL a)
  | 0, a, _, hl => by
    have : a = [] := List.eq_nil_of_length_eq_zero hl
    subst this
    rfl
  | n + 1, a, h, hl => by
    rw [red_inv h hl, ← sign_inv n (red_isP h hl) (red_length hl), red_nonMin h hl]
    by_cases e : a.getD n 0 = n
    · rw [if_pos e, if_pos e, Nat.add_zero, Int.one_mul]
    · rw [if_neg e, if_neg e, sg_succ, Int.neg_mul, Int.one_mul]
/-- The sign by cycles is the sign by inversions. -/
theorem sgn_par {a : List Nat} (h : isP a) : sgnL (cycs a) = parTo a a.length := by
  rw [sgn_nonMin h, sign_inv a.length h rfl, par_sg]
theorem sgn_comp {a b : List Nat} (pa : isP a) (pb : isP b) (hl : a.length = b.length) : sgnL (cycs (comp a b)) = sgnL (cycs a) * sgnL (cycs b) := by
  have pc := comp_isP pa pb hl
  rw [sgn_nonMin pa, sgn_nonMin pb, sgn_nonMin pc, sign_inv _ pa rfl, sign_inv _ pb rfl, sign_inv _ pc rfl, sg_comp pa pb hl]
end Go.Proofs.Ytnpdlfnhpghkmaa
