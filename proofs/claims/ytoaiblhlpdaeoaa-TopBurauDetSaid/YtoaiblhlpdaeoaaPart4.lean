/- Several texts in one. -/
import Derived.Test.YtoaiblhlpdaeoaaPart3
import Derived.Test.YtoaiblhlpdaeoaaPart1
import Derived.Test.YtoaiblhlpdaeoaaBase1
/- Normal forms: what a word becomes as factors, one crossing moved, what is left in the end (mathematics). -/
namespace Go.Proofs.Ytoaiblhlpdaeoaa
set_option linter.unusedVariables false
set_option linter.unusedSimpArgs false
open Go.RowKit Gar

/-! ### a crossing moved from one factor to the one before it -/
/-- The first place where a crossing can be moved; c is the inverse of the factor before b. -/
def loose (c b : List Nat) : Option Nat := (List.range (b.length - 1)).find? fun i => decide (b.getD (i + 1) 0 < b.getD i 0) && decide (c.getD i 0 < c.getD (i + 1) 0)
theorem loose_some {c b : List Nat} {i : Nat} (h : loose c b = some i) : i + 1 < b.length ∧ b.getD (i + 1) 0 < b.getD i 0 ∧ c.getD i 0 < c.getD (i + 1) 0 := by
  have h1 := List.find?_some h
  have h2 := List.mem_of_find?_eq_some h
  simp only [Bool.and_eq_true, decide_eq_true_eq] at h1
  rw [List.mem_range] at h2
  exact ⟨by omega, h1.1, h1.2⟩
theorem loose_tightB {n : Nat} {a b : List Nat} (la : a.length = n) (lb : b.length = n) : (loose (inv a) b).isNone = tightB a b (inv a) := by
  unfold loose tightB
  rw [la, lb]
  generalize n - 1 = k
  rw [Bool.eq_iff_iff, Option.isNone_iff_eq_none, List.find?_eq_none, List.all_eq_true]
  exact ⟨fun h i hi => by have := h i hi; rwa [Bool.not_eq_true, ← Bool.not_eq_true'] at this, fun h i hi => by have := h i hi; rwa [Bool.not_eq_true, ← Bool.not_eq_true']⟩
theorem pm_rev_elt {n : Nat} {c : List Nat} (pc : isP c) (lc : c.length = n) {s : Nat} (hs : s < n) : pm (rev (elt (inv c))) s = c.getD s 0 := by
  obtain ⟨_, h2⟩ := elt_spec (n := n) (inv_isP pc) (by rw [inv_length]; exact lc)
  have h3 := h2 (c.getD s 0) (by have := pc.lt (j := s) (by omega); omega)
  rw [inv_getD_self pc (by omega)] at h3
  have h4 := pm_rev (elt (inv c)) (c.getD s 0)
  rw [h3] at h4
  exact h4
/-- One crossing goes from b's beginning to the end of the factor with the inverse c. -/
theorem move_one {n : Nat} {c b : List Nat} (pc : isP c) (pb : isP b) (lc : c.length = n) (lb : b.length = n) {i : Nat} (h : loose c b = some i) :
    elt (inv (swapL c i)) * elt (swapL b i) = elt (inv c) * elt b ∧ len (elt (swapL b i)) + 1 = len (elt b) := by
  obtain ⟨hi, hb, hc⟩ := loose_some h
  rw [lb] at hi
  obtain ⟨s1, v1⟩ := elt_spec (n := n) (inv_isP pc) (by rw [inv_length]; exact lc)
  obtain ⟨s2, v2⟩ := elt_spec pb lb
  have pc' := swapL_isP pc (i := i) (by omega)
  have lc' : (swapL c i).length = n := by rw [swapL_length]; exact lc
  have pb' := swapL_isP pb (i := i) (by omega)
  have lb' : (swapL b i).length = n := by rw [swapL_length]; exact lb
  obtain ⟨s3, v3⟩ := elt_spec (n := n) (inv_isP pc') (by rw [inv_length]; exact lc')
  obtain ⟨s4, v4⟩ := elt_spec pb' lb'
  have e1 : elt (inv (swapL c i)) = elt (inv c) * g i := by
    refine s3.ext (Sim_r.2 ⟨hi, s1, by rw [pm_rev_elt pc lc (by omega), pm_rev_elt pc lc hi]; exact hc⟩) fun s hs => ?_
    rw [v3 s hs, pm_mul, v1 s hs, pm_g]
    have ht : (inv c).getD s 0 < n := by have := (inv_isP pc).lt (j := s) (by rw [inv_length]; omega); rw [inv_length] at this; omega
    have e2 : (swapL c i).getD (sw i ((inv c).getD s 0)) 0 = s := by
      rw [swapL_getD (by omega), sw_sw]
      have := comp_inv (inv_isP pc)
      obtain ⟨j, hj, e⟩ := pc.surj (i := s) (by omega)
      rw [← e, inv_getD_self pc hj]
    have e3 := inv_getD_self pc' (j := sw i ((inv c).getD s 0)) (by rw [lc']; exact sw_lt hi ht)
    rw [e2] at e3
    exact e3
  obtain ⟨z, hz⟩ := s2.first (j := i) (by rw [v2 _ hi, v2 i (by omega)]; exact hb)
  have e4 : elt (swapL b i) = z := by
    refine s4.ext (Sim_c.1 (hz ▸ s2)).2.1 fun s hs => ?_
    have h5 : pm (Gar.c i z) (sw i s) = pm z s := by rw [pm_c, sw_sw]
    rw [v4 s hs, swapL_getD (by omega), ← h5, ← hz, v2 _ (sw_lt hi hs)]
  rw [e1, e4, hz, mul_assoc]
  exact ⟨by rw [c_g], by rw [len_c]⟩

/-! ### the factors as a family -/
/-- The product of the first k factors. -/
noncomputable def prF (P : Nat → List Nat) : Nat → M
  | 0 => 1
  | k + 1 => prF P k * elt (P k)
/-- Crossings, counted by the place of their factor. -/
noncomputable def wtF (P : Nat → List Nat) : Nat → Nat
  | 0 => 0
  | k + 1 => wtF P k + k * len (elt (P k))
/-- Two neighbouring factors exchanged for others. -/
def upF (P : Nat → List Nat) (j : Nat) (a b : List Nat) : Nat → List Nat := fun i => if i = j then a else if i = j + 1 then b else P i
theorem upF_a (P : Nat → List Nat) (j : Nat) (a b : List Nat) : upF P j a b j = a := by unfold upF; rw [if_pos rfl]
theorem upF_b (P : Nat → List Nat) (j : Nat) (a b : List Nat) : upF P j a b (j + 1) = b := by unfold upF; rw [if_neg (by omega), if_pos rfl]
theorem upF_o (P : Nat → List Nat) {j i : Nat} (a b : List Nat) (h1 : i ≠ j) (h2 : i ≠ j + 1) : upF P j a b i = P i := by unfold upF; rw [if_neg h1, if_neg h2]
theorem prF_congr {P Q : Nat → List Nat} : ∀ {k : Nat}, (∀ i, i < k → P i = Q i) → prF P k = prF Q k
  | 0, _ => rfl
  | k + 1, h => by show prF P k * elt (P k) = prF Q k * elt (Q k); rw [prF_congr (fun i hi => h i (by omega)), h k (by omega)]
theorem wtF_congr {P Q : Nat → List Nat} : ∀ {k : Nat}, (∀ i, i < k → P i = Q i) → wtF P k = wtF Q k
  | 0, _ => rfl
  | k + 1, h => by show wtF P k + k * len (elt (P k)) = wtF Q k + k * len (elt (Q k)); rw [wtF_congr (fun i hi => h i (by omega)), h k (by omega)]
theorem prF_up {P : Nat → List Nat} {j : Nat} {a b : List Nat} (h : elt a * elt b = elt (P j) * elt (P (j + 1))) : ∀ {k : Nat}, j + 2 ≤ k → prF (upF P j a b) k = prF P k
  | k + 1, hk => by
    by_cases e : j + 2 = k + 1
    · have e1 : k = j + 1 := by omega
      subst e1
      show prF (upF P j a b) j * elt (upF P j a b j) * elt (upF P j a b (j + 1)) = prF P j * elt (P j) * elt (P (j + 1))
      rw [upF_a, upF_b, mul_assoc, h, ← mul_assoc, prF_congr (fun i hi => upF_o P a b (by omega) (by omega))]
    · show prF (upF P j a b) k * elt (upF P j a b k) = prF P k * elt (P k)
      rw [prF_up h (by omega), upF_o P a b (by omega) (by omega)]
theorem wtF_up {P : Nat → List Nat} {j d : Nat} {a b : List Nat} (h1 : len (elt a) = len (elt (P j)) + d) (h2 : len (elt b) + d = len (elt (P (j + 1)))) : ∀ {k : Nat}, j + 2 ≤ k → wtF (upF P j a b) k + d = wtF P k
  | k + 1, hk => by
    by_cases e : j + 2 = k + 1
    · have e1 : k = j + 1 := by omega
      subst e1
      show wtF (upF P j a b) j + j * len (elt (upF P j a b j)) + (j + 1) * len (elt (upF P j a b (j + 1))) + d = wtF P j + j * len (elt (P j)) + (j + 1) * len (elt (P (j + 1)))
      rw [upF_a, upF_b, wtF_congr (fun i hi => upF_o P a b (by omega) (by omega)), h1, ← h2, Nat.mul_add, Nat.mul_add, Nat.add_mul j 1 d]
      show wtF P j + _ + _ + _ = _
      omega
    · show wtF (upF P j a b) k + k * len (elt (upF P j a b k)) + d = wtF P k + k * len (elt (P k))
      have := wtF_up h1 h2 (k := k) (by omega)
      rw [upF_o P a b (by omega) (by omega)]
      omega
theorem prF_list (P : Nat → List Nat) : ∀ k, prF P k = prod (((List.range k).map P).map elt)
  | 0 => rfl
  | k + 1 => by
    rw [List.range_succ, List.map_append, List.map_append, prod_append, ← prF_list P k]
    show prF P k * elt (P k) = prF P k * (elt (P k) * 1)
    rw [mul_one]

/-! ### what is left when all neighbours are tight -/
theorem tight_to_tw {n : Nat} {a : M} (ha : Sim n a) (h : Tight n a (tw n)) : a = tw n := by
  refine ha.ext (Sim_tw n) fun s hs => ?_
  have h1 : ∀ i, i + 1 < n → pm (rev a) (i + 1) < pm (rev a) i := fun i hi => by
    have h2 := h i hi (by rw [pm_tw, pm_tw, if_pos (by omega), if_pos (by omega)]; omega)
    have h3 : pm (rev a) (i + 1) ≠ pm (rev a) i := fun e => by have := pm_inj e; omega
    omega
  have h4 := no_ascent (In_rev.2 ha.1) h1
  have h5 : pm (rev a) (n - 1 - s) = s := by rw [h4 _ (by omega)]; omega
  have h6 := pm_rev' a (n - 1 - s)
  rw [h5] at h6
  rw [h6, pm_tw, if_pos hs]
theorem tight_from_one {n : Nat} {b : M} (hb : Sim n b) (h : Tight n 1 b) : b = 1 := by
  rcases Nat.eq_zero_or_pos (len b) with h0 | h0
  · exact len_zero h0
  · rcases cases_c b with e | ⟨i, z, e⟩
    · exact e
    · subst e
      obtain ⟨hi, hz, hlt⟩ := Sim_c.1 hb
      refine absurd ?_ (h i hi (by rw [pm_c, pm_c, sw_i, sw_i1]; exact hlt))
      rw [rev_one, pm_one, pm_one]
      omega
theorem all_one {n : Nat} : ∀ {l : List M}, TightL n (1 :: l) → ∀ a ∈ l, a = 1
  | [], _, a, h => by cases h
  | b :: l, h, a, ha => by
    have hb : b = 1 := tight_from_one h.tail.head h.2.1
    subst hb
    rcases List.mem_cons.1 ha with e | ha
    · exact e
    · exact all_one h.tail a ha
theorem none_tw {n : Nat} : ∀ {l : List M} {a : M}, TightL n (a :: l) → a ≠ tw n → ∀ b ∈ l, b ≠ tw n
  | [], a, _, _, b, hb => by cases hb
  | x :: l, a, h, hne, b, hb => by
    have hx : x ≠ tw n := fun e => hne (tight_to_tw h.head (e ▸ h.2.1))
    rcases List.mem_cons.1 hb with e | hb
    · rw [e]; exact hx
    · exact none_tw h.tail hx b hb
open Classical in
noncomputable def cnT (n : Nat) (l : List M) : Nat := l.countP fun a => decide (a = tw n)
open Classical in
noncomputable def flT (n : Nat) (l : List M) : List M := l.filter fun a => !decide (a = tw n) && !decide (a = 1)
theorem flT_nil {n : Nat} {l : List M} (h : ∀ a ∈ l, a = 1) : flT n l = [] := by
  unfold flT
  rw [List.filter_eq_nil_iff]
  intro a ha
  simp [h a ha]
theorem cnT_nil {n : Nat} {l : List M} (h : ∀ a ∈ l, a ≠ tw n) : cnT n l = 0 := by
  unfold cnT
  rw [List.countP_eq_zero]
  intro a ha
  simp [h a ha]
theorem prod_ones : ∀ {l : List M}, (∀ a ∈ l, a = 1) → prod l = 1
  | [], _ => rfl
  | a :: l, h => by
    show a * prod l = 1
    rw [h a (by simp), prod_ones fun b hb => h b (by simp [hb]), one_mul]
theorem left_over {n : Nat} (hn : 2 ≤ n) : ∀ {l : List M}, TightL n l → TightL n (flT n l) ∧ prod l = pw (tw n) (cnT n l) * prod (flT n l) ∧ ∀ b r, flT n l = b :: r → (∃ s, l = b :: s) ∨ ∃ a s, l = a :: s ∧ (a = tw n ∨ a = 1)
  | [], _ => ⟨trivial, (one_mul _).symm, fun b r h => by cases h⟩
  | a :: l, h => by
    obtain ⟨h1, h2, h3⟩ := left_over hn h.tail
    by_cases ht : a = tw n
    · have ec : cnT n (a :: l) = cnT n l + 1 := by unfold cnT; rw [List.countP_cons_of_pos (by simp [ht])]
      have ef : flT n (a :: l) = flT n l := by unfold flT; rw [List.filter_cons_of_neg (by simp [ht])]
      rw [ec, ef]
      refine ⟨h1, ?_, fun b r e => .inr ⟨a, l, rfl, .inl ht⟩⟩
      show a * prod l = tw n * pw (tw n) (cnT n l) * _
      rw [h2, ht, mul_assoc]
    · have hnt := none_tw h ht
      have ec : cnT n (a :: l) = 0 := cnT_nil fun b hb => by
        rcases List.mem_cons.1 hb with e | hb
        · rw [e]; exact ht
        · exact hnt b hb
      rw [cnT_nil hnt] at h2
      by_cases h1' : a = 1
      · subst h1'
        have ho := all_one h
        have ef : flT n (1 :: l) = [] := flT_nil fun b hb => by
          rcases List.mem_cons.1 hb with e | hb
          · exact e
          · exact ho b hb
        rw [ec, ef]
        refine ⟨trivial, ?_, fun b r e => by cases e⟩
        show 1 * prod l = 1 * 1
        rw [prod_ones ho]
      · have ef : flT n (a :: l) = a :: flT n l := by unfold flT; rw [List.filter_cons_of_pos (by simp [ht, h1'])]
        rw [ec, ef]
        refine ⟨TightL.cons h.head (fun b r e => ?_) h1, ?_, fun b r e => .inl ⟨l, by injection e with e _; rw [e]⟩⟩
        · rcases h3 b r e with ⟨s, rfl⟩ | ⟨x, s, rfl, hx | hx⟩
          · exact h.2.1
          · exact absurd hx (hnt x (by simp))
          · subst hx
            rw [flT_nil (fun y hy => by
              rcases List.mem_cons.1 hy with e | hy
              · exact e
              · exact all_one h.tail y hy)] at e
            cases e
        · show a * prod l = 1 * (a * prod (flT n l))
          rw [h2, one_mul]
          show a * (1 * _) = _
          rw [one_mul]
theorem left_nf {n : Nat} (hn : 2 ≤ n) {l : List M} (h : TightL n l) : NF n (flT n l) := by
  refine ⟨(left_over hn h).1, fun a ha e => ?_, fun a ha e => ?_⟩
  · unfold flT at ha
    have := (List.mem_filter.1 ha).2
    simp [e] at this
  · unfold flT at ha
    have := (List.mem_filter.1 ha).2
    simp [e] at this
/-- The same on permutations. -/
def cnP (n : Nat) (l : List (List Nat)) : Nat := l.countP fun p => decide (p = fullL n)
def flP (n : Nat) (l : List (List Nat)) : List (List Nat) := l.filter fun p => !decide (p = fullL n) && !decide (p = List.range n)
theorem cnP_elt {n : Nat} : ∀ {l : List (List Nat)}, PL n l → cnT n (l.map elt) = cnP n l
  | [], _ => rfl
  | p :: l, h => by
    have ih := cnP_elt (n := n) (l := l) fun q hq => h q (by simp [hq])
    obtain ⟨h1, h2⟩ := h p (by simp)
    unfold cnT cnP at ih ⊢
    rw [List.map_cons]
    by_cases e : p = fullL n
    · rw [List.countP_cons_of_pos (by simpa using (elt_full h1 h2).2 e), List.countP_cons_of_pos (by simpa using e), ih]
    · rw [List.countP_cons_of_neg (by simpa using fun k => e ((elt_full h1 h2).1 k)), List.countP_cons_of_neg (by simpa using e), ih]
theorem flP_elt {n : Nat} : ∀ {l : List (List Nat)}, PL n l → flT n (l.map elt) = (flP n l).map elt
  | [], _ => rfl
  | p :: l, h => by
    have ih := flP_elt (n := n) (l := l) fun q hq => h q (by simp [hq])
    obtain ⟨h1, h2⟩ := h p (by simp)
    unfold flT flP at ih ⊢
    rw [List.map_cons]
    have e1 : (elt p = tw n) = (p = fullL n) := propext (elt_full h1 h2)
    have e2 : (elt p = 1) = (p = List.range n) := propext (elt_one h1 h2)
    by_cases e : p = fullL n ∨ p = List.range n
    · rw [List.filter_cons_of_neg (by simp only [e1, e2]; rcases e with e | e <;> simp [e]), List.filter_cons_of_neg (by rcases e with e | e <;> simp [e]), ih]
    · rw [not_or] at e
      rw [List.filter_cons_of_pos (by simp only [e1, e2]; simp [e]), List.filter_cons_of_pos (by simp [e]), ih, List.map_cons]

/-! ### a word as a power of the half twist and permutation braids -/
/-- The letter behind m half twists. -/
def mir (n : Int) (x : Int) (m : Nat) : Int := if m % 2 = 0 then x else if 0 < x then n - x else -n - x
/-- The permutation braid of a letter; the half twist before a negative one is left out. -/
def facL (n : Nat) (x : Int) : List Nat := if 0 < x then endsL n [x] else comp (fullL n) (endsL n [x])
def spF (n : Nat) : List Int → List (List Nat)
  | [] => []
  | x :: w => facL n (mir n x (negs w)) :: spF n w
theorem spF_length (n : Nat) : ∀ w, (spF n w).length = w.length
  | [] => rfl
  | x :: w => by show (spF n w).length + 1 = _; rw [spF_length n w]; rfl
theorem spF_getD (n : Nat) : ∀ {w : List Int} {j : Nat}, j < w.length → (spF n w).getD j [] = facL n (mir n (w.getD j 0) (negs (w.drop (j + 1))))
  | x :: w, 0, _ => rfl
  | x :: w, j + 1, h => by
    have := spF_getD n (w := w) (j := j) (by simpa using h)
    simpa [spF] using this
theorem mir_up {n i : Nat} (hi : i + 1 < n) : (n : Int) - up i = up (n - 2 - i) := by unfold up; omega
theorem mir_okl {n : Nat} {x : Int} (h : okl n x) (m : Nat) : okl n (mir n x m) := by
  unfold okl at *
  unfold mir
  split
  · exact h
  · split <;> omega
theorem gp_mir1 {n : Nat} {x : Int} (h : okl n x) : gp n [x] * invG (dl n) = invG (dl n) * gp n [mir n x 1] := by
  obtain ⟨i, hi, e | e⟩ := letter_of h
  · subst e
    have e1 : mir (n : Int) (up i) 1 = up (n - 2 - i) := by
      unfold mir
      rw [if_neg (by omega), if_pos (by unfold up; omega), mir_up hi]
    have hj : n - 2 - i + 1 < n := by omega
    have e2 : tau n (g i) = g (n - 2 - i) := by
      have h1 := (tau_spec (In_g hi)).2.2
      rw [g_tw hi] at h1
      exact (mul_left h1).symm
    have h2 := tau_Ginv (In_g hi)
    rw [e2, pos_g hi, pos_g hj] at h2
    rw [e1]
    exact h2
  · subst e
    have e1 : mir (n : Int) (-up i) 1 = -up (n - 2 - i) := by
      unfold mir
      rw [if_neg (by omega), if_neg (by unfold up; omega), ← mir_up hi]
      omega
    have hj : n - 2 - i + 1 < n := by omega
    have e2 : tau n (g i) = g (n - 2 - i) := by
      have h1 := (tau_spec (In_g hi)).2.2
      rw [g_tw hi] at h1
      exact (mul_left h1).symm
    have h2 := tau_Ginv (In_g hi)
    rw [e2, pos_g hi, pos_g hj] at h2
    rw [e1]
    have p1 : gp n [-up i] * gp n [up i] = 1 := by have := gp_pair n (-up i); rwa [Int.neg_neg] at this
    have p2 := gp_pair n (up (n - 2 - i))
    calc gp n [-up i] * invG (dl n) = gp n [-up i] * (invG (dl n) * 1) := by rw [G_mul_one]
      _ = gp n [-up i] * (invG (dl n) * (gp n [up (n - 2 - i)] * gp n [-up (n - 2 - i)])) := by rw [p2]
      _ = gp n [-up i] * ((invG (dl n) * gp n [up (n - 2 - i)]) * gp n [-up (n - 2 - i)]) := by rw [G_assoc (invG (dl n))]
      _ = gp n [-up i] * ((gp n [up i] * invG (dl n)) * gp n [-up (n - 2 - i)]) := by rw [h2]
      _ = (gp n [-up i] * gp n [up i]) * (invG (dl n) * gp n [-up (n - 2 - i)]) := by rw [G_assoc, G_assoc]
      _ = invG (dl n) * gp n [-up (n - 2 - i)] := by rw [p1, G_one_mul]
theorem mir_mir {n : Nat} {x : Int} (h : okl n x) (m : Nat) : mir n (mir n x 1) m = mir n x (m + 1) := by
  unfold okl at h
  unfold mir
  rcases Nat.mod_two_eq_zero_or_one m with e | e
  · rw [if_pos e, if_neg (show ¬ 1 % 2 = 0 by omega), if_neg (show ¬ (m + 1) % 2 = 0 by omega)]
  · rw [if_neg (by omega), if_pos (show (m + 1) % 2 = 0 by omega), if_neg (show ¬ 1 % 2 = 0 by omega)]
    by_cases hx : 0 < x
    · rw [if_pos hx, if_pos (by omega)]; omega
    · rw [if_neg hx, if_neg (by omega)]; omega
theorem zp_pred (n m : Nat) : zp n (-((m + 1 : Nat) : Int)) = invG (dl n) * zp n (-(m : Int)) := by
  have h := zp_succ n (-((m + 1 : Nat) : Int))
  rw [show -((m + 1 : Nat) : Int) + 1 = -(m : Int) by omega] at h
  rw [← h, ← G_assoc, inv_mul, G_one_mul]
theorem gp_mir {n : Nat} : ∀ (m : Nat) {x : Int}, okl n x → gp n [x] * zp n (-(m : Int)) = zp n (-(m : Int)) * gp n [mir n x m]
  | 0, x, h => by
    show gp n [x] * zp n 0 = zp n 0 * gp n [mir n x 0]
    rw [zp_zero, G_mul_one, G_one_mul]
    rfl
  | m + 1, x, h => by
    rw [zp_pred, ← G_assoc, gp_mir1 h, G_assoc, gp_mir m (mir_okl h 1), mir_mir h m, G_assoc]
theorem endsL_one {n : Nat} {x : Int} (h : okl n x) {i : Nat} (hi : x.natAbs = i + 1) : isP (endsL n [x]) ∧ (endsL n [x]).length = n ∧ ∀ s, s < n → (endsL n [x]).getD s 0 = sw i s := by
  have hg : ∀ s, s < n → (endsL n [x]).getD s 0 = sw i s := fun s hs => by
    unfold endsL
    rw [getD_map_nat (by rw [List.length_range]; exact hs), range_getD hs]
    show stepE s x = _
    unfold stepE sw
    rw [hi]
    grind
  have hin : i + 1 < n := by unfold okl at h; omega
  refine ⟨isP_of (fun j hj => ?_) (fun a b ha hb e => ?_), endsL_length n _, hg⟩
  · rw [endsL_length] at hj ⊢
    rw [hg j hj]
    exact sw_lt hin hj
  · rw [endsL_length] at ha hb
    rw [hg a ha, hg b hb] at e
    rw [← sw_sw i a, e, sw_sw]
theorem facL_val {n : Nat} {x : Int} (h : okl n x) : isP (facL n x) ∧ (facL n x).length = n ∧ gp n [x] = zp n (-((if x < 0 then 1 else 0 : Nat) : Int)) * pos n (elt (facL n x)) := by
  obtain ⟨i, hi, e⟩ := letter_of h
  have hx : x.natAbs = i + 1 := by rcases e with rfl | rfl <;> unfold up <;> omega
  obtain ⟨p1, p2, p3⟩ := endsL_one h hx
  rcases e with e | e
  · have hp : 0 < x := by rw [e]; unfold up; omega
    have ef : facL n x = endsL n [x] := by unfold facL; rw [if_pos hp]
    rw [ef, if_neg (by omega)]
    refine ⟨p1, p2, ?_⟩
    obtain ⟨s1, v1⟩ := elt_spec p1 p2
    have ee : elt (endsL n [x]) = g i := s1.ext (Sim_g hi) fun s hs => by rw [v1 s hs, p3 s hs, pm_g]
    rw [ee, pos_g hi, e]
    show _ = zp n 0 * _
    rw [zp_zero, G_one_mul]
  · have hp : ¬ 0 < x := by rw [e]; unfold up; omega
    have ef : facL n x = comp (fullL n) (endsL n [x]) := by unfold facL; rw [if_neg hp]
    rw [ef, if_pos (by rw [e]; unfold up; omega)]
    have pc := comp_isP (full_isP n).1 p1 (by rw [(full_isP n).2, p2])
    have lc : (comp (fullL n) (endsL n [x])).length = n := by rw [comp_length]; exact (full_isP n).2
    refine ⟨pc, lc, ?_⟩
    obtain ⟨s1, v1⟩ := elt_spec pc lc
    obtain ⟨t, ht, htw⟩ := before_exists (Sim_g hi)
    have ee : elt (comp (fullL n) (endsL n [x])) = t := s1.ext ht fun s hs => by
      have h1 : pm (tw n) s = sw i (pm t s) := by rw [htw, pm_mul, pm_g]
      rw [v1 s hs, comp_getD (by rw [(full_isP n).2]; exact hs), fullL_getD hs, p3 _ (by omega), ← sw_sw i (pm t s), ← h1, pm_tw, if_pos hs]
    have h2 : dl n = pos n t * gp n [up i] := by unfold dl; rw [htw, pos_mul ht.1 (In_g hi), pos_g hi]
    have h3 : pos n t = dl n * gp n [-up i] := by rw [h2, G_assoc, gp_pair, G_mul_one]
    rw [ee, h3, e, show -((1 : Nat) : Int) = -(((0 : Nat) + 1 : Nat) : Int) from rfl, zp_pred]
    show _ = invG (dl n) * zp n 0 * _
    rw [zp_zero, G_mul_one, ← G_assoc, inv_mul, G_one_mul]
theorem split_val {n : Nat} : ∀ {w : List Int}, (∀ x ∈ w, okl n x) → PL n (spF n w) ∧ gp n w = zp n (-(negs w : Int)) * pos n (prod ((spF n w).map elt))
  | [], _ => ⟨fun p hp => (by cases hp), by
    show gp n [] = zp n 0 * pos n 1
    rw [zp_zero, pos_one, G_mul_one]
    rfl⟩
  | x :: w, h => by
    obtain ⟨h1, h2⟩ := split_val (n := n) (w := w) fun y hy => h y (by simp [hy])
    have hx := h x (by simp)
    obtain ⟨f1, f2, f3⟩ := facL_val (mir_okl hx (negs w))
    have hP : PL n (spF n (x :: w)) := fun p hp => by
      rcases List.mem_cons.1 hp with e | hp
      · rw [e]; exact ⟨f1, f2⟩
      · exact h1 p hp
    refine ⟨hP, ?_⟩
    have hI : In n (prod ((spF n w).map elt)) := In_prod fun a ha => by
      obtain ⟨p, hp, rfl⟩ := List.mem_map.1 ha
      obtain ⟨q1, q2⟩ := h1 p hp
      exact (elt_spec q1 q2).1.1
    have hsg : (mir n x (negs w) < 0) = (x < 0) := by
      unfold okl at hx
      unfold mir
      split
      · rfl
      · split <;> exact propext ⟨fun _ => by omega, fun _ => by omega⟩
    rw [gp_cons, h2, ← G_assoc, gp_mir _ hx, f3, negs_cons]
    simp only [hsg]
    show _ = _ * pos n (elt (facL n (mir n x (negs w))) * prod ((spF n w).map elt))
    rw [pos_mul (elt_spec f1 f2).1.1 hI, show (-((negs w + if x < 0 then 1 else 0 : Nat) : Int)) = -(negs w : Int) + -((if x < 0 then 1 else 0 : Nat) : Int) by omega, ← zp_addI]
    simp only [G_assoc]

/-! ### the normal form -/
theorem nfw_of {n : Nat} (hn : 2 ≤ n) {xs : List Int} (hx : ∀ x ∈ xs, okl n x) {fs : List (List Nat)} (hp : PL n fs) (ht : TightL n (fs.map elt)) (he : prod (fs.map elt) = prod ((spF n xs).map elt)) : NFw n xs (-(negs xs : Int) + (cnP n fs : Int)) (flP n fs) := by
  have hl := left_over hn ht
  rw [cnP_elt hp, flP_elt hp] at hl
  have hnf := left_nf hn ht
  rw [flP_elt hp] at hnf
  refine ⟨fun p h => hp p (List.mem_filter.1 h).1, hnf, ?_, fun e => by omega⟩
  unfold nfv
  rw [(split_val hx).2, ← he, hl.2.1, pos_mul (In_pt _) hnf.inn, ← npow_dl, ← zp_nat, ← zp_addI, G_assoc]
end Go.Proofs.Ytoaiblhlpdaeoaa
/- A sketch for a package that reduces words by pushing and popping (shape: r[:n-1] or append). -/
namespace Go.Proofs.Ytoaiblhlpdaeoaa
set_option linter.unusedVariables false
set_option linter.unusedSimpArgs false
open Go.RowKit

theorem snc_pop {L : List Int} {x : Int} {m : Nat} (hl : L.length = m) (hm : 0 < m) (h : L.getD (m - 1) 0 = -x) : snc L x = L.take (m - 1) := by
  have hne : L ≠ [] := fun e => by rw [e] at hl; simp at hl; omega
  obtain ⟨C, g, rfl⟩ : ∃ C g, L = C ++ [g] := ⟨L.dropLast, L.getLast hne, (List.dropLast_concat_getLast hne).symm⟩
  subst hl
  rw [getD_last] at h
  simp [snc, h]
theorem snc_push {L : List Int} {x : Int} {m : Nat} (hl : L.length = m) (h : m = 0 ∨ L.getD (m - 1) 0 ≠ -x) : snc L x = L ++ [x] := by
  rcases Nat.eq_zero_or_pos m with h0 | h0
  · obtain rfl : L = [] := List.eq_nil_of_length_eq_zero (by omega)
    rfl
  · have hne : L ≠ [] := fun e => by rw [e] at hl; simp at hl; omega
    obtain ⟨C, g, rfl⟩ : ∃ C g, L = C ++ [g] := ⟨L.dropLast, L.getLast hne, (List.dropLast_concat_getLast hne).symm⟩
    subst hl
    rw [getD_last] at h
    have hg : g ≠ -x := by
      rcases h with h | h
      · simp at h
      · exact h
    have hg2 : ¬ x = -g := by omega
    simp [snc, hg, hg2]
theorem snc_mem {L : List Int} {x y : Int} (h : y ∈ snc L x) : y ∈ L ∨ y = x := by
  by_cases hm : L.length = 0 ∨ L.getD (L.length - 1) 0 ≠ -x
  · rw [snc_push rfl hm] at h
    simpa using h
  · have h1 : 0 < L.length ∧ L.getD (L.length - 1) 0 = -x := by
      constructor
      · rcases Nat.eq_zero_or_pos L.length with h0 | h0
        · exact absurd (.inl h0) hm
        · exact h0
      · by_cases h2 : L.getD (L.length - 1) 0 = -x
        · exact h2
        · exact absurd (.inr h2) hm
    rw [snc_pop rfl h1.1 h1.2] at h
    exact .inl (List.mem_of_mem_take h)
theorem foldl_snc_mem {y : Int} : ∀ (xs L : List Int), y ∈ xs.foldl snc L → y ∈ L ∨ y ∈ xs
  | [], L, h => .inl h
  | x :: t, L, h => by
    rcases foldl_snc_mem t (snc L x) h with h | h
    · rcases snc_mem h with h | h
      · exact .inl h
      · exact .inr (by simp [h])
    · exact .inr (by simp [h])

end Go.Proofs.Ytoaiblhlpdaeoaa
/- slices.Compare, factorial. -/
namespace Go.Proofs.Ytoaiblhlpdaeoaa
set_option linter.unusedVariables false
set_option linter.unusedSimpArgs false
open Go.RowKit

/-- cmp.Compare at integers. -/
def cmp1 (x y : Int) : Int := if x < y then -1 else if y < x then 1 else 0

set_option maxHeartbeats 1000000 in
theorem cmp_any (x y : Int) (w : World) : Calls Try.prog 85 #[.int .i64 x, .int .i64 y] w fun e w' => e = .returned (.int .i64 (cmp1 x y)) ∧ w = w' := by
  rcases Int.lt_trichotomy x y with h | h | h
  · have HE : Hid (cmp1 x y = -1) := if_pos h
    have hx : (x != x) = false := by simp
    have hy : (y != y) = false := by simp
    go_enter Try.func85, Try.ntmps85
    go_wp2
    go_ret
    rw [HE.out]
    exact ⟨rfl, rfl⟩
  · subst h
    have HE : Hid (cmp1 x x = 0) := by unfold cmp1; rw [if_neg (by omega), if_neg (by omega)]; exact rfl
    have hx : (x != x) = false := by simp
    go_enter Try.func85, Try.ntmps85
    go_wp2
    go_ret
    rw [HE.out]
    exact ⟨rfl, rfl⟩
  · have HE : Hid (cmp1 x y = 1) := by unfold cmp1; rw [if_neg (by omega), if_pos h]; exact rfl
    have hx : (x != x) = false := by simp
    have hy : (y != y) = false := by simp
    go_enter Try.func85, Try.ntmps85
    go_wp2
    go_ret
    rw [HE.out]
    exact ⟨rfl, rfl⟩

end Go.Proofs.Ytoaiblhlpdaeoaa
/- Package braid: Check, generator, ExponentSum, Inverse. -/
namespace Go.Proofs.Ytoaiblhlpdaeoaa
set_option linter.unusedVariables false
set_option linter.unusedSimpArgs false
open Go.RowKit

theorem bfault_bad {m : Int} {xs : List Int} (h1 : 1 ≤ m) (h6 : m ≤ 6) (h : xs.length ≤ 30) {k : Nat} (hk : k < xs.length) (hb : okX m (xs.getD k 0) = false) : bfault m xs = 3 := by
  unfold bfault
  rw [if_neg (by omega), if_neg (by omega), if_neg]
  intro h2
  have h3 := List.all_eq_true.1 h2 _ (List.getElem_mem hk)
  rw [show xs.getD k 0 = xs[k] by simp [List.getD, hk]] at hb
  rw [hb] at h3
  cases h3
theorem bfault_all {m : Int} {xs : List Int} (h1 : 1 ≤ m) (h6 : m ≤ 6) (h : xs.length ≤ 30) (hb : ∀ k, k < xs.length → okX m (xs.getD k 0) = true) : bfault m xs = 0 := by
  unfold bfault
  rw [if_neg (by omega), if_neg (by omega), if_pos]
  rw [List.all_eq_true]
  intro x hx
  obtain ⟨k, hk, rfl⟩ := List.getElem_of_mem hx
  have := hb k hk
  rwa [show xs.getD k 0 = xs[k] by simp [List.getD, hk]] at this

set_option maxRecDepth 100000 in
set_option maxHeartbeats 4000000 in
theorem bcheck_any (m : Int) (A : Option Addr) (n c : Nat) (xs : List Int) (w : World) (ha : SL w A n c xs) (hm : (Lit.int .i64 m).wf = true) :
    Calls Try.prog 48 #[.int .i64 m, .slice A n c] w fun e w' => e = .returned (.int .i64 (bfault m xs)) ∧ w = w' := by
  have HL := hide ha.il.len
  have HA := hide ha.il
  have hns := ha.il.small
  clear ha
  by_cases h1 : m < 1
  · have HE : Hid (bfault m xs = 1) := hide (by unfold bfault; rw [if_pos (by omega)])
    go_enter Try.func48, Try.ntmps48
    go_wp2_with fail
    go_ret
    exact ⟨by rw [HE.out]; rfl, rfl⟩
  by_cases h6 : 6 < m
  · have HE : Hid (bfault m xs = 1) := hide (by unfold bfault; rw [if_pos (by omega)])
    go_enter Try.func48, Try.ntmps48
    go_wp2_with fail
    go_ret
    exact ⟨by rw [HE.out]; rfl, rfl⟩
  by_cases h30 : 30 < n
  · have HE : Hid (bfault m xs = 2) := hide (by unfold bfault; rw [if_neg (by omega), if_pos (by rw [HL.out]; exact h30)])
    go_enter Try.func48, Try.ntmps48
    go_wp2_with fail
    go_ret
    exact ⟨by rw [HE.out]; rfl, rfl⟩
  have HB : Hid (∀ k, k < n → okX m (xs.getD k 0) = false → bfault m xs = 3) := hide (fun k hk hb => bfault_bad (by omega) (by omega) (by rw [HL.out]; omega) (by rw [HL.out]; exact hk) hb)
  have HG : Hid ((∀ k, k < n → okX m (xs.getD k 0) = true) → bfault m xs = 0) := hide (fun hb => bfault_all (by omega) (by omega) (by rw [HL.out]; omega) (fun k hk => hb k (by rw [← HL.out]; exact hk)))
  have hwm : IntKind.i64.wrap (-m) = -m := by rw [IntKind.wrap_i64]; omega
  go_enter Try.func48, Try.ntmps48
  go_wp2_with fail
  go_loop [18] (fun iv => ∃ k : Nat, k ≤ n ∧ iv = .int .i64 k ∧ Hid (∀ j, j < k → okX m (xs.getD j 0) = true)) (fun iv => n - (intOf iv).toNat)
  case atStart => exact ⟨0, Nat.zero_le _, rfl, hide (fun j hj => absurd hj (by omega))⟩
  case round =>
    obtain ⟨k, hk, rfl, HP⟩ := hrel
    by_cases hlt : k < n
    · obtain ⟨ad, rfl, hx⟩ := HA.out.at_ hlt
      have HBK := hide (HB.out k hlt)
      have HN : Hid (okX m (xs.getD k 0) = true → ∀ j, j < k + 1 → okX m (xs.getD j 0) = true) := hide (fun h j hj => by
        rcases Nat.lt_or_ge j k with h2 | h2
        · exact HP.out j h2
        · rw [show j = k by omega]; exact h)
      clear HB HP
      generalize xs.getD k 0 = x at *
      by_cases hx0 : x = 0
      · have HV := hide (HBK.out (by subst hx0; unfold okX; simp))
        clear HN HBK
        subst hx0
        go_wp2_with fail
        go_ret
        exact ⟨by rw [HV.out]; rfl, rfl⟩
      by_cases hx1 : x ≤ -m
      · have HV := hide (HBK.out (by unfold okX; rw [decide_eq_false]; omega))
        have e0 : (x == 0) = false := by simpa using hx0
        clear HN HBK
        go_wp2_with fail
        go_ret
        exact ⟨by rw [HV.out]; rfl, rfl⟩
      by_cases hx2 : m ≤ x
      · have HV := hide (HBK.out (by unfold okX; rw [decide_eq_false]; omega))
        have e0 : (x == 0) = false := by simpa using hx0
        clear HN HBK
        go_wp2_with fail
        go_ret
        exact ⟨by rw [HV.out]; rfl, rfl⟩
      have HV := hide (HN.out (by unfold okX; rw [decide_eq_true]; omega))
      have e0 : (x == 0) = false := by simpa using hx0
      clear HN HBK
      go_wp2_with fail
      go_round
      case rel => exact ⟨k + 1, by omega, by go_num, HV⟩
      case measure => simp [intOf]; omega
    · have hkn : k = n := by omega
      subst hkn
      have HV := hide (HG.out HP.out)
      clear HP HG HB
      go_wp2_with fail
      go_ret
      exact ⟨by rw [HV.out]; rfl, rfl⟩

set_option maxRecDepth 100000 in
set_option maxHeartbeats 1000000 in
theorem gen_any (x : Int) (w : World) (h1 : -10 < x) (h2 : x < 10) : Calls Try.prog 86 #[.int .i64 x] w fun e w' => e = .returned (.int .i64 (x.natAbs : Int)) ∧ w = w' := by
  have hw : IntKind.i64.wrap (-x) = -x := by rw [IntKind.wrap_i64]; omega
  have HM : Hid (max x (-x) = (x.natAbs : Int)) := hide (by omega)
  go_enter Try.func86, Try.ntmps86
  go_wp2_with ((with_reducible show wpList _ _ _ (Oper.mk _ (.call { callee := .builtin .max, args := _, argTypes := _ }) _ _ _ _ :: _) _ _); refine wpList_gives rfl (gives_maxI rfl rfl rfl HM.out) ?_)
  go_ret
  exact ⟨rfl, rfl⟩

theorem expo_snoc (w : List Int) (x : Int) : LP.expo (w ++ [x]) = LP.expo w + Int.sign x := by
  rw [LP.expo_append, LP.expo_cons, LP.expo_nil, Int.add_zero]

set_option maxRecDepth 100000 in
set_option maxHeartbeats 2000000 in
theorem bexpo_any (m : Int) (A : Option Addr) (n c : Nat) (xs : List Int) (w : World) (ha : SL w A n c xs) (hm : (Lit.int .i64 m).wf = true) :
    Calls Try.prog 39 #[.int .i64 m, .slice A n c] w fun e w' => e = .returned (.tuple #[.int .i64 (expoB m xs), .int .i64 (bfault m xs)]) ∧ Below w.heap.size w w' := by
  have HC := hide (bcheck_any m A n c xs w ha hm)
  have HL := hide ha.il.len
  have HA := hide ha.il
  have hns := ha.il.small
  clear ha
  obtain ⟨f, hf⟩ : ∃ f, bfault m xs = f := ⟨_, rfl⟩
  have HF := hide hf
  rw [hf] at HC ⊢
  clear hf
  by_cases h0 : f = 0
  case neg =>
    have HV : Hid (expoB m xs = 0) := hide (by unfold expoB; rw [HF.out, if_neg h0])
    have hne : (f != 0) = true := by simpa using h0
    clear h0
    go_enter Try.func39, Try.ntmps39
    go_wp2_with fail
    refine HC.out.mono ?_
    rintro e w1 ⟨rfl, hww⟩
    subst hww
    go_wp2_with fail
    go_ret2
    exact ⟨by rw [HV.out]; rfl, Below.refl _ _⟩
  subst h0
  have HV : Hid (expoB m xs = LP.expo xs) := hide (by unfold expoB; rw [HF.out, if_pos rfl])
  have hn30 : n ≤ 30 := by have := (bfault_zero HF.out).2.2.1; rw [HL.out] at this; exact this
  go_enter Try.func39, Try.ntmps39
  go_wp2_with fail
  refine HC.out.mono ?_
  rintro e w1 ⟨rfl, hww⟩
  subst hww
  go_wp2_with fail
  go_loop [7, 18] (fun sv iv => ∃ k : Nat, k ≤ n ∧ iv = .int .i64 k ∧ sv = .int .i64 (LP.expo (xs.take k))) (fun _ iv => n - (intOf iv).toNat)
  case atStart => exact ⟨0, Nat.zero_le _, rfl, by rw [List.take_zero]; rfl⟩
  case round =>
    obtain ⟨k, hk, rfl, rfl⟩ := hrel
    by_cases hlt : k < n
    · obtain ⟨ad, rfl, hx⟩ := HA.out.at_ hlt
      have hlx : k < xs.length := by rw [HL.out]; exact hlt
      have hget : xs.getD k 0 = xs[k] := by simp [List.getD, List.getElem?_eq_getElem hlx]
      have HT : Hid (LP.expo (xs.take (k + 1)) = LP.expo (xs.take k) + cmp1 (xs.getD k 0) 0) := hide (by
        rw [List.take_succ_eq_append_getElem hlx, expo_snoc, hget]
        congr 1
        unfold cmp1
        rcases Int.lt_trichotomy xs[k] 0 with h | h | h
        · rw [Int.sign_eq_neg_one_of_neg h, if_pos h]
        · rw [h]; rfl
        · rw [Int.sign_eq_one_of_pos h, if_neg (by omega), if_pos h])
      have hE : (LP.expo (xs.take k)).natAbs ≤ 30 := by have := LP.expo_le (xs.take k); have := List.length_take_le k xs; omega
      have hC1 : (cmp1 (xs.getD k 0) 0).natAbs ≤ 1 := by unfold cmp1; split <;> (try split) <;> decide
      clear hlx hget
      generalize xs.getD k 0 = x at *
      generalize LP.expo (xs.take k) = s at *
      have HCM := hide (cmp_any x 0 w)
      generalize cmp1 x 0 = cx at *
      have hw : IntKind.i64.wrap (s + cx) = s + cx := by rw [IntKind.wrap_i64]; omega
      go_wp2_with fail
      refine HCM.out.mono ?_
      rintro e w1 ⟨rfl, hww⟩
      subst hww
      go_wp2_with fail
      go_round
      case rel => exact ⟨k + 1, by omega, by go_num, by rw [HT.out]⟩
      case measure => simp [intOf]; omega
    · have hkn : k = n := by omega
      have HE : Hid (LP.expo (xs.take k) = expoB m xs) := hide (by rw [HV.out, List.take_of_length_le (by rw [HL.out]; omega)])
      rw [HE.out]
      clear hkn
      go_wp2_with fail
      go_ret2
      exact ⟨rfl, Below.refl _ _⟩

theorem invw_step {xs : List Int} {k n : Nat} (hl : xs.length = n) (hk : k < n) : (List.replicate (n - k) 0 ++ invw (xs.take k)).set (n - 1 - k) (-(xs.getD k 0)) = List.replicate (n - (k + 1)) 0 ++ invw (xs.take (k + 1)) := by
  have hlx : k < xs.length := by omega
  have e1 : invw (xs.take (k + 1)) = -(xs.getD k 0) :: invw (xs.take k) := by
    rw [List.take_succ_eq_append_getElem hlx, show xs.getD k 0 = xs[k] by simp [List.getD, hlx]]
    unfold invw
    rw [List.map_append, List.reverse_append]
    rfl
  rw [e1, show n - k = (n - (k + 1)) + 1 by omega, List.replicate_succ', List.append_assoc, List.set_append_right _ _ (by simp; omega), List.length_replicate, show n - 1 - k - (n - (k + 1)) = 0 by omega]
  rfl

set_option maxRecDepth 100000 in
set_option maxHeartbeats 2000000 in
theorem binv_any (m : Int) (A : Option Addr) (n c : Nat) (xs : List Int) (w : World) (ha : SL w A n c xs) (hm : (Lit.int .i64 m).wf = true) :
    Calls Try.prog 32 #[.int .i64 m, .slice A n c] w (GivesLE w (bfault m xs) (invB m xs)) := by
  have HC := hide (bcheck_any m A n c xs w ha hm)
  have HL := hide ha.il.len
  have HA := hide ha.il
  have hns := ha.il.small
  clear ha
  obtain ⟨f, hf⟩ : ∃ f, bfault m xs = f := ⟨_, rfl⟩
  have HF := hide hf
  rw [hf] at HC ⊢
  clear hf
  by_cases h0 : f = 0
  case neg =>
    have HV : Hid (invB m xs = []) := hide (by unfold invB; rw [HF.out, if_neg h0])
    have hne : (f != 0) = true := by simpa using h0
    clear h0
    go_enter Try.func32, Try.ntmps32
    go_wp2_with fail
    refine HC.out.mono ?_
    rintro e w1 ⟨rfl, hww⟩
    subst hww
    go_wp2_with fail
    go_ret2
    exact ⟨none, 0, 0, rfl, by rw [HV.out]; exact SL.nil_ _, Below.refl _ _⟩
  subst h0
  have HV : Hid (invB m xs = invw xs) := hide (by unfold invB; rw [HF.out, if_pos rfl])
  have hz := bfault_zero HF.out
  have hn30 : n ≤ 30 := by have := hz.2.2.1; rw [HL.out] at this; exact this
  have HX : Hid (∀ k, k < n → -6 < xs.getD k 0 ∧ xs.getD k 0 < 6) := hide (fun k hk => by
    have hlx : k < xs.length := by rw [HL.out]; exact hk
    have := hz.2.2.2 (xs.getD k 0) (by rw [show xs.getD k 0 = xs[k] by simp [List.getD, hlx]]; exact List.getElem_mem _)
    omega)
  clear hz
  obtain ⟨i0, hi0, hz0, hz1, hz2⟩ := info_parts int_info
  go_enter Try.func32, Try.ntmps32
  go_wp2_with fail
  refine HC.out.mono ?_
  rintro e w1 ⟨rfl, hww⟩
  subst hww
  go_wp2_with (at_make; refine wpList_make_full _ rfl _ _ 22 rfl w.heap.size 3 i0 (.int .i64 0) 1 Try.underlying22 hi0 hz0 hz1 .i64 .i64 _ _ n rfl rfl rfl rfl (by rw [hz2]; omega) (by unfold maxLen; omega) (Nat.le_refl _) ?_; intro w2 hown2 hg2)
  have hB2 : Below w.heap.size w w2 := (Below.refl _ _).grown hg2 (Nat.le_refl _) (by intro k hk; cases hk)
  have hw2 := OwnI.zero (z := #[]) hown2 (by omega)
  have HO2 : Hid (OwnI w2 w.heap.size (some ⟨w.heap.size, 0, none⟩) n n (List.replicate (n - 0) 0 ++ invw (xs.take 0))) := hide (by
    rw [List.take_zero, Nat.sub_zero, show invw ([] : List Int) = [] from rfl, List.append_nil]; exact hw2)
  have HB2 := hide hB2
  clear hown2 hg2 hw2 hB2
  go_loopw [21] (fun i wr => ∃ k : Nat, k ≤ n ∧ i = .int .i64 k ∧ Hid (OwnI wr w.heap.size (some ⟨w.heap.size, 0, none⟩) n n (List.replicate (n - k) 0 ++ invw (xs.take k))) ∧ Hid (Below w.heap.size w wr)) (fun i _ => n - (intOf i).toNat)
  case atStart => exact ⟨0, Nat.zero_le _, rfl, HO2, HB2⟩
  case round =>
    clear HO2 HB2
    obtain ⟨k, hk, rfl, HO, HB⟩ := hrel
    by_cases hlt : k < n
    · obtain ⟨ad, rfl, hx⟩ := (HA.out.below HB.out).at_ hlt
      have hxx := HX.out k hlt
      have HS := hide (invw_step HL.out hlt)
      have hcell := HO.out.cell (j := n - 1 - k) (by omega)
      have hfr := HO.out.frozen (n - 1 - k)
      have HN := hide (HO.out.set_ (n - 1 - k) (-(xs.getD k 0)))
      rw [HS.out] at HN
      generalize xs.getD k 0 = x at *
      generalize (List.replicate (n - k) 0 ++ invw (xs.take k)).getD (n - 1 - k) 0 = z at *
      have hwx : IntKind.i64.wrap (-x) = -x := by rw [IntKind.wrap_i64]; omega
      obtain ⟨q, hq⟩ : ∃ q : Nat, n - 1 - k = q := ⟨_, rfl⟩
      rw [hq] at hcell hfr HN
      have hq2 : (n : Int) - 1 - (k : Int) = (q : Int) := by omega
      have HQ := hide hq2
      have hqn : q < n := by omega
      clear hq hq2 HS
      go_wp2_with (simp only [HQ.out])
      go_roundw
      case rel => exact ⟨k + 1, by omega, by go_num, HN, hide (HB.out.setCell (Nat.le_refl _) _)⟩
      case measure => simp [intOf]; omega
    · have hkn : k = n := by omega
      have HE : Hid (OwnI wr w.heap.size (some ⟨w.heap.size, 0, none⟩) n n (invw xs)) := hide (by
        have h := HO.out
        rw [hkn, Nat.sub_self, List.replicate_zero, List.nil_append, List.take_of_length_le (by rw [HL.out]; omega)] at h
        exact h)
      clear hkn HO
      go_wp2_with fail
      go_ret2
      exact ⟨_, _, _, rfl, by rw [HV.out]; exact HE.out.sl, HB.out⟩
end Go.Proofs.Ytoaiblhlpdaeoaa
/- Compose, Inverse, and the law's own compose. -/
namespace Go.Proofs.Ytoaiblhlpdaeoaa
set_option linter.unusedVariables false
set_option linter.unusedSimpArgs false
open Go.RowKit

/-- A slice in new memory, and no error. -/
def GivesOwn0 (w : World) (xs : List Int) (e : Ending) (w' : World) : Prop :=
  ∃ A n c, e = .returned (.tuple #[.slice A n c, .int .i64 0]) ∧ OwnI w' w.heap.size A n c xs ∧ Below w.heap.size w w'

set_option maxHeartbeats 1000000 in
theorem compose_ok (A B : Option Addr) (n m c d : Nat) (a b : List Nat) (w : World) (ha : IL w A n (zs a)) (hb : IL w B m (zs b)) (pa : isP a) (pb : isP b) (hl : a.length = b.length) (h9 : a.length ≤ 9) :
    Calls Try.prog 45 #[.slice A n c, .slice B m d] w (GivesOwn0 w (zs (comp a b))) := by
  have HA := hide (pa.pf h9)
  have HB := hide (pb.pf (by omega))
  have hnm : n = m := by have := ha.len; have := hb.len; rw [zs_length] at *; omega
  subst hnm
  have HAB : Hid (∀ x ∈ a, x < b.length) := fun x hx => by have := pa.1 x hx; omega
  clear pa pb hl h9
  go_enter Try.func45, Try.ntmps45
  go_wp2_with fail
  refine (check_any _ _ _ _ _ ha).mono ?_
  rw [HA.out]
  rintro e w1 ⟨rfl, hb1⟩
  go_wp2_with fail
  refine (check_any _ _ _ _ _ (hb.below hb1)).mono ?_
  rw [HB.out]
  rintro e w2 ⟨rfl, hb2⟩
  go_wp2_with fail
  have hb02 : Below w.heap.size w w2 := hb1.trans (hb2.mono hb1.size)
  refine (pcompose_any _ _ _ _ _ _ a b _ (ha.below hb02) (hb.below hb02) HAB.out).mono ?_
  rintro e w3 ⟨A3, n3, c3, rfl, hown, hb3⟩
  go_wp2
  go_ret2
  exact ⟨_, _, _, rfl, hown.mono hb02.size, hb02.trans (hb3.mono hb02.size)⟩

end Go.Proofs.Ytoaiblhlpdaeoaa
