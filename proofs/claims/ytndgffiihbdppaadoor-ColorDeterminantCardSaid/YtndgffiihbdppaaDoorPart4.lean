/- Several texts in one. -/
import Derived.Test.YtndgffiihbdppaaDoorPart2
import Derived.Test.YtndgffiihbdppaaDoorPart3
import Derived.Test.YtndgffiihbdppaaDoorBase1
/- Colorings as solutions of linear equations (mathematics of stages 15 and 16). -/
namespace Go.Proofs.YtndgffiihbdppaaDoor
set_option linter.unusedVariables false
set_option linter.unusedSimpArgs false
open CR

/-- What a letter does to colors: the matrix of the letter for t = -1. -/
def kL (x : Int) : Mtx Int := fun r c =>
  if r + 1 = x.natAbs then (if 0 < x then (if c = r then 2 else if c = r + 1 then -1 else 0) else (if c = r + 1 then 1 else 0))
  else if r = x.natAbs then (if 0 < x then (if c + 1 = r then 1 else 0) else (if c + 1 = r then -1 else if c = r then 2 else 0))
  else if r = c then 1 else 0
theorem kL_row {x : Int} {n r : Nat} (h0 : x ≠ 0) (h1 : x.natAbs < n) (hr : r < n) (v : Nat → Int) : sumN n (fun k => kL x r k * v k) =
    if r + 1 = x.natAbs then (if 0 < x then 2 * v r - v (r + 1) else v (r + 1)) else if r = x.natAbs then (if 0 < x then v (r - 1) else 2 * v r - v (r - 1)) else v r := by
  unfold kL
  by_cases e1 : r + 1 = x.natAbs
  · simp only [if_pos e1]
    by_cases hx : 0 < x
    · simp only [if_pos hx]
      rw [sumN_two (a := r) (b := r + 1) hr (by omega) (by omega) (fun i _ h2 h3 => by rw [if_neg h2, if_neg h3]; exact Int.zero_mul _), if_pos rfl, if_neg (by omega), if_pos rfl]
      show 2 * v r + -1 * v (r + 1) = _
      omega
    · simp only [if_neg hx]
      rw [sumN_single (k := r + 1) (by omega) (fun i _ h2 => by rw [if_neg h2]; exact Int.zero_mul _), if_pos rfl]
      exact Int.one_mul _
  · simp only [if_neg e1]
    by_cases e2 : r = x.natAbs
    · simp only [if_pos e2]
      by_cases hx : 0 < x
      · simp only [if_pos hx]
        rw [sumN_single (k := r - 1) (by omega) (fun i _ h2 => by rw [if_neg (by omega)]; exact Int.zero_mul _), if_pos (by omega)]
        exact Int.one_mul _
      · simp only [if_neg hx]
        rw [sumN_two (a := r - 1) (b := r) (by omega) hr (by omega) (fun i _ h2 h3 => by rw [if_neg (by omega), if_neg h3]; exact Int.zero_mul _), if_pos (by omega), if_neg (by omega), if_pos rfl]
        show -1 * v (r - 1) + 2 * v r = _
        omega
    · simp only [if_neg e2]
      rw [sumN_single (k := r) hr (fun i _ h2 => by rw [if_neg (fun e => h2 e.symm)]; exact Int.zero_mul _), if_pos rfl]
      exact Int.one_mul _
/-- What a word does to colors. -/
def kM (n : Nat) : List Int → Mtx Int
  | [] => oneM
  | x :: w => mulM n (kM n w) (kL x)
theorem dvd_sumN {m : Int} {f : Nat → Int} : ∀ {n : Nat}, (∀ i, i < n → m ∣ f i) → m ∣ sumN n f
  | 0, _ => Int.dvd_zero m
  | n + 1, h => Int.dvd_add (dvd_sumN fun i hi => h i (by omega)) (h n (by omega))
theorem cSt_lin {m x : Int} {c : List Int} {n : Nat} (hl : c.length = n) (h0 : x ≠ 0) (h1 : x.natAbs < n) {j : Nat} (hj : j < n) : m ∣ (cSt m x c).getD j 0 - sumN n fun k => kL x j k * c.getD k 0 := by
  have e : ∀ z : Int, m ∣ z % m - z := fun z => ⟨-(z / m), by
    have h1 := Int.emod_def z m
    have h2 := Int.mul_neg m (z / m)
    omega⟩
  rw [cSt_getD hl h0 h1 hj, kL_row h0 h1 hj]
  by_cases e1 : j + 1 = x.natAbs
  · rw [if_pos e1, if_pos e1]
    split
    · exact e _
    · rw [Int.sub_self]; exact Int.dvd_zero m
  · rw [if_neg e1, if_neg e1]
    by_cases e2 : j = x.natAbs
    · rw [if_pos e2, if_pos e2]
      split
      · rw [Int.sub_self]; exact Int.dvd_zero m
      · exact e _
    · rw [if_neg e2, if_neg e2, Int.sub_self]; exact Int.dvd_zero m
theorem sumN_subI (f g : Nat → Int) : ∀ n, sumN n (fun i => f i - g i) = sumN n f - sumN n g
  | 0 => rfl
  | n + 1 => by
    show sumN n _ + (f n - g n) = sumN n f + f n - (sumN n g + g n)
    rw [sumN_subI f g n]
    omega
theorem cCol_lin {m : Int} {n : Nat} : ∀ {w c : List Int}, (∀ x ∈ w, x ≠ 0 ∧ x.natAbs < n) → c.length = n → ∀ j, j < n → m ∣ (cCol m w c).getD j 0 - sumN n fun k => kM n w j k * c.getD k 0
  | [], c, _, _, j, hj => by
    show m ∣ c.getD j 0 - sumN n fun k => oneM j k * c.getD k 0
    rw [sumN_single (k := j) hj (fun i _ h2 => by
      show (if j = i then (1 : Int) else 0) * _ = 0
      rw [if_neg (fun e => h2 e.symm)]; exact Int.zero_mul _)]
    have e : (oneM j j : Int) = 1 := if_pos rfl
    rw [e, Int.one_mul, Int.sub_self]
    exact Int.dvd_zero m
  | x :: w, c, hw, hl, j, hj => by
    have hx := hw x (by simp)
    have h1 := cCol_lin (m := m) (w := w) (c := cSt m x c) (fun y hy => hw y (by simp [hy])) (by rw [cSt_length]; exact hl) j hj
    have h2 : m ∣ sumN n fun k => kM n w j k * ((cSt m x c).getD k 0 - sumN n fun l => kL x k l * c.getD l 0) := dvd_sumN fun i hi => Int.dvd_mul_of_dvd_right (cSt_lin hl hx.1 hx.2 hi)
    have e3 : (sumN n fun k => kM n w j k * sumN n fun l => kL x k l * c.getD l 0) = sumN n fun k => kM n (x :: w) j k * c.getD k 0 := by
      show _ = sumN n fun k => (sumN n fun l => kM n w j l * kL x l k) * c.getD k 0
      have e4 : (sumN n fun k => (sumN n fun l => kM n w j l * kL x l k) * c.getD k 0) = sumN n fun k => sumN n fun l => kM n w j l * kL x l k * c.getD k 0 := sumN_congr fun i _ => by
        rw [Int.mul_comm]
        rw [show c.getD i 0 * (sumN n fun l => kM n w j l * kL x l i) = sumN n fun l => c.getD i 0 * (kM n w j l * kL x l i) from (sumN_mul _ _ _).symm]
        exact sumN_congr fun l _ => Int.mul_comm _ _
      rw [e4, sumN_swap]
      exact sumN_congr fun i _ => by
        rw [show kM n w j i * (sumN n fun l => kL x i l * c.getD l 0) = sumN n fun l => kM n w j i * (kL x i l * c.getD l 0) from (sumN_mul _ _ _).symm]
        exact sumN_congr fun l _ => (Int.mul_assoc _ _ _).symm
    have e5 : (sumN n fun k => kM n w j k * ((cSt m x c).getD k 0 - sumN n fun l => kL x k l * c.getD l 0)) = (sumN n fun k => kM n w j k * (cSt m x c).getD k 0) - sumN n fun k => kM n (x :: w) j k * c.getD k 0 := by
      rw [← e3, ← sumN_subI]
      exact sumN_congr fun i _ => Int.mul_sub _ _ _
    rw [e5] at h2
    have h6 := Int.dvd_add h1 h2
    show m ∣ (cCol m w (cSt m x c)).getD j 0 - _
    rw [show (cCol m w (cSt m x c)).getD j 0 - (sumN n fun k => kM n (x :: w) j k * c.getD k 0) = (cCol m w (cSt m x c)).getD j 0 - (sumN n fun k => kM n w j k * (cSt m x c).getD k 0) + ((sumN n fun k => kM n w j k * (cSt m x c).getD k 0) - sumN n fun k => kM n (x :: w) j k * c.getD k 0) by omega]
    exact h6
/-- The equations of the colorings. -/
def cEq (n : Nat) (w : List Int) : List (List Int) := (List.range n).map fun i => (List.range n).map fun j => kM n w i j - oneM i j
theorem cEq_row {n i : Nat} (w : List Int) (h : i < n) : ((cEq n w).getD i []).length = n := by simp [cEq, List.getD, h]
theorem cEq_length (n : Nat) (w : List Int) : (cEq n w).length = n := by simp [cEq]
theorem fix_iff {m : Nat} {n : Nat} {w : List Int} (hm : 1 ≤ m) (hw : ∀ x ∈ w, x ≠ 0 ∧ x.natAbs < n) (t : Nat) : cCol m w (digs m n t) = digs m n t ↔ solB (cEq n w) m t = true := by
  have hc := digs_isC (n := n) hm t
  have hf := hc.word hw
  have hd : ∀ k, k < n → (digs m n t).getD k 0 = digI m t k := fun k hk => by simp [digs, digI, List.getD, hk]
  have key : ∀ j, j < n → ((cCol m w (digs m n t)).getD j 0 = (digs m n t).getD j 0 ↔ (m : Int) ∣ sumN n fun k => (kM n w j k - oneM j k) * digI m t k) := fun j hj => by
    have h1 := cCol_lin (m := m) hw hc.len j hj
    have h2 := hf.col j hj
    have h3 := hc.col j hj
    have e : (sumN n fun k => (kM n w j k - oneM j k) * digI m t k) = (sumN n fun k => kM n w j k * (digs m n t).getD k 0) - (digs m n t).getD j 0 := by
      have e2 : (sumN n fun k => (oneM j k : Int) * (digs m n t).getD k 0) = (digs m n t).getD j 0 := by
        rw [sumN_single (k := j) hj (fun i _ h2 => by
          show (if j = i then (1 : Int) else 0) * _ = 0
          rw [if_neg (fun e => h2 e.symm)]; exact Int.zero_mul _)]
        have e : (oneM j j : Int) = 1 := if_pos rfl
        rw [e, Int.one_mul]
      rw [← e2, ← sumN_subI]
      exact sumN_congr fun i hi => by rw [hd i hi]; exact Int.sub_mul _ _ _
    rw [e]
    generalize (cCol (m : Int) w (digs m n t)).getD j 0 = a at *
    generalize (digs m n t).getD j 0 = b at *
    generalize (sumN n fun k => kM n w j k * (digs m n t).getD k 0) = s at *
    refine ⟨fun h => ?_, fun h => ?_⟩
    · subst h
      have := Int.dvd_neg.2 h1
      rwa [Int.neg_sub] at this
    · have h4 := Int.dvd_add h1 h
      rw [show a - s + (s - b) = a - b by omega] at h4
      obtain ⟨q, hq⟩ := h4
      have hq0 : q = 0 := by
        rcases Int.lt_trichotomy q 0 with h | h | h
        · have := Int.mul_le_mul_of_nonneg_left (show q ≤ -1 by omega) (show (0 : Int) ≤ m by omega)
          omega
        · exact h
        · have := Int.mul_le_mul_of_nonneg_left (show 1 ≤ q by omega) (show (0 : Int) ≤ m by omega)
          omega
      rw [hq0, Int.mul_zero] at hq
      omega
  have hs : solB (cEq n w) m t = true ↔ ∀ j, j < n → (m : Int) ∣ sumN n fun k => (kM n w j k - oneM j k) * digI m t k := by
    unfold solB cEq
    rw [List.all_eq_true]
    have hr : ∀ j, j < n → ((dotI ((List.range n).map fun k => kM n w j k - oneM j k) (digI m t) % (m : Int) == 0) = true ↔ (m : Int) ∣ sumN n fun k => (kM n w j k - oneM j k) * digI m t k) := fun j hj => by
      have e : dotI ((List.range n).map fun k => kM n w j k - oneM j k) (digI m t) = sumN n fun k => (kM n w j k - oneM j k) * digI m t k := by
        unfold dotI
        rw [List.length_map, List.length_range]
        exact sumN_congr fun i hi => by simp [List.getD, hi]
      rw [e, beq_iff_eq]
      exact ⟨Int.dvd_of_emod_eq_zero, Int.emod_eq_zero_of_dvd⟩
    refine ⟨fun h j hj => (hr j hj).1 (h _ (List.mem_map.2 ⟨j, List.mem_range.2 hj, rfl⟩)), fun h r hr2 => ?_⟩
    obtain ⟨j, hj, rfl⟩ := List.mem_map.1 hr2
    exact (hr j (List.mem_range.1 hj)).2 (h j (List.mem_range.1 hj))
  rw [hs]
  refine ⟨fun h j hj => (key j hj).1 (by rw [h]), fun h => list_extI (by rw [hf.len, hc.len]) fun j hj => (key j (by rw [hf.len] at hj; exact hj)).2 (h j (by rw [hf.len] at hj; exact hj))⟩
/-- The number of colorings is a number of solutions. -/
theorem cntC_solN {m n : Nat} {w : List Int} (hm : 1 ≤ m) (hw : ∀ x ∈ w, x ≠ 0 ∧ x.natAbs < n) : cntC n m w = solN (cEq n w) n m := by
  unfold cntC solN
  refine List.countP_congr fun t _ => ?_
  rw [decide_eq_true_iff]
  exact fix_iff hm hw t
theorem cntC_solM {m n : Nat} {w : List Int} (hm : 1 ≤ m) (hw : ∀ x ∈ w, x ≠ 0 ∧ x.natAbs < n) : cntC n m w = solM n n m (matF (cEq n w)) := by
  rw [cntC_solN hm hw, solN_solM (by omega) (fun i hi => cEq_row w (by rw [cEq_length] at hi; exact hi)), cEq_length]
end Go.Proofs.YtndgffiihbdppaaDoor
/- Numbers of colorings: multiples of the modulus; one equation and one color less (mathematics of stage 16). -/
namespace Go.Proofs.YtndgffiihbdppaaDoor
set_option linter.unusedVariables false
set_option linter.unusedSimpArgs false
open CR

theorem El.sumCol {n N : Nat} (A : Mtx Int) : ∀ t, t ≤ N → El n (N + 1) A fun i j => if j = N then A i N + sumN t (fun l => A i l) else A i j
  | 0, _ => .ext fun i hi j hj => by
    by_cases h : j = N
    · simp only [if_pos h, sumN_zero]
      subst h
      exact (Int.add_zero _).symm
    · simp only [if_neg h]
  | t + 1, ht => by
    have h1 := El.sumCol A t (by omega) (n := n) (N := N)
    have h2 := El.col (n := n) (m := N + 1) (fun i j => if j = N then A i N + sumN t (fun l => A i l) else A i j) N t 1 (by omega) (by omega) (by omega)
    refine (h1.trans h2).trans (.ext fun i hi j hj => ?_)
    unfold turnM addR updR
    by_cases h : j = N
    · simp only [if_pos h, if_pos rfl, if_neg (show ¬ t = N by omega), sumN_succ]
      simp only [if_true]
      omega
    · simp only [if_neg h]
theorem sN_const (q c : Nat) : sN q (fun _ => c) = q * c := by
  have h := sN_mul c (fun _ => 1) q
  rw [sN_one] at h
  rw [← h]
  exact sN_congr fun i _ => (Nat.one_mul c).symm
theorem sol_free {n N q : Nat} {A : Mtx Int} (h : ∀ i, i < n → A i N = 0) : solM n (N + 1) q A = q * solM n N q A := by
  show sN q (fun x => sV q N fun v => solI n (N + 1) q A (updV v N x)) = _
  rw [show (fun x : Nat => sV q N fun v => solI n (N + 1) q A (updV v N x)) = fun _ => solM n N q A from ?_, sN_const]
  funext x
  refine sV_congr fun v _ => ?_
  unfold solI
  have e : ∀ i, i < n → (sumN (N + 1) fun j => A i j * updV v N x j) = sumN N fun j => A i j * v j := fun i hi => by
    rw [sumN_succ, h i hi, sumN_congr (f := fun j => A i j * updV v N x j) (g := fun j => A i j * v j) fun j hj => by rw [updV_ne v _ (by omega)]]
    exact (congrArg _ (Int.zero_mul _)).trans (Int.add_zero _)
  have e2 : (∀ i, i < n → (q : Int) ∣ sumN (N + 1) fun j => A i j * updV v N x j) ↔ ∀ i, i < n → (q : Int) ∣ sumN N fun j => A i j * v j :=
    forall_congr' fun i => imp_congr_right fun hi => by rw [e i hi]
  simp only [e2]
/-- Rows whose sums are 0: one unknown is free. -/
theorem sol_rows {n N q : Nat} (hq : 0 < q) {A : Mtx Int} (h : ∀ i, i < n → sumN (N + 1) (fun j => A i j) = 0) : solM n (N + 1) q A = q * solM n N q A := by
  rw [El.sol hq (El.sumCol A N (Nat.le_refl N)), sol_free (fun i hi => by
    simp only [if_true]
    have := h i hi
    rw [sumN_succ] at this
    omega)]
  congr 1
  refine sV_congr fun v _ => solI_congr (forall_congr' fun i => imp_congr_right fun _ => ?_)
  rw [sumN_congr (f := fun j => (if j = N then A i N + sumN N (fun l => A i l) else A i j) * v j) (g := fun j => A i j * v j) fun j hj => by rw [if_neg (by omega)]]
/-- A last row that is a combination of the others asks nothing more. -/
theorem sol_last {N m q : Nat} {A : Mtx Int} {u : Nat → Int} (hu : u N = 1 ∨ u N = -1) (h : ∀ j, j < m → sumN (N + 1) (fun i => u i * A i j) = 0) : solM (N + 1) m q A = solM N m q A := by
  refine sV_congr fun v _ => ?_
  unfold solI
  have e2 : (∀ i, i < N + 1 → (q : Int) ∣ sumN m fun j => A i j * v j) ↔ ∀ i, i < N → (q : Int) ∣ sumN m fun j => A i j * v j := by
    refine ⟨fun k i hi => k i (by omega), fun k i hi => ?_⟩
    by_cases hN : i = N
    · subst hN
      have h0 : sumN (i + 1) (fun r => u r * sumN m fun j => A r j * v j) = 0 := by
        have e : (sumN (i + 1) fun r => u r * sumN m fun j => A r j * v j) = sumN (i + 1) fun r => sumN m fun j => u r * (A r j * v j) := sumN_congr fun r _ => (sumN_mul _ _ _).symm
        rw [e, sumN_swap]
        refine sumN_none fun j hj => ?_
        have e3 : (sumN (i + 1) fun r => u r * (A r j * v j)) = v j * sumN (i + 1) fun r => u r * A r j := by
          rw [← show sumN (i + 1) (fun r => v j * (u r * A r j)) = _ from sumN_mul _ _ _]
          exact sumN_congr fun r _ => by
            show u r * (A r j * v j) = v j * (u r * A r j)
            rw [← Int.mul_assoc, Int.mul_comm]
        rw [e3, h j hj]
        exact Int.mul_zero _
      rw [sumN_succ] at h0
      have h1 : (q : Int) ∣ sumN i fun r => u r * sumN m fun j => A r j * v j := dvd_sumN fun r hr => Int.dvd_mul_of_dvd_right (k r hr)
      generalize (sumN m fun j => A i j * v j) = s at *
      generalize (sumN i fun r => u r * sumN m fun j => A r j * v j) = t at *
      have h0' : t + u i * s = 0 := h0
      rcases hu with e | e
      · rw [e, Int.one_mul] at h0'
        have : s = -t := by omega
        rw [this]
        exact Int.dvd_neg.2 h1
      · rw [e] at h0'
        have : s = t := by omega
        rw [this]
        exact h1
    · exact k i (by omega)
  simp only [e2]

/-! ### colorings -/
theorem kL_sum {x : Int} {n r : Nat} (h0 : x ≠ 0) (h1 : x.natAbs < n) (hr : r < n) : sumN n (fun k => kL x r k) = 1 := by
  have h := kL_row h0 h1 hr (fun _ => 1)
  rw [sumN_congr (f := fun k => kL x r k * 1) (g := fun k => kL x r k) fun k _ => Int.mul_one _] at h
  rw [h]
  split
  · split <;> omega
  · split
    · split <;> omega
    · rfl
theorem sum_oneM {n r : Nat} (hr : r < n) : sumN n (fun k => (oneM r k : Int)) = 1 := by
  rw [sumN_single (f := fun k => (oneM r k : Int)) (k := r) hr (fun i _ h => show (oneM r i : Int) = 0 from if_neg (fun e => h e.symm))]
  exact if_pos rfl
theorem kM_sum {n : Nat} : ∀ {w : List Int}, (∀ x ∈ w, x ≠ 0 ∧ x.natAbs < n) → ∀ r, r < n → sumN n (fun k => kM n w r k) = 1
  | [], _, r, hr => by
    exact sum_oneM hr
  | x :: w, hw, r, hr => by
    have hx := hw x (by simp)
    show sumN n (fun k => sumN n fun l => kM n w r l * kL x l k) = 1
    rw [sumN_swap]
    have e : (sumN n fun l => sumN n fun k => kM n w r l * kL x l k) = sumN n fun l => kM n w r l := sumN_congr fun l hl => by
      rw [show (sumN n fun k => kM n w r l * kL x l k) = kM n w r l * sumN n fun k => kL x l k from sumN_mul _ _ _, kL_sum hx.1 hx.2 hl]
      exact Int.mul_one _
    rw [e]
    exact kM_sum (fun y hy => hw y (by simp [hy])) r hr
def altS (r : Nat) : Int := if r % 2 = 0 then 1 else -1
theorem altS_succ (r : Nat) : altS (r + 1) = -altS r := by unfold altS; split <;> split <;> omega
theorem kL_col {x : Int} {n c : Nat} (h0 : x ≠ 0) (h1 : x.natAbs < n) (hc : c < n) : sumN n (fun r => altS r * kL x r c) = altS c := by
  obtain ⟨a, ha⟩ : ∃ a, x.natAbs = a + 1 := ⟨x.natAbs - 1, by omega⟩
  have hs := altS_succ a
  have e1 : kL x a a = if 0 < x then 2 else 0 := by unfold kL; rw [ha]; grind
  have e2 : kL x (a + 1) a = if 0 < x then 1 else -1 := by unfold kL; rw [ha]; grind
  have e3 : kL x a (a + 1) = if 0 < x then -1 else 1 := by unfold kL; rw [ha]; grind
  have e4 : kL x (a + 1) (a + 1) = if 0 < x then 0 else 2 := by unfold kL; rw [ha]; grind
  by_cases c1 : c = a ∨ c = a + 1
  · rw [sumN_two (f := fun r => altS r * kL x r c) (a := a) (b := a + 1) (by omega) (by omega) (by omega) (fun i _ h2 h3 => by
      have e : kL x i c = 0 := by unfold kL; rw [ha]; grind
      show altS i * kL x i c = 0
      rw [e]
      exact Int.mul_zero _)]
    rcases c1 with e | e
    · subst e
      show altS c * kL x c c + altS (c + 1) * kL x (c + 1) c = _
      rw [e1, e2]
      split <;> omega
    · subst e
      show altS a * kL x a (a + 1) + altS (a + 1) * kL x (a + 1) (a + 1) = _
      rw [e3, e4]
      split <;> omega
  · rw [sumN_single (f := fun r => altS r * kL x r c) (k := c) hc (fun i _ h2 => by
      have e : kL x i c = 0 := by unfold kL; rw [ha]; grind
      show altS i * kL x i c = 0
      rw [e]
      exact Int.mul_zero _)]
    have e : kL x c c = 1 := by unfold kL; rw [ha]; grind
    show altS c * kL x c c = _
    rw [e]
    exact Int.mul_one _
theorem kM_col {n : Nat} : ∀ {w : List Int}, (∀ x ∈ w, x ≠ 0 ∧ x.natAbs < n) → ∀ c, c < n → sumN n (fun r => altS r * kM n w r c) = altS c
  | [], _, c, hc => by
    show sumN n (fun r => altS r * oneM r c) = altS c
    rw [sumN_single (k := c) hc (fun i _ h => by
      have e : (oneM i c : Int) = 0 := if_neg h
      rw [e]; exact Int.mul_zero _)]
    have e : (oneM c c : Int) = 1 := if_pos rfl
    rw [e]
    exact Int.mul_one _
  | x :: w, hw, c, hc => by
    have hx := hw x (by simp)
    show sumN n (fun r => altS r * sumN n fun l => kM n w r l * kL x l c) = altS c
    have e : (sumN n fun r => altS r * sumN n fun l => kM n w r l * kL x l c) = sumN n fun r => sumN n fun l => altS r * (kM n w r l * kL x l c) := sumN_congr fun r _ => (sumN_mul _ _ _).symm
    rw [e, sumN_swap]
    have e2 : (sumN n fun l => sumN n fun r => altS r * (kM n w r l * kL x l c)) = sumN n fun l => altS l * kL x l c := sumN_congr fun l hl => by
      have e3 : (sumN n fun r => altS r * (kM n w r l * kL x l c)) = kL x l c * sumN n fun r => altS r * kM n w r l := by
        rw [← show sumN n (fun r => kL x l c * (altS r * kM n w r l)) = _ from sumN_mul _ _ _]
        exact sumN_congr fun r _ => by
          show altS r * (kM n w r l * kL x l c) = kL x l c * (altS r * kM n w r l)
          rw [← Int.mul_assoc, Int.mul_comm]
      rw [e3, kM_col (fun y hy => hw y (by simp [hy])) l hl]
      exact Int.mul_comm _ _
    rw [e2]
    exact kL_col hx.1 hx.2 hc
theorem matF_cEq {n i j : Nat} (w : List Int) (hi : i < n) (hj : j < n) : matF (cEq n w) i j = kM n w i j - oneM i j := by
  unfold matF cEq
  simp [List.getD, hi, hj]
/-- One color is free, and one equation follows from the others. -/
theorem cntC_red {N m : Nat} {w : List Int} (hm : 1 ≤ m) (hw : ∀ x ∈ w, x ≠ 0 ∧ x.natAbs < N + 1) : cntC (N + 1) m w = m * solM N N m (fun i j => kM (N + 1) w i j - oneM i j) := by
  rw [cntC_solM hm hw, sol_rows (by omega) (fun i hi => by
    rw [sumN_congr (g := fun j => kM (N + 1) w i j - oneM i j) fun j hj => matF_cEq w hi hj, sumN_subI, kM_sum hw i hi]
    show (1 : Int) - sumN (N + 1) (fun l => (oneM i l : Int)) = 0
    rw [sum_oneM hi]; rfl)]
  congr 1
  rw [sol_last (u := altS) (by unfold altS; split <;> simp) (fun j hj => by
    have e : (sumN (N + 1) fun i => altS i * matF (cEq (N + 1) w) i j) = sumN (N + 1) fun i => altS i * kM (N + 1) w i j - altS i * oneM i j := sumN_congr fun i hi => by
      rw [matF_cEq w hi (by omega)]
      exact Int.mul_sub _ _ _
    rw [e, sumN_subI, kM_col hw j (by omega), sumN_single (k := j) (by omega) (fun l _ h => by
      have e : (oneM l j : Int) = 0 := if_neg h
      rw [e]; exact Int.mul_zero _)]
    have e : (oneM j j : Int) = 1 := if_pos rfl
    rw [e]
    show altS j - altS j * 1 = 0
    omega)]
  exact sV_congr fun v _ => solI_congr (forall_congr' fun i => imp_congr_right fun hi => by
    rw [sumN_congr (f := fun j => matF (cEq (N + 1) w) i j * v j) (g := fun j => (kM (N + 1) w i j - oneM i j) * v j) fun j hj => by rw [matF_cEq w (by omega) (by omega)]])
end Go.Proofs.YtndgffiihbdppaaDoor
/- Components of a closed braid, and colorings modulo 2 (mathematics of stage 16). -/
namespace Go.Proofs.YtndgffiihbdppaaDoor
set_option linter.unusedVariables false
set_option linter.unusedSimpArgs false

/-- The strands of each component, in increasing order; the components by their smallest strands. -/
def prtL (a : List Nat) : List (List Nat) := ((List.range a.length).filter fun i => isMin a i).map fun i => (List.range a.length).filter fun j => decide (j ∈ cyc a i)
/-- The smallest strand of a component. -/
def repS (a : List Nat) (s : Nat) : Nat := srch (fun p => isMin a p && decide (p ∈ cyc a s)) a.length 0
theorem isMin_iff {a : List Nat} {i : Nat} : isMin a i = true ↔ ∀ x ∈ cyc a i, i ≤ x := by unfold isMin; exact decide_eq_true_iff
theorem repS_spec {a : List Nat} (h : isP a) {s : Nat} (hs : s < a.length) : repS a s < a.length ∧ repS a s ∈ cyc a s ∧ isMin a (repS a s) = true := by
  obtain ⟨m, h1, h2, h3⟩ := min_ex h hs
  obtain ⟨k1, k2, k3, _⟩ := srch_spec (fun p => isMin a p && decide (p ∈ cyc a s)) a.length 0 ⟨m, Nat.zero_le _, by omega, by rw [h3, decide_eq_true h2]; rfl⟩
  rw [Bool.and_eq_true, decide_eq_true_iff] at k3
  exact ⟨by unfold repS; omega, k3.2, k3.1⟩
theorem repS_le {a : List Nat} (h : isP a) {s : Nat} (hs : s < a.length) : repS a s ≤ s := by
  obtain ⟨h1, h2, h3⟩ := repS_spec h hs
  exact isMin_iff.1 h3 s (cyc_symm h hs h2)
theorem repS_min {a : List Nat} (h : isP a) {s : Nat} (hs : s < a.length) : repS a s = s ↔ isMin a s = true := by
  obtain ⟨h1, h2, h3⟩ := repS_spec h hs
  refine ⟨fun e => by rw [e] at h3; exact h3, fun hm => ?_⟩
  have := isMin_iff.1 hm _ h2
  have := repS_le h hs
  omega
/-! ### colors modulo 2 -/
end Go.Proofs.YtndgffiihbdppaaDoor
/- Where strands end: permutations of braid words (mathematics). -/
namespace Go.Proofs.YtndgffiihbdppaaDoor
set_option linter.unusedVariables false
set_option linter.unusedSimpArgs false

theorem endE_inj {w : List Int} (h : ∀ x ∈ w, x ≠ 0) {s t : Nat} (e : endE w s = endE w t) : s = t := by
  have h1 := endE_inv w h s
  have h2 := endE_inv w h t
  rw [endE_append] at h1 h2
  rw [← h1, e, h2]
theorem ends_isP {n : Nat} {w : List Int} (h : okB n w) : isP (endsL n w) := by
  refine ⟨fun x hx => ?_, ?_⟩
  · rw [endsL_length]
    obtain ⟨s, hs, rfl⟩ := List.mem_map.1 hx
    exact endE_lt h (List.mem_range.1 hs)
  · unfold endsL
    rw [List.nodup_iff_pairwise_ne, List.pairwise_map]
    exact List.nodup_range.imp fun hne e => hne (endE_inj (fun x hx => (h x hx).1) e)
end Go.Proofs.YtndgffiihbdppaaDoor
/- What package link is to answer. -/
namespace Go.Proofs.YtndgffiihbdppaaDoor
set_option linter.unusedVariables false
set_option linter.unusedSimpArgs false
open Go.RowKit

/-- The components of a closed braid. -/
def lkL (n : Int) (w : List Int) : List (List Int) := if bfault n w = 0 then (prtL (endsL n.toNat w)).map zs else []
/-- Where the component of a strand stands. -/
def lkAt (a : List Nat) (s : Nat) : Nat := (prtL a).findIdx fun c => decide (s ∈ c)
def lkK (n : Int) (w : List Int) : Bool := decide (bfault n w = 0) && decide ((prtL (endsL n.toNat w)).length = 1)
/-- Lists of lists and an error. -/
def GivesLK (w : World) (err : Int) (xss : List (List Int)) (e : Ending) (w' : World) : Prop :=
  ∃ A n c, e = .returned (.tuple #[.slice A n c, .int .i64 err]) ∧ SLL w' A n c xss ∧ Below w.heap.size w w'
/-- Package link, as the document asks. -/
structure LinkC : Prop where
  parts : ∀ (m : Int) (A : Option Addr) (n c : Nat) (xs : List Int) (w : World), SL w A n c xs → (Lit.int .i64 m).wf = true → Calls Tryd.prog 8 #[.int .i64 m, .slice A n c] w (GivesLK w (bfault m xs) (lkL m xs)) -- 8
  knot : ∀ (m : Int) (A : Option Addr) (n c : Nat) (xs : List Int) (w : World), SL w A n c xs → (Lit.int .i64 m).wf = true → Calls Tryd.prog 14 #[.int .i64 m, .slice A n c] w fun e w' => e = .returned (.tuple #[.bool (lkK m xs), .int .i64 (bfault m xs)]) ∧ Below w.heap.size w w' -- 14
theorem lkK_ok {n : Nat} {w : List Int} (h : bfault (n : Int) w = 0) : lkK (n : Int) w = decide ((prtL (endsL n w)).length = 1) := by
  unfold lkK
  rw [decide_eq_true h, Bool.true_and, Int.toNat_natCast]
theorem prtL_le (a : List Nat) : (prtL a).length ≤ a.length := by
  unfold prtL
  rw [List.length_map]
  refine Nat.le_trans (List.length_filter_le _ _) (by rw [List.length_range]; exact Nat.le_refl _)
end Go.Proofs.YtndgffiihbdppaaDoor
/- Sums, and matrices whose rows are short sums of terms. (Split off XBuP: it needs no function of the program.) -/
namespace Go.Proofs.YtndgffiihbdppaaDoor
set_option linter.unusedVariables false
set_option linter.unusedSimpArgs false
open Go.RowKit
def sumK (f : Nat → Nat) : Nat → Nat
  | 0 => 0
  | n + 1 => sumK f n + f n
theorem sumK_le {f g : Nat → Nat} : ∀ {n : Nat}, (∀ i, i < n → f i ≤ g i) → sumK f n ≤ sumK g n
  | 0, _ => Nat.le_refl _
  | n + 1, h => Nat.add_le_add (sumK_le fun i hi => h i (by omega)) (h n (by omega))
theorem sumK_mul (c : Nat) (f : Nat → Nat) : ∀ n, sumK (fun i => c * f i) n = c * sumK f n
  | 0 => rfl
  | n + 1 => by
    show sumK (fun i => c * f i) n + c * f n = c * (sumK f n + f n)
    rw [sumK_mul c f n, Nat.mul_add]
theorem sumK_mulr (c : Nat) (f : Nat → Nat) (n : Nat) : sumK (fun i => f i * c) n = sumK f n * c := by
  rw [Nat.mul_comm, ← sumK_mul]
  congr 1
  funext i
  exact Nat.mul_comm _ _
theorem sumK_add (f g : Nat → Nat) : ∀ n, sumK (fun i => f i + g i) n = sumK f n + sumK g n
  | 0 => rfl
  | n + 1 => by
    show sumK (fun i => f i + g i) n + (f n + g n) = sumK f n + f n + (sumK g n + g n)
    rw [sumK_add f g n]; omega
theorem sumK_zero : ∀ n, sumK (fun _ => 0) n = 0
  | 0 => rfl
  | n + 1 => sumK_zero n
theorem sumK_swap (f : Nat → Nat → Nat) (m : Nat) : ∀ n, sumK (fun i => sumK (fun j => f i j) m) n = sumK (fun j => sumK (fun i => f i j) n) m
  | 0 => by
    show 0 = sumK (fun _ => 0) m
    rw [sumK_zero]
  | n + 1 => by
    show sumK (fun i => sumK (fun j => f i j) m) n + sumK (fun j => f n j) m = sumK (fun j => sumK (fun i => f i j) n + f n j) m
    rw [sumK_swap f m n, sumK_add]
theorem sumK_one {f : Nat → Nat} : ∀ {n i : Nat}, i < n → f i ≤ sumK f n
  | n + 1, i, h => by
    show f i ≤ sumK f n + f n
    by_cases e : i = n
    · subst e; omega
    · have := sumK_one (f := f) (n := n) (i := i) (by omega); omega
theorem sumK_mono_ {f : Nat → Nat} : ∀ {n m : Nat}, m ≤ n → sumK f m ≤ sumK f n
  | 0, m, h => by obtain rfl : m = 0 := by omega
                  exact Nat.le_refl _
  | n + 1, m, h => by
    by_cases e : m = n + 1
    · subst e; exact Nat.le_refl _
    · exact Nat.le_trans (sumK_mono_ (show m ≤ n by omega)) (Nat.le_add_right _ _)
theorem LP.N1.sumK {f : Nat → LP} {g : Nat → Nat} {E : Nat} : ∀ {n : Nat}, (∀ i, i < n → LP.N1 (f i) E (g i)) → LP.N1 (CR.sumN n f) E (Proofs.YtndgffiihbdppaaDoor.sumK g n)
  | 0, _ => LP.N1.zero.mono (Nat.zero_le _) (Nat.zero_le _)
  | n + 1, h => by
    rw [CR.sumN_succ]
    exact (LP.N1.sumK fun i hi => h i (by omega)).add (h n (by omega))
/-- Each row is a short sum of terms. -/
def RN (n : Nat) (A : Mtx LP) (E V : Nat) : Prop := ∃ v : Nat → Nat → Nat, (∀ i, i < n → ∀ j, j < n → LP.N1 (A i j) E (v i j)) ∧ ∀ i, i < n → sumK (v i) n ≤ V
theorem RN.entry {n E V : Nat} {A : Mtx LP} (h : RN n A E V) {i j : Nat} (hi : i < n) (hj : j < n) : LP.N1 (A i j) E V := by
  obtain ⟨v, h1, h2⟩ := h
  exact (h1 i hi j hj).mono (Nat.le_refl _) (Nat.le_trans (sumK_one hj) (h2 i hi))
theorem RN.part {n E V E' V' : Nat} {A B : Mtx LP} (hA : RN n A E V) (hB : RN n B E' V') {i j m : Nat} (hi : i < n) (hj : j < n) (hm : m ≤ n) : LP.N1 (CR.sumN m fun k => A i k * B k j) (E + E') (V * V') := by
  obtain ⟨v, h1, h2⟩ := hA
  have h3 := LP.N1.sumK (n := m) (f := fun k => A i k * B k j) (g := fun k => v i k * V') (E := E + E') (fun k hk => (h1 i hi k (by omega)).mul (hB.entry (by omega) hj))
  refine h3.mono (Nat.le_refl _) ?_
  rw [sumK_mulr]
  refine Nat.mul_le_mul_right _ (Nat.le_trans ?_ (h2 i hi))
  exact sumK_mono_ hm
theorem RN.mul {n E V E' V' : Nat} {A B : Mtx LP} (hA : RN n A E V) (hB : RN n B E' V') : RN n (mulM n A B) (E + E') (V * V') := by
  obtain ⟨v, h1, h2⟩ := hA
  obtain ⟨u, h3, h4⟩ := hB
  refine ⟨fun i j => sumK (fun k => v i k * u k j) n, fun i hi j hj => LP.N1.sumK fun k hk => (h1 i hi k hk).mul (h3 k hk j hj), fun i hi => ?_⟩
  show sumK (fun j => sumK (fun k => v i k * u k j) n) n ≤ V * V'
  rw [sumK_swap]
  have e : sumK (fun k => sumK (fun j => v i k * u k j) n) n ≤ sumK (fun k => v i k * V') n := sumK_le fun k hk => by
    rw [sumK_mul]
    exact Nat.mul_le_mul_left _ (h4 k hk)
  refine Nat.le_trans e ?_
  rw [sumK_mulr]
  exact Nat.mul_le_mul_right _ (h2 i hi)
theorem RN.congr {n E V : Nat} {A B : Mtx LP} (h : RN n A E V) (e : EqM n A B) : RN n B E V := by
  obtain ⟨v, h1, h2⟩ := h
  exact ⟨v, fun i hi j hj => by rw [← e i hi j hj]; exact h1 i hi j hj, h2⟩
theorem RN.mono {n E V E' V' : Nat} {A : Mtx LP} (h : RN n A E V) (h1 : E ≤ E') (h2 : V ≤ V') : RN n A E' V' := by
  obtain ⟨v, h3, h4⟩ := h
  exact ⟨v, fun i hi j hj => (h3 i hi j hj).mono h1 (Nat.le_refl _), fun i hi => Nat.le_trans (h4 i hi) h2⟩
theorem oneM_rn (n : Nat) : RN n (oneM : Mtx LP) 0 1 := by
  refine ⟨fun i j => if j = i then 1 else 0, fun i _ j _ => ?_, fun i hi => ?_⟩
  · show LP.N1 (if i = j then 1 else 0) 0 (if j = i then 1 else 0)
    by_cases h : i = j
    · rw [if_pos h, if_pos h.symm]; exact LP.N1.one
    · rw [if_neg h, if_neg (fun e => h e.symm)]; exact LP.N1.zero
  · have h : ∀ m, sumK (fun j => if j = i then 1 else 0) m = if i < m then 1 else 0 := fun m => by
      induction m with
      | zero => rfl
      | succ m ih =>
        show sumK _ m + (if m = i then 1 else 0) = _
        rw [ih]
        split <;> split <;> split <;> omega
    rw [h, if_pos hi]
    exact Nat.le_refl _
theorem bl_rn (n : Nat) (x : Int) : RN n (bl x) 1 3 := by
  refine ⟨fun i j => if i + 1 = x.natAbs then (if j = i then 2 else if j = i + 1 then 1 else 0) else if i = x.natAbs then (if j + 1 = i then 1 else if j = i then 2 else 0) else if j = i then 1 else 0, fun i _ j _ => ?_, fun i hi => ?_⟩
  · have h1 : LP.N1 (1 + -tT) 1 2 := (LP.N1.one.mono (Nat.zero_le _) (Nat.le_refl _)).add (LP.N1.term 1 1).neg
    have h2 : LP.N1 (1 + -tI) 1 2 := (LP.N1.one.mono (Nat.zero_le _) (Nat.le_refl _)).add (LP.N1.term (-1) 1).neg
    have h3 : LP.N1 (1 : LP) 1 1 := LP.N1.one.mono (Nat.zero_le _) (Nat.le_refl _)
    have h4 : LP.N1 (0 : LP) 1 0 := LP.N1.zero.mono (Nat.zero_le _) (Nat.le_refl _)
    have h5 : LP.N1 tT 1 1 := LP.N1.term 1 1
    have h6 : LP.N1 tI 1 1 := LP.N1.term (-1) 1
    unfold bl
    by_cases a1 : i + 1 = x.natAbs
    · simp only [if_pos a1]
      by_cases a2 : 0 < x
      · simp only [if_pos a2]
        by_cases a3 : j = i
        · simp only [if_pos a3]; exact h1
        · simp only [if_neg a3]
          by_cases a4 : j = i + 1
          · simp only [if_pos a4]; exact h5
          · simp only [if_neg a4]; exact h4
      · simp only [if_neg a2]
        by_cases a4 : j = i + 1
        · simp only [if_pos a4, if_neg (show ¬ j = i by omega)]; exact h3
        · simp only [if_neg a4]; exact h4.mono (Nat.le_refl _) (Nat.zero_le _)
    · simp only [if_neg a1]
      by_cases b1 : i = x.natAbs
      · simp only [if_pos b1]
        by_cases a2 : 0 < x
        · simp only [if_pos a2]
          by_cases a3 : j + 1 = i
          · simp only [if_pos a3]; exact h3
          · simp only [if_neg a3]; exact h4.mono (Nat.le_refl _) (Nat.zero_le _)
        · simp only [if_neg a2]
          by_cases a3 : j + 1 = i
          · simp only [if_pos a3]; exact h6
          · simp only [if_neg a3]
            by_cases a4 : j = i
            · simp only [if_pos a4]; exact h2
            · simp only [if_neg a4]; exact h4
      · simp only [if_neg b1]
        by_cases a4 : i = j
        · simp only [if_pos a4, if_pos a4.symm]; exact h3
        · simp only [if_neg a4, if_neg (show ¬ j = i from fun e => a4 e.symm)]; exact h4
  · have hone : ∀ (a v : Nat) m, sumK (fun j => if j = a then v else 0) m = if a < m then v else 0 := fun a v m => by
      induction m with
      | zero => rfl
      | succ m ih =>
        show sumK _ m + (if m = a then v else 0) = _
        rw [ih]
        split <;> split <;> split <;> omega
    show sumK (fun j => if i + 1 = x.natAbs then (if j = i then 2 else if j = i + 1 then 1 else 0) else if i = x.natAbs then (if j + 1 = i then 1 else if j = i then 2 else 0) else if j = i then 1 else 0) n ≤ 3
    have hle : sumK (fun j => if i + 1 = x.natAbs then (if j = i then 2 else if j = i + 1 then 1 else 0) else if i = x.natAbs then (if j + 1 = i then 1 else if j = i then 2 else 0) else if j = i then 1 else 0) n ≤ sumK (fun j => (if j = i then 2 else 0) + ((if i + 1 = x.natAbs then (if j = i + 1 then 1 else 0) else (if j = i - 1 then 1 else 0)))) n := sumK_le fun j _ => by
      by_cases a1 : i + 1 = x.natAbs
      · simp only [if_pos a1]; split <;> split <;> omega
      · simp only [if_neg a1]
        by_cases b1 : i = x.natAbs
        · simp only [if_pos b1]; split <;> (try split) <;> split <;> omega
        · simp only [if_neg b1]; split <;> split <;> omega
    refine Nat.le_trans hle ?_
    rw [sumK_add, hone]
    by_cases a1 : i + 1 = x.natAbs
    · simp only [if_pos a1]; rw [hone]; split <;> split <;> omega
    · simp only [if_neg a1]; rw [hone]; split <;> split <;> omega
theorem bu_rn {n : Nat} : ∀ w : List Int, RN n (bu n w) w.length (3 ^ w.length)
  | [] => oneM_rn n
  | x :: w => by
    have h := (bl_rn n x).mul (bu_rn w)
    exact h.mono (by rw [List.length_cons]; omega) (by rw [List.length_cons, Nat.pow_succ, Nat.mul_comm]; exact Nat.le_refl _)
theorem pow3 {k : Nat} (h : k ≤ 16) : 3 ^ k ≤ 43046721 := by
  calc 3 ^ k ≤ 3 ^ 16 := Nat.pow_le_pow_right (by omega) h
    _ = 43046721 := by decide
end Go.Proofs.YtndgffiihbdppaaDoor
