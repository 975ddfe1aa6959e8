/- Plain mathematics on lists: permutations. -/
namespace Go.Proofs.Ytnpdlfnhpghkmaa
set_option linter.unusedVariables false
set_option linter.unusedSimpArgs false

/-- A list of natural numbers as integers. -/
def zs (a : List Nat) : List Int := a.map Int.ofNat
theorem zs_length (a : List Nat) : (zs a).length = a.length := by simp [zs]
theorem zs_getD (a : List Nat) (j : Nat) : (zs a).getD j 0 = ((a.getD j 0 : Nat) : Int) := by
  simp [zs, List.getD]
  cases a[j]? <;> simp
theorem zs_inj {a b : List Nat} (h : zs a = zs b) : a = b := by
  refine List.map_inj_right (f := Int.ofNat) (fun x y hxy => ?_) |>.1 h
  exact Int.ofNat.inj hxy

/-- The errors of Check, element by element. -/
def pfGo (n : Nat) (pre : List Int) : List Int → Int
  | [] => 0
  | x :: r => if x < 0 ∨ (n : Int) ≤ x then 1 else if x ∈ pre then 5 else pfGo n (pre ++ [x]) r
/-- The error of Check. -/
def pf (xs : List Int) : Int := if 9 < xs.length then 2 else pfGo xs.length [] xs

/-- A permutation. -/
def isP (a : List Nat) : Prop := (∀ x ∈ a, x < a.length) ∧ a.Nodup

theorem pfGo_zero (n : Nat) (pre xs : List Int) : pfGo n pre xs = 0 ↔ (∀ x ∈ xs, 0 ≤ x ∧ x < n) ∧ xs.Nodup ∧ (∀ x ∈ xs, x ∉ pre) := by
  induction xs generalizing pre with
  | nil => simp [pfGo]
  | cons x r ih =>
    rw [pfGo]
    by_cases h1 : x < 0 ∨ (n : Int) ≤ x
    · rw [if_pos h1]
      constructor
      · intro h; cases h
      · rintro ⟨h, _⟩
        have := h x (by simp)
        omega
    · rw [if_neg h1]
      by_cases h2 : x ∈ pre
      · rw [if_pos h2]
        constructor
        · intro h; cases h
        · rintro ⟨_, _, h⟩
          exact absurd h2 (h x (by simp))
      · rw [if_neg h2, ih]
        constructor
        · rintro ⟨a, b, c⟩
          refine ⟨?_, ?_, ?_⟩
          · intro y hy
            rcases List.mem_cons.1 hy with rfl | hy
            · omega
            · exact a y hy
          · rw [List.nodup_cons]
            refine ⟨fun hx => ?_, b⟩
            have := c x hx
            simp at this
          · intro y hy
            rcases List.mem_cons.1 hy with rfl | hy
            · exact h2
            · have := c y hy
              simp at this
              exact this.1
        · rintro ⟨a, b, c⟩
          rw [List.nodup_cons] at b
          refine ⟨fun y hy => a y (by simp [hy]), b.2, fun y hy => ?_⟩
          simp only [List.mem_append, List.mem_singleton, not_or]
          refine ⟨c y (by simp [hy]), ?_⟩
          rintro rfl
          exact b.1 hy

theorem pf_zero (xs : List Int) : pf xs = 0 ↔ xs.length ≤ 9 ∧ ∃ a, xs = zs a ∧ isP a := by
  unfold pf
  by_cases h : 9 < xs.length
  · rw [if_pos h]
    constructor
    · intro h; cases h
    · rintro ⟨h1, _⟩; omega
  · rw [if_neg h, pfGo_zero]
    constructor
    · rintro ⟨h1, h2, _⟩
      have e : xs = zs (xs.map Int.toNat) := by
        unfold zs
        rw [List.map_map]
        conv => lhs; rw [← List.map_id xs]
        apply List.map_congr_left
        intro x hx
        have := h1 x hx
        simp
        omega
      refine ⟨by omega, xs.map Int.toNat, e, ?_, ?_⟩
      · intro x hx
        obtain ⟨y, hy, rfl⟩ := List.mem_map.1 hx
        have := h1 y hy
        simp
        omega
      · rw [e] at h2
        unfold zs at h2
        exact List.Pairwise.of_map (S := fun a b => a ≠ b) Int.ofNat (fun a b hab => by intro h; subst h; exact hab rfl) h2
    · rintro ⟨h1, a, rfl, h3, h4⟩
      refine ⟨?_, ?_, by simp⟩
      · intro x hx
        obtain ⟨y, hy, rfl⟩ := List.mem_map.1 hx
        have := h3 y hy
        rw [zs_length]
        simp
        exact this
      · unfold zs
        exact List.Pairwise.map (S := fun a b => a ≠ b) Int.ofNat (fun a b hab => by intro h; exact hab (Int.ofNat.inj h)) h4

theorem pf_step {xs : List Int} {k : Nat} (hk : k < xs.length) :
    pfGo xs.length (xs.take k) (xs.drop k) = if xs.getD k 0 < 0 ∨ (xs.length : Int) ≤ xs.getD k 0 then 1 else if xs.getD k 0 ∈ xs.take k then 5 else pfGo xs.length (xs.take (k + 1)) (xs.drop (k + 1)) := by
  rw [List.drop_eq_getElem_cons hk, pfGo]
  have e : xs.getD k 0 = xs[k] := by simp [List.getD, List.getElem?_eq_getElem hk]
  rw [e, List.take_succ_eq_append_getElem hk]
theorem pf_end (xs : List Int) (n : Nat) (k : Nat) (hk : xs.length ≤ k) (pre : List Int) : pfGo n pre (xs.drop k) = 0 := by
  rw [List.drop_eq_nil_of_le hk]; rfl
/-- First a, then b. -/
def comp (a b : List Nat) : List Nat := a.map fun x => b.getD x 0
theorem comp_length (a b : List Nat) : (comp a b).length = a.length := by simp [comp]

theorem getD_map_nat {a : List Nat} {f : Nat → Nat} {j : Nat} (hj : j < a.length) : (a.map f).getD j 0 = f (a.getD j 0) := by
  simp [List.getD, List.getElem?_eq_getElem hj]
theorem comp_getD {a b : List Nat} {j : Nat} (hj : j < a.length) : (comp a b).getD j 0 = b.getD (a.getD j 0) 0 := getD_map_nat hj

/-- A list that is filled from the left: of n elements k are there. -/
def fillN (f : Nat → Int) (n k : Nat) : List Int := (List.range n).map fun j => if j < k then f j else 0
theorem fillN_zero (f : Nat → Int) (n : Nat) : fillN f n 0 = List.replicate n 0 := by
  apply List.ext_getElem?
  intro i
  by_cases hi : i < n <;> simp [fillN, hi]
theorem fillN_set (f : Nat → Int) (n k : Nat) : (fillN f n k).set k (f k) = fillN f n (k + 1) := by
  apply List.ext_getElem?
  intro i
  by_cases hi : i < n
  · by_cases hik : k = i
    · subst hik; simp [fillN, hi]
    · simp only [fillN, List.getElem?_set, hik, if_false, List.getElem?_map, List.getElem?_range hi, Option.map_some]
      by_cases h1 : i < k
      · rw [if_pos h1, if_pos (by omega)]
      · rw [if_neg h1, if_neg (by omega)]
  · rw [List.getElem?_eq_none (by simp [fillN]; omega), List.getElem?_eq_none (by simp [fillN]; omega)]
theorem fillN_full {f : Nat → Int} {n : Nat} {xs : List Int} (hl : xs.length = n) (h : ∀ j, j < n → f j = xs.getD j 0) : fillN f n n = xs := by
  apply List.ext_getElem?
  intro i
  by_cases hi : i < n
  · have h2 := h i hi
    simp [fillN, hi, h2, List.getD, List.getElem?_eq_getElem (show i < xs.length by omega)]
  · rw [List.getElem?_eq_none (by simp [fillN]; omega), List.getElem?_eq_none (by omega)]

/-- The error of Compose. -/
def cfault (xs ys : List Int) : Int := if pf xs ≠ 0 then pf xs else if pf ys ≠ 0 then pf ys else if xs.length ≠ ys.length then 3 else 0

theorem isP.pf {a : List Nat} (h : isP a) (h9 : a.length ≤ 9) : pf (zs a) = 0 := (pf_zero _).2 ⟨by rw [zs_length]; exact h9, a, rfl, h⟩

theorem nodup_length_le : ∀ (n : Nat) (l : List Nat), l.Nodup → (∀ x ∈ l, x < n) → l.length ≤ n := by
  intro n
  induction n with
  | zero =>
    intro l _ h
    rcases l with _ | ⟨x, r⟩
    · simp
    · exact absurd (h x (by simp)) (by omega)
  | succ n ih =>
    intro l hn h
    by_cases hm : n ∈ l
    · have h1 := ih (l.erase n) (hn.erase n) (fun x hx => by
        rw [hn.mem_erase_iff] at hx
        have := h x hx.2
        omega)
      rw [List.length_erase_of_mem hm] at h1
      omega
    · have h1 := ih l hn (fun x hx => by
        have := h x hx
        have : x ≠ n := fun e => hm (e ▸ hx)
        omega)
      omega

theorem isP.mem {a : List Nat} (h : isP a) {i : Nat} (hi : i < a.length) : i ∈ a := by
  apply Classical.byContradiction
  intro hm
  have := nodup_length_le a.length (i :: a) (by rw [List.nodup_cons]; exact ⟨hm, h.2⟩) (fun x hx => by
    rcases List.mem_cons.1 hx with rfl | hx
    · exact hi
    · exact h.1 x hx)
  simp at this
  omega
theorem getD_eq {a : List Nat} {j : Nat} (hj : j < a.length) : a.getD j 0 = a[j] := by
  simp [List.getD, List.getElem?_eq_getElem hj]
theorem getD_mem {a : List Nat} {j : Nat} (hj : j < a.length) : a.getD j 0 ∈ a := by
  simp [List.getD, List.getElem?_eq_getElem hj]
theorem isP.lt {a : List Nat} (h : isP a) {j : Nat} (hj : j < a.length) : a.getD j 0 < a.length := h.1 _ (getD_mem hj)
theorem isP.inj {a : List Nat} (h : isP a) {i j : Nat} (hi : i < a.length) (hj : j < a.length) (he : a.getD i 0 = a.getD j 0) : i = j := by
  have h2 := h.2
  simp [List.getD, List.getElem?_eq_getElem hi, List.getElem?_eq_getElem hj] at he
  exact (List.getElem_inj h2).1 he
theorem isP.surj {a : List Nat} (h : isP a) {i : Nat} (hi : i < a.length) : ∃ j, j < a.length ∧ a.getD j 0 = i := by
  obtain ⟨j, hj, he⟩ := List.mem_iff_getElem.1 (h.mem hi)
  exact ⟨j, hj, by simp [List.getD, List.getElem?_eq_getElem hj, he]⟩
theorem isP_of {a : List Nat} (h1 : ∀ j, j < a.length → a.getD j 0 < a.length) (h2 : ∀ i j, i < a.length → j < a.length → a.getD i 0 = a.getD j 0 → i = j) : isP a := by
  constructor
  · intro x hx
    obtain ⟨j, hj, he⟩ := List.mem_iff_getElem.1 hx
    have := h1 j hj
    simp [List.getD, List.getElem?_eq_getElem hj, he] at this
    exact this
  · rw [List.nodup_iff_pairwise_ne, List.pairwise_iff_getElem]
    intro i j hi hj hij he
    have := h2 i j hi hj (by simp [List.getD, List.getElem?_eq_getElem hi, List.getElem?_eq_getElem hj, he])
    omega
theorem list_ext_getD {a b : List Nat} (hl : a.length = b.length) (h : ∀ j, j < a.length → a.getD j 0 = b.getD j 0) : a = b := by
  apply List.ext_getElem hl
  intro i h1 h2
  have := h i h1
  simpa [List.getD, List.getElem?_eq_getElem h1, List.getElem?_eq_getElem h2] using this

/-- The inverse. -/
def inv (a : List Nat) : List Nat := (List.range a.length).map fun i => a.idxOf i
theorem inv_length (a : List Nat) : (inv a).length = a.length := by simp [inv]
theorem inv_getD_self {a : List Nat} (h : isP a) {j : Nat} (hj : j < a.length) : (inv a).getD (a.getD j 0) 0 = j := by
  have hl := h.lt hj
  have e : (inv a).getD (a.getD j 0) 0 = a.idxOf (a.getD j 0) := by
    simp [inv, List.getD, hl, List.getElem?_eq_getElem hj] at hl ⊢
    simp [hl]
  rw [e]
  have h1 : a.idxOf (a.getD j 0) < a.length := List.idxOf_lt_length_iff.2 (getD_mem hj)
  refine h.inj h1 hj ?_
  have : a[a.idxOf (a.getD j 0)]'h1 = a.getD j 0 := List.getElem_idxOf h1
  rw [show a.getD (a.idxOf (a.getD j 0)) 0 = a[a.idxOf (a.getD j 0)]'h1 from getD_eq h1]
  exact this
/-- Whoever undoes a is the inverse. -/
theorem inv_unique {a : List Nat} (h : isP a) {ps : List Int} (hl : ps.length = a.length) (hp : ∀ j, j < a.length → ps.getD (a.getD j 0) 0 = (j : Int)) : ps = zs (inv a) := by
  apply List.ext_getElem (by rw [hl, zs_length, inv_length])
  intro i h1 h2
  obtain ⟨j, hj, he⟩ := h.surj (i := i) (by omega)
  have e1 := hp j hj
  have e2 := inv_getD_self h hj
  rw [he] at e1 e2
  have e3 := zs_getD (inv a) i
  rw [e2] at e3
  simp only [List.getD, List.getElem?_eq_getElem h1, List.getElem?_eq_getElem h2, Option.getD_some] at e1 e3
  rw [e1, e3]

theorem comp_isP {a b : List Nat} (ha : isP a) (hb : isP b) (hl : a.length = b.length) : isP (comp a b) := by
  refine isP_of ?_ ?_
  · intro j hj
    rw [comp_length] at hj ⊢
    rw [comp_getD hj, hl]
    exact hb.lt (by rw [← hl]; exact ha.lt hj)
  · intro i j hi hj he
    rw [comp_length] at hi hj
    rw [comp_getD hi, comp_getD hj] at he
    exact ha.inj hi hj (hb.inj (by rw [← hl]; exact ha.lt hi) (by rw [← hl]; exact ha.lt hj) he)
theorem inv_isP {a : List Nat} (ha : isP a) : isP (inv a) := by
  refine isP_of ?_ ?_
  · intro i hi
    rw [inv_length] at hi ⊢
    obtain ⟨j, hj, rfl⟩ := ha.surj hi
    rw [inv_getD_self ha hj]
    exact hj
  · intro i k hi hk he
    rw [inv_length] at hi hk
    obtain ⟨j, hj, rfl⟩ := ha.surj hi
    obtain ⟨l, hl, rfl⟩ := ha.surj hk
    rw [inv_getD_self ha hj, inv_getD_self ha hl] at he
    rw [he]
theorem comp_assoc {a b c : List Nat} (hab : ∀ x ∈ a, x < b.length) : comp (comp a b) c = comp a (comp b c) := by
  refine list_ext_getD (by simp [comp_length]) ?_
  intro j hj
  rw [comp_length, comp_length] at hj
  rw [comp_getD (by rw [comp_length]; exact hj), comp_getD hj, comp_getD hj, comp_getD (hab _ (getD_mem hj))]
theorem range_getD {n j : Nat} (hj : j < n) : (List.range n).getD j 0 = j := by simp [List.getD, hj]
theorem comp_inv {a : List Nat} (ha : isP a) : comp a (inv a) = List.range a.length := by
  refine list_ext_getD (by simp [comp_length]) ?_
  intro j hj
  rw [comp_length] at hj
  rw [comp_getD hj, inv_getD_self ha hj, range_getD hj]
theorem inv_comp {a : List Nat} (ha : isP a) : comp (inv a) a = List.range a.length := by
  refine list_ext_getD (by simp [comp_length, inv_length]) ?_
  intro i hi
  rw [comp_length, inv_length] at hi
  obtain ⟨j, hj, rfl⟩ := ha.surj hi
  rw [comp_getD (by rw [inv_length]; exact hi), inv_getD_self ha hj, range_getD hi]
theorem range_isP (n : Nat) : isP (List.range n) := ⟨fun x hx => by simpa using hx, List.nodup_range⟩

end Go.Proofs.Ytnpdlfnhpghkmaa
