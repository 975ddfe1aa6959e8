/- The mathematics, in one text. -/
import Derived.Below
import Derived.Laws.OwnMore
import Derived.Deep.Draws
import Derived.WalkKit
import Derived.Maps.AppendAt
import Derived.Deep.AppendLies
import Derived.Deep.RegionLaw
import Derived.RegionTactic
import Derived.OwnWalk
import Derived.Maps.OwnSet
import Derived.Deep.RegionHeld3
import Derived.Deep.MidRow
import Derived.ProofKit
import Derived.SizedLaws
/- Plain mathematics on lists: permutations. -/
namespace Go.Proofs.Ytnpdlfnhpghkmaa
set_option linter.unusedVariables false
set_option linter.unusedSimpArgs false

/-- A list of natural numbers as integers. -/
def zs (a : List Nat) : List Int := a.map Int.ofNat
theorem zs_length (a : List Nat) : (zs a).length = a.length := by simp [zs]
theorem zs_getD (a : List Nat) (j : Nat) : (zs a).getD j 0 = ((a.getD j 0 : Nat) : Int) := by
  simp [zs, List.getD]
  cases a[j]? <;> simp
theorem zs_inj {a b : List Nat} (h : zs a = zs b) : a = b := by
  refine List.map_inj_right (f := Int.ofNat) (fun x y hxy => ?_) |>.1 h
  exact Int.ofNat.inj hxy

/-- The errors of Check, element by element. -/
def pfGo (n : Nat) (pre : List Int) : List Int → Int
  | [] => 0
  | x :: r => if x < 0 ∨ (n : Int) ≤ x then 1 else if x ∈ pre then 5 else pfGo n (pre ++ [x]) r
/-- The error of Check. -/
def pf (xs : List Int) : Int := if 9 < xs.length then 2 else pfGo xs.length [] xs

/-- A permutation. -/
def isP (a : List Nat) : Prop := (∀ x ∈ a, x < a.length) ∧ a.Nodup

theorem pfGo_zero (n : Nat) (pre xs : List Int) : pfGo n pre xs = 0 ↔ (∀ x ∈ xs, 0 ≤ x ∧ x < n) ∧ xs.Nodup ∧ (∀ x ∈ xs, x ∉ pre) := by
  induction xs generalizing pre with
  | nil => simp [pfGo]
  | cons x r ih =>
    rw [pfGo]
    by_cases h1 : x < 0 ∨ (n : Int) ≤ x
    · rw [if_pos h1]
      constructor
      · intro h; cases h
      · rintro ⟨h, _⟩
        have := h x (by simp)
        omega
    · rw [if_neg h1]
      by_cases h2 : x ∈ pre
      · rw [if_pos h2]
        constructor
        · intro h; cases h
        · rintro ⟨_, _, h⟩
          exact absurd h2 (h x (by simp))
      · rw [if_neg h2, ih]
        constructor
        · rintro ⟨a, b, c⟩
          refine ⟨?_, ?_, ?_⟩
          · intro y hy
            rcases List.mem_cons.1 hy with rfl | hy
            · omega
            · exact a y hy
          · rw [List.nodup_cons]
            refine ⟨fun hx => ?_, b⟩
            have := c x hx
            simp at this
          · intro y hy
            rcases List.mem_cons.1 hy with rfl | hy
            · exact h2
            · have := c y hy
              simp at this
              exact this.1
        · rintro ⟨a, b, c⟩
          rw [List.nodup_cons] at b
          refine ⟨fun y hy => a y (by simp [hy]), b.2, fun y hy => ?_⟩
          simp only [List.mem_append, List.mem_singleton, not_or]
          refine ⟨c y (by simp [hy]), ?_⟩
          rintro rfl
          exact b.1 hy

theorem pf_zero (xs : List Int) : pf xs = 0 ↔ xs.length ≤ 9 ∧ ∃ a, xs = zs a ∧ isP a := by
  unfold pf
  by_cases h : 9 < xs.length
  · rw [if_pos h]
    constructor
    · intro h; cases h
    · rintro ⟨h1, _⟩; omega
  · rw [if_neg h, pfGo_zero]
    constructor
    · rintro ⟨h1, h2, _⟩
      have e : xs = zs (xs.map Int.toNat) := by
        unfold zs
        rw [List.map_map]
        conv => lhs; rw [← List.map_id xs]
        apply List.map_congr_left
        intro x hx
        have := h1 x hx
        simp
        omega
      refine ⟨by omega, xs.map Int.toNat, e, ?_, ?_⟩
      · intro x hx
        obtain ⟨y, hy, rfl⟩ := List.mem_map.1 hx
        have := h1 y hy
        simp
        omega
      · rw [e] at h2
        unfold zs at h2
        exact List.Pairwise.of_map (S := fun a b => a ≠ b) Int.ofNat (fun a b hab => by intro h; subst h; exact hab rfl) h2
    · rintro ⟨h1, a, rfl, h3, h4⟩
      refine ⟨?_, ?_, by simp⟩
      · intro x hx
        obtain ⟨y, hy, rfl⟩ := List.mem_map.1 hx
        have := h3 y hy
        rw [zs_length]
        simp
        exact this
      · unfold zs
        exact List.Pairwise.map (S := fun a b => a ≠ b) Int.ofNat (fun a b hab => by intro h; exact hab (Int.ofNat.inj h)) h4

theorem pf_step {xs : List Int} {k : Nat} (hk : k < xs.length) :
    pfGo xs.length (xs.take k) (xs.drop k) = if xs.getD k 0 < 0 ∨ (xs.length : Int) ≤ xs.getD k 0 then 1 else if xs.getD k 0 ∈ xs.take k then 5 else pfGo xs.length (xs.take (k + 1)) (xs.drop (k + 1)) := by
  rw [List.drop_eq_getElem_cons hk, pfGo]
  have e : xs.getD k 0 = xs[k] := by simp [List.getD, List.getElem?_eq_getElem hk]
  rw [e, List.take_succ_eq_append_getElem hk]
theorem pf_end (xs : List Int) (n : Nat) (k : Nat) (hk : xs.length ≤ k) (pre : List Int) : pfGo n pre (xs.drop k) = 0 := by
  rw [List.drop_eq_nil_of_le hk]; rfl
/-- First a, then b. -/
def comp (a b : List Nat) : List Nat := a.map fun x => b.getD x 0
theorem comp_length (a b : List Nat) : (comp a b).length = a.length := by simp [comp]

theorem getD_map_nat {a : List Nat} {f : Nat → Nat} {j : Nat} (hj : j < a.length) : (a.map f).getD j 0 = f (a.getD j 0) := by
  simp [List.getD, List.getElem?_eq_getElem hj]
theorem comp_getD {a b : List Nat} {j : Nat} (hj : j < a.length) : (comp a b).getD j 0 = b.getD (a.getD j 0) 0 := getD_map_nat hj

/-- A list that is filled from the left: of n elements k are there. -/
def fillN (f : Nat → Int) (n k : Nat) : List Int := (List.range n).map fun j => if j < k then f j else 0
theorem fillN_zero (f : Nat → Int) (n : Nat) : fillN f n 0 = List.replicate n 0 := by
  apply List.ext_getElem?
  intro i
  by_cases hi : i < n <;> simp [fillN, hi]
theorem fillN_set (f : Nat → Int) (n k : Nat) : (fillN f n k).set k (f k) = fillN f n (k + 1) := by
  apply List.ext_getElem?
  intro i
  by_cases hi : i < n
  · by_cases hik : k = i
    · subst hik; simp [fillN, hi]
    · simp only [fillN, List.getElem?_set, hik, if_false, List.getElem?_map, List.getElem?_range hi, Option.map_some]
      by_cases h1 : i < k
      · rw [if_pos h1, if_pos (by omega)]
      · rw [if_neg h1, if_neg (by omega)]
  · rw [List.getElem?_eq_none (by simp [fillN]; omega), List.getElem?_eq_none (by simp [fillN]; omega)]
theorem fillN_full {f : Nat → Int} {n : Nat} {xs : List Int} (hl : xs.length = n) (h : ∀ j, j < n → f j = xs.getD j 0) : fillN f n n = xs := by
  apply List.ext_getElem?
  intro i
  by_cases hi : i < n
  · have h2 := h i hi
    simp [fillN, hi, h2, List.getD, List.getElem?_eq_getElem (show i < xs.length by omega)]
  · rw [List.getElem?_eq_none (by simp [fillN]; omega), List.getElem?_eq_none (by omega)]

/-- The error of Compose. -/
def cfault (xs ys : List Int) : Int := if pf xs ≠ 0 then pf xs else if pf ys ≠ 0 then pf ys else if xs.length ≠ ys.length then 3 else 0

theorem isP.pf {a : List Nat} (h : isP a) (h9 : a.length ≤ 9) : pf (zs a) = 0 := (pf_zero _).2 ⟨by rw [zs_length]; exact h9, a, rfl, h⟩

theorem nodup_length_le : ∀ (n : Nat) (l : List Nat), l.Nodup → (∀ x ∈ l, x < n) → l.length ≤ n := by
  intro n
  induction n with
  | zero =>
    intro l _ h
    rcases l with _ | ⟨x, r⟩
    · simp
    · exact absurd (h x (by simp)) (by omega)
  | succ n ih =>
    intro l hn h
    by_cases hm : n ∈ l
    · have h1 := ih (l.erase n) (hn.erase n) (fun x hx => by
        rw [hn.mem_erase_iff] at hx
        have := h x hx.2
        omega)
      rw [List.length_erase_of_mem hm] at h1
      omega
    · have h1 := ih l hn (fun x hx => by
        have := h x hx
        have : x ≠ n := fun e => hm (e ▸ hx)
        omega)
      omega

theorem isP.mem {a : List Nat} (h : isP a) {i : Nat} (hi : i < a.length) : i ∈ a := by
  apply Classical.byContradiction
  intro hm
  have := nodup_length_le a.length (i :: a) (by rw [List.nodup_cons]; exact ⟨hm, h.2⟩) (fun x hx => by
    rcases List.mem_cons.1 hx with rfl | hx
    · exact hi
    · exact h.1 x hx)
  simp at this
  omega
theorem getD_eq {a : List Nat} {j : Nat} (hj : j < a.length) : a.getD j 0 = a[j] := by
  simp [List.getD, List.getElem?_eq_getElem hj]
theorem getD_mem {a : List Nat} {j : Nat} (hj : j < a.length) : a.getD j 0 ∈ a := by
  simp [List.getD, List.getElem?_eq_getElem hj]
theorem isP.lt {a : List Nat} (h : isP a) {j : Nat} (hj : j < a.length) : a.getD j 0 < a.length := h.1 _ (getD_mem hj)
theorem isP.inj {a : List Nat} (h : isP a) {i j : Nat} (hi : i < a.length) (hj : j < a.length) (he : a.getD i 0 = a.getD j 0) : i = j := by
  have h2 := h.2
  simp [List.getD, List.getElem?_eq_getElem hi, List.getElem?_eq_getElem hj] at he
  exact (List.getElem_inj h2).1 he
theorem isP.surj {a : List Nat} (h : isP a) {i : Nat} (hi : i < a.length) : ∃ j, j < a.length ∧ a.getD j 0 = i := by
  obtain ⟨j, hj, he⟩ := List.mem_iff_getElem.1 (h.mem hi)
  exact ⟨j, hj, by simp [List.getD, List.getElem?_eq_getElem hj, he]⟩
theorem isP_of {a : List Nat} (h1 : ∀ j, j < a.length → a.getD j 0 < a.length) (h2 : ∀ i j, i < a.length → j < a.length → a.getD i 0 = a.getD j 0 → i = j) : isP a := by
  constructor
  · intro x hx
    obtain ⟨j, hj, he⟩ := List.mem_iff_getElem.1 hx
    have := h1 j hj
    simp [List.getD, List.getElem?_eq_getElem hj, he] at this
    exact this
  · rw [List.nodup_iff_pairwise_ne, List.pairwise_iff_getElem]
    intro i j hi hj hij he
    have := h2 i j hi hj (by simp [List.getD, List.getElem?_eq_getElem hi, List.getElem?_eq_getElem hj, he])
    omega
theorem list_ext_getD {a b : List Nat} (hl : a.length = b.length) (h : ∀ j, j < a.length → a.getD j 0 = b.getD j 0) : a = b := by
  apply List.ext_getElem hl
  intro i h1 h2
  have := h i h1
  simpa [List.getD, List.getElem?_eq_getElem h1, List.getElem?_eq_getElem h2] using this

/-- The inverse. -/
def inv (a : List Nat) : List Nat := (List.range a.length).map fun i => a.idxOf i
theorem inv_length (a : List Nat) : (inv a).length = a.length := by simp [inv]
theorem inv_getD_self {a : List Nat} (h : isP a) {j : Nat} (hj : j < a.length) : (inv a).getD (a.getD j 0) 0 = j := by
  have hl := h.lt hj
  have e : (inv a).getD (a.getD j 0) 0 = a.idxOf (a.getD j 0) := by
    simp [inv, List.getD, hl, List.getElem?_eq_getElem hj] at hl ⊢
    simp [hl]
  rw [e]
  have h1 : a.idxOf (a.getD j 0) < a.length := List.idxOf_lt_length_iff.2 (getD_mem hj)
  refine h.inj h1 hj ?_
  have : a[a.idxOf (a.getD j 0)]'h1 = a.getD j 0 := List.getElem_idxOf h1
  rw [show a.getD (a.idxOf (a.getD j 0)) 0 = a[a.idxOf (a.getD j 0)]'h1 from getD_eq h1]
  exact this
/-- Whoever undoes a is the inverse. -/
theorem inv_unique {a : List Nat} (h : isP a) {ps : List Int} (hl : ps.length = a.length) (hp : ∀ j, j < a.length → ps.getD (a.getD j 0) 0 = (j : Int)) : ps = zs (inv a) := by
  apply List.ext_getElem (by rw [hl, zs_length, inv_length])
  intro i h1 h2
  obtain ⟨j, hj, he⟩ := h.surj (i := i) (by omega)
  have e1 := hp j hj
  have e2 := inv_getD_self h hj
  rw [he] at e1 e2
  have e3 := zs_getD (inv a) i
  rw [e2] at e3
  simp only [List.getD, List.getElem?_eq_getElem h1, List.getElem?_eq_getElem h2, Option.getD_some] at e1 e3
  rw [e1, e3]

theorem comp_isP {a b : List Nat} (ha : isP a) (hb : isP b) (hl : a.length = b.length) : isP (comp a b) := by
  refine isP_of ?_ ?_
  · intro j hj
    rw [comp_length] at hj ⊢
    rw [comp_getD hj, hl]
    exact hb.lt (by rw [← hl]; exact ha.lt hj)
  · intro i j hi hj he
    rw [comp_length] at hi hj
    rw [comp_getD hi, comp_getD hj] at he
    exact ha.inj hi hj (hb.inj (by rw [← hl]; exact ha.lt hi) (by rw [← hl]; exact ha.lt hj) he)
theorem inv_isP {a : List Nat} (ha : isP a) : isP (inv a) := by
  refine isP_of ?_ ?_
  · intro i hi
    rw [inv_length] at hi ⊢
    obtain ⟨j, hj, rfl⟩ := ha.surj hi
    rw [inv_getD_self ha hj]
    exact hj
  · intro i k hi hk he
    rw [inv_length] at hi hk
    obtain ⟨j, hj, rfl⟩ := ha.surj hi
    obtain ⟨l, hl, rfl⟩ := ha.surj hk
    rw [inv_getD_self ha hj, inv_getD_self ha hl] at he
    rw [he]
theorem comp_assoc {a b c : List Nat} (hab : ∀ x ∈ a, x < b.length) : comp (comp a b) c = comp a (comp b c) := by
  refine list_ext_getD (by simp [comp_length]) ?_
  intro j hj
  rw [comp_length, comp_length] at hj
  rw [comp_getD (by rw [comp_length]; exact hj), comp_getD hj, comp_getD hj, comp_getD (hab _ (getD_mem hj))]
theorem range_getD {n j : Nat} (hj : j < n) : (List.range n).getD j 0 = j := by simp [List.getD, hj]
theorem comp_inv {a : List Nat} (ha : isP a) : comp a (inv a) = List.range a.length := by
  refine list_ext_getD (by simp [comp_length]) ?_
  intro j hj
  rw [comp_length] at hj
  rw [comp_getD hj, inv_getD_self ha hj, range_getD hj]
theorem inv_comp {a : List Nat} (ha : isP a) : comp (inv a) a = List.range a.length := by
  refine list_ext_getD (by simp [comp_length, inv_length]) ?_
  intro i hi
  rw [comp_length, inv_length] at hi
  obtain ⟨j, hj, rfl⟩ := ha.surj hi
  rw [comp_getD (by rw [inv_length]; exact hi), inv_getD_self ha hj, range_getD hi]
theorem range_isP (n : Nat) : isP (List.range n) := ⟨fun x hx => by simpa using hx, List.nodup_range⟩

end Go.Proofs.Ytnpdlfnhpghkmaa
/- Plain mathematics: ranks. -/
namespace Go.Proofs.Ytnpdlfnhpghkmaa
set_option linter.unusedVariables false
set_option linter.unusedSimpArgs false

/-- How many elements are less than x. -/
def cntLt (xs : List Int) (x : Int) : Nat := xs.countP fun y => decide (y < x)
/-- The rank of the first k elements. -/
def rkGo (a : List Nat) : Nat → Nat
  | 0 => 0
  | k + 1 => rkGo a k * (a.length - k) + cntLt ((zs a).drop k) (a.getD k 0 : Nat)
/-- The rank. -/
def rankN (a : List Nat) : Nat := rkGo a a.length
/-- n (n - 1) .. of k factors. -/
def descF (n : Nat) : Nat → Nat
  | 0 => 1
  | k + 1 => descF n k * (n - k)
theorem cnt_drop_lt {a : List Nat} {k : Nat} (hk : k < a.length) : cntLt ((zs a).drop k) (a.getD k 0 : Nat) + 1 ≤ a.length - k := by
  have hk' : k < (zs a).length := by rw [zs_length]; exact hk
  have e : (zs a)[k] = ((a.getD k 0 : Nat) : Int) := by
    have := zs_getD a k
    rw [← this]
    simp [List.getD, List.getElem?_eq_getElem hk']
  rw [List.drop_eq_getElem_cons hk', e]
  unfold cntLt
  rw [List.countP_cons]
  have := List.countP_le_length (p := fun y => decide (y < ((a.getD k 0 : Nat) : Int))) (l := (zs a).drop (k + 1))
  rw [List.length_drop, zs_length] at this
  simp only [Int.lt_irrefl, decide_false, Bool.false_eq_true, if_false]
  omega
theorem rkGo_lt (a : List Nat) : ∀ k, k ≤ a.length → rkGo a k + 1 ≤ descF a.length k := by
  intro k
  induction k with
  | zero => intro _; simp [rkGo, descF]
  | succ k ih =>
    intro hk
    have h1 := ih (by omega)
    have h2 := cnt_drop_lt (a := a) (k := k) (by omega)
    rw [rkGo, descF]
    have h3 := Nat.mul_le_mul_right (a.length - k) h1
    rw [Nat.add_mul] at h3
    omega
theorem descF_small : ∀ n, n < 10 → ∀ k, k < 10 → descF n k ≤ 362880 := by decide
theorem rkGo_mul {a : List Nat} (h9 : a.length ≤ 9) {k : Nat} (hk : k < a.length) : rkGo a k * (a.length - k) ≤ 362880 := by
  have h1 := rkGo_lt a k (by omega)
  have h2 := descF_small a.length (by omega) (k + 1) (by omega)
  rw [descF] at h2
  exact Nat.le_trans (Nat.mul_le_mul_right _ (by omega)) h2
theorem rankN_lt {a : List Nat} (h9 : a.length ≤ 9) : rankN a < 362880 := by
  have h1 := rkGo_lt a a.length (Nat.le_refl _)
  have h2 := descF_small a.length (by omega) a.length (by omega)
  unfold rankN
  omega
theorem isP_of_perm {l : List Nat} {n : Nat} (h : l.Perm (List.range n)) : isP l ∧ l.length = n := by
  have hl : l.length = n := by rw [h.length_eq, List.length_range]
  refine ⟨⟨fun x hx => ?_, h.symm.nodup List.nodup_range⟩, hl⟩
  have := h.mem_iff.1 hx
  rw [hl]
  simpa using this
theorem perm_take {os rs : List Nat} {i n : Nat} (hi : i < rs.length) (h : (os ++ rs).Perm (List.range n)) : ((os ++ [rs.getD i 0]) ++ (rs.take i ++ rs.drop (i + 1))).Perm (List.range n) := by
  refine List.Perm.trans ?_ h
  rw [List.append_assoc]
  refine List.Perm.append_left _ ?_
  have e : rs = rs.take i ++ rs.getD i 0 :: rs.drop (i + 1) := by
    rw [getD_eq hi, ← List.drop_eq_getElem_cons hi, List.take_append_drop]
  have h2 : (rs.getD i 0 :: (rs.take i ++ rs.drop (i + 1))).Perm (rs.take i ++ rs.getD i 0 :: rs.drop (i + 1)) := List.perm_middle.symm
  rw [← e] at h2
  exact h2
theorem range_take {os rs : List Nat} {n : Nat} (hi : 0 < rs.length) (h : os ++ rs = List.range n) : (os ++ [rs.getD 0 0]) ++ (rs.take 0 ++ rs.drop 1) = List.range n := by
  rw [← h]
  have e : rs = rs.getD 0 0 :: rs.drop 1 := by
    rw [getD_eq hi, ← List.drop_eq_getElem_cons hi, List.drop_zero]
  conv => rhs; rw [e]
  simp
theorem zs_take (a : List Nat) (i : Nat) : (zs a).take i = zs (a.take i) := by simp [zs, List.map_take]
theorem zs_drop (a : List Nat) (i : Nat) : (zs a).drop i = zs (a.drop i) := by simp [zs, List.map_drop]
theorem zs_append (a b : List Nat) : zs a ++ zs b = zs (a ++ b) := by simp [zs]

end Go.Proofs.Ytnpdlfnhpghkmaa
/- Plain mathematics: ranks, unranking, lexicographic order. -/
namespace Go.Proofs.Ytnpdlfnhpghkmaa
set_option linter.unusedVariables false
set_option linter.unusedSimpArgs false

/-- Factorials. -/
def fct : Nat → Nat
  | 0 => 1
  | n + 1 => (n + 1) * fct n
theorem fct_pos : ∀ n, 0 < fct n
  | 0 => by simp [fct]
  | n + 1 => by rw [fct]; exact Nat.mul_pos (by omega) (fct_pos n)
theorem fct_small : ∀ n, n < 10 → fct n ≤ 362880 := by decide
def cntN (l : List Nat) (x : Nat) : Nat := l.countP fun y => decide (y < x)
def rkL : List Nat → Nat
  | [] => 0
  | x :: r => cntN r x * fct r.length + rkL r
theorem cntLt_zs (l : List Nat) (x : Nat) : cntLt (zs l) (x : Int) = cntN l x := by
  unfold cntLt cntN zs
  rw [List.countP_map]
  congr 1
  funext y
  simp
theorem cntN_self (r : List Nat) (x : Nat) : cntN (x :: r) x = cntN r x := by
  unfold cntN
  rw [List.countP_cons]
  simp
theorem rkL_lt : ∀ l, rkL l < fct l.length
  | [] => by simp [rkL, fct]
  | x :: r => by
    have h1 := rkL_lt r
    have h2 : cntN r x ≤ r.length := List.countP_le_length
    have h3 := Nat.mul_le_mul_right (fct r.length) h2
    rw [rkL, List.length_cons, fct, Nat.add_mul]
    omega
theorem rkGo_rkL (a : List Nat) : ∀ k, k ≤ a.length → rkGo a k * fct (a.length - k) + rkL (a.drop k) = rkL a := by
  intro k
  induction k with
  | zero => intro _; simp [rkGo]
  | succ k ih =>
    intro hk
    have h1 := ih (by omega)
    rw [List.drop_eq_getElem_cons (show k < a.length by omega), rkL, List.length_drop] at h1
    rw [rkGo, zs_drop, cntLt_zs, List.drop_eq_getElem_cons (show k < a.length by omega), getD_eq (show k < a.length by omega), cntN_self, Nat.add_mul, Nat.mul_assoc]
    rw [show a.length - k = (a.length - (k + 1)) + 1 from by omega, fct] at h1
    rw [show a.length - k = (a.length - (k + 1)) + 1 from by omega]
    omega
theorem rankN_eq (a : List Nat) : rankN a = rkL a := by
  have := rkGo_rkL a a.length (Nat.le_refl _)
  simp [fct, rkL] at this
  exact this

/-- The list of a rank, out of the sorted list us. -/
def unr : Nat → List Nat → Nat → List Nat
  | 0, _, _ => []
  | m + 1, us, r => us.getD (r / fct m) 0 :: unr m (us.take (r / fct m) ++ us.drop (r / fct m + 1)) (r % fct m)

abbrev Sorted (l : List Nat) : Prop := l.Pairwise (· < ·)

theorem cnt_zero {l : List Nat} {x : Nat} (h : ∀ y ∈ l, x ≤ y) : cntN l x = 0 := by
  unfold cntN
  rw [List.countP_eq_zero]
  intro y hy
  have := h y hy
  simp
  omega
theorem cntN_cons (u x : Nat) (t : List Nat) : cntN (u :: t) x = cntN t x + if u < x then 1 else 0 := by
  unfold cntN
  rw [List.countP_cons]
  simp
theorem sorted_at : ∀ {us : List Nat} {x : Nat}, Sorted us → x ∈ us → us.getD (cntN us x) 0 = x
  | u :: t, x, hs, hx => by
    have hs' := List.pairwise_cons.1 hs
    by_cases h : x = u
    · subst h
      rw [cntN_self, cnt_zero (fun y hy => Nat.le_of_lt (hs'.1 y hy))]
      rfl
    · have hxt : x ∈ t := by
        rcases List.mem_cons.1 hx with e | e
        · exact absurd e h
        · exact e
      rw [cntN_cons, if_pos (hs'.1 x hxt)]
      have := sorted_at hs'.2 hxt
      simpa [List.getD] using this
theorem cnt_sorted : ∀ {us : List Nat} {i : Nat}, Sorted us → i < us.length → cntN us (us.getD i 0) = i
  | u :: t, 0, hs, _ => by
    have hs' := List.pairwise_cons.1 hs
    simp only [List.getD, List.getElem?_cons_zero, Option.getD_some]
    rw [cntN_self]
    exact cnt_zero fun y hy => Nat.le_of_lt (hs'.1 y hy)
  | u :: t, i + 1, hs, hi => by
    have hs' := List.pairwise_cons.1 hs
    have hi' : i < t.length := by simpa using hi
    have e : (u :: t).getD (i + 1) 0 = t.getD i 0 := by simp [List.getD]
    rw [e, cntN_cons, cnt_sorted hs'.2 hi', if_pos (hs'.1 _ (getD_mem hi'))]
theorem perm_pick {us : List Nat} {i : Nat} (hi : i < us.length) : (us.getD i 0 :: (us.take i ++ us.drop (i + 1))).Perm us := by
  have e : us = us.take i ++ us.getD i 0 :: us.drop (i + 1) := by
    rw [getD_eq hi, ← List.drop_eq_getElem_cons hi, List.take_append_drop]
  have h2 : (us.getD i 0 :: (us.take i ++ us.drop (i + 1))).Perm (us.take i ++ us.getD i 0 :: us.drop (i + 1)) := List.perm_middle.symm
  rw [← e] at h2
  exact h2
theorem sorted_pick {us : List Nat} (hs : Sorted us) (i : Nat) : Sorted (us.take i ++ us.drop (i + 1)) := by
  rw [← List.eraseIdx_eq_take_drop_succ]
  exact List.Pairwise.sublist (List.eraseIdx_sublist us i) hs
theorem cntN_perm {l l' : List Nat} (h : l.Perm l') (x : Nat) : cntN l x = cntN l' x := h.countP_eq _

theorem unr_rkL : ∀ {l us : List Nat}, l.Perm us → Sorted us → unr us.length us (rkL l) = l
  | [], us, h, _ => by
    have : us = [] := h.symm.eq_nil
    subst this
    rfl
  | x :: r, us, h, hs => by
    have hl : us.length = r.length + 1 := by rw [← h.length_eq]; rfl
    have hr := rkL_lt r
    have hi : rkL (x :: r) / fct r.length = cntN us x := by
      rw [← cntN_perm h, cntN_self, rkL, Nat.add_comm, Nat.add_mul_div_right _ _ (fct_pos _), Nat.div_eq_of_lt hr, Nat.zero_add]
    have hm : rkL (x :: r) % fct r.length = rkL r := by
      rw [rkL, Nat.add_comm, Nat.add_mul_mod_self_right, Nat.mod_eq_of_lt hr]
    have hx := sorted_at hs (h.mem_iff.1 (List.mem_cons_self ..))
    have hlt : cntN us x < us.length := by
      have h1 : cntN r x ≤ r.length := List.countP_le_length
      rw [← cntN_perm h, cntN_self]
      omega
    have hp := perm_pick hlt
    rw [hx] at hp
    have hp2 : r.Perm (us.take (cntN us x) ++ us.drop (cntN us x + 1)) := (hp.trans h.symm).symm.cons_inv
    have ih := unr_rkL hp2 (sorted_pick hs _)
    rw [← hp2.length_eq] at ih
    rw [hl, unr, hi, hm, hx, ih]

theorem unr_spec : ∀ (m : Nat) {us : List Nat} {r : Nat}, us.length = m → Sorted us → r < fct m → (unr m us r).Perm us ∧ rkL (unr m us r) = r
  | 0, us, r, hl, _, hr => by
    have : us = [] := List.eq_nil_of_length_eq_zero hl
    subst this
    simp [fct] at hr
    subst hr
    exact ⟨List.Perm.nil, rfl⟩
  | m + 1, us, r, hl, hs, hr => by
    have hi : r / fct m < us.length := by
      rw [hl]
      rw [fct] at hr
      exact Nat.div_lt_of_lt_mul (by rw [Nat.mul_comm]; exact hr)
    have hl' : (us.take (r / fct m) ++ us.drop (r / fct m + 1)).length = m := by simp; omega
    have ih := unr_spec m hl' (sorted_pick hs (r / fct m)) (Nat.mod_lt r (fct_pos m))
    have hp : (unr (m + 1) us r).Perm us := (List.Perm.cons _ ih.1).trans (perm_pick hi)
    refine ⟨hp, ?_⟩
    rw [unr, rkL, ih.2, ih.1.length_eq, hl', ← cntN_self, cntN_perm ((List.Perm.cons _ ih.1).trans (perm_pick hi)), cnt_sorted hs hi, Nat.mul_comm]
    exact Nat.div_add_mod r (fct m)

/-- slices.Compare. -/
def cmpI : List Int → List Int → Int
  | [], [] => 0
  | [], _ :: _ => -1
  | _ :: _, [] => 1
  | x :: r, y :: s => if x < y then -1 else if y < x then 1 else cmpI r s

theorem countP_strict {p q : Nat → Bool} : ∀ {l : List Nat} {a : Nat}, (∀ x, p x = true → q x = true) → a ∈ l → q a = true → p a = false → l.countP p < l.countP q
  | x :: t, a, h, ha, hq, hp => by
    have hle : t.countP p ≤ t.countP q := List.countP_mono_left (fun x _ => h x)
    rw [List.countP_cons, List.countP_cons]
    rcases List.mem_cons.1 ha with rfl | ha
    · rw [hq, hp]
      simp
      omega
    · have ih := countP_strict h ha hq hp
      by_cases hx : p x = true
      · rw [hx, h x hx]
        simpa using ih
      · rw [if_neg hx]
        omega
theorem rkL_lex : ∀ {l l' : List Nat}, l.Perm l' → (rkL l < rkL l' ↔ cmpI (zs l) (zs l') < 0)
  | [], l', h => by
    have : l' = [] := h.symm.eq_nil
    subst this
    simp [rkL, zs, cmpI]
  | x :: r, [], h => by
    have := h.length_eq
    simp at this
  | x :: r, y :: s, h => by
    have hl : r.length = s.length := by have := h.length_eq; simpa using this
    have key : ∀ {x y : Nat} {r s : List Nat}, (x :: r).Perm (y :: s) → x < y → rkL (x :: r) < rkL (y :: s) := by
      intro x y r s h hxy
      have hl : r.length = s.length := by have := h.length_eq; simpa using this
      have h1 : cntN (x :: r) x < cntN (y :: s) y := by
        rw [cntN_perm h x]
        unfold cntN
        exact countP_strict (a := x) (fun z hz => by simp at hz ⊢; omega) (h.mem_iff.1 (List.mem_cons_self ..)) (by simpa using hxy) (by simp)
      rw [cntN_self, cntN_self] at h1
      have h2 := rkL_lt r
      rw [rkL, rkL, ← hl]
      have h3 := Nat.mul_le_mul_right (fct r.length) (show cntN r x + 1 ≤ cntN s y from h1)
      rw [Nat.add_mul] at h3
      omega
    have ex : zs (x :: r) = (x : Int) :: zs r := rfl
    have ey : zs (y :: s) = (y : Int) :: zs s := rfl
    rw [ex, ey, cmpI]
    rcases Nat.lt_trichotomy x y with hxy | hxy | hxy
    · rw [if_pos (by omega)]
      exact ⟨fun _ => by decide, fun _ => key h hxy⟩
    · subst hxy
      rw [if_neg (by omega), if_neg (by omega), ← rkL_lex h.cons_inv, rkL, rkL, hl, cntN_perm h.cons_inv]
      omega
    · rw [if_neg (by omega), if_pos (by omega)]
      have := key h.symm hxy
      exact ⟨fun h => by omega, fun h => by omega⟩
theorem isP.perm {a : List Nat} (h : isP a) : a.Perm (List.range a.length) := by
  refine (List.perm_ext_iff_of_nodup h.2 List.nodup_range).2 fun x => ?_
  rw [List.mem_range]
  exact ⟨fun hx => h.1 x hx, fun hx => h.mem hx⟩
theorem range_sorted (n : Nat) : Sorted (List.range n) := List.pairwise_lt_range
end Go.Proofs.Ytnpdlfnhpghkmaa
/- Plain mathematics: cycles of a permutation. -/
namespace Go.Proofs.Ytnpdlfnhpghkmaa
set_option linter.unusedVariables false
set_option linter.unusedSimpArgs false

/-- a applied t times to s. -/
def it (a : List Nat) : Nat → Nat → Nat
  | 0, s => s
  | t + 1, s => a.getD (it a t s) 0
theorem it_lt {a : List Nat} (h : isP a) {s : Nat} (hs : s < a.length) : ∀ t, it a t s < a.length
  | 0 => hs
  | t + 1 => h.lt (it_lt h hs t)
theorem it_inj {a : List Nat} (h : isP a) {s r : Nat} (hs : s < a.length) (hr : r < a.length) : ∀ t, it a t s = it a t r → s = r
  | 0, e => e
  | t + 1, e => it_inj h hs hr t (h.inj (it_lt h hs t) (it_lt h hr t) e)
theorem it_add (a : List Nat) (s : Nat) : ∀ t u, it a (t + u) s = it a t (it a u s)
  | 0, u => by rw [Nat.zero_add]; rfl
  | t + 1, u => by rw [show t + 1 + u = (t + u) + 1 from by omega, it, it_add a s t u, it]
theorem it_back {a : List Nat} (h : isP a) {s : Nat} (hs : s < a.length) {t u : Nat} (e : it a (t + u) s = it a t s) : it a u s = s := by
  rw [it_add] at e
  exact it_inj h (it_lt h hs u) hs t e

/-- The first number from p on, among f, that has P. -/
def srch (P : Nat → Bool) : Nat → Nat → Nat
  | 0, p => p
  | f + 1, p => if P p then p else srch P f (p + 1)
theorem srch_spec (P : Nat → Bool) : ∀ (f p : Nat), (∃ q, p ≤ q ∧ q < p + f ∧ P q = true) → p ≤ srch P f p ∧ srch P f p < p + f ∧ P (srch P f p) = true ∧ ∀ t, p ≤ t → t < srch P f p → P t = false
  | 0, p, ⟨q, h1, h2, _⟩ => by omega
  | f + 1, p, ⟨q, h1, h2, h3⟩ => by
    rw [srch]
    by_cases hp : P p = true
    · rw [if_pos hp]
      exact ⟨by omega, by omega, hp, fun t _ _ => by omega⟩
    · rw [if_neg hp]
      have hq : q ≠ p := fun e => hp (e ▸ h3)
      obtain ⟨a, b, c, d⟩ := srch_spec P f (p + 1) ⟨q, by omega, by omega, h3⟩
      refine ⟨by omega, by omega, c, fun t h4 h5 => ?_⟩
      by_cases e : t = p
      · subst e; simpa using hp
      · exact d t (by omega) h5

/-- The length of the cycle of s. -/
def perOf (a : List Nat) (s : Nat) : Nat := srch (fun p => it a p s == s) a.length 1
theorem per_ex {a : List Nat} (h : isP a) {s : Nat} (hs : s < a.length) : ∃ q, 1 ≤ q ∧ q < 1 + a.length ∧ it a q s = s := by
  apply Classical.byContradiction
  intro hn
  have hnd : ((List.range (a.length + 1)).map fun t => it a t s).Nodup := by
    rw [List.nodup_iff_pairwise_ne, List.pairwise_map]
    refine List.Pairwise.imp_of_mem ?_ (List.pairwise_lt_range (n := a.length + 1))
    intro i j hi hj hij e
    simp at hi hj
    refine hn ⟨j - i, by omega, by omega, it_back h hs (t := i) ?_⟩
    rw [show i + (j - i) = j from by omega]
    exact e.symm
  have := nodup_length_le a.length _ hnd (fun x hx => by
    obtain ⟨t, _, rfl⟩ := List.mem_map.1 hx
    exact it_lt h hs t)
  simp at this
  omega
theorem per_spec {a : List Nat} (h : isP a) {s : Nat} (hs : s < a.length) : 1 ≤ perOf a s ∧ perOf a s ≤ a.length ∧ it a (perOf a s) s = s ∧ ∀ t, 1 ≤ t → t < perOf a s → it a t s ≠ s := by
  obtain ⟨q, h1, h2, h3⟩ := per_ex h hs
  obtain ⟨x, y, z, u⟩ := srch_spec (fun p => it a p s == s) a.length 1 ⟨q, h1, h2, by simpa using h3⟩
  refine ⟨x, by unfold perOf; omega, by unfold perOf; simpa using z, fun t ht1 ht2 => ?_⟩
  have := u t ht1 ht2
  simpa using this

/-- The cycle of s. -/
def cyc (a : List Nat) (s : Nat) : List Nat := (List.range (perOf a s)).map fun t => it a t s
theorem cyc_length (a : List Nat) (s : Nat) : (cyc a s).length = perOf a s := by simp [cyc]
theorem it_mul {a : List Nat} {s p : Nat} (hp : it a p s = s) : ∀ k, it a (k * p) s = s
  | 0 => by rw [Nat.zero_mul]; rfl
  | k + 1 => by rw [Nat.add_mul, Nat.one_mul, it_add, hp, it_mul hp k]
theorem it_mod {a : List Nat} {s p : Nat} (hp : it a p s = s) (t : Nat) : it a (t % p) s = it a t s := by
  conv => rhs; rw [← Nat.mod_add_div t p, it_add, Nat.mul_comm, it_mul hp]
theorem mem_cyc {a : List Nat} (h : isP a) {s x : Nat} (hs : s < a.length) : x ∈ cyc a s ↔ ∃ t, x = it a t s := by
  obtain ⟨h1, _, h3, _⟩ := per_spec h hs
  constructor
  · intro hx
    obtain ⟨t, _, rfl⟩ := List.mem_map.1 hx
    exact ⟨t, rfl⟩
  · rintro ⟨t, rfl⟩
    rw [← it_mod h3]
    exact List.mem_map.2 ⟨t % perOf a s, by simpa using Nat.mod_lt t (by omega), rfl⟩
theorem cyc_lt {a : List Nat} (h : isP a) {s x : Nat} (hs : s < a.length) (hx : x ∈ cyc a s) : x < a.length := by
  obtain ⟨t, rfl⟩ := (mem_cyc h hs).1 hx
  exact it_lt h hs t
theorem cyc_symm {a : List Nat} (h : isP a) {s x : Nat} (hs : s < a.length) (hx : x ∈ cyc a s) : s ∈ cyc a x := by
  have hxl := cyc_lt h hs hx
  obtain ⟨t, ht, rfl⟩ := List.mem_map.1 hx
  simp at ht
  refine (mem_cyc h hxl).2 ⟨perOf a s - t, ?_⟩
  rw [← it_add, show perOf a s - t + t = perOf a s from by omega]
  exact (per_spec h hs).2.2.1.symm
theorem cyc_trans {a : List Nat} (h : isP a) {s x y : Nat} (hs : s < a.length) (hx : x ∈ cyc a s) (hy : y ∈ cyc a x) : y ∈ cyc a s := by
  have hxl := cyc_lt h hs hx
  obtain ⟨t, rfl⟩ := (mem_cyc h hs).1 hx
  obtain ⟨u, rfl⟩ := (mem_cyc h hxl).1 hy
  exact (mem_cyc h hs).2 ⟨u + t, (it_add a s u t).symm⟩
theorem cyc_self {a : List Nat} (h : isP a) {s : Nat} (hs : s < a.length) : s ∈ cyc a s := (mem_cyc h hs).2 ⟨0, rfl⟩

/-- Whether i is the smallest of its cycle. -/
def isMin (a : List Nat) (i : Nat) : Bool := decide (∀ x ∈ cyc a i, i ≤ x)
/-- The cycles that begin below k, of at least two elements. -/
def cycsTo (a : List Nat) (k : Nat) : List (List Nat) := ((List.range k).filter fun i => isMin a i && decide (1 < perOf a i)).map (cyc a)
def cycs (a : List Nat) : List (List Nat) := cycsTo a a.length
theorem cycsTo_succ (a : List Nat) (k : Nat) : cycsTo a (k + 1) = cycsTo a k ++ if (isMin a k && decide (1 < perOf a k)) = true then [cyc a k] else [] := by
  unfold cycsTo
  rw [List.range_succ, List.filter_append, List.map_append]
  by_cases h : (isMin a k && decide (1 < perOf a k)) = true
  · rw [if_pos h]; simp only [List.filter_cons, List.filter_nil, h, if_true]; rfl
  · rw [if_neg h]; simp only [List.filter_cons, List.filter_nil, h, if_false]; rfl
/-- What has been seen: all in cycles of elements below k. -/
def SeenTo (a : List Nat) (k : Nat) (M : List Int) : Prop := ∀ x : Nat, (x : Int) ∈ M ↔ ∃ s, s < k ∧ x ∈ cyc a s
theorem seen_min {a : List Nat} (h : isP a) {k : Nat} (hk : k < a.length) {M : List Int} (hM : SeenTo a k M) : ((k : Int) ∈ M) ↔ isMin a k = false := by
  rw [hM k]
  constructor
  · rintro ⟨s, hs, hks⟩
    unfold isMin
    rw [decide_eq_false_iff_not]
    intro hall
    have := hall s (cyc_symm h (by omega) hks)
    omega
  · intro hm
    unfold isMin at hm
    rw [decide_eq_false_iff_not] at hm
    apply Classical.byContradiction
    intro hn
    refine hm fun x hx => ?_
    apply Classical.byContradiction
    intro hlt
    exact hn ⟨x, by omega, cyc_symm h hk hx⟩
theorem seen_skip {a : List Nat} (h : isP a) {k : Nat} (hk : k < a.length) {M : List Int} (hM : SeenTo a k M) (hs : (k : Int) ∈ M) : SeenTo a (k + 1) M := by
  intro x
  rw [hM x]
  constructor
  · rintro ⟨s, h1, h2⟩
    exact ⟨s, by omega, h2⟩
  · rintro ⟨s, h1, h2⟩
    by_cases e : s = k
    · subst e
      obtain ⟨r, hr, hkr⟩ := (hM s).1 hs
      exact ⟨r, hr, cyc_trans h (by omega) hkr h2⟩
    · exact ⟨s, by omega, h2⟩
theorem seen_add {a : List Nat} {k : Nat} {M : List Int} (hM : SeenTo a k M) : SeenTo a (k + 1) (M ++ zs (cyc a k)) := by
  intro x
  rw [List.mem_append, hM x]
  have e : (x : Int) ∈ zs (cyc a k) ↔ x ∈ cyc a k := by
    unfold zs
    rw [List.mem_map]
    constructor
    · rintro ⟨y, hy, e⟩
      have : y = x := Int.ofNat.inj e
      rw [← this]; exact hy
    · intro hx
      exact ⟨x, hx, rfl⟩
  rw [e]
  constructor
  · rintro (⟨s, h1, h2⟩ | h2)
    · exact ⟨s, by omega, h2⟩
    · exact ⟨k, by omega, h2⟩
  · rintro ⟨s, h1, h2⟩
    by_cases e : s = k
    · subst e; exact .inr h2
    · exact .inl ⟨s, by omega, h2⟩
end Go.Proofs.Ytnpdlfnhpghkmaa
/- Plain mathematics: powers and the order of a permutation. -/
namespace Go.Proofs.Ytnpdlfnhpghkmaa
set_option linter.unusedVariables false
set_option linter.unusedSimpArgs false

/-- The power of a permutation. -/
def powN (a : List Nat) (m : Nat) : List Nat := (List.range a.length).map (it a m)
theorem powN_length (a : List Nat) (m : Nat) : (powN a m).length = a.length := by simp [powN]
theorem powN_zero (a : List Nat) : powN a 0 = List.range a.length := by
  unfold powN
  conv => rhs; rw [← List.map_id (List.range a.length)]
  rfl
theorem powN_succ (a : List Nat) (m : Nat) : comp (powN a m) a = powN a (m + 1) := by
  unfold comp powN
  rw [List.map_map]
  rfl
theorem powN_getD {a : List Nat} {m j : Nat} (hj : j < a.length) : (powN a m).getD j 0 = it a m j := by
  simp [powN, List.getD, hj]
theorem powN_lt {a : List Nat} (h : isP a) (m : Nat) : ∀ x ∈ powN a m, x < a.length := by
  intro x hx
  obtain ⟨s, hs, rfl⟩ := List.mem_map.1 hx
  exact it_lt h (List.mem_range.1 hs) m
theorem powN_isP {a : List Nat} (h : isP a) (m : Nat) : isP (powN a m) := by
  refine isP_of ?_ ?_
  · intro j hj
    rw [powN_length] at hj ⊢
    rw [powN_getD hj]
    exact it_lt h hj m
  · intro i j hi hj he
    rw [powN_length] at hi hj
    rw [powN_getD hi, powN_getD hj] at he
    exact it_inj h hi hj m he
theorem powN_comp {a : List Nat} (h : isP a) (u v : Nat) : comp (powN a u) (powN a v) = powN a (u + v) := by
  refine list_ext_getD (by simp [comp_length, powN_length]) ?_
  intro j hj
  rw [comp_length, powN_length] at hj
  rw [comp_getD (by rw [powN_length]; exact hj), powN_getD hj, powN_getD (it_lt h hj u), powN_getD hj, Nat.add_comm u v, it_add]

/-- a applied t times is the identity on s just if the length of its cycle divides t. -/
theorem it_self {a : List Nat} (h : isP a) {s : Nat} (hs : s < a.length) (t : Nat) : it a t s = s ↔ perOf a s ∣ t := by
  obtain ⟨h1, _, h3, h4⟩ := per_spec h hs
  constructor
  · intro e
    rw [← it_mod h3] at e
    have hlt := Nat.mod_lt t (show perOf a s > 0 by omega)
    rcases Nat.eq_zero_or_pos (t % perOf a s) with h0 | h0
    · exact Nat.dvd_of_mod_eq_zero h0
    · exact absurd e (h4 _ h0 hlt)
  · rintro ⟨k, rfl⟩
    rw [Nat.mul_comm]
    exact it_mul h3 k
/-- All of one cycle have cycles of one length. -/
theorem per_cyc {a : List Nat} (h : isP a) {s x : Nat} (hs : s < a.length) (hx : x ∈ cyc a s) : perOf a x = perOf a s := by
  have key : ∀ {s x : Nat}, s < a.length → x ∈ cyc a s → perOf a x ∣ perOf a s := by
    intro s x hs hx
    have hxl := cyc_lt h hs hx
    obtain ⟨t, rfl⟩ := (mem_cyc h hs).1 hx
    refine (it_self h hxl _).1 ?_
    rw [← it_add, Nat.add_comm, it_add, (per_spec h hs).2.2.1]
  exact Nat.dvd_antisymm (key hs hx) (key (cyc_lt h hs hx) (cyc_symm h hs hx))
/-- Each cycle has a smallest element. -/
theorem min_ex {a : List Nat} (h : isP a) {s : Nat} (hs : s < a.length) : ∃ m, m < a.length ∧ m ∈ cyc a s ∧ isMin a m = true := by
  have hf : ∀ (n : Nat), (∃ x, x ∈ cyc a s ∧ x < n) → ∃ m, m ∈ cyc a s ∧ ∀ x ∈ cyc a s, m ≤ x := by
    intro n
    induction n with
    | zero => rintro ⟨x, _, hx⟩; omega
    | succ n ih =>
      rintro ⟨x, hx, hlt⟩
      by_cases hn : ∃ y, y ∈ cyc a s ∧ y < n
      · exact ih hn
      · refine ⟨x, hx, fun y hy => ?_⟩
        apply Classical.byContradiction
        intro hc
        exact hn ⟨y, hy, by omega⟩
  obtain ⟨m, hm, hall⟩ := hf a.length ⟨s, cyc_self h hs, hs⟩
  have hml := cyc_lt h hs hm
  refine ⟨m, hml, hm, ?_⟩
  unfold isMin
  rw [decide_eq_true_iff]
  intro x hx
  exact hall x (cyc_trans h hs hm hx)

/-- The least common multiple of the lengths. -/
def ordL (xss : List (List Nat)) : Nat := xss.foldl (fun o c => Nat.lcm o c.length) 1
theorem foldl_lcm_dvd : ∀ (xss : List (List Nat)) (o m : Nat), xss.foldl (fun o c => Nat.lcm o c.length) o ∣ m ↔ o ∣ m ∧ ∀ c ∈ xss, c.length ∣ m
  | [], o, m => by simp
  | c :: r, o, m => by
    rw [List.foldl_cons, foldl_lcm_dvd r, Nat.lcm_dvd_iff]
    simp only [List.mem_cons, forall_eq_or_imp]
    exact ⟨fun ⟨⟨a, b⟩, c⟩ => ⟨a, b, c⟩, fun ⟨a, b, c⟩ => ⟨⟨a, b⟩, c⟩⟩
theorem ordL_dvd (xss : List (List Nat)) (m : Nat) : ordL xss ∣ m ↔ ∀ c ∈ xss, c.length ∣ m := by
  unfold ordL
  rw [foldl_lcm_dvd]
  exact ⟨fun h => h.2, fun h => ⟨Nat.one_dvd m, h⟩⟩
/-- The order divides a number just if this power is the identity. -/
theorem ord_dvd {a : List Nat} (h : isP a) (m : Nat) : ordL (cycs a) ∣ m ↔ powN a m = List.range a.length := by
  rw [ordL_dvd]
  constructor
  · intro hc
    refine list_ext_getD (by simp [powN_length]) ?_
    intro s hs
    rw [powN_length] at hs
    rw [powN_getD hs, range_getD hs, it_self h hs]
    obtain ⟨m0, hm0, hmem, hmin⟩ := min_ex h hs
    rw [← per_cyc h hs hmem]
    by_cases h1 : 1 < perOf a m0
    · rw [← cyc_length]
      refine hc _ (List.mem_map.2 ⟨m0, List.mem_filter.2 ⟨by simpa using hm0, by simp [hmin, h1]⟩, rfl⟩)
    · have := (per_spec h hm0).1
      rw [show perOf a m0 = 1 from by omega]
      exact Nat.one_dvd m
  · intro e c hc
    obtain ⟨s, hs, rfl⟩ := List.mem_map.1 hc
    have hs' : s < a.length := List.mem_range.1 (List.mem_filter.1 hs).1
    rw [cyc_length, ← it_self h hs', ← powN_getD hs', e, range_getD hs']
theorem powN_mod {a : List Nat} (h : isP a) {u v : Nat} (hd : ordL (cycs a) ∣ v) : powN a (u + v) = powN a u := by
  rw [← powN_comp h, (ord_dvd h v).1 hd]
  refine list_ext_getD (by simp [comp_length]) ?_
  intro j hj
  rw [comp_length, powN_length] at hj
  rw [comp_getD (by rw [powN_length]; exact hj), range_getD]
  rw [powN_getD hj]
  exact it_lt h hj u
/-- Powers with exponents that differ by a multiple of the order are the same. -/
theorem powN_congr {a : List Nat} (h : isP a) {u v : Nat} (e : u % ordL (cycs a) = v % ordL (cycs a)) : powN a u = powN a v := by
  have key : ∀ u, powN a u = powN a (u % ordL (cycs a)) := by
    intro u
    conv => lhs; rw [← Nat.mod_add_div u (ordL (cycs a))]
    exact powN_mod h (Nat.dvd_mul_right _ _)
  rw [key u, key v, e]
/-- The power with an integer as its exponent. -/
def powZ (a : List Nat) (k : Int) : List Nat := powN a (k % (ordL (cycs a) : Int)).toNat
theorem powZ_add {a : List Nat} (h : isP a) (ho : 0 < ordL (cycs a)) (i k : Int) : comp (powZ a i) (powZ a k) = powZ a (i + k) := by
  unfold powZ
  rw [powN_comp h]
  refine powN_congr h ?_
  generalize ordL (cycs a) = o at *
  have h1 := Int.emod_nonneg i (show (o : Int) ≠ 0 by omega)
  have h2 := Int.emod_nonneg k (show (o : Int) ≠ 0 by omega)
  have h3 := Int.emod_nonneg (i + k) (show (o : Int) ≠ 0 by omega)
  have e : (((i % (o : Int)).toNat + (k % (o : Int)).toNat : Nat) : Int) % (o : Int) = (((i + k) % (o : Int)).toNat : Int) % (o : Int) := by
    rw [Int.natCast_add, Int.toNat_of_nonneg h1, Int.toNat_of_nonneg h2, Int.toNat_of_nonneg h3, Int.emod_emod_of_dvd _ (Int.dvd_refl _), Int.add_emod i k]
  exact_mod_cast e
theorem powZ_id {a : List Nat} (h : isP a) (ho : 0 < ordL (cycs a)) {j : Nat} (h1 : 1 ≤ j) (h2 : j ≤ ordL (cycs a)) : powZ a (j : Int) = List.range a.length ↔ j = ordL (cycs a) := by
  unfold powZ
  rw [← ord_dvd h]
  have e : ((j : Int) % (ordL (cycs a) : Int)).toNat = j % ordL (cycs a) := by
    rw [← Int.natCast_emod]; rfl
  rw [e]
  generalize ordL (cycs a) = o at *
  constructor
  · intro hd
    apply Classical.byContradiction
    intro hne
    rw [Nat.mod_eq_of_lt (by omega)] at hd
    have := Nat.le_of_dvd (by omega) hd
    omega
  · rintro rfl
    rw [Nat.mod_self]
    exact Nat.dvd_zero _
theorem comp_range {a : List Nat} {n : Nat} (h : ∀ x ∈ a, x < n) : comp a (List.range n) = a := by
  refine list_ext_getD (by simp [comp_length]) ?_
  intro j hj
  rw [comp_length] at hj
  rw [comp_getD hj, range_getD (h _ (getD_mem hj))]
theorem range_comp (a : List Nat) : comp (List.range a.length) a = a := by
  refine list_ext_getD (by simp [comp_length]) ?_
  intro j hj
  rw [comp_length, List.length_range] at hj
  rw [comp_getD (by simpa using hj), range_getD hj]
theorem powN_one (a : List Nat) : powN a 1 = a := by rw [← powN_succ, powN_zero, range_comp]
theorem it_sq {b : List Nat} (h : isP b) {s : Nat} (hs : s < b.length) : ∀ j, it (comp b b) j s = it b (2 * j) s
  | 0 => rfl
  | j + 1 => by
    rw [it, it_sq h hs j, comp_getD (it_lt h hs _), show 2 * (j + 1) = (2 * j + 1) + 1 from by omega]
    rfl
theorem powN_sq {b : List Nat} (h : isP b) (j : Nat) : powN (comp b b) j = powN b (2 * j) := by
  unfold powN
  rw [comp_length]
  exact List.map_congr_left fun s hs => it_sq h (List.mem_range.1 hs) j
/-- One round of Times. -/
theorem times_step {o b : List Nat} {m n : Nat} (hb : isP b) (ho : isP o) (hol : o.length = n) (hbl : b.length = n) :
    comp o (powN b m) = if m % 2 = 1 then comp (comp o b) (powN (comp b b) (m / 2)) else comp o (powN (comp b b) (m / 2)) := by
  rw [powN_sq hb]
  by_cases h : m % 2 = 1
  · rw [if_pos h, comp_assoc (fun x hx => by have := ho.1 x hx; omega)]
    congr 1
    have e := powN_comp hb 1 (2 * (m / 2))
    rw [powN_one] at e
    rw [e]
    congr 1
    omega
  · rw [if_neg h]
    congr 2
    omega
theorem it_inv {a : List Nat} (h : isP a) {s : Nat} (hs : s < a.length) : ∀ t, it (inv a) t (it a t s) = s
  | 0 => rfl
  | t + 1 => by
    have e : it (inv a) (t + 1) (it a (t + 1) s) = it (inv a) t ((inv a).getD (it a (t + 1) s) 0) := by
      rw [it_add (inv a) (it a (t + 1) s) t 1]
      rfl
    rw [e, show it a (t + 1) s = a.getD (it a t s) 0 from rfl, inv_getD_self h (it_lt h hs t), it_inv h hs t]
theorem powZ_neg {a : List Nat} (h : isP a) (ho : 0 < ordL (cycs a)) (t : Nat) : powN (inv a) t = powZ a (-(t : Int)) := by
  unfold powZ
  generalize he : (-(t : Int) % (ordL (cycs a) : Int)).toNat = e
  have hd : ordL (cycs a) ∣ e + t := by
    have h1 := Int.emod_nonneg (-(t : Int)) (show (ordL (cycs a) : Int) ≠ 0 by omega)
    have h2 : ((e : Nat) : Int) = -(t : Int) % (ordL (cycs a) : Int) := by omega
    have h3 : (ordL (cycs a) : Int) ∣ ((e + t : Nat) : Int) := by
      refine Int.dvd_of_emod_eq_zero ?_
      rw [Int.natCast_add, h2, Int.emod_add_emod, Int.add_left_neg]
      exact Int.zero_emod _
    exact Int.natCast_dvd_natCast.1 h3
  have hid := (ord_dvd h (e + t)).1 hd
  refine list_ext_getD (by simp [powN_length, inv_length]) ?_
  intro j hj
  rw [powN_length, inv_length] at hj
  obtain ⟨s, hs, rfl⟩ : ∃ s, s < a.length ∧ it a t s = j := by
    obtain ⟨s, hs, e⟩ := (powN_isP h t).surj (i := j) (by rw [powN_length]; exact hj)
    rw [powN_length] at hs
    rw [powN_getD hs] at e
    exact ⟨s, hs, e⟩
  rw [powN_getD (by rw [inv_length]; exact hj), powN_getD hj, it_inv h hs, ← it_add]
  have := powN_getD (a := a) (m := e + t) hs
  rw [hid, range_getD hs] at this
  exact this
theorem powZ_nat {a : List Nat} (h : isP a) (t : Nat) : powN a t = powZ a (t : Int) := by
  unfold powZ
  refine powN_congr h ?_
  rw [← Int.natCast_emod, Int.toNat_natCast, Nat.mod_mod]
/-- What Times starts from. -/
theorem times_pos {a : List Nat} (h : isP a) (t : Nat) : comp (List.range a.length) (powN a t) = powZ a (t : Int) := by
  rw [← powZ_nat h]
  have := range_comp (powN a t)
  rw [powN_length] at this
  exact this
theorem times_neg {a : List Nat} (h : isP a) (ho : 0 < ordL (cycs a)) (m : Nat) : comp (inv a) (powN (inv a) m) = powZ a (-((m : Int) + 1)) := by
  have e := powN_comp (inv_isP h) 1 m
  rw [powN_one] at e
  rw [e, powZ_neg h ho, show ((1 + m : Nat) : Int) = (m : Int) + 1 from by omega]

end Go.Proofs.Ytnpdlfnhpghkmaa
/- Chains of transversals: what strip does, when the chain describes a group, how many elements it has. -/
namespace Go.Proofs.Ytnpdlfnhpghkmaa

/-- A permutation of degree k. -/
def PM (k : Nat) (a : List Nat) : Prop := isP a ∧ a.length = k
section
variable {k : Nat} {a b c : List Nat}
theorem PM.comp (ha : PM k a) (hb : PM k b) : PM k (comp a b) := ⟨comp_isP ha.1 hb.1 (ha.2.trans hb.2.symm), by rw [comp_length]; exact ha.2⟩
theorem PM.inv (ha : PM k a) : PM k (inv a) := ⟨inv_isP ha.1, by rw [inv_length]; exact ha.2⟩
theorem PM.range (k : Nat) : PM k (List.range k) := ⟨range_isP k, by simp⟩
theorem PM.assoc (ha : PM k a) (hb : PM k b) : Go.Proofs.Ytnpdlfnhpghkmaa.comp (Go.Proofs.Ytnpdlfnhpghkmaa.comp a b) c = Go.Proofs.Ytnpdlfnhpghkmaa.comp a (Go.Proofs.Ytnpdlfnhpghkmaa.comp b c) :=
  comp_assoc fun x hx => by have := ha.1.1 x hx; have := ha.2; have := hb.2; omega
theorem PM.lt (ha : PM k a) {j : Nat} (hj : j < k) : a.getD j 0 < k := by have := ha.1.lt (j := j) (by rw [ha.2]; exact hj); rwa [ha.2] at this
theorem PM.inj (ha : PM k a) {i j : Nat} (hi : i < k) (hj : j < k) (h : a.getD i 0 = a.getD j 0) : i = j := ha.1.inj (by rw [ha.2]; exact hi) (by rw [ha.2]; exact hj) h
theorem PM.getD_comp (ha : PM k a) {j : Nat} (hj : j < k) : (Go.Proofs.Ytnpdlfnhpghkmaa.comp a b).getD j 0 = b.getD (a.getD j 0) 0 := comp_getD (by rw [ha.2]; exact hj)
theorem PM.one_right (ha : PM k a) : Go.Proofs.Ytnpdlfnhpghkmaa.comp a (List.range k) = a := comp_range fun x hx => by have := ha.1.1 x hx; have := ha.2; omega
theorem PM.one_left (ha : PM k a) : Go.Proofs.Ytnpdlfnhpghkmaa.comp (List.range k) a = a := by have := range_comp a; rwa [ha.2] at this
theorem PM.comp_inv (ha : PM k a) : Go.Proofs.Ytnpdlfnhpghkmaa.comp a (Go.Proofs.Ytnpdlfnhpghkmaa.inv a) = List.range k := by rw [Go.Proofs.Ytnpdlfnhpghkmaa.comp_inv ha.1, ha.2]
theorem PM.inv_comp (ha : PM k a) : Go.Proofs.Ytnpdlfnhpghkmaa.comp (Go.Proofs.Ytnpdlfnhpghkmaa.inv a) a = List.range k := by rw [Go.Proofs.Ytnpdlfnhpghkmaa.inv_comp ha.1, ha.2]
theorem PM.ext (ha : PM k a) (hb : PM k b) (h : ∀ j, j < k → a.getD j 0 = b.getD j 0) : a = b := list_ext_getD (ha.2.trans hb.2.symm) fun j hj => h j (by rw [← ha.2]; exact hj)
theorem PM.cancel (ha : PM k a) (hb : PM k b) (hc : PM k c) (h : Go.Proofs.Ytnpdlfnhpghkmaa.comp a c = Go.Proofs.Ytnpdlfnhpghkmaa.comp b c) : a = b :=
  ha.ext hb fun j hj => by
    have := congrArg (fun l => l.getD j 0) h
    simp only [ha.getD_comp hj, hb.getD_comp hj] at this
    exact hc.inj (ha.lt hj) (hb.lt hj) this
/-- a = b c^-1 where a c = b. -/
theorem PM.move (ha : PM k a) (hc : PM k c) (h : Go.Proofs.Ytnpdlfnhpghkmaa.comp a c = b) : a = Go.Proofs.Ytnpdlfnhpghkmaa.comp b (Go.Proofs.Ytnpdlfnhpghkmaa.inv c) := by
  rw [← h, ha.assoc hc, hc.comp_inv, ha.one_right]
theorem PM.inv_inv (ha : PM k a) : Go.Proofs.Ytnpdlfnhpghkmaa.inv (Go.Proofs.Ytnpdlfnhpghkmaa.inv a) = a := by
  refine ha.inv.inv.cancel ha ha.inv ?_
  rw [ha.inv.inv_comp, ha.comp_inv]
end

/-- The identity. -/
def idE : List Nat := List.range 9
theorem idE_PM : PM 9 idE := PM.range 9
theorem oneR {a : List Nat} (ha : PM 9 a) : comp a idE = a := ha.one_right
theorem oneL {a : List Nat} (ha : PM 9 a) : comp idE a = a := ha.one_left
theorem idE_getD {j : Nat} (h : j < 9) : idE.getD j 0 = j := range_getD h

/-- Level i, point x: the element that undoes 'i goes to x'. -/
def Lv := Nat → Nat → Option (List Nat)

/-- What strip does from level i on, n levels left. -/
def stripG (L : Lv) : Nat → Nat → List Nat → List Nat × Nat
  | 0, i, p => (p, i)
  | n + 1, i, p => match L i (p.getD i 0) with
    | none => (p, i)
    | some u => stripG L n (i + 1) (comp p u)

structure LvOK (L : Lv) : Prop where
  one : ∀ i, i < 9 → L i i = some idE
  at_ : ∀ i x u, i < 9 → L i x = some u → PM 9 u ∧ x < 9 ∧ u.getD x 0 = i ∧ ∀ j, j < i → u.getD j 0 = j

/-- p lets the points below i where they are. -/
def Fix (i : Nat) (p : List Nat) : Prop := ∀ j, j < i → p.getD j 0 = j

/-- The chain from level i on contains p. -/
def InS (L : Lv) (n : Nat) (p : List Nat) : Prop := stripG L n (9 - n) p = (idE, 9)

section
variable {L : Lv}
theorem LvOK.fix (h : LvOK L) {i x : Nat} {u p : List Nat} (hi : i < 9) (hp : PM 9 p) (hf : Fix i p) (hu : L i (p.getD i 0) = some u) : Fix (i + 1) (comp p u) := by
  obtain ⟨pu, hx, h1, h2⟩ := h.at_ i _ u hi hu
  intro j hj
  rw [hp.getD_comp (by omega)]
  by_cases e : j = i
  · subst e
    exact h1
  · rw [hf j (by omega)]
    exact h2 j (by omega)
theorem LvOK.strip_fix (h : LvOK L) : ∀ (n i : Nat) (p : List Nat), i + n = 9 → PM 9 p → Fix i p →
    PM 9 (stripG L n i p).1 ∧ Fix (stripG L n i p).2 (stripG L n i p).1 ∧ i ≤ (stripG L n i p).2 ∧ (stripG L n i p).2 ≤ 9 ∧
      ((stripG L n i p).2 < 9 → L (stripG L n i p).2 ((stripG L n i p).1.getD (stripG L n i p).2 0) = none) := by
  intro n
  induction n with
  | zero => intro i p hi hp hf; exact ⟨hp, hf, Nat.le_refl _, by simp [stripG]; omega, fun h => by simp [stripG] at h; omega⟩
  | succ n ih =>
    intro i p hi hp hf
    unfold stripG
    cases hl : L i (p.getD i 0) with
    | none => exact ⟨hp, hf, Nat.le_refl _, by simp; omega, fun _ => hl⟩
    | some u =>
      obtain ⟨pu, _⟩ := h.at_ i _ u (by omega) hl
      have := ih (i + 1) (comp p u) (by omega) (hp.comp pu) (h.fix (x := 0) (by omega) hp hf hl)
      exact ⟨this.1, this.2.1, by have := this.2.2.1; simp only; omega, this.2.2.2⟩
theorem fix_nine {p : List Nat} (hp : PM 9 p) (hf : Fix 9 p) : p = idE := hp.ext idE_PM fun j hj => by rw [hf j hj, idE_getD hj]
/-- What is left is the identity just if no level stopped it. -/
theorem LvOK.strip_end (h : LvOK L) {p : List Nat} (hp : PM 9 p) (hne : (stripG L 9 0 p).1 ≠ idE) : (stripG L 9 0 p).2 < 9 := by
  have := h.strip_fix 9 0 p rfl hp (fun j hj => by omega)
  rcases Nat.lt_or_ge (stripG L 9 0 p).2 9 with hlt | hge
  · exact hlt
  · exact absurd (fix_nine this.1 (by have h9 : (stripG L 9 0 p).2 = 9 := by omega
                                      have h2 := this.2.1
                                      rw [h9] at h2; exact h2)) hne
theorem LvOK.strip_id (h : LvOK L) : ∀ (n i : Nat), i + n = 9 → stripG L n i idE = (idE, 9)
  | 0, i, hi => by simp [stripG]; omega
  | n + 1, i, hi => by
    unfold stripG
    rw [idE_getD (by omega), h.one i (by omega)]
    simp only
    rw [oneR idE_PM]
    exact h.strip_id n (i + 1) (by omega)
/-- strip ends with the identity: so it went through all levels. -/
theorem LvOK.strip_fst (h : LvOK L) : ∀ (n i : Nat) (p : List Nat), i + n = 9 → PM 9 p → Fix i p → (stripG L n i p).1 = idE → stripG L n i p = (idE, 9) := by
  intro n
  induction n with
  | zero => intro i p hi hp hf he; simp [stripG] at he ⊢; exact ⟨he, by omega⟩
  | succ n ih =>
    intro i p hi hp hf he
    unfold stripG at he ⊢
    cases hl : L i (p.getD i 0) with
    | none =>
      rw [hl] at he
      simp only at he
      rw [he, idE_getD (by omega), h.one i (by omega)] at hl
      cases hl
    | some u =>
      rw [hl] at he
      obtain ⟨pu, _⟩ := h.at_ i _ u (by omega) hl
      exact ih (i + 1) (comp p u) (by omega) (hp.comp pu) (h.fix (x := 0) (by omega) hp hf hl) he

theorem InS_zero {p : List Nat} : InS L 0 p ↔ p = idE := by simp [InS, stripG]
theorem InS_succ {n : Nat} (hn : n < 9) {p : List Nat} : InS L (n + 1) p ↔ ∃ u, L (8 - n) (p.getD (8 - n) 0) = some u ∧ InS L n (comp p u) := by
  unfold InS
  rw [show 9 - (n + 1) = 8 - n by omega, stripG]
  cases hl : L (8 - n) (p.getD (8 - n) 0) with
  | none =>
    simp
    intro _
    omega
  | some u =>
    simp
    rw [show 8 - n + 1 = 9 - n by omega]

/-- An element of the chain from a level on lets the points below it where they are. -/
theorem LvOK.inS_fix (h : LvOK L) : ∀ (n : Nat) (p : List Nat), n ≤ 9 → PM 9 p → InS L n p → Fix (9 - n) p := by
  intro n
  induction n with
  | zero => intro p _ hp hs j hj; rw [InS_zero.1 hs]; exact idE_getD (by omega)
  | succ n ih =>
    intro p hn hp hs
    obtain ⟨u, hu, hs'⟩ := (InS_succ (by omega)).1 hs
    obtain ⟨pu, hx, h1, h2⟩ := h.at_ _ _ u (by omega) hu
    have hf := ih (comp p u) (by omega) (hp.comp pu) hs'
    intro j hj
    have hj1 := hf j (by omega)
    rw [hp.getD_comp (by omega)] at hj1
    have hj2 := h2 j (by omega)
    exact pu.inj (hp.lt (by omega)) (by omega) (hj1.trans hj2.symm)
/-- What lets the points below a level where they are, and is in the whole chain, is in the chain from this level on. -/
theorem LvOK.inS_down (h : LvOK L) (m : Nat) : ∀ (n : Nat) (p : List Nat), n + m ≤ 9 → PM 9 p → Fix (9 - n) p → InS L (n + m) p → InS L n p := by
  induction m with
  | zero => intro n p _ _ _ hs; exact hs
  | succ m ih =>
    intro n p hn hp hf hs
    obtain ⟨u, hu, hs'⟩ := (InS_succ (n := n + m) (by omega)).1 hs
    rw [hf _ (by omega), h.one _ (by omega)] at hu
    injection hu with hu
    subst hu
    rw [oneR hp] at hs'
    exact ih n p (by omega) hp hf hs'

/-- The undoing elements of level i. -/
def Und (L : Lv) (i : Nat) (u : List Nat) : Prop := ∃ x, L i x = some u

theorem LvOK.und (h : LvOK L) {i : Nat} {u : List Nat} (hi : i < 9) (hu : Und L i u) : PM 9 u ∧ Fix i u := by
  obtain ⟨x, hx⟩ := hu
  obtain ⟨pu, _, _, h2⟩ := h.at_ i x u hi hx
  exact ⟨pu, h2⟩
theorem fix_inv {i : Nat} {u : List Nat} (hi : i ≤ 9) (pu : PM 9 u) (hf : Fix i u) : Fix i (inv u) := fun j hj => by
  have := inv_getD_self pu.1 (j := j) (by rw [pu.2]; omega)
  rw [hf j hj] at this
  exact this
theorem fix_comp {i : Nat} {a b : List Nat} (hi : i ≤ 9) (pa : PM 9 a) (ha : Fix i a) (hb : Fix i b) : Fix i (comp a b) := fun j hj => by
  rw [pa.getD_comp (by omega), ha j hj, hb j hj]
theorem Fix.mono {i j : Nat} {a : List Nat} (h : Fix j a) (hij : i ≤ j) : Fix i a := fun x hx => h x (by omega)

/-- s t^-1, s from the next level on: in the chain. -/
theorem LvOK.inS_mk (h : LvOK L) {n : Nat} {s u : List Nat} (hn : n < 9) (ps : PM 9 s) (hs : InS L n s) (hu : Und L (8 - n) u) : InS L (n + 1) (comp s (inv u)) := by
  obtain ⟨x, hx⟩ := hu
  obtain ⟨pu, hx9, h1, h2⟩ := h.at_ _ x u (by omega) hx
  have hf := h.inS_fix n s (by omega) ps hs (8 - n) (by omega)
  refine (InS_succ hn).2 ⟨u, ?_, ?_⟩
  · rw [ps.getD_comp (by omega), hf]
    have := inv_getD_self pu.1 (j := x) (by rw [pu.2]; exact hx9)
    rw [h1] at this
    rw [this]
    exact hx
  · rw [ps.assoc pu.inv, pu.inv_comp, ps.one_right]
    exact hs
theorem LvOK.inS_cases (h : LvOK L) {n : Nat} {p : List Nat} (hn : n < 9) (pp : PM 9 p) (hs : InS L (n + 1) p) : ∃ s u, PM 9 s ∧ InS L n s ∧ Und L (8 - n) u ∧ PM 9 u ∧ p = comp s (inv u) := by
  obtain ⟨u, hu, hs'⟩ := (InS_succ hn).1 hs
  obtain ⟨pu, _⟩ := h.at_ _ _ u (by omega) hu
  exact ⟨comp p u, u, pp.comp pu, hs', ⟨_, hu⟩, pu, pp.move pu rfl⟩

/-- All products of two entries are in the chain. -/
def Closed (L : Lv) : Prop := ∀ i k u v, i < 9 → k < 9 → Und L i u → Und L k v → InS L 9 (comp (inv u) (inv v))

theorem LvOK.push (h : LvOK L) (hc : Closed L) {n : Nat} (hn : n < 9) (ihc : ∀ a b, PM 9 a → PM 9 b → InS L n a → InS L n b → InS L n (comp a b)) :
    ∀ (m : Nat) (s u : List Nat), m ≤ n → PM 9 s → InS L m s → Und L (8 - n) u → ∃ s' u', PM 9 s' ∧ InS L n s' ∧ Und L (8 - n) u' ∧ PM 9 u' ∧ comp (inv u) s = comp s' (inv u') := by
  intro m
  induction m with
  | zero =>
    intro s u _ ps hs hu
    obtain rfl := InS_zero.1 hs
    obtain ⟨pu, _⟩ := h.und (by omega) hu
    refine ⟨idE, u, idE_PM, ?_, hu, pu, ?_⟩
    · exact h.strip_id n (9 - n) (by omega)
    · rw [oneR pu.inv, oneL pu.inv]
  | succ m ih =>
    intro s u hm ps hs hu
    obtain ⟨pu, fu⟩ := h.und (by omega) hu
    obtain ⟨s1, r, ps1, hs1, hr, pr, rfl⟩ := h.inS_cases (by omega) ps hs
    obtain ⟨s2, u2, ps2, hs2, hu2, pu2, e2⟩ := ih s1 u (by omega) ps1 hs1 hu
    -- u^-1 s1 r^-1 = s2 (u2^-1 r^-1)
    have hcl := hc (8 - n) (8 - m) u2 r (by omega) (by omega) hu2 hr
    have pc : PM 9 (comp (inv u2) (inv r)) := pu2.inv.comp pr.inv
    have fr := (h.und (i := 8 - m) (by omega) hr).2
    have fu2 := (h.und (i := 8 - n) (by omega) hu2).2
    have hin : InS L (n + 1) (comp (inv u2) (inv r)) :=
      h.inS_down (9 - (n + 1)) (n + 1) _ (by omega) pc (fix_comp (by omega) pu2.inv ((fix_inv (by omega) pu2 fu2).mono (by omega)) ((fix_inv (by omega) pr fr).mono (by omega))) (by rw [show n + 1 + (9 - (n + 1)) = 9 by omega]; exact hcl)
    obtain ⟨s3, u3, ps3, hs3, hu3, pu3, e3⟩ := h.inS_cases hn pc hin
    refine ⟨comp s2 s3, u3, ps2.comp ps3, ihc _ _ ps2 ps3 hs2 hs3, hu3, pu3, ?_⟩
    rw [← pu.inv.assoc ps1, e2, ps2.assoc pu2.inv, e3, ← ps2.assoc ps3]

theorem LvOK.closed (h : LvOK L) (hc : Closed L) : ∀ (n : Nat), n ≤ 9 → ∀ a b, PM 9 a → PM 9 b → InS L n a → InS L n b → InS L n (comp a b) := by
  intro n
  induction n with
  | zero =>
    intro _ a b _ _ ha hb
    rw [InS_zero.1 ha, InS_zero.1 hb, oneR idE_PM]
    exact InS_zero.2 rfl
  | succ n ih =>
    intro hn a b pa pb ha hb
    have ihc := ih (by omega)
    obtain ⟨s1, u1, ps1, hs1, hu1, pu1, rfl⟩ := h.inS_cases (by omega) pa ha
    obtain ⟨s2, u2, ps2, hs2, hu2, pu2, rfl⟩ := h.inS_cases (by omega) pb hb
    obtain ⟨s3, u3, ps3, hs3, hu3, pu3, e3⟩ := h.push hc (by omega) ihc n s2 u1 (Nat.le_refl _) ps2 hs2 hu1
    -- u3^-1 u2^-1
    have hcl := hc (8 - n) (8 - n) u3 u2 (by omega) (by omega) hu3 hu2
    have pc : PM 9 (comp (inv u3) (inv u2)) := pu3.inv.comp pu2.inv
    have f3 := (h.und (i := 8 - n) (by omega) hu3).2
    have f2 := (h.und (i := 8 - n) (by omega) hu2).2
    have hin : InS L (n + 1) (comp (inv u3) (inv u2)) :=
      h.inS_down (9 - (n + 1)) (n + 1) _ (by omega) pc (fix_comp (by omega) pu3.inv ((fix_inv (by omega) pu3 f3).mono (by omega)) ((fix_inv (by omega) pu2 f2).mono (by omega))) (by rw [show n + 1 + (9 - (n + 1)) = 9 by omega]; exact hcl)
    obtain ⟨s4, u4, ps4, hs4, hu4, pu4, e4⟩ := h.inS_cases (by omega) pc hin
    have e : comp (comp s1 (inv u1)) (comp s2 (inv u2)) = comp (comp (comp s1 s3) s4) (inv u4) := by
      rw [ps1.assoc pu1.inv, ← pu1.inv.assoc ps2, e3, ps3.assoc pu3.inv, e4, ← ps3.assoc ps4, ← ps1.assoc (ps3.comp ps4), ← ps1.assoc ps3]
    rw [e]
    exact h.inS_mk (by omega) ((ps1.comp ps3).comp ps4) (ihc _ _ (ps1.comp ps3) ps4 (ihc _ _ ps1 ps3 hs1 hs3) hs4) hu4
end
end Go.Proofs.Ytnpdlfnhpghkmaa
/- The group that permutations generate; adding to a chain; how many elements a chain has. -/
namespace Go.Proofs.Ytnpdlfnhpghkmaa

/-- The group that l generates, of degree k. -/
inductive Gen (k : Nat) (l : List (List Nat)) : List Nat → Prop
  | one : Gen k l (List.range k)
  | mul {a g : List Nat} : Gen k l a → g ∈ l → Gen k l (comp a g)
  | div {a g : List Nat} : Gen k l a → g ∈ l → Gen k l (comp a (inv g))
/-- Permutations of degree k. -/
def PMs (k : Nat) (l : List (List Nat)) : Prop := ∀ g ∈ l, PM k g
section
variable {k : Nat} {l : List (List Nat)} {a b : List Nat}
theorem Gen.pm (hl : PMs k l) (h : Gen k l a) : PM k a := by
  induction h with
  | one => exact PM.range k
  | mul _ hg ih => exact ih.comp (hl _ hg)
  | div _ hg ih => exact ih.comp (hl _ hg).inv
theorem Gen.comp (hl : PMs k l) (ha : Gen k l a) (hb : Gen k l b) : Gen k l (comp a b) := by
  have pa := ha.pm hl
  induction hb with
  | one => rw [pa.one_right]; exact ha
  | mul h hg ih => rw [← pa.assoc (h.pm hl)]; exact .mul ih hg
  | div h hg ih => rw [← pa.assoc (h.pm hl)]; exact .div ih hg
theorem Gen.of_mem (hl : PMs k l) (hg : a ∈ l) : Gen k l a := by
  have := Gen.mul (k := k) (l := l) .one hg
  rwa [(hl _ hg).one_left] at this
theorem Gen.of_inv (hl : PMs k l) (hg : a ∈ l) : Gen k l (Go.Proofs.Ytnpdlfnhpghkmaa.inv a) := by
  have := Gen.div (k := k) (l := l) .one hg
  rwa [(hl _ hg).inv.one_left] at this
theorem inv_unique_r (pa : PM k a) (pb : PM k b) (h : Go.Proofs.Ytnpdlfnhpghkmaa.comp b a = List.range k) : b = Go.Proofs.Ytnpdlfnhpghkmaa.inv a := by
  refine pb.cancel pa.inv pa ?_
  rw [h, pa.inv_comp]
theorem inv_mul (pa : PM k a) (pb : PM k b) : Go.Proofs.Ytnpdlfnhpghkmaa.inv (Go.Proofs.Ytnpdlfnhpghkmaa.comp a b) = Go.Proofs.Ytnpdlfnhpghkmaa.comp (Go.Proofs.Ytnpdlfnhpghkmaa.inv b) (Go.Proofs.Ytnpdlfnhpghkmaa.inv a) := by
  refine (inv_unique_r (pa.comp pb) (pb.inv.comp pa.inv) ?_).symm
  rw [pb.inv.assoc pa.inv, ← pa.inv.assoc pa, pa.inv_comp, pb.one_left, pb.inv_comp]
theorem Gen.inv (hl : PMs k l) (ha : Gen k l a) : Gen k l (Go.Proofs.Ytnpdlfnhpghkmaa.inv a) := by
  induction ha with
  | one =>
    have : Go.Proofs.Ytnpdlfnhpghkmaa.inv (List.range k) = List.range k := by
      refine (inv_unique_r (PM.range k) (PM.range k) ?_).symm
      exact (PM.range k).one_right
    rw [this]
    exact .one
  | mul h hg ih => rw [inv_mul (h.pm hl) (hl _ hg)]; exact (Gen.of_inv hl hg).comp hl ih
  | div h hg ih => rw [inv_mul (h.pm hl) (hl _ hg).inv, (hl _ hg).inv_inv]; exact (Gen.of_mem hl hg).comp hl ih
theorem Gen.sub {l' : List (List Nat)} (h : ∀ g ∈ l, g ∈ l') (ha : Gen k l a) : Gen k l' a := by
  induction ha with
  | one => exact .one
  | mul _ hg ih => exact .mul ih (h _ hg)
  | div _ hg ih => exact .div ih (h _ hg)
/-- What is closed under products, and holds 1 and the generators, holds the group: inverses are powers. -/
theorem Gen.in_closed (hl : PMs k l) {S : List Nat → Prop} (h1 : S (List.range k)) (hg : ∀ g ∈ l, S g) (hc : ∀ a b, PM k a → PM k b → S a → S b → S (Go.Proofs.Ytnpdlfnhpghkmaa.comp a b)) (ho : ∀ g ∈ l, 0 < ordL (cycs g)) (ha : Gen k l a) : S a := by
  have hp : ∀ g ∈ l, ∀ m, S (powN g m) := by
    intro g hgl m
    have pg := hl g hgl
    induction m with
    | zero => rw [powN_zero, pg.2]; exact h1
    | succ m ih => rw [← powN_succ]; exact hc _ _ ⟨powN_isP pg.1 m, by rw [powN_length, pg.2]⟩ pg ih (hg g hgl)
  induction ha with
  | one => exact h1
  | mul h hgl ih => exact hc _ _ (h.pm hl) (hl _ hgl) ih (hg _ hgl)
  | @div a g h hgl ih =>
    have pg := hl g hgl
    refine hc _ _ (h.pm hl) pg.inv ih ?_
    have e : Go.Proofs.Ytnpdlfnhpghkmaa.inv g = powZ g (-((1 : Nat) : Int)) := by
      rw [← powZ_neg pg.1 (ho g hgl) 1, powN_one]
    rw [e]
    exact hp g hgl _
end

section
variable {L L' : Lv}
/-- More entries. -/
def Ext (L L' : Lv) : Prop := ∀ i x u, L i x = some u → L' i x = some u
theorem Ext.refl (L : Lv) : Ext L L := fun _ _ _ h => h
theorem Ext.trans {L2 : Lv} (h : Ext L L') (h' : Ext L' L2) : Ext L L2 := fun i x u hu => h' i x u (h i x u hu)
theorem Ext.inS (h : Ext L L') : ∀ (n : Nat) (p : List Nat), n ≤ 9 → InS L n p → InS L' n p := by
  intro n
  induction n with
  | zero => intro p _ hs; exact InS_zero.2 (InS_zero.1 hs)
  | succ n ih =>
    intro p hn hs
    obtain ⟨u, hu, hs'⟩ := (InS_succ (by omega)).1 hs
    exact (InS_succ (by omega)).2 ⟨u, h _ _ _ hu, ih _ (by omega) hs'⟩
theorem LvOK.inS_up (h : LvOK L) (m : Nat) : ∀ (n : Nat) (p : List Nat), n + m ≤ 9 → PM 9 p → InS L n p → InS L (n + m) p := by
  induction m with
  | zero => intro n p _ _ hs; exact hs
  | succ m ih =>
    intro n p hn hp hs
    have hf := h.inS_fix n p (by omega) hp hs
    have h2 := ih n p (by omega) hp hs
    refine (InS_succ (n := n + m) (by omega)).2 ⟨idE, ?_, by rw [oneR hp]; exact h2⟩
    rw [hf _ (by omega)]
    exact h.one _ (by omega)

/-- L with u at point x of level lv. -/
def setL (L : Lv) (lv x : Nat) (u : List Nat) : Lv := fun i y => if i = lv ∧ y = x then some u else L i y
theorem setL_ext {lv x : Nat} {u : List Nat} (hn : L lv x = none) : Ext L (setL L lv x u) := fun i y v hv => by
  unfold setL
  rw [if_neg]
  · exact hv
  · rintro ⟨rfl, rfl⟩
    rw [hn] at hv
    cases hv
theorem stripG_ext (h : Ext L L') : ∀ (n i : Nat) (p : List Nat), ∃ m, m ≤ n ∧ (stripG L n i p).2 = i + m ∧ stripG L' n i p = stripG L' (n - m) (i + m) (stripG L n i p).1 := by
  intro n
  induction n with
  | zero => intro i p; exact ⟨0, Nat.le_refl _, rfl, rfl⟩
  | succ n ih =>
    intro i p
    cases hl : L i (p.getD i 0) with
    | none =>
      have e : stripG L (n + 1) i p = (p, i) := by unfold stripG; rw [hl]
      rw [e]
      exact ⟨0, by omega, rfl, rfl⟩
    | some u =>
      obtain ⟨m, hm, h2, h3⟩ := ih (i + 1) (comp p u)
      have h4 := h _ _ _ hl
      refine ⟨m + 1, by omega, by simp only [stripG, hl]; omega, ?_⟩
      simp only [stripG, hl, h4]
      rw [h3, show n + 1 - (m + 1) = n - m by omega, show i + (m + 1) = i + 1 + m by omega]

/-- What is left of p, and where: the new entry. -/
theorem LvOK.add (h : LvOK L) {p : List Nat} (hp : PM 9 p) (hne : (stripG L 9 0 p).1 ≠ idE) :
    let r := (stripG L 9 0 p).1
    let lv := (stripG L 9 0 p).2
    let x := r.getD lv 0
    lv < 9 ∧ PM 9 r ∧ Fix lv r ∧ L lv x = none ∧ x < 9 ∧ LvOK (setL L lv x (inv r)) ∧ InS (setL L lv x (inv r)) 9 p := by
  intro r lv x
  have h0 := h.strip_fix 9 0 p rfl hp (fun j hj => by omega)
  have hlv : lv < 9 := h.strip_end hp hne
  have pr : PM 9 r := h0.1
  have fr : Fix lv r := h0.2.1
  have hn : L lv x = none := h0.2.2.2.2 hlv
  have hx : x < 9 := pr.lt hlv
  have hxl : x ≠ lv := fun e => by
    have := h.one lv hlv
    rw [e] at hn
    rw [hn] at this
    cases this
  have hok : LvOK (setL L lv x (inv r)) := by
    refine ⟨fun i hi => ?_, fun i y u hi hu => ?_⟩
    · unfold setL
      rw [if_neg]
      · exact h.one i hi
      · rintro ⟨rfl, h2⟩
        exact hxl h2.symm
    · unfold setL at hu
      by_cases e : i = lv ∧ y = x
      · rw [if_pos e] at hu
        injection hu with hu
        subst hu
        obtain ⟨rfl, rfl⟩ := e
        exact ⟨pr.inv, hx, inv_getD_self pr.1 (by rw [pr.2]; exact hlv), fix_inv (by omega) pr fr⟩
      · rw [if_neg e] at hu
        exact h.at_ i y u hi hu
  refine ⟨hlv, pr, fr, hn, hx, hok, ?_⟩
  obtain ⟨m, hm, h2, h3⟩ := stripG_ext (setL_ext (u := inv r) hn) 9 0 p
  have hml : lv = m := by have : lv = 0 + m := h2; omega
  unfold InS
  rw [show 9 - 9 = 0 by omega, h3, show 0 + m = lv by omega, show 9 - m = (8 - lv) + 1 by omega, stripG]
  have hat : setL L lv x (inv r) lv (r.getD lv 0) = some (inv r) := by unfold setL; rw [if_pos ⟨rfl, rfl⟩]
  rw [show (stripG L 9 0 p).1 = r from rfl, hat]
  simp only
  rw [pr.comp_inv]
  exact hok.strip_id (8 - lv) (lv + 1) (by omega)

theorem strip_gen {l : List (List Nat)} (hl : PMs 9 l) (hg : ∀ i u, i < 9 → Und L i u → Gen 9 l u) : ∀ (n i : Nat) (p : List Nat), i + n = 9 → Gen 9 l p → Gen 9 l (stripG L n i p).1 := by
  intro n
  induction n with
  | zero => intro i p _ h; exact h
  | succ n ih =>
    intro i p hi h
    unfold stripG
    cases hu : L i (p.getD i 0) with
    | none => exact h
    | some u => exact ih (i + 1) (comp p u) (by omega) (h.comp hl (hg i u (by omega) ⟨_, hu⟩))
end

/-! ### how many -/
/-- The undoing elements of a level, as a list. -/
def tr (L : Lv) (i : Nat) : List (List Nat) := (List.range 9).filterMap (L i)
def cnt (L : Lv) (i : Nat) : Nat := (tr L i).length
theorem mem_tr {L : Lv} (h : LvOK L) {i : Nat} (hi : i < 9) {u : List Nat} : u ∈ tr L i ↔ Und L i u := by
  unfold tr Und
  rw [List.mem_filterMap]
  constructor
  · rintro ⟨x, _, hx⟩; exact ⟨x, hx⟩
  · rintro ⟨x, hx⟩; exact ⟨x, by simpa using (h.at_ i x u hi hx).2.1, hx⟩
theorem cnt_le (L : Lv) (i : Nat) : cnt L i ≤ 9 := by
  have := List.length_filterMap_le (L i) (List.range 9)
  simpa [cnt, tr] using this
theorem cnt_low {L : Lv} (h : LvOK L) {i : Nat} (hi : i < 9) : cnt L i ≤ 9 - i := by
  have e : tr L i = ((List.range 9).drop i).filterMap (L i) := by
    have hs : List.range 9 = (List.range 9).take i ++ (List.range 9).drop i := (List.take_append_drop i _).symm
    unfold tr
    conv => lhs; rw [hs]
    rw [List.filterMap_append]
    have : ((List.range 9).take i).filterMap (L i) = [] := by
      rw [List.filterMap_eq_nil_iff]
      intro x hx
      rw [List.take_range] at hx
      have hxi : x < i := by have := List.mem_range.1 hx; omega
      cases hu : L i x with
      | none => rfl
      | some u =>
        obtain ⟨_, _, h1, h2⟩ := h.at_ i x u hi hu
        have := h2 x hxi
        omega
    rw [this, List.nil_append]
  unfold cnt
  rw [e]
  have := List.length_filterMap_le (L i) ((List.range 9).drop i)
  simp at this
  exact this
theorem cnt_one {L : Lv} (h : LvOK L) {i : Nat} (hi : i < 9) : 1 ≤ cnt L i := by
  have : idE ∈ tr L i := (mem_tr h hi).2 ⟨i, h.one i hi⟩
  exact List.length_pos_of_mem this
theorem filterMap_congr' {α β : Type} {f g : α → Option β} : ∀ (xs : List α), (∀ x ∈ xs, f x = g x) → xs.filterMap f = xs.filterMap g
  | [], _ => rfl
  | x :: xs, h => by
    rw [List.filterMap_cons, List.filterMap_cons, h x (by simp), filterMap_congr' xs fun y hy => h y (by simp [hy])]
theorem filterMap_set : ∀ (xs : List Nat) (f : Nat → Option (List Nat)) (x : Nat) (u : List Nat), xs.Nodup → x ∈ xs → f x = none →
    (xs.filterMap fun y => if y = x then some u else f y).length = (xs.filterMap f).length + 1
  | [], _, _, _, _, h, _ => by simp at h
  | y :: ys, f, x, u, hn, hx, hf => by
    obtain ⟨h1, h2⟩ := List.nodup_cons.1 hn
    by_cases e : y = x
    · subst e
      have : (ys.filterMap fun z => if z = y then some u else f z) = ys.filterMap f := by
        apply filterMap_congr'
        intro z hz
        rw [if_neg (fun (e : z = y) => h1 (e ▸ hz))]
      simp [List.filterMap_cons, hf, this]
    · have hx' : x ∈ ys := by rcases List.mem_cons.1 hx with h | h; exact absurd h.symm e; exact h
      have ih := filterMap_set ys f x u h2 hx' hf
      simp only [List.filterMap_cons, if_neg e]
      cases f y with
      | none => exact ih
      | some v => simp [ih]
theorem cnt_set {L : Lv} {lv x : Nat} {u : List Nat} (hx : x < 9) (hn : L lv x = none) : cnt (setL L lv x u) lv = cnt L lv + 1 := by
  have := filterMap_set (List.range 9) (L lv) x u List.nodup_range (by simpa using hx) hn
  unfold cnt tr
  rw [← this]
  congr 1
  apply filterMap_congr'
  intro y _
  simp [setL]
theorem cnt_set_ne {L : Lv} {lv x i : Nat} {u : List Nat} (hi : i ≠ lv) : cnt (setL L lv x u) i = cnt L i := by
  unfold cnt tr
  congr 1
  apply filterMap_congr'
  intro y _
  simp [setL, hi]
def total (L : Lv) : Nat := cnt L 0 + cnt L 1 + cnt L 2 + cnt L 3 + cnt L 4 + cnt L 5 + cnt L 6 + cnt L 7 + cnt L 8
theorem total_le {L : Lv} (h : LvOK L) : total L ≤ 45 := by
  have h0 := cnt_low h (i := 0) (by omega)
  have h1 := cnt_low h (i := 1) (by omega)
  have h2 := cnt_low h (i := 2) (by omega)
  have h3 := cnt_low h (i := 3) (by omega)
  have h4 := cnt_low h (i := 4) (by omega)
  have h5 := cnt_low h (i := 5) (by omega)
  have h6 := cnt_low h (i := 6) (by omega)
  have h7 := cnt_low h (i := 7) (by omega)
  have h8 := cnt_low h (i := 8) (by omega)
  unfold total
  omega
theorem total_set {L : Lv} {lv x : Nat} {u : List Nat} (hlv : lv < 9) (hx : x < 9) (hn : L lv x = none) : total (setL L lv x u) = total L + 1 := by
  have hs := cnt_set (u := u) hx hn
  have hne : ∀ i, i ≠ lv → cnt (setL L lv x u) i = cnt L i := fun i hi => cnt_set_ne hi
  unfold total
  have hc : lv = 0 ∨ lv = 1 ∨ lv = 2 ∨ lv = 3 ∨ lv = 4 ∨ lv = 5 ∨ lv = 6 ∨ lv = 7 ∨ lv = 8 := by omega
  have key : ∀ i, cnt (setL L lv x u) i = cnt L i + if i = lv then 1 else 0 := by
    intro i
    by_cases e : i = lv
    · subst e; rw [hs, if_pos rfl]
    · rw [hne i e, if_neg e]; rfl
  simp only [key]
  rcases hc with rfl | rfl | rfl | rfl | rfl | rfl | rfl | rfl | rfl <;> simp <;> omega

/-- All elements of the chain with n levels left. -/
def enumS (L : Lv) : Nat → List (List Nat)
  | 0 => [idE]
  | n + 1 => (enumS L n).flatMap fun s => (tr L (8 - n)).map fun u => comp s (inv u)
theorem enumS_length (L : Lv) (n : Nat) : (enumS L (n + 1)).length = (enumS L n).length * cnt L (8 - n) := by
  simp only [enumS, List.length_flatMap, List.length_map]
  show ((enumS L n).map fun _ => cnt L (8 - n)).sum = _
  induction enumS L n with
  | nil => simp
  | cons x xs ih => rw [List.map_cons, List.sum_cons, ih, List.length_cons, Nat.succ_mul, Nat.add_comm]
theorem mem_enumS {L : Lv} (h : LvOK L) : ∀ (n : Nat), n ≤ 9 → ∀ p, p ∈ enumS L n ↔ PM 9 p ∧ InS L n p := by
  intro n
  induction n with
  | zero =>
    intro _ p
    simp only [enumS, List.mem_singleton]
    exact ⟨fun e => by subst e; exact ⟨idE_PM, InS_zero.2 rfl⟩, fun ⟨_, hs⟩ => InS_zero.1 hs⟩
  | succ n ih =>
    intro hn p
    simp only [enumS, List.mem_flatMap, List.mem_map]
    constructor
    · rintro ⟨s, hs, u, hu, rfl⟩
      obtain ⟨ps, hs'⟩ := (ih (by omega) s).1 hs
      have hu' := (mem_tr h (by omega)).1 hu
      exact ⟨ps.comp (h.und (by omega) hu').1.inv, h.inS_mk (by omega) ps hs' hu'⟩
    · rintro ⟨pp, hs⟩
      obtain ⟨s, u, ps, hs', hu, _, rfl⟩ := h.inS_cases (by omega) pp hs
      exact ⟨s, (ih (by omega) s).2 ⟨ps, hs'⟩, u, (mem_tr h (by omega)).2 hu, rfl⟩
theorem nodup_filterMap_range {f : Nat → Option (List Nat)} : ∀ (xs : List Nat), xs.Nodup → (∀ x y u, f x = some u → f y = some u → x = y) → (xs.filterMap f).Nodup
  | [], _, _ => by simp
  | x :: xs, hn, hf => by
    obtain ⟨h1, h2⟩ := List.nodup_cons.1 hn
    have ih := nodup_filterMap_range xs h2 hf
    rw [List.filterMap_cons]
    cases hx : f x with
    | none => exact ih
    | some u =>
      refine List.nodup_cons.2 ⟨fun hm => ?_, ih⟩
      obtain ⟨y, hy, hyu⟩ := List.mem_filterMap.1 hm
      exact h1 (hf x y u hx hyu ▸ hy)
theorem nodup_flatMap' {α β : Type} {f : α → List β} : ∀ (xs : List α), xs.Nodup → (∀ x ∈ xs, (f x).Nodup) → (∀ x ∈ xs, ∀ y ∈ xs, ∀ b, b ∈ f x → b ∈ f y → x = y) → (xs.flatMap f).Nodup
  | [], _, _, _ => by simp
  | x :: xs, hn, h1, h2 => by
    obtain ⟨hx, hxs⟩ := List.nodup_cons.1 hn
    rw [List.flatMap_cons, List.nodup_append]
    refine ⟨h1 x (by simp), nodup_flatMap' xs hxs (fun y hy => h1 y (by simp [hy])) (fun y hy z hz => h2 y (by simp [hy]) z (by simp [hz])), ?_⟩
    intro a ha b hb e
    subst e
    obtain ⟨y, hy, hby⟩ := List.mem_flatMap.1 hb
    exact hx (h2 x (by simp) y (by simp [hy]) a ha hby ▸ hy)
theorem enumS_nodup {L : Lv} (h : LvOK L) : ∀ (n : Nat), n ≤ 9 → (enumS L n).Nodup := by
  intro n
  induction n with
  | zero => intro _; simp [enumS]
  | succ n ih =>
    intro hn
    have hi : 8 - n < 9 := by omega
    have htr : (tr L (8 - n)).Nodup := nodup_filterMap_range _ List.nodup_range (fun x y u hx hy => by
      obtain ⟨pu, hx9, h1, _⟩ := h.at_ _ x u hi hx
      obtain ⟨_, hy9, h2, _⟩ := h.at_ _ y u hi hy
      exact pu.inj hx9 hy9 (h1.trans h2.symm))
    -- an element tells its factors
    have key : ∀ s s' u u', PM 9 s → PM 9 s' → InS L n s → InS L n s' → Und L (8 - n) u → Und L (8 - n) u' → comp s (inv u) = comp s' (inv u') → s = s' ∧ u = u' := by
      intro s s' u u' ps ps' hs hs' hu hu' e
      obtain ⟨x, hx⟩ := hu
      obtain ⟨y, hy⟩ := hu'
      obtain ⟨pu, hx9, h1, _⟩ := h.at_ _ x u hi hx
      obtain ⟨pu', hy9, h2, _⟩ := h.at_ _ y u' hi hy
      have f := h.inS_fix n s (by omega) ps hs (8 - n) (by omega)
      have f' := h.inS_fix n s' (by omega) ps' hs' (8 - n) (by omega)
      have e1 := congrArg (fun l => l.getD (8 - n) 0) e
      simp only [ps.getD_comp hi, ps'.getD_comp hi, f, f'] at e1
      have i1 := inv_getD_self pu.1 (j := x) (by rw [pu.2]; exact hx9)
      have i2 := inv_getD_self pu'.1 (j := y) (by rw [pu'.2]; exact hy9)
      rw [h1] at i1
      rw [h2] at i2
      rw [i1, i2] at e1
      subst e1
      rw [hx] at hy
      injection hy with hy
      subst hy
      exact ⟨ps.cancel ps' pu.inv e, rfl⟩
    refine nodup_flatMap' _ (ih (by omega)) (fun s hs => ?_) (fun s hs s' hs' b hb hb' => ?_)
    · obtain ⟨ps, hs'⟩ := (mem_enumS h n (by omega) s).1 hs
      rw [List.nodup_iff_pairwise_ne, List.pairwise_map]
      refine List.Pairwise.imp_of_mem (fun {u u'} hu hu' (hne : u ≠ u') e => ?_) (List.nodup_iff_pairwise_ne.1 htr)
      exact hne (key s s u u' ps ps hs' hs' ((mem_tr h hi).1 hu) ((mem_tr h hi).1 hu') e).2
    · obtain ⟨ps, h1⟩ := (mem_enumS h n (by omega) s).1 hs
      obtain ⟨ps', h1'⟩ := (mem_enumS h n (by omega) s').1 hs'
      obtain ⟨u, hu, rfl⟩ := List.mem_map.1 hb
      obtain ⟨u', hu', e⟩ := List.mem_map.1 hb'
      exact (key s s' u u' ps ps' h1 h1' ((mem_tr h hi).1 hu) ((mem_tr h hi).1 hu') e.symm).1
/-- The product of the numbers of entries up to a level. -/
def prodTo (L : Lv) : Nat → Nat
  | 0 => 1
  | k + 1 => prodTo L k * cnt L k
theorem prodTo_enum (L : Lv) : ∀ k, k ≤ 9 → prodTo L k * (enumS L (9 - k)).length = (enumS L 9).length := by
  intro k
  induction k with
  | zero => intro _; simp [prodTo]
  | succ k ih =>
    intro hk
    have := ih (by omega)
    rw [show 9 - k = (8 - k) + 1 by omega, enumS_length, show 8 - (8 - k) = k by omega] at this
    rw [← this, prodTo, show 9 - (k + 1) = 8 - k by omega]
    rw [Nat.mul_assoc, Nat.mul_comm (cnt L k)]
theorem prodTo_nine (L : Lv) : prodTo L 9 = (enumS L 9).length := by
  have := prodTo_enum L 9 (Nat.le_refl _)
  simpa [enumS] using this
theorem prodTo_le (L : Lv) : ∀ k, prodTo L k ≤ 9 ^ k
  | 0 => by simp [prodTo]
  | k + 1 => by
    rw [prodTo, Nat.pow_succ]
    exact Nat.mul_le_mul (prodTo_le L k) (cnt_le L k)
end Go.Proofs.Ytnpdlfnhpghkmaa
/- What chainOf keeps; when it ends the chain is the group. -/
namespace Go.Proofs.Ytnpdlfnhpghkmaa

/-- A chain with an element more. -/
def addL (L : Lv) (p : List Nat) : Lv := if (stripG L 9 0 p).1 = idE then L else setL L (stripG L 9 0 p).2 ((stripG L 9 0 p).1.getD (stripG L 9 0 p).2 0) (inv (stripG L 9 0 p).1)
def addE (L : Lv) (es : List (List Nat)) (p : List Nat) : List (List Nat) := if (stripG L 9 0 p).1 = idE then es else es ++ [(stripG L 9 0 p).1]

structure CInv (l : List (List Nat)) (L : Lv) (es : List (List Nat)) : Prop where
  ok : LvOK L
  gen : ∀ i u, i < 9 → Und L i u → Gen 9 l u
  ent : ∀ i u, i < 9 → Und L i u → u = idE ∨ inv u ∈ es
  eg : ∀ e ∈ es, PM 9 e ∧ Gen 9 l e
  tot : total L = 9 + es.length
theorem CInv.len {l : List (List Nat)} {L : Lv} {es : List (List Nat)} (h : CInv l L es) : es.length ≤ 36 := by
  have := total_le h.ok
  have := h.tot
  omega
theorem CInv.add {l : List (List Nat)} {L : Lv} {es : List (List Nat)} (h : CInv l L es) (hl : PMs 9 l) {p : List Nat} (hp : Gen 9 l p) :
    CInv l (addL L p) (addE L es p) ∧ Ext L (addL L p) ∧ InS (addL L p) 9 p ∧ ∃ t, addE L es p = es ++ t := by
  have pp := hp.pm hl
  unfold addL addE
  by_cases e : (stripG L 9 0 p).1 = idE
  · simp only [e, if_true]
    exact ⟨h, Ext.refl L, h.ok.strip_fst 9 0 p rfl pp (fun j hj => by omega) e, [], by simp⟩
  · simp only [e, if_false]
    obtain ⟨hlv, pr, fr, hn, hx, hok, hin⟩ := h.ok.add pp e
    have gr : Gen 9 l (stripG L 9 0 p).1 := strip_gen hl h.gen 9 0 p rfl hp
    have hu : ∀ i u, Und (setL L (stripG L 9 0 p).2 ((stripG L 9 0 p).1.getD (stripG L 9 0 p).2 0) (inv (stripG L 9 0 p).1)) i u → Und L i u ∨ u = inv (stripG L 9 0 p).1 := by
      rintro i u ⟨y, hy⟩
      unfold setL at hy
      by_cases c : i = (stripG L 9 0 p).2 ∧ y = (stripG L 9 0 p).1.getD (stripG L 9 0 p).2 0
      · rw [if_pos c] at hy
        injection hy with hy
        exact .inr hy.symm
      · rw [if_neg c] at hy
        exact .inl ⟨y, hy⟩
    refine ⟨⟨hok, fun i u hi hu' => ?_, fun i u hi hu' => ?_, fun e' he => ?_, ?_⟩, setL_ext hn, hin, _, rfl⟩
    · rcases hu i u hu' with h1 | rfl
      · exact h.gen i u hi h1
      · exact gr.inv hl
    · rcases hu i u hu' with h1 | rfl
      · rcases h.ent i u hi h1 with h2 | h2
        · exact .inl h2
        · exact .inr (List.mem_append_left _ h2)
      · refine .inr ?_
        rw [pr.inv_inv]
        simp
    · rcases List.mem_append.1 he with h1 | h1
      · exact h.eg e' h1
      · obtain rfl : e' = _ := by simpa using h1
        exact ⟨pr, gr⟩
    · rw [total_set hlv hx hn, h.tot]
      simp
      omega

/-- The chain at the beginning. -/
def L0 : Lv := fun i x => if i < 9 ∧ x = i then some idE else none
theorem L0_ok : LvOK L0 := by
  refine ⟨fun i hi => by simp [L0, hi], fun i x u hi hu => ?_⟩
  unfold L0 at hu
  by_cases e : i < 9 ∧ x = i
  · rw [if_pos e] at hu
    injection hu with hu
    subst hu
    obtain ⟨_, rfl⟩ := e
    exact ⟨idE_PM, hi, idE_getD hi, fun j hj => idE_getD (by omega)⟩
  · rw [if_neg e] at hu
    cases hu
theorem L0_und {i : Nat} {u : List Nat} (h : Und L0 i u) : u = idE := by
  obtain ⟨x, hx⟩ := h
  unfold L0 at hx
  split at hx
  · injection hx with hx
    exact hx.symm
  · cases hx
theorem cnt_L0 {i : Nat} (hi : i < 9) : cnt L0 i = 1 := by
  have h : i = 0 ∨ i = 1 ∨ i = 2 ∨ i = 3 ∨ i = 4 ∨ i = 5 ∨ i = 6 ∨ i = 7 ∨ i = 8 := by omega
  rcases h with rfl | rfl | rfl | rfl | rfl | rfl | rfl | rfl | rfl <;> rfl
theorem CInv.start (l : List (List Nat)) : CInv l L0 [] :=
  ⟨L0_ok, fun i u _ hu => by rw [L0_und hu]; exact .one, fun i u _ hu => .inl (L0_und hu), fun e he => by simp at he, by rfl⟩

/-- All products of two of the first entries. -/
structure Pairs (L : Lv) (es : List (List Nat)) (i : Nat) : Prop where
  in_ : ∀ a b, a < i → b < i → InS L 9 (comp (es.getD a []) (es.getD b []))
/-- .. and of entry i with the first j. -/
structure Row (L : Lv) (es : List (List Nat)) (i j : Nat) : Prop where
  l_ : ∀ b, b < j → InS L 9 (comp (es.getD i []) (es.getD b []))
  r_ : ∀ b, b < j → InS L 9 (comp (es.getD b []) (es.getD i []))
theorem getD_prefix {es t : List (List Nat)} {a : Nat} (h : a < es.length) : (es ++ t).getD a [] = es.getD a [] := by
  simp only [List.getD]
  rw [List.getElem?_append_left h]
theorem Pairs.ext {L L' : Lv} {es t : List (List Nat)} {i : Nat} (h : Pairs L es i) (hi : i ≤ es.length) (he : Ext L L') : Pairs L' (es ++ t) i :=
  ⟨fun a b ha hb => by rw [getD_prefix (by omega), getD_prefix (by omega)]; exact he.inS 9 _ (Nat.le_refl _) (h.in_ a b ha hb)⟩
theorem Row.ext {L L' : Lv} {es t : List (List Nat)} {i j : Nat} (h : Row L es i j) (hi : i < es.length) (hj : j ≤ es.length) (he : Ext L L') : Row L' (es ++ t) i j :=
  ⟨fun b hb => by rw [getD_prefix hi, getD_prefix (by omega)]; exact he.inS 9 _ (Nat.le_refl _) (h.l_ b hb), fun b hb => by rw [getD_prefix hi, getD_prefix (by omega)]; exact he.inS 9 _ (Nat.le_refl _) (h.r_ b hb)⟩
theorem Pairs.next {L : Lv} {es : List (List Nat)} {i : Nat} (h : Pairs L es i) (hr : Row L es i (i + 1)) : Pairs L es (i + 1) := by
  refine ⟨fun a b ha hb => ?_⟩
  by_cases e : a = i
  · subst e; exact hr.l_ b hb
  · by_cases e' : b = i
    · subst e'; exact hr.r_ a ha
    · exact h.in_ a b (by omega) (by omega)

/-- The loops' state: the gens that are in, the pairs that are done. -/
structure LoopSt (l : List (List Nat)) (L : Lv) (es : List (List Nat)) (m i : Nat) : Prop where
  ci : CInv l L es
  gens : ∀ g ∈ l.take m, InS L 9 g
  pairs : Pairs L es i
theorem LoopSt.closed {l : List (List Nat)} {L : Lv} {es : List (List Nat)} {m : Nat} (h : LoopSt l L es m es.length) : Closed L := by
  have hok := h.ci.ok
  have key : ∀ e ∈ es, ∃ a, a < es.length ∧ es.getD a [] = e := by
    intro e he
    obtain ⟨a, ha, rfl⟩ := List.mem_iff_getElem.1 he
    exact ⟨a, ha, by simp [List.getD, List.getElem?_eq_getElem ha]⟩
  have inv1 : inv idE = idE := by
    refine (inv_unique_r idE_PM idE_PM ?_).symm
    exact oneR idE_PM
  have one : ∀ k v, k < 9 → Und L k v → InS L 9 (inv v) := by
    intro k v hk hv
    have pv := hok.und hk hv
    have h1 := hok.inS_mk (n := 8 - k) (s := idE) (by omega) idE_PM (hok.strip_id (8 - k) (9 - (8 - k)) (by omega)) (by rw [show 8 - (8 - k) = k by omega]; exact hv)
    rw [oneL pv.1.inv] at h1
    have := hok.inS_up k (8 - k + 1) _ (by omega) pv.1.inv h1
    rwa [show 8 - k + 1 + k = 9 by omega] at this
  intro i k u v hi hk hu hv
  rcases h.ci.ent i u hi hu with rfl | hu'
  · rw [inv1, oneL (hok.und hk hv).1.inv]
    exact one k v hk hv
  · rcases h.ci.ent k v hk hv with rfl | hv'
    · rw [inv1, oneR (hok.und hi hu).1.inv]
      exact one i u hi hu
    · obtain ⟨a, ha, ea⟩ := key _ hu'
      obtain ⟨b, hb, eb⟩ := key _ hv'
      have := h.pairs.in_ a b ha hb
      rwa [ea, eb] at this

theorem foldl_lcm_pos : ∀ (xss : List (List Nat)) (o : Nat), 0 < o → (∀ c ∈ xss, 0 < c.length) → 0 < xss.foldl (fun o c => Nat.lcm o c.length) o
  | [], _, h, _ => h
  | c :: xss, o, h, hc => foldl_lcm_pos xss _ (Nat.lcm_pos h (hc c (by simp))) fun c' h' => hc c' (by simp [h'])
theorem ord_pos' {a : List Nat} (h : isP a) : 0 < ordL (cycs a) := by
  refine foldl_lcm_pos _ _ (by omega) fun c hc => ?_
  unfold cycs cycsTo at hc
  obtain ⟨i, hi, rfl⟩ := List.mem_map.1 hc
  have hi' := List.mem_range.1 (List.mem_filter.1 hi).1
  rw [cyc_length]
  exact (per_spec h hi').1

/-- The chain is the group. -/
theorem LoopSt.group {l : List (List Nat)} {L : Lv} {es : List (List Nat)} (h : LoopSt l L es l.length es.length) (hl : PMs 9 l) (p : List Nat) : p ∈ enumS L 9 ↔ Gen 9 l p := by
  rw [mem_enumS h.ci.ok 9 (Nat.le_refl _)]
  have hok := h.ci.ok
  constructor
  · rintro ⟨pp, hs⟩
    have : ∀ n, n ≤ 9 → ∀ p, PM 9 p → InS L n p → Gen 9 l p := by
      intro n
      induction n with
      | zero => intro _ p _ hs; rw [InS_zero.1 hs]; exact .one
      | succ n ih =>
        intro hn p pp hs
        obtain ⟨s, u, ps, hs', hu, pu, rfl⟩ := hok.inS_cases (by omega) pp hs
        exact (ih (by omega) s ps hs').comp hl ((h.ci.gen _ u (by omega) hu).inv hl)
    exact this 9 (Nat.le_refl _) p pp hs
  · intro hg
    refine ⟨hg.pm hl, ?_⟩
    refine Gen.in_closed hl (S := fun p => InS L 9 p) (hok.strip_id 9 0 rfl) (fun g hgl => h.gens g (by rw [List.take_length]; exact hgl)) (fun a b pa pb ha hb => hok.closed h.closed 9 (Nat.le_refl _) a b pa pb ha hb) (fun g hgl => ord_pos' (hl g hgl).1) hg
end Go.Proofs.Ytnpdlfnhpghkmaa
/- The elements of a group, listed; LAGRANGE; the fault of generators. -/
namespace Go.Proofs.Ytnpdlfnhpghkmaa

/-- All elements of the group, each once. -/
structure EnumG (k : Nat) (l : List (List Nat)) (xs : List (List Nat)) : Prop where
  nd : xs.Nodup
  mem : ∀ p, p ∈ xs ↔ Gen k l p
theorem perm_len {xs ys : List (List Nat)} (hx : xs.Nodup) (hy : ys.Nodup) (h : ∀ p, p ∈ xs ↔ p ∈ ys) : xs.length = ys.length := ((List.perm_ext_iff_of_nodup hx hy).2 h).length_eq
theorem EnumG.unique {k : Nat} {l xs ys : List (List Nat)} (hx : EnumG k l xs) (hy : EnumG k l ys) : xs.length = ys.length := perm_len hx.nd hy.nd fun p => by rw [hx.mem, hy.mem]
theorem EnumG.pos {k : Nat} {l xs : List (List Nat)} (h : EnumG k l xs) : 0 < xs.length := List.length_pos_of_mem ((h.mem _).2 .one)
theorem enum_chain {l : List (List Nat)} {L : Lv} (hok : LvOK L) (h : ∀ p, p ∈ enumS L 9 ↔ Gen 9 l p) : EnumG 9 l (enumS L 9) := ⟨enumS_nodup hok 9 (Nat.le_refl _), h⟩

theorem filter_split (p : List Nat → Bool) : ∀ S : List (List Nat), S.length = (S.filter p).length + (S.filter fun x => !p x).length
  | [] => rfl
  | s :: S => by
    have := filter_split p S
    cases h : p s <;> simp [List.filter_cons, h] <;> omega

theorem lagrange_aux {k : Nat} {l ys : List (List Nat)} (hl : PMs k l) (hy : EnumG k l ys) : ∀ (m : Nat) (S : List (List Nat)), S.length ≤ m → S.Nodup → (∀ s ∈ S, PM k s) → (∀ s ∈ S, ∀ h, Gen k l h → comp h s ∈ S) → ys.length ∣ S.length := by
  intro m
  induction m with
  | zero => intro S hS _ _ _; rw [show S.length = 0 by omega]; exact Nat.dvd_zero _
  | succ m ih =>
    intro S hS hn hp hc
    cases hS0 : S with
    | nil => exact Nat.dvd_zero _
    | cons s S1 =>
      rw [← hS0]
      have hs : s ∈ S := by rw [hS0]; simp
      have ps := hp s hs
      have hcos : ∀ x, x ∈ ys.map (fun h => comp h s) ↔ ∃ h, Gen k l h ∧ comp h s = x := by
        intro x
        rw [List.mem_map]
        constructor
        · rintro ⟨h, hh, rfl⟩; exact ⟨h, (hy.mem h).1 hh, rfl⟩
        · rintro ⟨h, hh, rfl⟩; exact ⟨h, (hy.mem h).2 hh, rfl⟩
      have hnc : (ys.map fun h => comp h s).Nodup := by
        rw [List.nodup_iff_pairwise_ne, List.pairwise_map]
        refine List.Pairwise.imp_of_mem (fun {a b} ha hb (hne : a ≠ b) e => ?_) (List.nodup_iff_pairwise_ne.1 hy.nd)
        exact hne ((((hy.mem a).1 ha).pm hl).cancel (((hy.mem b).1 hb).pm hl) ps e)
      have h1 : (S.filter fun x => decide (x ∈ ys.map fun h => comp h s)).length = ys.length := by
        rw [← List.length_map (as := ys) (fun h => comp h s)]
        refine perm_len (hn.filter _) hnc fun x => ?_
        rw [List.mem_filter, decide_eq_true_iff]
        constructor
        · exact fun h => h.2
        · intro h
          refine ⟨?_, h⟩
          obtain ⟨g, hg, rfl⟩ := (hcos x).1 h
          exact hc s hs g hg
      have hsp := filter_split (fun x => decide (x ∈ ys.map fun h => comp h s)) S
      have hpos := hy.pos
      have h2 : ys.length ∣ (S.filter fun x => !decide (x ∈ ys.map fun h => comp h s)).length := by
        refine ih _ (by omega) (hn.filter _) (fun x hx => hp x (List.mem_filter.1 hx).1) (fun x hx h hh => ?_)
        obtain ⟨hxS, hxc⟩ := List.mem_filter.1 hx
        have px := hp x hxS
        have ph := hh.pm hl
        refine List.mem_filter.2 ⟨hc x hxS h hh, ?_⟩
        simp only [Bool.not_eq_true', decide_eq_false_iff_not] at hxc ⊢
        intro hm
        obtain ⟨g, hg, e⟩ := (hcos _).1 hm
        apply hxc
        refine (hcos x).2 ⟨comp (inv h) g, (hh.inv hl).comp hl hg, ?_⟩
        rw [ph.inv.assoc (hg.pm hl), e, ← ph.inv.assoc ph, ph.inv_comp, px.one_left]
      rw [hsp, h1]
      exact Nat.dvd_add (Nat.dvd_refl _) h2
/-- LAGRANGE: the order of a subgroup divides that of the group. -/
theorem lagrange {k : Nat} {l l' xs ys : List (List Nat)} (hl : PMs k l) (hs : ∀ g ∈ l', g ∈ l) (hx : EnumG k l xs) (hy : EnumG k l' ys) : ys.length ∣ xs.length :=
  lagrange_aux (fun g hg => hl g (hs g hg)) hy xs.length xs (Nat.le_refl _) hx.nd (fun s h => ((hx.mem s).1 h).pm hl) (fun s h g hg => (hx.mem _).2 ((hg.sub hs).comp hl ((hx.mem s).1 h)))

/-! ### the error of permgroup.Check -/
def gfGo (n : Int) : List (List Int) → Int
  | [] => 0
  | x :: r => if pf x ≠ 0 then pf x else if (x.length : Int) ≠ n then 3 else gfGo n r
def gf (n : Int) (xss : List (List Int)) : Int := if n < 0 ∨ 9 < n then 1 else if 6 < xss.length then 2 else gfGo n xss
theorem gfGo_zero {n : Nat} : ∀ {xss : List (List Int)}, gfGo (n : Int) xss = 0 ↔ n = n ∧ ∃ gl : List (List Nat), xss = gl.map zs ∧ (∀ g ∈ gl, PM n g ∧ n ≤ 9)
  | [] => ⟨fun _ => ⟨rfl, [], rfl, fun g hg => by simp at hg⟩, fun _ => rfl⟩
  | x :: r => by
    unfold gfGo
    constructor
    · intro h
      refine ⟨rfl, ?_⟩
      by_cases hp : pf x = 0
      · rw [if_neg (by simpa using hp)] at h
        by_cases hl : (x.length : Int) = n
        · rw [if_neg (by simpa using hl)] at h
          obtain ⟨_, gl, e, hg⟩ := gfGo_zero.1 h
          obtain ⟨h9, a, rfl, pa⟩ := (pf_zero x).1 hp
          rw [zs_length] at hl h9
          refine ⟨a :: gl, by rw [e]; rfl, fun g hg' => ?_⟩
          rcases List.mem_cons.1 hg' with rfl | hg'
          · exact ⟨⟨pa, by omega⟩, by omega⟩
          · exact hg g hg'
        · rw [if_pos (by simpa using hl)] at h
          cases h
      · rw [if_pos (by simpa using hp)] at h
        exact absurd h hp
    · rintro ⟨_, gl, e, hg⟩
      cases gl with
      | nil => cases e
      | cons a gl =>
        injection e with e1 e2
        subst e1 e2
        obtain ⟨pa, h9⟩ := hg a (by simp)
        rw [if_neg (by have := pa.1.pf (by rw [pa.2]; exact h9); simp [this]), if_neg (by rw [zs_length, pa.2]; simp)]
        exact gfGo_zero.2 ⟨rfl, gl, rfl, fun g hg' => hg g (by simp [hg'])⟩
theorem gf_zero {n : Int} {xss : List (List Int)} (h : gf n xss = 0) : ∃ (m : Nat) (gl : List (List Nat)), n = (m : Int) ∧ m ≤ 9 ∧ xss = gl.map zs ∧ gl.length ≤ 6 ∧ PMs m gl := by
  unfold gf at h
  by_cases h1 : n < 0 ∨ 9 < n
  · rw [if_pos h1] at h; cases h
  · rw [if_neg h1] at h
    by_cases h2 : 6 < xss.length
    · rw [if_pos h2] at h; cases h
    · rw [if_neg h2] at h
      obtain ⟨m, rfl⟩ : ∃ m : Nat, n = m := ⟨n.toNat, by omega⟩
      obtain ⟨_, gl, rfl, hg⟩ := gfGo_zero.1 h
      exact ⟨m, gl, rfl, by omega, rfl, by simpa using h2, fun g hg' => (hg g hg').1⟩
theorem gf_ok {m : Nat} {gl : List (List Nat)} (hm : m ≤ 9) (hl : gl.length ≤ 6) (hP : PMs m gl) : gf m (gl.map zs) = 0 := by
  unfold gf
  rw [if_neg (by omega), if_neg (by rw [List.length_map]; omega)]
  exact gfGo_zero.2 ⟨rfl, gl, rfl, fun g hg => ⟨hP g hg, hm⟩⟩
theorem gfGo_drop {n : Int} {xss : List (List Int)} {k : Nat} (hk : k < xss.length) : gfGo n (xss.drop k) = if pf (xss.getD k []) ≠ 0 then pf (xss.getD k []) else if ((xss.getD k []).length : Int) ≠ n then 3 else gfGo n (xss.drop (k + 1)) := by
  rw [List.drop_eq_getElem_cons hk, gfGo]
  have : xss.getD k [] = xss[k] := by simp [List.getD, List.getElem?_eq_getElem hk]
  rw [this]
end Go.Proofs.Ytnpdlfnhpghkmaa
/- Orbits; an orbit and a stabilizer; the group of degree n and that of degree 9. -/
namespace Go.Proofs.Ytnpdlfnhpghkmaa

/-- Elements of the group map x to y. -/
def Orb (n : Nat) (gl : List (List Nat)) (x y : Nat) : Prop := ∃ p, Gen n gl p ∧ p.getD x 0 = y
/-- The orbit of x, in increasing order. -/
structure IsOrb (n : Nat) (gl : List (List Nat)) (x : Nat) (os : List Nat) : Prop where
  so : Sorted os
  mem : ∀ y, y ∈ os ↔ Orb n gl x y
section
variable {n : Nat} {gl : List (List Nat)} {x y z : Nat}
theorem Orb.lt (hP : PMs n gl) (hx : x < n) (h : Orb n gl x y) : y < n := by
  obtain ⟨p, hp, rfl⟩ := h
  exact (hp.pm hP).lt hx
theorem Orb.refl (hx : x < n) : Orb n gl x x := ⟨_, .one, range_getD hx⟩
theorem Orb.trans (hP : PMs n gl) (hx : x < n) (h : Orb n gl x y) (h' : Orb n gl y z) : Orb n gl x z := by
  obtain ⟨p, hp, rfl⟩ := h
  obtain ⟨q, hq, rfl⟩ := h'
  exact ⟨comp p q, hp.comp hP hq, (hp.pm hP).getD_comp hx⟩
theorem Orb.symm (hP : PMs n gl) (hx : x < n) (h : Orb n gl x y) : Orb n gl y x := by
  obtain ⟨p, hp, rfl⟩ := h
  exact ⟨inv p, hp.inv hP, inv_getD_self (hp.pm hP).1 (by rw [(hp.pm hP).2]; exact hx)⟩
theorem Orb.gen (hP : PMs n gl) (hx : x < n) {g : List Nat} (hg : g ∈ gl) (h : Orb n gl x y) : Orb n gl x (g.getD y 0) :=
  h.trans hP hx ⟨g, Gen.of_mem hP hg, rfl⟩
theorem sorted_ext : ∀ {a b : List Nat}, Sorted a → Sorted b → (∀ y, y ∈ a ↔ y ∈ b) → a = b
  | [], [], _, _, _ => rfl
  | [], y :: b, _, _, h => by have := (h y).2 (by simp); simp at this
  | x :: a, [], _, _, h => by have := (h x).1 (by simp); simp at this
  | x :: a, y :: b, ha, hb, h => by
    obtain ⟨a1, a2⟩ := List.pairwise_cons.1 ha
    obtain ⟨b1, b2⟩ := List.pairwise_cons.1 hb
    have e : x = y := by
      rcases List.mem_cons.1 ((h x).1 (by simp)) with e | hx
      · exact e
      · rcases List.mem_cons.1 ((h y).2 (by simp)) with e | hy
        · exact e.symm
        · have := a1 y hy; have := b1 x hx; omega
    subst e
    congr 1
    refine sorted_ext a2 b2 fun z => ?_
    have hz := h z
    constructor
    · intro hm
      have := a1 z hm
      rcases List.mem_cons.1 (hz.1 (by simp [hm])) with e | e
      · omega
      · exact e
    · intro hm
      have := b1 z hm
      rcases List.mem_cons.1 (hz.2 (by simp [hm])) with e | e
      · omega
      · exact e
theorem IsOrb.unique {a b : List Nat} (ha : IsOrb n gl x a) (hb : IsOrb n gl x b) : a = b := sorted_ext ha.so hb.so fun y => by rw [ha.mem, hb.mem]
theorem IsOrb.nodup {a : List Nat} (ha : IsOrb n gl x a) : a.Nodup := List.Pairwise.imp (fun h => Nat.ne_of_lt h) ha.so

/-- What is closed under the generators and reached is the orbit. -/
theorem orb_closed (hP : PMs n gl) (hx : x < n) {o : List Nat} (h0 : x ∈ o) (hr : ∀ y ∈ o, Orb n gl x y) (hc : ∀ y ∈ o, ∀ g ∈ gl, g.getD y 0 ∈ o) (y : Nat) : y ∈ o ↔ Orb n gl x y := by
  refine ⟨hr y, ?_⟩
  rintro ⟨p, hp, rfl⟩
  refine Gen.in_closed hP (S := fun p => ∀ y ∈ o, p.getD y 0 ∈ o) (fun y hy => ?_) (fun g hg y hy => hc y hy g hg) (fun a b pa pb ha hb y hy => ?_) (fun g hg => ord_pos' (hP g hg).1) hp x h0
  · rw [range_getD ((hr y hy).lt hP hx)]; exact hy
  · rw [pa.getD_comp ((hr y hy).lt hP hx)]
    exact hb _ (ha y hy)

/-- The orbits of the first k points. -/
inductive OrbTo (n : Nat) (gl : List (List Nat)) : Nat → List (List Nat) → Prop
  | nil : OrbTo n gl 0 []
  | skip {k : Nat} {oss : List (List Nat)} : OrbTo n gl k oss → (∃ o ∈ oss, k ∈ o) → OrbTo n gl (k + 1) oss
  | add {k : Nat} {oss : List (List Nat)} {o : List Nat} : OrbTo n gl k oss → (∀ o ∈ oss, k ∉ o) → IsOrb n gl k o → OrbTo n gl (k + 1) (oss ++ [o])
theorem OrbTo.each {k : Nat} {oss : List (List Nat)} (h : OrbTo n gl k oss) : ∀ o ∈ oss, ∃ x, x < k ∧ IsOrb n gl x o := by
  induction h with
  | nil => intro o ho; simp at ho
  | skip _ _ ih => intro o ho; obtain ⟨x, hx, h⟩ := ih o ho; exact ⟨x, by omega, h⟩
  | @add k oss o' _ _ hi ih =>
    intro o ho
    rcases List.mem_append.1 ho with ho | ho
    · obtain ⟨x, hx, h⟩ := ih o ho; exact ⟨x, by omega, h⟩
    · obtain rfl : o = o' := by simpa using ho
      exact ⟨k, by omega, hi⟩
theorem OrbTo.mem {k : Nat} {oss : List (List Nat)} (h : OrbTo n gl k oss) (hk : k ≤ n) (hP : PMs n gl) (y : Nat) : y ∈ oss.flatten ↔ ∃ x, x < k ∧ Orb n gl x y := by
  induction h with
  | nil => simp
  | @skip k oss hh he ih =>
    rw [ih (by omega)]
    constructor
    · rintro ⟨x, hx, h⟩; exact ⟨x, by omega, h⟩
    · rintro ⟨x, hx, h⟩
      by_cases e : x = k
      · subst e
        obtain ⟨o, ho, hxo⟩ := he
        obtain ⟨z, hz, hi⟩ := hh.each o ho
        exact ⟨z, hz, ((hi.mem x).1 hxo).trans hP (by omega) h⟩
      · exact ⟨x, by omega, h⟩
  | @add k oss o hh hn hi ih =>
    rw [List.flatten_append, List.mem_append, ih (by omega)]
    simp only [List.flatten_cons, List.flatten_nil, List.append_nil]
    rw [hi.mem]
    constructor
    · rintro (⟨x, hx, h⟩ | h)
      · exact ⟨x, by omega, h⟩
      · exact ⟨k, by omega, h⟩
    · rintro ⟨x, hx, h⟩
      by_cases e : x = k
      · subst e; exact .inr h
      · exact .inl ⟨x, by omega, h⟩
theorem OrbTo.nodup {k : Nat} {oss : List (List Nat)} (h : OrbTo n gl k oss) (hk : k ≤ n) (hP : PMs n gl) : oss.flatten.Nodup := by
  induction h with
  | nil => simp
  | skip _ _ ih => exact ih (by omega)
  | @add k oss o hh hn hi ih =>
    rw [List.flatten_append]
    simp only [List.flatten_cons, List.flatten_nil, List.append_nil]
    rw [List.nodup_append]
    refine ⟨ih (by omega), hi.nodup, ?_⟩
    rintro a ha b hb rfl
    obtain ⟨x, hx, hxa⟩ := (hh.mem (by omega) hP a).1 ha
    have hka := (hi.mem a).1 hb
    have hxk : Orb n gl x k := hxa.trans hP (by omega) (hka.symm hP (by omega))
    have := (hh.mem (by omega) hP k).2 ⟨x, hx, hxk⟩
    obtain ⟨o', ho', hk'⟩ := List.mem_flatten.1 this
    exact hn o' ho' hk'
theorem OrbTo.total {oss : List (List Nat)} (h : OrbTo n gl n oss) (hP : PMs n gl) : oss.flatten.length = n := by
  have hp : oss.flatten.Perm (List.range n) := by
    refine (List.perm_ext_iff_of_nodup (h.nodup (Nat.le_refl _) hP) List.nodup_range).2 fun y => ?_
    rw [h.mem (Nat.le_refl _) hP, List.mem_range]
    constructor
    · rintro ⟨x, hx, hy⟩; exact hy.lt hP hx
    · intro hy; exact ⟨y, hy, Orb.refl hy⟩
  have := hp.length_eq
  simpa using this
theorem OrbTo.unique {k : Nat} {a b : List (List Nat)} (ha : OrbTo n gl k a) (hb : OrbTo n gl k b) : a = b := by
  induction ha generalizing b with
  | nil => cases hb; rfl
  | skip _ he ih =>
    cases hb with
    | skip hb' he' => exact ih hb'
    | add hb' hn' hi' =>
      obtain rfl := ih hb'
      obtain ⟨o, ho, hk⟩ := he
      exact absurd hk (hn' o ho)
  | add _ hn hi ih =>
    cases hb with
    | skip hb' he' =>
      obtain rfl := ih hb'
      obtain ⟨o, ho, hk⟩ := he'
      exact absurd hk (hn o ho)
    | add hb' hn' hi' =>
      obtain rfl := ih hb'
      rw [hi.unique hi']
end

/-! ### an orbit and a stabilizer -/
theorem count_classes {xs : List (List Nat)} (f : List Nat → Nat) (c : Nat) : ∀ (o : List Nat), o.Nodup → (∀ y ∈ o, (xs.filter fun p => decide (f p = y)).length = c) → (xs.filter fun p => decide (f p ∈ o)).length = o.length * c
  | [], _, _ => by simp
  | y :: o, hn, h => by
    obtain ⟨h1, h2⟩ := List.nodup_cons.1 hn
    have ih := count_classes f c o h2 fun z hz => h z (by simp [hz])
    have hsplit := filter_split (fun p => decide (f p = y)) (xs.filter fun p => decide (f p ∈ y :: o))
    have e1 : ((xs.filter fun p => decide (f p ∈ y :: o)).filter fun p => decide (f p = y)) = xs.filter fun p => decide (f p = y) := by
      rw [List.filter_filter]
      apply List.filter_congr
      intro p _
      by_cases e : f p = y <;> simp [e]
    have e2 : ((xs.filter fun p => decide (f p ∈ y :: o)).filter fun p => !decide (f p = y)) = xs.filter fun p => decide (f p ∈ o) := by
      rw [List.filter_filter]
      apply List.filter_congr
      intro p _
      by_cases e : f p = y
      · simp [e, h1]
      · simp [e]
    rw [e1, e2, ih, h y (by simp)] at hsplit
    rw [hsplit, List.length_cons, Nat.succ_mul, Nat.add_comm]
/-- The order is the product of the orbit's length and of the number of elements that keep the point. -/
theorem orbit_stabilizer {k : Nat} {l xs : List (List Nat)} {x : Nat} {o : List Nat} (hl : PMs k l) (hx : x < k) (he : EnumG k l xs) (ho : ∀ y, y ∈ o ↔ Orb k l x y) (hn : o.Nodup) :
    xs.length = o.length * (xs.filter fun p => decide (p.getD x 0 = x)).length := by
  have hall : (xs.filter fun p => decide (p.getD x 0 ∈ o)) = xs := by
    rw [List.filter_eq_self]
    intro p hp
    rw [decide_eq_true_iff, ho]
    exact ⟨p, (he.mem p).1 hp, rfl⟩
  have hc : ∀ y ∈ o, (xs.filter fun p => decide (p.getD x 0 = y)).length = (xs.filter fun p => decide (p.getD x 0 = x)).length := by
    intro y hy
    obtain ⟨q, hq, hqy⟩ := (ho y).1 hy
    have pq := hq.pm hl
    rw [← List.length_map (as := xs.filter fun p => decide (p.getD x 0 = x)) (fun s => comp s q)]
    refine perm_len (he.nd.filter _) ?_ fun p => ?_
    · rw [List.nodup_iff_pairwise_ne, List.pairwise_map]
      refine List.Pairwise.imp_of_mem (fun {a b} ha hb (hne : a ≠ b) e => ?_) (List.nodup_iff_pairwise_ne.1 (he.nd.filter _))
      exact hne ((((he.mem a).1 (List.mem_filter.1 ha).1).pm hl).cancel (((he.mem b).1 (List.mem_filter.1 hb).1).pm hl) pq e)
    · rw [List.mem_filter, List.mem_map, decide_eq_true_iff]
      constructor
      · rintro ⟨hp, hpy⟩
        have gp := (he.mem p).1 hp
        have pp := gp.pm hl
        refine ⟨comp p (inv q), List.mem_filter.2 ⟨(he.mem _).2 (gp.comp hl (hq.inv hl)), ?_⟩, ?_⟩
        · rw [decide_eq_true_iff, pp.getD_comp hx, hpy, ← hqy]
          exact inv_getD_self pq.1 (by rw [pq.2]; exact hx)
        · rw [pp.assoc pq.inv, pq.inv_comp, pp.one_right]
      · rintro ⟨s, hs, rfl⟩
        obtain ⟨hs1, hs2⟩ := List.mem_filter.1 hs
        have gs := (he.mem s).1 hs1
        refine ⟨(he.mem _).2 (gs.comp hl hq), ?_⟩
        rw [(gs.pm hl).getD_comp hx, of_decide_eq_true hs2]
        exact hqy
  have := count_classes (xs := xs) (fun p => p.getD x 0) _ o hn hc
  rw [hall] at this
  exact this
end Go.Proofs.Ytnpdlfnhpghkmaa
/- Points that are joined by parents; the lists of orbits that are made point by point. -/
namespace Go.Proofs.Ytnpdlfnhpghkmaa
set_option linter.unusedVariables false
set_option linter.unusedSimpArgs false

/-- From x, k steps lead to the root r. -/
inductive Rt (j : List Nat) : Nat → Nat → Nat → Prop
  | root {x : Nat} : j.getD x 0 = x → Rt j 0 x x
  | step {k x r : Nat} : j.getD x 0 ≠ x → Rt j k (j.getD x 0) r → Rt j (k + 1) x r
theorem Rt.fix {j : List Nat} {k x r : Nat} (h : Rt j k x r) : j.getD r 0 = r := by
  induction h with
  | root h => exact h
  | step _ _ ih => exact ih
theorem Rt.unique {j : List Nat} {k x r : Nat} (h : Rt j k x r) : ∀ {k' r' : Nat}, Rt j k' x r' → r = r' := by
  induction h with
  | root h =>
    intro k' r' h'
    cases h' with
    | root _ => rfl
    | step hn _ => exact absurd h hn
  | step hn _ ih =>
    intro k' r' h'
    cases h' with
    | root h => exact absurd h hn
    | step _ h => exact ih h
theorem Rt.of_root {j : List Nat} {k x r : Nat} (h : Rt j k x r) : Rt j 0 r r := .root h.fix
/-- A root rx is hung below another root ry. -/
theorem Rt.set {j : List Nat} {rx ry : Nat} (hl : rx < j.length) (hrx : j.getD rx 0 = rx) (hry : j.getD ry 0 = ry) (hne : rx ≠ ry) {k x r : Nat} (h : Rt j k x r) :
    ∃ k', Rt (j.set rx ry) k' x (if r = rx then ry else r) := by
  have hg : ∀ z, (j.set rx ry).getD z 0 = if z = rx then ry else j.getD z 0 := fun z => by
    simp only [List.getD, List.getElem?_set]
    by_cases e : rx = z
    · subst e; simp [hl]
    · rw [if_neg e, if_neg (fun e' => e e'.symm)]
  induction h with
  | @root x h =>
    by_cases e : x = rx
    · subst e
      rw [if_pos rfl]
      refine ⟨1, .step (by rw [hg, if_pos rfl]; exact fun e => hne e.symm) ?_⟩
      rw [hg, if_pos rfl]
      exact .root (by rw [hg, if_neg (fun e => hne e.symm)]; exact hry)
    · rw [if_neg e]
      exact ⟨0, .root (by rw [hg, if_neg e]; exact h)⟩
  | @step k x r hn h ih =>
    have e : x ≠ rx := fun e => hn (by rw [e]; exact hrx)
    obtain ⟨k', h'⟩ := ih
    refine ⟨k' + 1, .step (by rw [hg, if_neg e]; exact hn) ?_⟩
    rw [hg, if_neg e]
    exact h'
def Same (j : List Nat) (a b : Nat) : Prop := ∃ k k' r, Rt j k a r ∧ Rt j k' b r
/-- Joined points lie in one orbit; each point has a root. -/
structure UF (n : Nat) (gl : List (List Nat)) (j : List Nat) : Prop where
  len : j.length = n
  lt : ∀ x, x < n → j.getD x 0 < n
  tot : ∀ x, x < n → ∃ k r, Rt j k x r ∧ r < n
  sound : ∀ a b, a < n → b < n → Same j a b → Orb n gl a b
section
variable {n : Nat} {gl : List (List Nat)} {j : List Nat}
theorem UF.start (n : Nat) (gl : List (List Nat)) : UF n gl (List.range n) := by
  have hr : ∀ x, x < n → Rt (List.range n) 0 x x := fun x hx => .root (range_getD hx)
  refine ⟨by simp, fun x hx => by rw [range_getD hx]; exact hx, fun x hx => ⟨0, x, hr x hx, hx⟩, fun a b ha hb h => ?_⟩
  obtain ⟨k, k', r, h1, h2⟩ := h
  have e1 := h1.unique (hr a ha)
  have e2 := h2.unique (hr b hb)
  have e : a = b := e1.symm.trans e2
  subst e
  exact Orb.refl ha
theorem set_self {j : List Nat} {x : Nat} (h : j.getD x 0 = x) : j.set x x = j := by
  refine List.ext_getElem? fun i => ?_
  rw [List.getElem?_set]
  by_cases e : x = i
  · subst e
    by_cases hl : x < j.length
    · rw [if_pos rfl, if_pos hl, List.getElem?_eq_getElem hl]
      simp only [List.getD, List.getElem?_eq_getElem hl, Option.getD_some] at h
      rw [h]
    · rw [if_pos rfl, if_neg hl, List.getElem?_eq_none (by omega)]
  · rw [if_neg e]
theorem UF.root_lt (h : UF n gl j) {k x r : Nat} (hx : x < n) (h1 : Rt j k x r) : r < n := by
  obtain ⟨k', r', h2, hlt⟩ := h.tot x hx
  rw [h1.unique h2]; exact hlt
theorem UF.join (h : UF n gl j) (hP : PMs n gl) {x y k k' rx ry : Nat} (hx : x < n) (hy : y < n) (hxy : Orb n gl x y) (h1 : Rt j k x rx) (h2 : Rt j k' y ry) :
    UF n gl (j.set rx ry) ∧ Same (j.set rx ry) x y ∧ ∀ a b, Same j a b → Same (j.set rx ry) a b := by
  have hrx := h.root_lt hx h1
  have hry := h.root_lt hy h2
  by_cases e : rx = ry
  · subst e
    rw [set_self h1.fix]
    exact ⟨h, ⟨k, k', rx, h1, h2⟩, fun _ _ h => h⟩
  · have hs : ∀ {k z r}, Rt j k z r → ∃ k', Rt (j.set rx ry) k' z (if r = rx then ry else r) := fun h' => h'.set (by rw [h.len]; exact hrx) h1.fix h2.fix e
    refine ⟨⟨by rw [List.length_set]; exact h.len, fun z hz => ?_, fun z hz => ?_, fun a b ha hb hab => ?_⟩, ?_, ?_⟩
    · simp only [List.getD, List.getElem?_set]
      by_cases e1 : rx = z
      · subst e1
        rw [if_pos rfl, if_pos (by rw [h.len]; exact hrx)]
        exact hry
      · rw [if_neg e1]
        exact h.lt z hz
    · obtain ⟨k0, r, h0, hr⟩ := h.tot z hz
      obtain ⟨k1, h1'⟩ := hs h0
      refine ⟨k1, _, h1', ?_⟩
      split
      · exact hry
      · exact hr
    · obtain ⟨ka, ra, hra, _⟩ := h.tot a ha
      obtain ⟨kb, rb, hrb, _⟩ := h.tot b hb
      obtain ⟨_, ha'⟩ := hs hra
      obtain ⟨_, hb'⟩ := hs hrb
      obtain ⟨_, _, r, h3, h4⟩ := hab
      have e3 := ha'.unique h3
      have e4 := hb'.unique h4
      have hax : ra = rx → Orb n gl a x := fun e => h.sound a x ha hx ⟨ka, k, rx, by rw [← e]; exact hra, h1⟩
      have hbx : rb = rx → Orb n gl b x := fun e => h.sound b x hb hx ⟨kb, k, rx, by rw [← e]; exact hrb, h1⟩
      have hay : ra = ry → Orb n gl a y := fun e => h.sound a y ha hy ⟨ka, k', ry, by rw [← e]; exact hra, h2⟩
      have hby : rb = ry → Orb n gl b y := fun e => h.sound b y hb hy ⟨kb, k', ry, by rw [← e]; exact hrb, h2⟩
      by_cases ea : ra = rx
      · by_cases eb : rb = rx
        · exact h.sound a b ha hb ⟨ka, kb, rx, by rw [← ea]; exact hra, by rw [← eb]; exact hrb⟩
        · rw [if_pos ea] at e3
          rw [if_neg eb] at e4
          have hb2 := hby (by rw [e4, e3])
          exact ((hax ea).trans hP ha hxy).trans hP ha (hb2.symm hP hb)
      · by_cases eb : rb = rx
        · rw [if_neg ea] at e3
          rw [if_pos eb] at e4
          have ha2 := hay (by rw [e3, e4])
          exact (ha2.trans hP ha (hxy.symm hP hx)).trans hP ha ((hbx eb).symm hP hb)
        · rw [if_neg ea] at e3
          rw [if_neg eb] at e4
          exact h.sound a b ha hb ⟨ka, kb, r, by rw [← e3]; exact hra, by rw [← e4]; exact hrb⟩
    · obtain ⟨_, hx'⟩ := hs h1
      obtain ⟨_, hy'⟩ := hs h2
      rw [if_pos rfl] at hx'
      rw [if_neg (fun e' => e e'.symm)] at hy'
      exact ⟨_, _, ry, hx', hy'⟩
    · rintro a b ⟨_, _, r, ha, hb⟩
      obtain ⟨_, ha'⟩ := hs ha
      obtain ⟨_, hb'⟩ := hs hb
      exact ⟨_, _, _, ha', hb'⟩
theorem Same.trans {a b c : Nat} (h : Same j a b) (h' : Same j b c) : Same j a c := by
  obtain ⟨_, _, r, h1, h2⟩ := h
  obtain ⟨_, _, r', h3, h4⟩ := h'
  rw [← h2.unique h3] at h4
  exact ⟨_, _, r, h1, h4⟩
theorem Same.symm {a b : Nat} (h : Same j a b) : Same j b a := by
  obtain ⟨k, k', r, h1, h2⟩ := h
  exact ⟨k', k, r, h2, h1⟩
/-- What all generators join is an orbit. -/
theorem UF.same_of_orb (h : UF n gl j) (hP : PMs n gl) (hj : ∀ g ∈ gl, ∀ i, i < n → Same j i (g.getD i 0)) {a b : Nat} (ha : a < n) (hab : Orb n gl a b) : Same j a b := by
  obtain ⟨p, hp, rfl⟩ := hab
  induction hp with
  | one =>
    rw [range_getD ha]
    obtain ⟨k, r, h1, _⟩ := h.tot a ha
    exact ⟨k, k, r, h1, h1⟩
  | @mul p g hp hg ih =>
    have hpl := (hp.pm hP).lt ha
    have e : (comp p g).getD a 0 = g.getD (p.getD a 0) 0 := (hp.pm hP).getD_comp ha
    rw [e]
    exact ih.trans (hj g hg _ hpl)
  | @div p g hp hg ih =>
    have hpl := (hp.pm hP).lt ha
    have e : (comp p (inv g)).getD a 0 = (inv g).getD (p.getD a 0) 0 := (hp.pm hP).getD_comp ha
    have hbl := (hP g hg).inv.lt hpl
    have e2 : g.getD ((inv g).getD (p.getD a 0) 0) 0 = p.getD a 0 := by
      rw [← (hP g hg).inv.getD_comp hpl, (hP g hg).inv_comp, range_getD hpl]
    have hs := hj g hg _ hbl
    rw [e2] at hs
    rw [e]
    exact ih.trans hs.symm

/-! ### the orbits, point by point -/
def hd (o : List Nat) : Nat := o.getD 0 0
structure WantSt (n : Nat) (gl : List (List Nat)) (i : Nat) (w : List (List Nat)) : Prop where
  each : ∀ o ∈ w, o ≠ [] ∧ Sorted o ∧ hd o < i ∧ ∀ y, y ∈ o ↔ y < i ∧ Orb n gl (hd o) y
  inc : w.Pairwise fun a b => hd a < hd b
  all : ∀ y, y < i → ∃ o ∈ w, y ∈ o
theorem WantSt.start : WantSt n gl 0 [] := ⟨fun o ho => by simp at ho, .nil, fun y hy => by omega⟩
theorem hd_mem {o : List Nat} (h : o ≠ []) : hd o ∈ o := by
  cases o with
  | nil => exact absurd rfl h
  | cons x r => simp [hd]
theorem hd_le {o : List Nat} (hs : Sorted o) {y : Nat} (hy : y ∈ o) : hd o ≤ y := by
  cases o with
  | nil => simp at hy
  | cons x r =>
    rcases List.mem_cons.1 hy with rfl | hy
    · simp [hd]
    · have := (List.pairwise_cons.1 hs).1 y hy
      simp [hd]; omega
theorem hd_append {o : List Nat} (h : o ≠ []) (x : List Nat) : hd (o ++ x) = hd o := by
  cases o with
  | nil => exact absurd rfl h
  | cons y r => simp [hd]
theorem WantSt.new {i : Nat} {w : List (List Nat)} (h : WantSt n gl i w) (hP : PMs n gl) (hi : i < n) (hn : ∀ o ∈ w, ¬ Orb n gl (hd o) i) : WantSt n gl (i + 1) (w ++ [[i]]) := by
  refine ⟨fun o ho => ?_, ?_, fun y hy => ?_⟩
  · rcases List.mem_append.1 ho with hmo | ho
    · obtain ⟨h1, h2, h3, h4⟩ := h.each o hmo
      refine ⟨h1, h2, by omega, fun y => ?_⟩
      rw [h4]
      constructor
      · rintro ⟨a, b⟩; exact ⟨by omega, b⟩
      · rintro ⟨a, b⟩
        by_cases e : y = i
        · rw [e] at b; exact absurd b (hn o hmo)
        · exact ⟨by omega, b⟩
    · obtain rfl : o = [i] := by simpa using ho
      refine ⟨by simp, by simp [Sorted], by simp [hd], fun y => ?_⟩
      simp only [List.mem_singleton, hd, List.getD_cons_zero]
      constructor
      · rintro rfl; exact ⟨by omega, Orb.refl hi⟩
      · rintro ⟨a, b⟩
        by_cases e : y = i
        · exact e
        · obtain ⟨o, ho, hyo⟩ := h.all y (by omega)
          obtain ⟨_, _, h3, h4⟩ := h.each o ho
          exact absurd (((h4 y).1 hyo).2.trans hP (by omega) (b.symm hP hi)) (hn o ho)
  · rw [List.pairwise_append]
    refine ⟨h.inc, by simp, fun a ha b hb => ?_⟩
    obtain rfl : b = [i] := by simpa using hb
    have := (h.each a ha).2.2.1
    simpa [hd] using this
  · by_cases e : y = i
    · exact ⟨[i], by simp, by simp [e]⟩
    · obtain ⟨o, ho, hyo⟩ := h.all y (by omega)
      exact ⟨o, by simp [ho], hyo⟩
theorem WantSt.old {i at_ : Nat} {w : List (List Nat)} (h : WantSt n gl i w) (hP : PMs n gl) (hi : i < n) (ha : at_ < w.length) (ho : Orb n gl (hd (w.getD at_ [])) i) : WantSt n gl (i + 1) (w.set at_ (w.getD at_ [] ++ [i])) := by
  have hm : w.getD at_ [] ∈ w := by
    rw [show w.getD at_ [] = w[at_] by simp [List.getD, List.getElem?_eq_getElem ha]]
    exact List.getElem_mem _
  obtain ⟨w1, w2, w3, w4⟩ := h.each _ hm
  have hhd : hd (w.getD at_ [] ++ [i]) = hd (w.getD at_ []) := hd_append w1 _
  have hmap : (w.set at_ (w.getD at_ [] ++ [i])).map hd = w.map hd := by
    rw [List.map_set, hhd]
    have : hd (w.getD at_ []) = (w.map hd)[at_]'(by simpa using ha) := by simp [List.getD, List.getElem?_eq_getElem ha]
    rw [this, List.set_getElem_self]
  have hin : (w.map hd).Pairwise (· < ·) := by rw [List.pairwise_map]; exact h.inc
  refine ⟨fun o hmo => ?_, ?_, fun y hy => ?_⟩
  · obtain ⟨p, hp, rfl⟩ := List.mem_iff_getElem.1 hmo
    replace hp : p < w.length := by rwa [List.length_set] at hp
    rw [List.getElem_set]
    by_cases e : at_ = p
    · rw [if_pos e]
      refine ⟨by simp, ?_, by rw [hhd]; omega, fun y => ?_⟩
      · unfold Sorted
        rw [List.pairwise_append]
        refine ⟨w2, by simp, fun a ha b hb => ?_⟩
        obtain rfl : b = i := by simpa using hb
        exact ((w4 a).1 ha).1
      · rw [hhd, List.mem_append, w4, List.mem_singleton]
        constructor
        · rintro (⟨a, b⟩ | rfl)
          · exact ⟨by omega, b⟩
          · exact ⟨by omega, ho⟩
        · rintro ⟨a, b⟩
          by_cases e : y = i
          · exact .inr e
          · exact .inl ⟨by omega, b⟩
    · rw [if_neg e]
      have hpw : p < w.length := hp
      have hmp : w[p] ∈ w := List.getElem_mem _
      obtain ⟨h1, h2, h3, h4⟩ := h.each _ hmp
      refine ⟨h1, h2, by omega, fun y => ?_⟩
      rw [h4]
      constructor
      · rintro ⟨a, b⟩; exact ⟨by omega, b⟩
      · rintro ⟨a, b⟩
        by_cases e' : y = i
        · exfalso
          rw [e'] at b
          have hh : Orb n gl (hd w[p]) (hd (w.getD at_ [])) := b.trans hP (by omega) (ho.symm hP (by omega))
          have l1 := hd_le h2 ((h4 _).2 ⟨w3, hh⟩)
          have l2 := hd_le w2 ((w4 _).2 ⟨h3, hh.symm hP (by omega)⟩)
          have e1 : hd w[p] = hd (w.getD at_ []) := by omega
          have e2 : w.getD at_ [] = w[at_] := by simp [List.getD, List.getElem?_eq_getElem ha]
          rw [e2] at e1
          rcases Nat.lt_or_ge at_ p with hlt | hge
          · have := (List.pairwise_iff_getElem.1 h.inc) at_ p ha hp hlt; omega
          · have := (List.pairwise_iff_getElem.1 h.inc) p at_ hp ha (by omega); omega
        · exact ⟨by omega, b⟩
  · have := hin
    rw [← hmap, List.pairwise_map] at this
    exact this
  · by_cases e : y = i
    · refine ⟨w.getD at_ [] ++ [i], ?_, by simp [e]⟩
      exact List.mem_iff_getElem.2 ⟨at_, by rw [List.length_set]; exact ha, by simp⟩
    · obtain ⟨o, hmo, hyo⟩ := h.all y (by omega)
      obtain ⟨p, hp, rfl⟩ := List.mem_iff_getElem.1 hmo
      by_cases e2 : at_ = p
      · subst e2
        refine ⟨w.getD at_ [] ++ [i], List.mem_iff_getElem.2 ⟨at_, by rw [List.length_set]; exact ha, by simp⟩, ?_⟩
        rw [show w.getD at_ [] = w[at_] by simp [List.getD, List.getElem?_eq_getElem ha]]
        exact List.mem_append_left _ hyo
      · exact ⟨w[p], List.mem_iff_getElem.2 ⟨p, by rw [List.length_set]; exact hp, by rw [List.getElem_set, if_neg e2]⟩, hyo⟩
theorem OrbTo.heads {k : Nat} {oss : List (List Nat)} (h : OrbTo n gl k oss) (hk : k ≤ n) (hP : PMs n gl) : (∀ o ∈ oss, o ≠ [] ∧ hd o < k ∧ IsOrb n gl (hd o) o) ∧ oss.Pairwise fun a b => hd a < hd b := by
  induction h with
  | nil => exact ⟨fun o ho => by simp at ho, .nil⟩
  | skip _ _ ih =>
    obtain ⟨h1, h2⟩ := ih (by omega)
    exact ⟨fun o ho => by obtain ⟨a, b, c⟩ := h1 o ho; exact ⟨a, by omega, c⟩, h2⟩
  | @add k oss o hh hn hi ih =>
    obtain ⟨h1, h2⟩ := ih (by omega)
    have hko : k ∈ o := (hi.mem k).2 (Orb.refl (by omega))
    have hne : o ≠ [] := fun e => by rw [e] at hko; simp at hko
    have hle := hd_le hi.so hko
    have hhk : hd o = k := by
      rcases Nat.lt_or_ge (hd o) k with hlt | hge
      · exfalso
        have hok := (hi.mem _).1 (hd_mem hne)
        obtain ⟨o', ho', hk'⟩ := List.mem_flatten.1 ((hh.mem (by omega) hP k).2 ⟨hd o, hlt, hok.symm hP (by omega)⟩)
        exact hn o' ho' hk'
      · omega
    refine ⟨fun o' ho' => ?_, ?_⟩
    · rcases List.mem_append.1 ho' with ho' | ho'
      · obtain ⟨a, b, c⟩ := h1 o' ho'; exact ⟨a, by omega, c⟩
      · obtain rfl : o' = o := by simpa using ho'
        exact ⟨hne, by omega, by rw [hhk]; exact hi⟩
    · rw [List.pairwise_append]
      refine ⟨h2, by simp, fun a ha b hb => ?_⟩
      obtain rfl : b = o := by simpa using hb
      rw [hhk]
      exact (h1 a ha).2.1
theorem eq_of_heads : ∀ {a b : List (List Nat)}, a.map hd = b.map hd → (∀ o ∈ a, ∀ o' ∈ b, hd o = hd o' → o = o') → a = b
  | [], [], _, _ => rfl
  | [], _ :: _, h, _ => by simp at h
  | _ :: _, [], h, _ => by simp at h
  | x :: a, y :: b, h, hs => by
    simp only [List.map_cons, List.cons.injEq] at h
    rw [hs x (by simp) y (by simp) h.1, eq_of_heads h.2 fun o ho o' ho' => hs o (by simp [ho]) o' (by simp [ho'])]
theorem WantSt.done {w oss : List (List Nat)} (h : WantSt n gl n w) (ho : OrbTo n gl n oss) (hP : PMs n gl) : w = oss := by
  obtain ⟨h1, h2⟩ := ho.heads (Nat.le_refl _) hP
  have hw : ∀ o ∈ w, IsOrb n gl (hd o) o := fun o hm => by
    obtain ⟨_, a, b, c⟩ := h.each o hm
    exact ⟨a, fun y => by rw [c]; exact ⟨fun h => h.2, fun h => ⟨h.lt hP b, h⟩⟩⟩
  refine eq_of_heads (sorted_ext ?_ ?_ fun y => ?_) fun o hm o' hm' he => ?_
  · unfold Sorted; rw [List.pairwise_map]; exact h.inc
  · unfold Sorted; rw [List.pairwise_map]; exact h2
  · rw [List.mem_map, List.mem_map]
    constructor
    · rintro ⟨o, hm, rfl⟩
      obtain ⟨a, b, c, d⟩ := h.each o hm
      obtain ⟨o', hm', hh⟩ := List.mem_flatten.1 ((ho.mem (Nat.le_refl _) hP (hd o)).2 ⟨hd o, c, Orb.refl c⟩)
      obtain ⟨a', b', c'⟩ := h1 o' hm'
      have l1 := hd_le c'.so hh
      have l2 := hd_le b (((hw o hm).mem _).2 (((c'.mem _).1 hh).symm hP b'))
      exact ⟨o', hm', by omega⟩
    · rintro ⟨o', hm', rfl⟩
      obtain ⟨a', b', c'⟩ := h1 o' hm'
      obtain ⟨o, hm, hh⟩ := h.all (hd o') b'
      obtain ⟨a, b, c, d⟩ := h.each o hm
      have l1 := hd_le b hh
      have l2 := hd_le c'.so ((c'.mem _).2 (((d _).1 hh).2.symm hP c))
      exact ⟨o, hm, by omega⟩
  · have := h1 o' hm'
    rw [← he] at this
    exact (hw o hm).unique this.2.2
end
end Go.Proofs.Ytnpdlfnhpghkmaa
/- Words for slices of integers in memory. -/
namespace Go.Proofs.Ytnpdlfnhpghkmaa
set_option linter.unusedVariables false
set_option linter.unusedSimpArgs false
open Go.RowKit

theorem block_of_add (a : Addr) (n : Nat) : (a.add n).block = a.block := by unfold Addr.add; split <;> rfl
theorem add_of_add (a : Addr) (i j : Nat) : (a.add i).add j = a.add (i + j) := by
  unfold Addr.add
  by_cases hi : i = 0 <;> by_cases hj : j = 0 <;> simp [hi, hj, Nat.add_assoc]

theorem hide {p : Prop} (h : p) : Hid p := h
/-- The slice value '.slice A n c' holds the integers xs. -/
structure IL (w : World) (A : Option Addr) (n : Nat) (xs : List Int) : Prop where
  len : xs.length = n
  small : n ≤ 17592186044416
  mem : 0 < n → ∃ ad, A = some ad ∧ ad.block < w.heap.size ∧ ∀ j, j < n → w.cell? (ad.add j) = some (.int .i64 (xs.getD j 0))

section
variable {w w' : World} {A : Option Addr} {n : Nat} {xs : List Int}
theorem IL.at_ {k : Nat} (h : IL w A n xs) (hk : k < n) : ∃ ad, A = some ad ∧ w.cell? (ad.add k) = some (.int .i64 (xs.getD k 0)) := by
  obtain ⟨ad, e, _, hc⟩ := h.mem (by omega)
  exact ⟨ad, e, hc k hk⟩
theorem IL.below (h : IL w A n xs) (hb : Below w.heap.size w w') : IL w' A n xs :=
  ⟨h.len, h.small, fun hn => by
    obtain ⟨ad, e, hl, hc⟩ := h.mem hn
    exact ⟨ad, e, Nat.lt_of_lt_of_le hl hb.size, fun j hj => (hb.cell (p := ad.add j) (by rw [block_of_add]; exact hl)).trans (hc j hj)⟩⟩
theorem IL.nil_ (w : World) : IL w none 0 [] := ⟨rfl, by omega, fun h => absurd h (by omega)⟩
theorem below_drewN {B : Nat} {a w : World} (h : Below B a w) (n : Nat) : Below B a (w.drewN n) := ⟨h.os, h.tape, h.output, h.size, h.block⟩
end

/-- Block g is just the cells cs of element type t, none frozen. -/
def Blk (w : World) (g : Nat) (t : TypeId) (cs : Array Value) : Prop := w.heap[g]? = some (.cells cs t (0, 0))
section
variable {w w' : World} {g : Nat} {t : TypeId} {cs : Array Value}
theorem Blk.lt (h : Blk w g t cs) : g < w.heap.size := by
  rcases Nat.lt_or_ge g w.heap.size with hlt | hge
  · exact hlt
  · unfold Blk at h; rw [Array.getElem?_eq_none hge] at h; cases h
theorem Blk.cell (h : Blk w g t cs) (i : Nat) : w.cell? ⟨g, i, none⟩ = cs[i]? := cell_of_row w g i cs t (0, 0) h
theorem Blk.frozen (h : Blk w g t cs) (i : Nat) : w.frozen? ⟨g, i, none⟩ = false := by
  unfold Blk at h
  simp [World.frozen?, h]
theorem Blk.new (w : World) (t : TypeId) (cs : Array Value) : Blk (w.alloc (.cells cs t)) w.heap.size t cs := heap_alloc_new w _
theorem Blk.drewN (h : Blk w g t cs) (n : Nat) : Blk (w.drewN n) g t cs := h
theorem Blk.alloc (h : Blk w g t cs) (o : Obj) : Blk (w.alloc o) g t cs := (Below.heap_alloc w o g h.lt).trans h
theorem Blk.set_ (h : Blk w g t cs) (i : Nat) (u : Value) : Blk (w.setCell ⟨g, i, none⟩ u) g t (cs.setIfInBounds i u) := by
  unfold Blk at h ⊢
  simp [World.setCell, Array.getElem?_modify, h]
theorem Blk.far (h : Blk w g t cs) {p : Addr} (hp : g ≠ p.block) (u : Value) : Blk (w.setCell p u) g t cs := (Below.heap_setCell w p u g hp).trans h
theorem Blk.below {B : Nat} (h : Blk w g t cs) (hb : Below B w w') (hg : g < B) : Blk w' g t cs := (hb.block g hg).trans h
theorem Blk.grown {row : Option Nat} (h : Blk w g t cs) (hb : w.grownBy w' row) (hg : some g ≠ row) : Blk w' g t cs := (hb.block g h.lt hg).trans h
end

/-- The slice '.slice A n c' owns a row from block 'base' on, which holds the integers xs. -/
structure OwnI (w : World) (base : Nat) (A : Option Addr) (n c : Nat) (xs : List Int) : Prop where
  own : w.ownsRow base 3 1 (.slice A n c) n (xs.map (Value.int .i64))
  small : n ≤ 17592186044416
section
variable {w w' : World} {base : Nat} {A : Option Addr} {n c : Nat} {xs : List Int}
theorem OwnI.len (h : OwnI w base A n c xs) : xs.length = n := by have := h.own.1; simpa using this
theorem OwnI.form (h : OwnI w base A n c xs) (hn : 0 < n) : ∃ g, A = some ⟨g, 0, none⟩ ∧ base ≤ g ∧ g < w.heap.size := by
  rcases h.own.2 with ⟨_, h0⟩ | ⟨g, cap, cur, hv, hg, hh, _⟩
  · omega
  · simp only [Value.slice.injEq] at hv
    exact ⟨g, hv.1, hg, Blk.lt (w := w) (t := 3) (cs := cur) hh⟩
theorem OwnI.il (h : OwnI w base A n c xs) : IL w A n xs := by
  refine ⟨h.len, h.small, fun hn => ?_⟩
  obtain ⟨g, rfl, _, hlt⟩ := h.form hn
  refine ⟨⟨g, 0, none⟩, rfl, hlt, fun j hj => ?_⟩
  have e : (⟨g, 0, none⟩ : Addr).add j = ⟨g, j, none⟩ := by unfold Addr.add; split <;> simp_all
  have hl := h.len
  rw [e, h.own.cellAt j (by omega), List.getElem?_map, List.getElem?_eq_getElem (by omega)]
  simp [List.getD, List.getElem?_eq_getElem (show j < xs.length by omega)]
theorem OwnI.below (h : OwnI w base A n c xs) (hb : Below w.heap.size w w') : OwnI w' base A n c xs := by
  refine ⟨⟨h.own.1, ?_⟩, h.small⟩
  rcases h.own.2 with h2 | ⟨g, cap, cur, hv, hg, hh, r⟩
  · exact .inl h2
  · exact .inr ⟨g, cap, cur, hv, hg, (hb.block g (Blk.lt (w := w) (t := 3) (cs := cur) hh)).trans hh, r⟩
theorem OwnI.mono {b' : Nat} (h : OwnI w base A n c xs) (hb : b' ≤ base) : OwnI w b' A n c xs := by
  refine ⟨⟨h.own.1, ?_⟩, h.small⟩
  rcases h.own.2 with h2 | ⟨g, cap, cur, hv, hg, r⟩
  · exact .inl h2
  · exact .inr ⟨g, cap, cur, hv, by omega, r⟩
/-- A made slice. -/
theorem OwnI.zero {z : Array Value} (h : w.ownsRow base 3 1 (.slice A n c) n (madeCells #[Value.int .i64 0] (n * 1)).toList) (hs : n ≤ 17592186044416) : OwnI w base A n c (List.replicate n 0) := by
  refine ⟨?_, hs⟩
  rw [toList_madeCells_one, Nat.mul_one] at h
  simpa using h
theorem OwnI.set_ {g : Nat} (h : OwnI w base (some ⟨g, 0, none⟩) n c xs) (j : Nat) (u : Int) : OwnI (w.setCell ⟨g, j, none⟩ (.int .i64 u)) base (some ⟨g, 0, none⟩) n c (xs.set j u) := by
  refine ⟨?_, h.small⟩
  rw [List.map_set]
  exact (h.own.stored j _).1
theorem OwnI.cell {g : Nat} (h : OwnI w base (some ⟨g, 0, none⟩) n c xs) {j : Nat} (hj : j < n) : w.cell? ⟨g, j, none⟩ = some (.int .i64 (xs.getD j 0)) := by
  have hl := h.len
  rw [h.own.cellAt j (by omega), List.getElem?_map, List.getElem?_eq_getElem (by omega)]
  simp [List.getD, List.getElem?_eq_getElem (show j < xs.length by omega)]
theorem OwnI.frozen {g : Nat} (h : OwnI w base (some ⟨g, 0, none⟩) n c xs) (j : Nat) : w.frozen? ⟨g, j, none⟩ = false := h.own.frozenAt j
end

/-- Whether two lists are equal. -/
def eqB (xs ys : List Int) : Bool := decide (xs = ys)
attribute [irreducible] eqB
theorem eqB_true {xs ys : List Int} (h : xs = ys) : eqB xs ys = true := by unfold eqB; simp [h]
theorem eqB_false {xs ys : List Int} (h : xs ≠ ys) : eqB xs ys = false := by unfold eqB; simp [h]
theorem eqB_iff {xs ys : List Int} : eqB xs ys = true ↔ xs = ys := by unfold eqB; simp
end Go.Proofs.Ytnpdlfnhpghkmaa
/- append on slices of integers that the call itself made. -/
namespace Go.Proofs.Ytnpdlfnhpghkmaa
set_option linter.unusedVariables false
set_option linter.unusedSimpArgs false
open Go.RowKit

/-- What append leaves: the new slice, what turned, and where the new slice lies. -/
structure Appended (w : World) (base : Nat) (A : Option Addr) (n c : Nat) (zs : List Int) (A' : Option Addr) (c' : Nat) (w' : World) : Prop where
  own : OwnI w' base A' n c' zs
  grown : w.grownBy w' (Value.slice A n c).ownBlock
  lies : (Value.slice A' n c').ownBlock = (Value.slice A n c).ownBlock ∨ (Value.slice A' n c').ownBlock = some w.heap.size

theorem ownBlock_len (A : Option Addr) (n m c d : Nat) : (Value.slice A n c).ownBlock = (Value.slice A m d).ownBlock := by cases A <;> rfl

section
variable {P : Program} (w : World)

theorem run_append_int (base : Nat) (t ty : TypeId) (i : TypeInfo) (ht : P.underlying t = some (.slice 3)) (hi : P.info? 3 = some i) (hz : i.zero = some (.int .i64 0)) (hsize : i.size = 1) (hby : i.bytes = 8)
    (A : Option Addr) (n c : Nat) (xs : List Int) (hown : OwnI w base A n c xs) (B : Option Addr) (m d : Nat) (ys : List Int) (hb : IL w B m ys)
    (hs : n + m ≤ 17592186044416) (hbase : base ≤ w.heap.size) :
    ∃ A' c' w', (Builtin.append_ #[t, t] ty #[.slice A n c, .slice B m d]).run P w = .ok (.slice A' (n + m) c') w' ∧ Appended w base A (n + m) c (xs ++ ys) A' c' w' := by
  rcases B with _ | ad
  · have hm : m = 0 := by
      rcases Nat.eq_zero_or_pos m with h0 | h0
      · exact h0
      · obtain ⟨ad, h, _⟩ := hb.mem h0
        cases h
    subst hm
    obtain rfl : ys = [] := List.eq_nil_of_length_eq_zero hb.len
    refine ⟨A, c, w, ?_, ?_⟩
    · rcases hown.own.2 with ⟨hv, h0⟩ | ⟨g, cap, cur, hv, _, _, hnc, _⟩
      · simp only [Value.slice.injEq] at hv
        obtain ⟨rfl, rfl, rfl⟩ := hv
        simp [Builtin.append_, run_underlying ht, sizeOf, typeInfo, hi, Builtin.lenOf, Builtin.firstCells]
      · simp only [Value.slice.injEq, true_and] at hv
        obtain ⟨rfl, rfl⟩ := hv
        simp [Builtin.append_, run_underlying ht, sizeOf, typeInfo, hi, Builtin.lenOf, Builtin.firstCells, hnc, storeCells]
    · exact ⟨by simpa using hown, World.grownBy.refl w _, .inl rfl⟩
  · have hl := hb.len
    have hcells : ∀ j u, (ys.map (Value.int .i64))[j]? = some u → w.cell? (ad.add j) = some u := by
      intro j u hu
      have hj : j < m := by
        have := (List.getElem?_eq_some_iff.1 hu).1
        simpa [hl] using this
      obtain ⟨ad', h, hc⟩ := hb.at_ hj
      injection h with h
      subst h
      rw [hc, ← hu, List.getElem?_map, List.getElem?_eq_getElem (by omega)]
      simp [List.getD, List.getElem?_eq_getElem (show j < ys.length by omega)]
    obtain ⟨v', w', hrun, h2, h3, _, h5⟩ := run_append_own_at (P := P) w base t ty 3 i (.int .i64 0) 1 8 ht hi hz hsize hby rfl (by omega) (.slice A n c) n _ hown.own ad m d (ys.map (Value.int .i64))
      (by simp [hl]) hcells (ints_oneCell _ _) (by simp only [maxLen]; omega) (by omega) hbase
    have hv : ∃ A' c', v' = .slice A' (n + m) c' := by
      rcases h2.2 with ⟨rfl, h0⟩ | ⟨g, cap, cur, rfl, _⟩
      · exact ⟨none, 0, by rw [h0]⟩
      · exact ⟨_, _, rfl⟩
    obtain ⟨A', c', rfl⟩ := hv
    refine ⟨A', c', w', hrun, ⟨?_, hs⟩, ?_, ?_⟩
    · rw [List.map_append]; exact h2
    · rw [ownBlock_len A (n + m) n c c]; exact h3
    · rw [ownBlock_len A (n + m) n c c]; exact h5

theorem wp_append_int {o : Oper} {a : Act} {K : Act → World → Prop} {Q : Exit → Act → World → Prop} (s x : Operand) (t : TypeId)
    (ho : o.op = .call { callee := .builtin .append, args := #[s, x], argTypes := #[t, t] })
    (base : Nat) (i : TypeInfo) (ht : P.underlying t = some (.slice 3)) (hi : P.info? 3 = some i) (hz : i.zero = some (.int .i64 0)) (hsize : i.size = 1) (hby : i.bytes = 8)
    (A : Option Addr) (n c : Nat) (xs : List Int) (hs : a.eval s = .slice A n c) (hown : OwnI w base A n c xs) (B : Option Addr) (m d : Nat) (ys : List Int) (hx : a.eval x = .slice B m d) (hb : IL w B m ys)
    (hsm : n + m ≤ 17592186044416) (hbase : base ≤ w.heap.size)
    (h : ∀ A' c' w', Appended w base A (n + m) c (xs ++ ys) A' c' w' → K (a.put o.dst (.slice A' (n + m) c')) w') : o.wp P a w K Q := by
  obtain ⟨A', c', w', hrun, h2⟩ := run_append_int (P := P) w base t o.type i ht hi hz hsize hby A n c xs hown B m d ys hb hsm hbase
  unfold Oper.wp execOp
  simp only [ho, resolve, invoke, builtin, Sem.run_bind, Sem.run_pure, Result.andThen_ok, List.map_toArray, List.map_cons, List.map_nil, hs, hx, hrun]
  exact h A' c' w' h2

theorem wpList_append_int {ops : Array Oper} {rest : List Oper} {o : Oper} {a : Act} {Q : Exit → Act → World → Prop} (hgd : o.guard = none) (s x : Operand) (t : TypeId)
    (ho : o.op = .call { callee := .builtin .append, args := #[s, x], argTypes := #[t, t] })
    (base : Nat) (i : TypeInfo) (ht : P.underlying t = some (.slice 3)) (hi : P.info? 3 = some i) (hz : i.zero = some (.int .i64 0)) (hsize : i.size = 1) (hby : i.bytes = 8)
    (A : Option Addr) (n c : Nat) (xs : List Int) (hs : a.eval s = .slice A n c) (hown : OwnI w base A n c xs) (B : Option Addr) (m d : Nat) (ys : List Int) (hx : a.eval x = .slice B m d) (hb : IL w B m ys)
    (hsm : n + m ≤ 17592186044416) (hbase : base ≤ w.heap.size)
    (h : ∀ A' c' w', Appended w base A (n + m) c (xs ++ ys) A' c' w' → wpList P ops Q rest (a.put o.dst (.slice A' (n + m) c')) w') : wpList P ops Q (o :: rest) a w :=
  wpList_plain hgd fun _ hK => wp_append_int w s x t ho base i ht hi hz hsize hby A n c xs hs hown B m d ys hx hb hsm hbase fun A' c' w' h2 => hK _ _ (h A' c' w' h2)

theorem step_append_int {ops : Array Oper} {o : Oper} {a : Act} {K : Act → World → Prop} {Q : Exit → Act → World → Prop} {E : Prop} (hgd : o.guard = none) (s x : Operand) (t : TypeId)
    (ho : o.op = .call { callee := .builtin .append, args := #[s, x], argTypes := #[t, t] })
    (base : Nat) (i : TypeInfo) (ht : P.underlying t = some (.slice 3)) (hi : P.info? 3 = some i) (hz : i.zero = some (.int .i64 0)) (hsize : i.size = 1) (hby : i.bytes = 8)
    (A : Option Addr) (n c : Nat) (xs : List Int) (hs : a.eval s = .slice A n c) (hown : OwnI w base A n c xs) (B : Option Addr) (m d : Nat) (ys : List Int) (hx : a.eval x = .slice B m d) (hb : IL w B m ys)
    (hsm : n + m ≤ 17592186044416) (hbase : base ≤ w.heap.size)
    (h : ∀ A' c' w', Appended w base A (n + m) c (xs ++ ys) A' c' w' → K (a.put o.dst (.slice A' (n + m) c')) w') :
    if Region.wanted o (yielded ops a.tmps) = true then Oper.wp P o a w K Q else E := by
  have hw : Region.wanted o (yielded ops a.tmps) = true := by simp [Region.wanted, hgd]
  rw [if_pos hw]
  exact wp_append_int w s x t ho base i ht hi hz hsize hby A n c xs hs hown B m d ys hx hb hsm hbase h
end

section
variable {w w' : World} {base : Nat} {A : Option Addr} {n c : Nat} {xs : List Int}
theorem OwnI.nil_ (w : World) (base : Nat) : OwnI w base none 0 0 [] := ⟨World.ownsRow_nil _ _ _ _, by omega⟩
theorem OwnI.alloc (h : OwnI w base A n c xs) (o : Obj) : OwnI (w.alloc o) base A n c xs := ⟨h.own.alloc o, h.small⟩
theorem OwnI.drew (h : OwnI w base A n c xs) : OwnI w.drew base A n c xs := ⟨h.own, h.small⟩
theorem OwnI.drewN (h : OwnI w base A n c xs) (k : Nat) : OwnI (w.drewN k) base A n c xs := ⟨h.own, h.small⟩
theorem IL.alloc (h : IL w A n xs) (o : Obj) : IL (w.alloc o) A n xs := h.below ((Below.refl _ _).alloc (Nat.le_refl _) o)
theorem IL.drew (h : IL w A n xs) : IL w.drew A n xs := h.below (Below.refl _ _).drew
theorem IL.drewN (h : IL w A n xs) (k : Nat) : IL (w.drewN k) A n xs := h.below (below_drewN (Below.refl _ _) k)
/-- A literal slice. -/
theorem OwnI.lit (w : World) (xs : List Int) (hb : base ≤ w.heap.size) (hs : xs.length ≤ 17592186044416) {cs : Array Value} (hc : cs = (xs.map (Value.int .i64)).toArray) {m d : Nat} (hm : xs.length = m) (hd : m = d) :
    OwnI (w.alloc (.cells cs 3)) base (some ⟨w.heap.size, 0, none⟩) m d xs := by
  subst hc hm hd
  refine ⟨?_, hs⟩
  have := World.ownsRow_lit (base := base) (e := 3) (size := 1) w (xs.map (Value.int .i64)).toArray xs.length hb (by unfold maxLen; omega) (by simp)
  simpa using this
theorem IL.lit (w : World) (xs : List Int) (hs : xs.length ≤ 17592186044416) {cs : Array Value} (hc : cs = (xs.map (Value.int .i64)).toArray) {m : Nat} (hm : xs.length = m) :
    IL (w.alloc (.cells cs 3)) (some ⟨w.heap.size, 0, none⟩) m xs := (OwnI.lit (base := 0) w xs (Nat.zero_le _) hs hc hm rfl).il
/-- A row is kept where another one was written. -/
theorem OwnI.kept (h : OwnI w base A n c xs) {row : Option Nat} (hg : w.grownBy w' row) (hne : (Value.slice A n c).ownBlock = none ∨ (Value.slice A n c).ownBlock ≠ row) : OwnI w' base A n c xs := ⟨h.own.kept hg hne, h.small⟩
theorem OwnI.cap (h : OwnI w base A n c xs) : n ≤ c := by
  rcases h.own.2 with ⟨hv, h0⟩ | ⟨g, cap, cur, hv, _, _, hnc, _⟩
  · omega
  · simp only [Value.slice.injEq, true_and] at hv
    omega
theorem OwnI.lt (h : OwnI w base A n c xs) : ∀ k, (Value.slice A n c).ownBlock = some k → base ≤ k ∧ k < w.heap.size := h.own.lt
end
section
variable {w w' : World} {base : Nat} {A : Option Addr} {n c : Nat} {xs : List Int}
theorem IL.pre {k : Nat} (h : IL w A n xs) (hk : k ≤ n) : IL w A k (xs.take k) := by
  have hl := h.len
  refine ⟨by rw [List.length_take]; omega, by have := h.small; omega, fun h0 => ?_⟩
  obtain ⟨ad, e, hlt, hc⟩ := h.mem (by omega)
  refine ⟨ad, e, hlt, fun j hj => ?_⟩
  rw [hc j (by omega)]
  simp [List.getD, List.getElem?_take, hj]
theorem IL.tail {g o k d : Nat} (h : IL w (some ⟨g, o, none⟩) n xs) (hk : k ≤ n) (hd : n ≤ d) : IL w (if d = k then some ⟨g, o, none⟩ else some ⟨g, o + k, none⟩) (n - k) (xs.drop k) := by
  have hl := h.len
  refine ⟨by rw [List.length_drop]; omega, by have := h.small; omega, fun h0 => ?_⟩
  obtain ⟨ad, e, hlt, hc⟩ := h.mem (by omega)
  injection e with e
  subst e
  rw [if_neg (by omega)]
  refine ⟨_, rfl, hlt, fun j hj => ?_⟩
  have e2 := hc (k + j) (by omega)
  rw [Addr.add_lit] at e2 ⊢
  rw [Nat.add_assoc, e2]
  simp [List.getD, List.getElem?_drop]
end

end Go.Proofs.Ytnpdlfnhpghkmaa
/- A map that the call made, whatever its elements: as a function from keys to elements, with the number of its entries. -/
namespace Go.Proofs.Ytnpdlfnhpghkmaa
open Go.RowKit Go.Maps

/-- An element reads as itself. -/
def HR (v : Value) : Option (DataW Value × List MemPlace) := some (.held v, [])

/-- Block b is a map with s entries, whose element at a key x is f x. -/
structure Dict (P : Program) (k : TypeId) (w : World) (b s : Nat) (f : Value → Option Value) : Prop where
  own : ∃ D : DataW Value, w.ownsMap P k HR b s D ∧ Tidy D ∧ Maps.size D = s ∧ ∀ key kl, keyOf P k key = some kl →
    match f key with
    | none => Maps.has D kl = false
    | some v => Maps.has D kl = true ∧ ∀ z, D.atKey kl z = .held v

section
variable {P : Program} {k : TypeId} {w w' : World} {b s : Nat} {f : Value → Option Value}
theorem Dict.made (w : World) (P : Program) (k : TypeId) : Dict P k (w.alloc (.map #[] 0)) w.heap.size 0 fun _ => none :=
  ⟨⟨.map [], World.ownsMap_made _ _ _ _, tidy_empty, rfl, fun _ _ _ => rfl⟩⟩
theorem Dict.lt (h : Dict P k w b s f) : b < w.heap.size := by obtain ⟨D, hD, _⟩ := h.own; exact hD.lt
theorem Dict.kept {row : Option Nat} (h : Dict P k w b s f) (hg : w.grownBy w' row) (hne : some b ≠ row) : Dict P k w' b s f := by
  obtain ⟨D, hD, r⟩ := h.own
  exact ⟨⟨D, hD.kept hg hne, r⟩⟩
theorem Dict.below (h : Dict P k w b s f) (hb : Below w.heap.size w w') : Dict P k w' b s f := by
  have hlt := h.lt
  obtain ⟨D, ⟨es, clock, hbl, r1⟩, r⟩ := h.own
  exact ⟨⟨D, ⟨es, clock, (hb.block b hlt).trans hbl, r1⟩, r⟩⟩
theorem Dict.alloc (h : Dict P k w b s f) (o : Obj) : Dict P k (w.alloc o) b s f := h.below ((Below.refl _ _).alloc (Nat.le_refl _) o)
theorem Dict.setCell (h : Dict P k w b s f) {a : Addr} (ha : b ≠ a.block) (u : Value) : Dict P k (w.setCell a u) b s f := by
  obtain ⟨D, hD, r⟩ := h.own
  exact ⟨⟨D, hD.setCell ha u, r⟩⟩
theorem Dict.drewN (h : Dict P k w b s f) (n : Nat) : Dict P k (w.drewN n) b s f := by
  obtain ⟨D, hD, r⟩ := h.own
  exact ⟨⟨D, hD, r⟩⟩
theorem Dict.setRow (h : Dict P k w b s f) {g : Nat} (ha : b ≠ g) (cs : Array Value) : Dict P k (w.setRow g cs) b s f := by
  obtain ⟨D, ⟨es, clock, hbl, r1⟩, r⟩ := h.own
  exact ⟨⟨D, ⟨es, clock, (setRow_other w g b cs ha).trans hbl, r1⟩, r⟩⟩
/-- Another map was written. -/
theorem Dict.turned {c : Nat} (h : Dict P k w b s f) (hg : w.grownBy w' (some c)) (hne : b ≠ c) : Dict P k w' b s f := h.kept hg (by simpa using hne)

theorem HR_inv {v : Value} {d : DataW Value} {ps : List MemPlace} (h : HR v = some (d, ps)) : d = .held v := by
  simp [HR] at h
  exact h.1.symm

/-- v, ok := m[x] -/
theorem Dict.look_ok {t e : TypeId} (h : Dict P k w b s f) (K : Keyed P k) (ht : P.underlying t = some (.map k e)) {z : Value} (hz : (zeroValue e).run P w = .ok z w)
    {key : Value} {kl : Lit} (hkey : keyOf P k key = some kl) : (Instr.lookup t (.map (some b)) key true).run P w = .ok (.tuple #[(f key).getD z, .bool (f key).isSome]) w := by
  obtain ⟨D, hD, _, _, hf⟩ := h.own
  obtain ⟨v, ps, hrun, hv⟩ := hD.look_ok K ht hz (zd := .held z) (zp := []) rfl hkey
  have hv := HR_inv hv
  have := hf key kl hkey
  rw [hrun]
  cases hfk : f key with
  | none =>
    rw [hfk] at this
    have hv2 := Maps.atKey_of_not_has this (.held z)
    rw [hv2] at hv
    injection hv with hv
    simp [this, hv]
  | some u =>
    rw [hfk] at this
    rw [this.2] at hv
    injection hv with hv
    simp [this.1, hv]
/-- m[x] -/
theorem Dict.look {t e : TypeId} (h : Dict P k w b s f) (K : Keyed P k) (ht : P.underlying t = some (.map k e)) {z : Value} (hz : (zeroValue e).run P w = .ok z w)
    {key : Value} {kl : Lit} (hkey : keyOf P k key = some kl) : (Instr.lookup t (.map (some b)) key false).run P w = .ok ((f key).getD z) w := by
  obtain ⟨D, hD, _, _, hf⟩ := h.own
  obtain ⟨v, ps, hrun, hv⟩ := hD.lookup K ht hz (zd := .held z) (zp := []) rfl hkey
  have hv := HR_inv hv
  have := hf key kl hkey
  rw [hrun]
  cases hfk : f key with
  | none =>
    rw [hfk] at this
    have hv2 := Maps.atKey_of_not_has this (.held z)
    rw [hv2] at hv
    injection hv with hv
    simp [hv]
  | some u =>
    rw [hfk] at this
    rw [this.2] at hv
    injection hv with hv
    simp [hv]
/-- len(m) -/
theorem Dict.len {t e : TypeId} (h : Dict P k w b s f) (ht : P.underlying t = some (.map k e)) (ty : TypeId) : (Builtin.len_ #[t] ty #[.map (some b)]).run P w = .ok (.int .i64 s) w := by
  obtain ⟨D, hD, _, hs, _⟩ := h.own
  rw [hD.len ht ty, hs]
/-- m[x] = v -/
theorem Dict.store {t e : TypeId} (h : Dict P k w b s f) (K : Keyed P k) (ht : P.underlying t = some (.map k e)) (hn : s < maxLen)
    {key : Value} {kl : Lit} (hkey : keyOf P k key = some kl) (v : Value) {f' : Value → Option Value} (h1 : f' key = some v) (h2 : ∀ y l, keyOf P k y = some l → y ≠ key → f' y = f y) :
    ∃ w', (Instr.mapUpdate t (.map (some b)) key v).run P w = .ok () w' ∧ Dict P k w' b (if (f key).isSome then s else s + 1) f' ∧ w.grownBy w' (some b) ∧ w'.heap.size = w.heap.size := by
  obtain ⟨D, hD, hT, hs, hf⟩ := h.own
  obtain ⟨w1, hrun, hD1, hg⟩ := hD.store K ht hn hkey (val := v) (d := .held v) (ps := []) rfl
  have hIK : WideAt.IsKeyLit kl := K.key hkey
  have hT1 := hT.put hIK (.held v)
  have hsz : Maps.size (D.put kl (.held v)) = if (f key).isSome then s else s + 1 := by
    rw [Maps.size_put hT, hs]
    have := hf key kl hkey
    cases hfk : f key with
    | none => rw [hfk] at this; simp [this]
    | some u => rw [hfk] at this; simp [this.1]
  refine ⟨w1, hrun, ⟨⟨D.put kl (.held v), ?_, hT1, hsz, fun key' kl' hk' => ?_⟩⟩, hg.grown, ?_⟩
  · obtain ⟨es, clock, hb1, F1, hle, hDe⟩ := hD1
    refine ⟨es, clock, hb1, F1, ?_, hDe⟩
    rw [← hsz, hDe]
    simp [Maps.size, length_sorted]
  · by_cases e : key' = key
    · subst e
      rw [h1]
      have : kl' = kl := by rw [hkey] at hk'; injection hk' with hk'; exact hk'.symm
      subst this
      exact ⟨Maps.has_put_same hD.isMap hIK _, fun z => Maps.atKey_put_same hD.isMap hIK _ z⟩
    · rw [h2 key' kl' hk' e]
      have hne : kl' ≠ kl := fun h' => e (K.inj hk' (h' ▸ hkey))
      have := hf key' kl' hk'
      cases hfk : f key' with
      | none => rw [hfk] at this; simp only; rw [Maps.has_put_other hne]; exact this
      | some u =>
        rw [hfk] at this
        exact ⟨by rw [Maps.has_put_other hne]; exact this.1, fun z => by rw [Maps.atKey_put_other hne]; exact this.2 z⟩
  · obtain ⟨_, _, es', clock', _, rfl⟩ := hg
    simp [ChangeMaps.setBlock]
theorem Dict.congr {g : Value → Option Value} {s' : Nat} (h : Dict P k w b s f) (hs : s = s') (hfg : ∀ key kl, keyOf P k key = some kl → f key = g key) : Dict P k w b s' g := by
  subst hs
  obtain ⟨D, h1, h2, h3, h4⟩ := h.own
  exact ⟨⟨D, h1, h2, h3, fun key kl hk => by have := h4 key kl hk; rw [hfg key kl hk] at this; exact this⟩⟩
end

section
variable {P : Program} (w : World) {ops : Array Oper} {rest : List Oper} {o : Oper} {a : Act} {Q : Exit → Act → World → Prop}
theorem wpList_look_ok (hg : o.guard = none) (m x : Operand) (t : TypeId) (hop : o.op = Op.lookup t m x true) (k e : TypeId) (K : Keyed P k) (ht : P.underlying t = some (.map k e)) {z : Value} (hz : (zeroValue e).run P w = .ok z w)
    (b s : Nat) (f : Value → Option Value) (hm : a.eval m = .map (some b)) (h : Dict P k w b s f) (key : Value) (kl : Lit) (hx : a.eval x = key) (hkey : keyOf P k key = some kl)
    (hK : wpList P ops Q rest (a.put o.dst (.tuple #[(f key).getD z, .bool (f key).isSome])) w) : wpList P ops Q (o :: rest) a w := by
  refine wpList_plain hg fun K' hK' => ?_
  unfold Oper.wp
  simp [execOp, hop, hm, hx, h.look_ok K ht hz hkey, Result.andThen]
  exact hK' _ _ hK
theorem wpList_look (hg : o.guard = none) (m x : Operand) (t : TypeId) (hop : o.op = Op.lookup t m x false) (k e : TypeId) (K : Keyed P k) (ht : P.underlying t = some (.map k e)) {z : Value} (hz : (zeroValue e).run P w = .ok z w)
    (b s : Nat) (f : Value → Option Value) (hm : a.eval m = .map (some b)) (h : Dict P k w b s f) (key : Value) (kl : Lit) (hx : a.eval x = key) (hkey : keyOf P k key = some kl)
    (hK : wpList P ops Q rest (a.put o.dst ((f key).getD z)) w) : wpList P ops Q (o :: rest) a w := by
  refine wpList_plain hg fun K' hK' => ?_
  unfold Oper.wp
  simp [execOp, hop, hm, hx, h.look K ht hz hkey, Result.andThen]
  exact hK' _ _ hK
theorem wpList_mlen (hg : o.guard = none) (m : Operand) (t : TypeId) (hop : o.op = Op.call { callee := Callee.builtin Builtin.len, args := #[m], argTypes := #[t] })
    (k e : TypeId) (ht : P.underlying t = some (.map k e)) (b s : Nat) (f : Value → Option Value) (hm : a.eval m = .map (some b)) (h : Dict P k w b s f)
    (hK : wpList P ops Q rest (a.put o.dst (.int .i64 s)) w) : wpList P ops Q (o :: rest) a w := by
  refine wpList_plain hg fun K' hK' => ?_
  unfold Oper.wp
  simp [execOp, hop, resolve, invoke, builtin, hm, h.len ht o.type, Result.andThen]
  exact hK' _ _ hK
theorem wpList_mput (hg : o.guard = none) (m x v : Operand) (t : TypeId) (hop : o.op = Op.mapUpdate t m x v ∨ o.op = Op.insert t m x v) (k e : TypeId) (K : Keyed P k) (ht : P.underlying t = some (.map k e))
    (b s : Nat) (f : Value → Option Value) (hm : a.eval m = .map (some b)) (h : Dict P k w b s f) (hn : s < maxLen) (key val : Value) (kl : Lit) (hx : a.eval x = key) (hv : a.eval v = val) (hkey : keyOf P k key = some kl)
    (f' : Value → Option Value) (h1 : f' key = some val) (h2 : ∀ y l, keyOf P k y = some l → y ≠ key → f' y = f y)
    (hK : ∀ w', Dict P k w' b (if (f key).isSome then s else s + 1) f' → w.grownBy w' (some b) → w'.heap.size = w.heap.size → wpList P ops Q rest (a.put o.dst undef) w') : wpList P ops Q (o :: rest) a w := by
  refine wpList_plain hg fun K' hK' => ?_
  obtain ⟨w', hrun, r1, r2, r3⟩ := h.store K ht hn hkey val h1 h2
  unfold Oper.wp
  rcases hop with hop | hop
  all_goals
    simp [execOp, hop, hm, hx, hv, hrun, Result.andThen]
    exact hK' _ _ (hK w' r1 r2 r3)
end
end Go.Proofs.Ytnpdlfnhpghkmaa
/- Regions that draw their order, walked by hand: what only reads comes first. -/
namespace Go.Proofs.Ytnpdlfnhpghkmaa
open Go.RowKit Go.Maps

section
variable {P : Program} {ops : Array Oper} {Q : Exit → Act → World → Prop} {S : World → Prop} {md : Region.Mode}

/-- Just one operation may come up: it is carried out. -/
theorem wpAnyH_one {i : Nat} {o : Oper} {fuel : Nat} {listed : Array Bool} {a : Act} {w : World} (hr : Region.ready md ops listed = [i]) (ho : ops[i]? = some o) (hg : Region.wanted o (yielded ops a.tmps) = true)
    (h : o.wp P a w (fun a' w' => S w' ∧ wpAnyH P md ops Q S fuel (listed.setIfInBounds i true) a' w') Q) : wpAnyH P md ops Q S (fuel + 1) listed a w := by
  refine wpAnyH_all hr (by simp) fun j hj => ?_
  obtain rfl : j = i := by simpa using hj
  unfold wpOp
  simp only [ho, hg, if_true]
  exact .inl h
/-- One of two. -/
theorem wpAnyH_two {i k : Nat} {o o' : Oper} {fuel : Nat} {listed : Array Bool} {a : Act} {w : World} (hr : Region.ready md ops listed = [i, k]) (ho : ops[i]? = some o) (ho' : ops[k]? = some o') (hg : Region.wanted o (yielded ops a.tmps) = true) (hg' : Region.wanted o' (yielded ops a.tmps) = true)
    (h : o.wp P a w (fun a' w' => S w' ∧ wpAnyH P md ops Q S fuel (listed.setIfInBounds i true) a' w') Q) (h' : o'.wp P a w (fun a' w' => S w' ∧ wpAnyH P md ops Q S fuel (listed.setIfInBounds k true) a' w') Q) : wpAnyH P md ops Q S (fuel + 1) listed a w := by
  refine wpAnyH_all hr (by simp) fun j hj => ?_
  unfold wpOp
  rcases List.mem_cons.1 hj with rfl | hj
  · simp only [ho, hg, if_true]
    exact .inl h
  · obtain rfl : j = k := by simpa using hj
    simp only [ho', hg', if_true]
    exact .inl h'

theorem noPanic_mk {a : Act} {w : World} (h : Q .normal a w) : NoPanic Q .normal a w := h
/-- Number i, written out, is taken first. -/
theorem wpAnyH_tk (i : Nat) {d : Option Tmp} {op : Op} {ty : TypeId} {pos : String} {af : Array Edge} {gd : Option (Tmp × Bool)} {v : Value} {fuel : Nat} {listed : Array Bool} {a : Act} {w : World} (hi : ops[i]? = some ⟨d, op, ty, pos, af, gd⟩)
    (hs : Region.noSelect ops = true) (hf : Region.free md ops listed i = true) (hr : (Region.ready md ops listed).contains i = true)
    (hy : YieldsIf P ops S ⟨d, op, ty, pos, af, gd⟩ v a) (hS : S w)
    (h : wpAnyH P md ops (NoPanic Q) S fuel (listed.setIfInBounds i true) (a.put d v) w) : wpAnyH P md ops (NoPanic Q) S (fuel + 1) listed a w :=
  wpAnyH_take hi hs hf hr (fun _ _ _ h => h) hy hS h
theorem wpAnyH_1 (i : Nat) {d : Option Tmp} {op : Op} {ty : TypeId} {pos : String} {af : Array Edge} {fuel : Nat} {listed : Array Bool} {a : Act} {w : World} (ho : ops[i]? = some ⟨d, op, ty, pos, af, none⟩) (hr : Region.ready md ops listed = [i])
    (h : Oper.wp P ⟨d, op, ty, pos, af, none⟩ a w (fun a' w' => S w' ∧ wpAnyH P md ops Q S fuel (listed.setIfInBounds i true) a' w') Q) : wpAnyH P md ops Q S (fuel + 1) listed a w :=
  wpAnyH_one hr ho rfl h

/-- What an operation yields, leaving the world alone. -/
def Gives (P : Program) (o : Oper) (a : Act) (w : World) (v : Value) : Prop := (execOp a.eval o).run P w = .ok (.value v) w
theorem yi {o : Oper} {v : Value} {a : Act} (hg : Region.wanted o (yielded ops a.tmps) = true) (h : ∀ w, S w → Gives P o a w v) : YieldsIf P ops S o v a := .inl ⟨hg, h⟩

variable {o : Oper} {a : Act} {w : World}
theorem gives_move {x : Operand} {v : Value} (ho : o.op = .move x ∨ o.op = .assign x) (hx : a.eval x = v) : Gives P o a w v := by
  subst hx
  unfold Gives execOp
  rcases ho with ho | ho <;> rw [ho] <;> rfl
theorem gives_extract {x : Operand} {k : Nat} {vs : Array Value} {v : Value} (ho : o.op = .extract x k) (hx : a.eval x = .tuple vs) (hv : vs[k]? = some v) : Gives P o a w v := by
  unfold Gives execOp
  rw [ho]
  simp [hx, Instr.extract, hv, Result.andThen]
/-- An element of an array variable of n one-cell elements. -/
theorem gives_indexArr {t e : TypeId} {n : Nat} {x y : Operand} {g k : Nat} {q : IntKind} (ho : o.op = .indexAddr t x y) (ht : P.underlying t = some (.array n e)) (he : ∀ w, (sizeOf e).run P w = .ok 1 w) (hx : a.eval x = .pointer (some ⟨g, 0, none⟩)) (hy : a.eval y = .int q k) (hk : k < n) :
    Gives P o a w (.pointer (some ⟨g, k, none⟩)) := by
  have hadd : (⟨g, 0, none⟩ : Addr).add k = ⟨g, k, none⟩ := by rw [Addr.add_mid]; simp
  unfold Gives execOp
  rw [ho]
  simp [hx, hy, Instr.indexAt, Sem.run_bind, asIntOf, run_underlying ht, Instr.sureAddr, he, hk, hadd, Result.andThen]
theorem gives_indexSlice {t e : TypeId} {m : Nat} {x y : Operand} {ad : Addr} {k n c : Nat} {q : IntKind} (ho : o.op = .indexAddr t x y) (ht : P.underlying t = some (.slice e)) (he : ∀ w, (sizeOf e).run P w = .ok m w) (hx : a.eval x = .slice (some ad) n c) (hy : a.eval y = .int q k) (hk : k < n) :
    Gives P o a w (.pointer (some (ad.add (k * m)))) := by
  unfold Gives execOp
  rw [ho]
  simp [hx, hy, Instr.indexAt, Sem.run_bind, asIntOf, run_underlying ht, Instr.sureAddr, he, hk, Result.andThen]
theorem gives_indexB {t e : TypeId} {m : Nat} {x y : Operand} {g k n c : Nat} {q : IntKind} (ho : o.op = .indexAddr t x y) (ht : P.underlying t = some (.slice e)) (he : ∀ w, (sizeOf e).run P w = .ok m w) (hx : a.eval x = .slice (some ⟨g, 0, none⟩) n c) (hy : a.eval y = .int q k) (hk : k < n) :
    Gives P o a w (.pointer (some ⟨g, k * m, none⟩)) := by
  have := gives_indexSlice (w := w) ho ht he hx hy hk
  rwa [show (⟨g, 0, none⟩ : Addr).add (k * m) = ⟨g, k * m, none⟩ by rw [Addr.add_mid]; simp] at this
theorem gives_load1 {t : TypeId} {x : Operand} {ad : Addr} {v : Value} (ho : o.op = .load t x) (h1 : (isAgg t).run P w = .ok false w) (hx : a.eval x = .pointer (some ad)) (hc : w.cell? ad = some v) : Gives P o a w v := by
  unfold Gives execOp
  rw [ho]
  simp [hx, Instr.loadAt, Instr.sureAddr, loadVar, Sem.run_bind, h1, hc, Result.andThen]
theorem gives_loadRow {ty t : TypeId} {x : Operand} {g : Nat} {cs : Array Value} {fr : Nat × Nat} {d : TypeDesc} (ho : o.op = .load ty x) (hx : a.eval x = .pointer (some ⟨g, 0, none⟩)) (hg : w.heap[g]? = some (.cells cs t fr))
    (hu : P.underlying ty = some d) (hd : (match d with | .struct _ | .array _ _ => true | _ => false) = true) (hi : (P.info? ty).map (·.size) = some cs.size) : Gives P o a w (.agg cs) := by
  unfold Gives execOp
  rw [ho]
  simp [hx, Instr.loadAt, Instr.sureAddr, run_loadVar_row w g t ty cs fr d hg hu hd hi, Result.andThen]
theorem gives_loadMid {ty : TypeId} {x : Operand} {g k : Nat} {cs : List Value} {d : TypeDesc} (ho : o.op = .load ty x) (hx : a.eval x = .pointer (some ⟨g, k, none⟩)) (hg : w.rangeAt g k cs)
    (hu : P.underlying ty = some d) (hd : d.isRow = true) (hi : (P.info? ty).map (·.size) = some cs.length) : Gives P o a w (.agg cs.toArray) := by
  unfold Gives execOp
  rw [ho]
  simp [hx, Instr.loadAt, Instr.sureAddr, run_loadVar_mid w g k ty cs d hg hu hd hi, Result.andThen]
theorem gives_lookup {t : TypeId} {x y : Operand} {m key v : Value} {ok : Bool} (ho : o.op = .lookup t x y ok) (hx : a.eval x = m) (hy : a.eval y = key) (h : (Instr.lookup t m key ok).run P w = .ok v w) : Gives P o a w v := by
  unfold Gives execOp
  rw [ho]
  simp [hx, hy, h, Result.andThen]
theorem gives_fieldAddr {s : TypeId} {fs : Array Field} {f : Field} {x : Operand} {k g : Nat} (ho : o.op = .fieldAddr s x k) (hs : P.underlying s = some (.struct fs)) (hf : fs[k]? = some f) (hx : a.eval x = .pointer (some ⟨g, 0, none⟩)) (hp : ∀ w, (fieldPlace ⟨g, 0, none⟩ f).run P w = .ok ⟨g, f.offset, none⟩ w) :
    Gives P o a w (.pointer (some ⟨g, f.offset, none⟩)) := by
  unfold Gives execOp
  rw [ho]
  simp [hx, Instr.fieldAt, Sem.run_bind, run_underlying hs, hf, Instr.sureAddr, hp, Result.andThen]

/-! ### what an operation does -/
theorem wp_gives {K : Act → World → Prop} {v : Value} (h : Gives P o a w v) (hK : K (a.put o.dst v) w) : o.wp P a w K Q := by
  unfold Oper.wp
  unfold Gives at h
  rw [h]
  exact hK
theorem wp_alloc {K : Act → World → Prop} {t : TypeId} {z : Value} {cs : Array Value} (ho : o.op = .alloc t) (hz : (zeroValue t).run P w = .ok z w) (hc : z.cells = cs)
    (hK : K (a.put o.dst (.pointer (some ⟨w.heap.size, 0, none⟩))) (w.alloc (.cells cs t))) : o.wp P a w K Q := by
  subst hc
  unfold Oper.wp execOp
  rw [ho]
  simp [Instr.alloc, Sem.run_bind, hz, Result.andThen, newVar, newRow, newObj]
  exact hK
theorem wp_mput {K : Act → World → Prop} {m x v : Operand} {t k e : TypeId} (hop : o.op = Op.mapUpdate t m x v ∨ o.op = Op.insert t m x v) (Kk : Keyed P k) (ht : P.underlying t = some (.map k e))
    (b s : Nat) (f : Value → Option Value) (hm : a.eval m = .map (some b)) (h : Dict P k w b s f) (hn : s < maxLen) (key val : Value) (kl : Lit) (hx : a.eval x = key) (hv : a.eval v = val) (hkey : keyOf P k key = some kl)
    (f' : Value → Option Value) (h1 : f' key = some val) (h2 : ∀ y l, keyOf P k y = some l → y ≠ key → f' y = f y)
    (hK : ∀ w', Dict P k w' b (if (f key).isSome then s else s + 1) f' → w.grownBy w' (some b) → w'.heap.size = w.heap.size → K (a.put o.dst undef) w') : o.wp P a w K Q := by
  obtain ⟨w', hrun, r1, r2, r3⟩ := h.store Kk ht hn hkey val h1 h2
  unfold Oper.wp
  rcases hop with hop | hop
  all_goals
    simp [execOp, hop, hm, hx, hv, hrun, Result.andThen]
    exact hK w' r1 r2 r3
theorem wp_call {K : Act → World → Prop} {f : FuncId} {l : List Operand} {ts : Array TypeId} (al : List Value) (ho : o.op = .call { callee := .value (.func f), args := l.toArray, argTypes := ts }) (hx : l.map a.eval = al)
    (hcall : ∀ args w, (callFunc f args).run P w = .ok (.enter f args) w) (hev : a.eval (.func f) = .func (.func f) #[] #[])
    (h : Calls P f al.toArray w fun e w' => ∃ v, e = .returned v ∧ K (a.put o.dst v) w') : o.wp P a w K Q := by
  subst hx
  unfold Oper.wp execOp
  rw [ho]
  simp only [resolve, Deferred.ofValue, hev, invoke, Sem.run_bind, Result.andThen, Sem.run_pure, Array.empty_append, Array.append_empty, hcall, List.map_toArray]
  refine h.mono fun e w' ⟨v, he, hK⟩ => ?_
  subst he
  exact hK
theorem enters {f : FuncId} {fn : Func} (hf : P.funcs[f]? = some fn) (hname : (fn.name == "runtime.NumGoroutine") = false) (hb : fn.body.isSome = true) (args : Array Value) (w : World) :
    (callFunc f args).run P w = .ok (.enter f args) w := by
  obtain ⟨c, hc⟩ := Option.isSome_iff_exists.1 hb
  unfold callFunc
  rw [Sem.run_bind]
  simp [hf, hc, ne_of_beq_false hname]
end

/-! ### A region whose last operation may do anything: S is asked of the worlds before it alone. -/
section
variable {P : Program} {ops : Array Oper} {Q : Exit → Act → World → Prop} {S : World → Prop} {md : Region.Mode}

/-- Whatever order is picked from here on; behind each operation but number t, S holds. -/
def wpT (P : Program) (md : Region.Mode) (ops : Array Oper) (Q : Exit → Act → World → Prop) (S : World → Prop) (t : Nat) : Nat → Array Bool → Act → World → Prop
  | 0, listed, a, w => Region.ready md ops listed = [] ∧ Q .normal a w
  | fuel + 1, listed, a, w => (Region.ready md ops listed = [] → Q .normal a w) ∧
      ∀ i ∈ Region.ready md ops listed, wpOp P ops Q i (fun a' w' => (i ≠ t → S w') ∧ wpT P md ops Q S t fuel (listed.setIfInBounds i true) a' w') a w
theorem wpT_any {t : Nat} : ∀ (fuel : Nat) {listed : Array Bool} {a : Act} {w : World}, wpT P md ops Q S t fuel listed a w → wpAny P md ops Q fuel listed a w
  | 0, _, _, _, h => h
  | fuel + 1, _, _, _, h => ⟨h.1, fun i hi => wpOp_mono (fun _ _ h' => wpT_any fuel h'.2) (h.2 i hi)⟩

/-- What is listed has what it waits for listed. -/
def Cl (md : Region.Mode) (ops : Array Oper) (listed : Array Bool) : Prop := ∀ k ok, ops[k]? = some ok → listed.getD k false = true → ∀ e ∈ ok.after, Region.binds md e = true → listed.getD e.on false = true
theorem Cl.set {listed : Array Bool} {j : Nat} (h : Cl md ops listed) (hj : j ∈ Region.ready md ops listed) : Cl md ops (listed.setIfInBounds j true) := fun k ok hk hl e he hb => by
  obtain ⟨_, oj, hoj, hall⟩ := mem_ready.1 hj
  by_cases c : j = k
  · subst c
    rw [hoj] at hk
    injection hk with hk
    subst hk
    exact getD_set_true (hall e he hb)
  · rw [getD_set_ne false c] at hl
    exact getD_set_true (h k ok hk hl e he hb)
/-- Does operation t wait for i, by however many steps (at most n)? -/
def waitsB (md : Region.Mode) (ops : Array Oper) : Nat → Nat → Nat → Bool
  | 0, _, _ => false
  | n + 1, t, i => match ops[t]? with | some o => o.after.any fun e => Region.binds md e && (e.on == i || waitsB md ops n e.on i) | none => false
theorem waits_listed {listed : Array Bool} (h : Cl md ops listed) : ∀ (n t i : Nat), waitsB md ops n t i = true → listed.getD t false = true → listed.getD i false = true
  | 0, _, _, hw, _ => by cases hw
  | n + 1, t, i, hw, hl => by
    unfold waitsB at hw
    cases ho : ops[t]? with
    | none => rw [ho] at hw; cases hw
    | some o =>
      rw [ho] at hw
      simp only [Array.any_eq_true'] at hw
      obtain ⟨e, he, hb⟩ := hw
      rw [Bool.and_eq_true, Bool.or_eq_true] at hb
      have h1 := h t o ho hl e he hb.1
      rcases hb.2 with h2 | h2
      · rw [← beq_iff_eq.1 h2]; exact h1
      · exact waits_listed h n _ i h2 h1
theorem waits_ready {listed : Array Bool} (h : Cl md ops listed) {n t i : Nat} (hw : waitsB md ops n t i = true) (ht : t ∈ Region.ready md ops listed) : listed.getD i false = true := by
  obtain ⟨_, o, ho, hall⟩ := mem_ready.1 ht
  cases n with
  | zero => cases hw
  | succ n =>
    unfold waitsB at hw
    rw [ho] at hw
    simp only [Array.any_eq_true'] at hw
    obtain ⟨e, he, hb⟩ := hw
    rw [Bool.and_eq_true, Bool.or_eq_true] at hb
    have h1 := hall e he hb.1
    rcases hb.2 with h2 | h2
    · rw [← beq_iff_eq.1 h2]; exact h1
    · exact waits_listed h n _ i h2 h1
def closedB (md : Region.Mode) (ops : Array Oper) (listed : Array Bool) : Bool := (List.range ops.size).all fun k => !listed.getD k false || (match ops[k]? with | some o => o.after.all fun e => !Region.binds md e || listed.getD e.on false | none => true)
theorem closedB_spec {listed : Array Bool} (h : closedB md ops listed = true) : Cl md ops listed := fun k ok hk hl e he hb => by
  have hlt : k < ops.size := (Array.getElem?_eq_some_iff.1 hk).1
  have h1 := List.all_eq_true.1 h k (List.mem_range.2 hlt)
  rw [hk] at h1
  simp only [hl, Bool.not_true, Bool.false_or] at h1
  have h2 := (Array.all_eq_true_iff_forall_mem.1 h1) e he
  simpa [hb] using h2

/-- Operation i, which t waits for, is taken first. -/
theorem wpT_first {t i n : Nat} {oi : Oper} {v : Value} (hi : ops[i]? = some oi) (hw : waitsB md ops n t i = true) (hs : Region.noSelect ops = true)
    (hQ : ∀ c a w, Q (.panic c) (a.put oi.dst v) w → Q (.panic c) a w) : ∀ (fuel : Nat) (listed : Array Bool) (a : Act) (w : World), Cl md ops listed →
      (∀ j oj, ops[j]? = some oj → j ≠ i → listed.getD j true = false → (∀ e ∈ oj.after, Region.binds md e = true → e.on ≠ i) → oi.apart ops oj = true) →
      i ∈ Region.ready md ops listed → YieldsIf P ops S oi v a → S w →
      wpT P md ops Q S t fuel (listed.setIfInBounds i true) (a.put oi.dst v) w → wpT P md ops Q S t (fuel + 1) listed a w := by
  have hsel := Region.noSelect_spec hs
  intro fuel
  induction fuel with
  | zero =>
    intro listed a w _ _ hr hy hS H
    refine ⟨(fun h => by rw [h] at hr; cases hr), fun j hj => ?_⟩
    by_cases e : j = i
    · subst e
      exact hy.wpOp hi hS ⟨fun _ => hS, H⟩
    · have h0 := ready_mono hj e
      rw [H.1] at h0
      cases h0
  | succ fuel ih =>
    intro listed a w hcl hf hr hy hS H
    refine ⟨(fun h => by rw [h] at hr; cases hr), fun j hj => ?_⟩
    by_cases e : j = i
    · subst e
      exact hy.wpOp hi hS ⟨fun _ => hS, H⟩
    · obtain ⟨hun, oj, hoj, hall⟩ := mem_ready.1 hj
      have hiun : listed.getD i false = false := by
        have h0 := (mem_ready.1 hr).1
        rcases Nat.lt_or_ge i listed.size with h' | h'
        · simp [h'] at h0 ⊢; exact h0
        · simp [Array.getElem?_eq_none h']
      have hnw : ∀ e ∈ oj.after, Region.binds md e = true → e.on ≠ i := fun e he hb hon => by
        have := hall e he hb
        rw [hon, hiun] at this
        cases this
      have hjt : j ≠ t := by
        rintro rfl
        have := waits_ready hcl hw hj
        rw [hiun] at this
        cases this
      have h2 := wpOp_putIf hoj (hf j oj hoj e hun hnw) (fun cs b => hsel i oi cs b hi) (fun cs b => hsel j oj cs b hoj) hQ hy (H.2 j (ready_mono hj e))
      refine wpOp_mono (fun a' w' h3 => ⟨h3.2.1, ih (listed.setIfInBounds j true) a' w' (hcl.set hj) (fun k ok hk hki hun' hno => hf k ok hk hki ?_ hno) (ready_mono hr (Ne.symm e)) h3.1 (h3.2.1 hjt) ?_⟩) h2
      · by_cases hjk : j = k
        · subst hjk; exact hun
        · rw [getD_set_ne true hjk] at hun'; exact hun'
      · rw [Array.setIfInBounds_comm _ _ e]
        exact h3.2.2

theorem wpT_tk (i : Nat) {t : Nat} {d : Option Tmp} {op : Op} {ty : TypeId} {pos : String} {af : Array Edge} {gd : Option (Tmp × Bool)} {v : Value} {fuel : Nat} {listed : Array Bool} {a : Act} {w : World} (hi : ops[i]? = some ⟨d, op, ty, pos, af, gd⟩)
    (hs : Region.noSelect ops = true) (hf : Region.free md ops listed i = true) (hr : (Region.ready md ops listed).contains i = true) (hw : (waitsB md ops 20 t i && closedB md ops listed) = true)
    (hy : YieldsIf P ops S ⟨d, op, ty, pos, af, gd⟩ v a) (hS : S w)
    (h : wpT P md ops (NoPanic Q) S t fuel (listed.setIfInBounds i true) (a.put d v) w) : wpT P md ops (NoPanic Q) S t (fuel + 1) listed a w := by
  rw [Bool.and_eq_true] at hw
  exact wpT_first hi hw.1 hs (fun _ _ _ h => h) fuel listed a w (closedB_spec hw.2) (Region.free_spec hi hf) (by simpa using hr) hy hS h
theorem wpT_1 (i : Nat) {t : Nat} {d : Option Tmp} {op : Op} {ty : TypeId} {pos : String} {af : Array Edge} {fuel : Nat} {listed : Array Bool} {a : Act} {w : World} (ho : ops[i]? = some ⟨d, op, ty, pos, af, none⟩) (hr : Region.ready md ops listed = [i])
    (h : Oper.wp P ⟨d, op, ty, pos, af, none⟩ a w (fun a' w' => (i ≠ t → S w') ∧ wpT P md ops Q S t fuel (listed.setIfInBounds i true) a' w') Q) : wpT P md ops Q S t (fuel + 1) listed a w := by
  refine ⟨(fun h0 => by rw [hr] at h0; cases h0), fun j hj => ?_⟩
  rw [hr] at hj
  obtain rfl : j = i := by simpa using hj
  unfold wpOp
  have hg : Region.wanted (⟨d, op, ty, pos, af, none⟩ : Oper) (yielded ops a.tmps) = true := rfl
  simp only [ho, hg, if_true]
  exact .inl h
theorem wpT_done {t : Nat} {listed : Array Bool} {a : Act} {w : World} (hr : Region.ready md ops listed = []) (h : Q .normal a w) : ∀ fuel, wpT P md ops Q S t fuel listed a w
  | 0 => ⟨hr, h⟩
  | _ + 1 => ⟨fun _ => h, by rw [hr]; simp⟩
theorem wp_region_T {id : Nat} {a : Act} {w : World} (t : Nat) (hm : P.follows .mixedOrders = true) (hS : S w.drew)
    (h : S w.drew → wpT P .any ops (NoPanic Q) S t ops.size (Array.replicate ops.size false) a w.drew) : (Code.region id ops true).wp P Q a w :=
  wp_region_noPanic (wp_region_any hm (wpT_any _ (h hS)))

/-- A call of a function value. -/
theorem wp_callV {o : Oper} {a : Act} {w : World} {K : Act → World → Prop} {x : Operand} {f : FuncId} {l : List Operand} {ts : Array TypeId} {cap : List Value} (al : List Value) (ho : o.op = .call { callee := .value x, args := l.toArray, argTypes := ts }) (hx : l.map a.eval = al)
    (hcall : ∀ args w, (callFunc f args).run P w = .ok (.enter f args) w) (hev : a.eval x = .func (.func f) #[] cap.toArray)
    (h : Calls P f (al ++ cap).toArray w fun e w' => ∃ v, e = .returned v ∧ K (a.put o.dst v) w') : o.wp P a w K Q := by
  subst hx
  unfold Oper.wp execOp
  rw [ho]
  simp only [resolve, Deferred.ofValue, hev, invoke, Sem.run_bind, Result.andThen, Sem.run_pure, Array.empty_append, hcall, List.map_toArray, List.append_toArray]
  refine h.mono fun e w' ⟨v, he, hK⟩ => ?_
  subst he
  exact hK
end
end Go.Proofs.Ytnpdlfnhpghkmaa
/- Slices of slices of integers that the call itself made. -/
namespace Go.Proofs.Ytnpdlfnhpghkmaa
set_option linter.unusedVariables false
set_option linter.unusedSimpArgs false
open Go.RowKit

/-- Every block of cells of type e is as it was. -/
def KeepT (e : TypeId) (w w' : World) : Prop := ∀ (g : Nat) (cur : Array Value), w.heap[g]? = some (.cells cur e (0, 0)) → w'.heap[g]? = some (.cells cur e (0, 0))
section
variable {e t : TypeId} {w w' w2 : World} {g : Nat} {cs : Array Value}
theorem KeepT.refl (e : TypeId) (w : World) : KeepT e w w := fun _ _ h => h
theorem KeepT.trans (h : KeepT e w w') (k : KeepT e w' w2) : KeepT e w w2 := fun g cur hg => k g cur (h g cur hg)
theorem KeepT.below (h : Below w.heap.size w w') : KeepT e w w' := fun g cur hg => (h.block g (Blk.lt (w := w) (t := e) (cs := cur) hg)).trans hg
theorem KeepT.alloc (w : World) (o : Obj) : KeepT e w (w.alloc o) := KeepT.below ((Below.refl _ _).alloc (Nat.le_refl _) o)
theorem KeepT.set_ (h : Blk w g t cs) (hne : t ≠ e) (i : Nat) (u : Value) : KeepT e w (w.setCell ⟨g, i, none⟩ u) := fun k cur hk => by
  refine (Below.heap_setCell w ⟨g, i, none⟩ u k ?_).trans hk
  rintro rfl
  unfold Blk at h
  rw [hk] at h
  injection h with h
  injection h with _ h
  exact hne h.symm
theorem KeepT.grown {row : Option Nat} (hg : w.grownBy w' row) (hr : ∀ k, row = some k → ∃ (t : TypeId) (cs : Array Value), w.heap[k]? = some (.cells cs t (0, 0)) ∧ t ≠ e) : KeepT e w w' := fun k cur hk => by
  refine (hg.block k (Blk.lt (w := w) (t := e) (cs := cur) hk) ?_).trans hk
  intro he
  obtain ⟨t, cs, h, hne⟩ := hr k he.symm
  rw [hk] at h
  injection h with h
  injection h with _ h
  exact hne h.symm
theorem KeepT.own {base size n : Nat} {v : Value} {xs : List Value} (h : KeepT e w w') (ho : w.ownsRow base e size v n xs) : w'.ownsRow base e size v n xs := by
  refine ⟨ho.1, ?_⟩
  rcases ho.2 with h2 | ⟨k, cap, cur, hv, hg, hh, r⟩
  · exact .inl h2
  · exact .inr ⟨k, cap, cur, hv, hg, h k cur hh, r⟩
theorem KeepT.ownI {base n c : Nat} {A : Option Addr} {xs : List Int} (h : KeepT 3 w w') (ho : OwnI w base A n c xs) : OwnI w' base A n c xs := ⟨h.own ho.own, ho.small⟩
end

/-- A slice of slices: its own row. -/
structure OwnV (w : World) (base : Nat) (A : Option Addr) (n c : Nat) (vs : List Value) : Prop where
  own : w.ownsRow base 23 1 (.slice A n c) n vs
  small : n ≤ 1000000
/-- The values are slices of the call's own, which hold the lists. -/
structure RowsI (w : World) (base : Nat) (vs : List Value) (xss : List (List Int)) : Prop where
  len : vs.length = xss.length
  row : ∀ i, i < vs.length → ∃ A n c, vs[i]? = some (.slice A n c) ∧ OwnI w base A n c (xss.getD i [])
section
variable {w w' : World} {base n c : Nat} {A : Option Addr} {vs : List Value} {xss : List (List Int)}
theorem OwnV.nil_ (w : World) (base : Nat) : OwnV w base none 0 0 [] := ⟨World.ownsRow_nil _ _ _ _, by omega⟩
theorem OwnV.len (h : OwnV w base A n c vs) : vs.length = n := by have := h.own.1; simpa using this
theorem OwnV.keep (h : OwnV w base A n c vs) (k : KeepT 23 w w') : OwnV w' base A n c vs := ⟨k.own h.own, h.small⟩
theorem OwnV.alloc (h : OwnV w base A n c vs) (o : Obj) : OwnV (w.alloc o) base A n c vs := h.keep (KeepT.alloc w o)
theorem OwnV.lt (h : OwnV w base A n c vs) : ∀ k, (Value.slice A n c).ownBlock = some k → base ≤ k ∧ k < w.heap.size := h.own.lt
theorem OwnV.block (h : OwnV w base A n c vs) : ∀ k, (Value.slice A n c).ownBlock = some k → ∃ (t : TypeId) (cs : Array Value), w.heap[k]? = some (.cells cs t (0, 0)) ∧ t ≠ 3 := by
  intro k hk
  rcases h.own.2 with ⟨hv, _⟩ | ⟨g, cap, cur, hv, _, hh, _⟩
  · rw [hv] at hk; cases hk
  · rw [hv] at hk
    injection hk with hk
    subst hk
    exact ⟨23, cur, hh, by decide⟩
theorem OwnV.cellAt (h : OwnV w base A n c vs) {j : Nat} (hj : j < n) : ∃ g, A = some ⟨g, 0, none⟩ ∧ w.cell? ⟨g, j, none⟩ = vs[j]? := by
  rcases h.own.2 with ⟨_, h0⟩ | ⟨g, cap, cur, hv, _, hh, _⟩
  · omega
  · have hA : A = some ⟨g, 0, none⟩ := by injection hv
    subst hA
    exact ⟨g, rfl, h.own.cellAt j (by omega)⟩
theorem RowsI.nil_ (w : World) (base : Nat) : RowsI w base [] [] := ⟨rfl, fun i hi => by simp at hi⟩
theorem RowsI.keep (h : RowsI w base vs xss) (k : KeepT 3 w w') : RowsI w' base vs xss := ⟨h.len, fun i hi => by
  obtain ⟨A, n, c, e, ho⟩ := h.row i hi
  exact ⟨A, n, c, e, k.ownI ho⟩⟩
theorem RowsI.snoc (h : RowsI w base vs xss) {B : Option Addr} {m d : Nat} {xs : List Int} (ho : OwnI w base B m d xs) : RowsI w base (vs ++ [.slice B m d]) (xss ++ [xs]) := by
  refine ⟨by simp [h.len], fun i hi => ?_⟩
  by_cases hlt : i < vs.length
  · obtain ⟨A, n, c, e, ho⟩ := h.row i hlt
    refine ⟨A, n, c, by rw [List.getElem?_append_left hlt]; exact e, ?_⟩
    have : (xss ++ [xs]).getD i [] = xss.getD i [] := by
      simp only [List.getD]
      rw [List.getElem?_append_left (by rw [← h.len]; exact hlt)]
    rw [this]
    exact ho
  · have hi' : i = vs.length := by simp at hi; omega
    subst hi'
    refine ⟨B, m, d, by simp, ?_⟩
    have : (xss ++ [xs]).getD vs.length [] = xs := by rw [h.len]; simp [List.getD]
    rw [this]
    exact ho
end

structure AppendedV (w : World) (base : Nat) (A : Option Addr) (n c : Nat) (zs : List Value) (A' : Option Addr) (c' : Nat) (w' : World) : Prop where
  own : OwnV w' base A' n c' zs
  grown : w.grownBy w' (Value.slice A n c).ownBlock
  lies : (Value.slice A' n c').ownBlock = (Value.slice A n c).ownBlock ∨ (Value.slice A' n c').ownBlock = some w.heap.size

section
variable {P : Program} (w : World)
theorem run_append_val (base : Nat) (t ty : TypeId) (i : TypeInfo) (ht : P.underlying t = some (.slice 23)) (hi : P.info? 23 = some i) (hz : i.zero = some (.slice none 0 0)) (hsize : i.size = 1) (hby : i.bytes = 24)
    (A : Option Addr) (n c : Nat) (vs : List Value) (hown : OwnV w base A n c vs) (ad : Addr) (d : Nat) (u : Value) (hu : w.cell? ad = some u) (h1 : u.oneCell' = true)
    (hs : n + 1 ≤ 1000000) (hbase : base ≤ w.heap.size) :
    ∃ A' c' w', (Builtin.append_ #[t, t] ty #[.slice A n c, .slice (some ad) 1 d]).run P w = .ok (.slice A' (n + 1) c') w' ∧ AppendedV w base A (n + 1) c (vs ++ [u]) A' c' w' := by
  have hcells : ∀ j v, [u][j]? = some v → w.cell? (ad.add j) = some v := by
    intro j v hv
    rcases j with _ | j
    · simp at hv
      subst hv
      have : ad.add 0 = ad := by unfold Addr.add; simp
      rw [this]
      exact hu
    · simp at hv
  obtain ⟨v', w', hrun, h2, h3, _, h5⟩ := run_append_own_at (P := P) w base t ty 23 i (.slice none 0 0) 1 24 ht hi hz hsize hby rfl (by omega) (.slice A n c) n _ hown.own ad 1 d [u]
    rfl hcells (by simpa using h1) (by simp only [maxLen]; omega) (by omega) hbase
  have hv : ∃ A' c', v' = .slice A' (n + 1) c' := by
    rcases h2.2 with ⟨rfl, h0⟩ | ⟨g, cap, cur, rfl, _⟩
    · omega
    · exact ⟨_, _, rfl⟩
  obtain ⟨A', c', rfl⟩ := hv
  refine ⟨A', c', w', hrun, ⟨h2, hs⟩, ?_, ?_⟩
  · rw [ownBlock_len A (n + 1) n c c]; exact h3
  · rw [ownBlock_len A (n + 1) n c c]; exact h5

theorem wpList_append_val {ops : Array Oper} {rest : List Oper} {o : Oper} {a : Act} {Q : Exit → Act → World → Prop} (hgd : o.guard = none) (s x : Operand) (t : TypeId)
    (ho : o.op = .call { callee := .builtin .append, args := #[s, x], argTypes := #[t, t] })
    (base : Nat) (i : TypeInfo) (ht : P.underlying t = some (.slice 23)) (hi : P.info? 23 = some i) (hz : i.zero = some (.slice none 0 0)) (hsize : i.size = 1) (hby : i.bytes = 24)
    (A : Option Addr) (n c : Nat) (vs : List Value) (hs : a.eval s = .slice A n c) (hown : OwnV w base A n c vs) (ad : Addr) (d : Nat) (u : Value) (hx : a.eval x = .slice (some ad) 1 d) (hu : w.cell? ad = some u) (h1 : u.oneCell' = true)
    (hsm : n + 1 ≤ 1000000) (hbase : base ≤ w.heap.size)
    (h : ∀ A' c' w', AppendedV w base A (n + 1) c (vs ++ [u]) A' c' w' → wpList P ops Q rest (a.put o.dst (.slice A' (n + 1) c')) w') : wpList P ops Q (o :: rest) a w :=
  wpList_plain hgd fun K hK => by
    obtain ⟨A', c', w', hrun, h2⟩ := run_append_val (P := P) w base t o.type i ht hi hz hsize hby A n c vs hown ad d u hu h1 hsm hbase
    unfold Oper.wp execOp
    simp only [ho, resolve, invoke, builtin, Sem.run_bind, Sem.run_pure, Result.andThen_ok, List.map_toArray, List.map_cons, List.map_nil, hs, hx, hrun]
    exact hK _ _ (h A' c' w' h2)
end
end Go.Proofs.Ytnpdlfnhpghkmaa
/- The search for first shortest words: elements in the order in which they are found, each with its word. -/
namespace Go.Proofs.Ytnpdlfnhpghkmaa

abbrev Ent := List Nat × List Int
abbrev Lt := Int × List Nat
def entAt (f : List Ent) (i : Nat) : Ent := f.getD i ([], [])
def ltAt (ls : List Lt) (k : Nat) : Lt := ls.getD k (0, [])
/-- The letters of the first i generators, in order. -/
def ltsTo (gl : List (List Nat)) (i : Nat) : List Lt := (List.range i).flatMap fun (j : Nat) => [((j : Int) + 1, gl.getD j []), (-(j : Int) - 1, inv (gl.getD j []))]
def lts (gl : List (List Nat)) : List Lt := ltsTo gl gl.length
theorem ltsTo_zero (gl : List (List Nat)) : ltsTo gl 0 = [] := rfl
theorem ltsTo_succ (gl : List (List Nat)) (i : Nat) : ltsTo gl (i + 1) = ltsTo gl i ++ [((i : Int) + 1, gl.getD i []), (-(i : Int) - 1, inv (gl.getD i []))] := by
  unfold ltsTo
  rw [List.range_succ, List.flatMap_append]
  simp
theorem ltsTo_length (gl : List (List Nat)) : ∀ i, (ltsTo gl i).length = 2 * i
  | 0 => rfl
  | i + 1 => by rw [ltsTo_succ, List.length_append, ltsTo_length gl i]; simp; omega
theorem ltAt_append_left {a b : List Lt} {k : Nat} (h : k < a.length) : ltAt (a ++ b) k = ltAt a k := by
  simp only [ltAt, List.getD]
  rw [List.getElem?_append_left h]
theorem ltsTo_at (gl : List (List Nat)) : ∀ (i j : Nat), j < i → ltAt (ltsTo gl i) (2 * j) = ((j : Int) + 1, gl.getD j []) ∧ ltAt (ltsTo gl i) (2 * j + 1) = (-(j : Int) - 1, inv (gl.getD j []))
  | 0, j, h => absurd h (by omega)
  | i + 1, j, h => by
    rw [ltsTo_succ]
    by_cases e : j = i
    · subst e
      have hl := ltsTo_length gl j
      constructor
      · simp only [ltAt, List.getD]
        rw [List.getElem?_append_right (by omega), hl]
        simp
      · simp only [ltAt, List.getD]
        rw [List.getElem?_append_right (by omega), hl]
        simp
    · have hl := ltsTo_length gl i
      rw [ltAt_append_left (by omega), ltAt_append_left (by omega)]
      exact ltsTo_at gl i j (by omega)
/-- The value of a letter. -/
def lg (gl : List (List Nat)) (x : Int) : List Nat := if x < 0 then inv (gl.getD (-x - 1).toNat []) else gl.getD (x - 1).toNat []
theorem mem_ltsTo {gl : List (List Nat)} {i : Nat} {l : Lt} : l ∈ ltsTo gl i ↔ ∃ j, j < i ∧ (l = ((j : Int) + 1, gl.getD j []) ∨ l = (-(j : Int) - 1, inv (gl.getD j []))) := by
  unfold ltsTo
  rw [List.mem_flatMap]
  constructor
  · rintro ⟨j, hj, h⟩
    simp only [List.mem_cons, List.not_mem_nil, or_false] at h
    exact ⟨j, List.mem_range.1 hj, h⟩
  · rintro ⟨j, hj, h⟩
    exact ⟨j, List.mem_range.2 hj, by simp only [List.mem_cons, List.not_mem_nil, or_false]; exact h⟩
theorem mem_lts_lg {gl : List (List Nat)} {l : Lt} (h : l ∈ lts gl) : l.2 = lg gl l.1 ∧ l.1 ≠ 0 ∧ l.1 ≤ gl.length ∧ -(gl.length : Int) ≤ l.1 := by
  obtain ⟨j, hj, rfl | rfl⟩ := mem_ltsTo.1 h
  · refine ⟨?_, ?_, ?_, ?_⟩
    · unfold lg
      rw [if_neg (by show ¬ ((j : Int) + 1 < 0); omega)]
      show gl.getD j [] = gl.getD ((j : Int) + 1 - 1).toNat []
      rw [show ((j : Int) + 1 - 1).toNat = j by omega]
    · show (j : Int) + 1 ≠ 0; omega
    · show (j : Int) + 1 ≤ gl.length; omega
    · show -(gl.length : Int) ≤ (j : Int) + 1; omega
  · refine ⟨?_, ?_, ?_, ?_⟩
    · unfold lg
      rw [if_pos (by show -(j : Int) - 1 < 0; omega)]
      show inv (gl.getD j []) = inv (gl.getD (-(-(j : Int) - 1) - 1).toNat [])
      rw [show (-(-(j : Int) - 1) - 1).toNat = j by omega]
    · show -(j : Int) - 1 ≠ 0; omega
    · show -(j : Int) - 1 ≤ gl.length; omega
    · show -(gl.length : Int) ≤ -(j : Int) - 1; omega
theorem ltAt_mem {ls : List Lt} {k : Nat} (h : k < ls.length) : ltAt ls k ∈ ls := by
  unfold ltAt
  rw [show ls.getD k (0, []) = ls[k] by simp [List.getD, List.getElem?_eq_getElem h]]
  exact List.getElem_mem h
theorem entAt_mem {f : List Ent} {k : Nat} (h : k < f.length) : entAt f k ∈ f := by
  unfold entAt
  rw [show f.getD k ([], []) = f[k] by simp [List.getD, List.getElem?_eq_getElem h]]
  exact List.getElem_mem h
theorem mem_entAt {f : List Ent} {e : Ent} (h : e ∈ f) : ∃ k, k < f.length ∧ entAt f k = e := by
  obtain ⟨k, hk, rfl⟩ := List.mem_iff_getElem.1 h
  exact ⟨k, hk, by simp [entAt, List.getD, List.getElem?_eq_getElem hk]⟩
theorem entAt_left {a b : List Ent} {k : Nat} (h : k < a.length) : entAt (a ++ b) k = entAt a k := by
  simp only [entAt, List.getD]
  rw [List.getElem?_append_left h]
theorem entAt_last {a : List Ent} {e : Ent} : entAt (a ++ [e]) a.length = e := by simp [entAt, List.getD]

/-- The entry that letter k makes of entry i. -/
def mk (ls : List Lt) (f : List Ent) (i k : Nat) : Ent := (comp (entAt f i).1 (ltAt ls k).2, (entAt f i).2 ++ [(ltAt ls k).1])
/-- The search has done i entries, and k letters of the next. -/
inductive Bfs (n : Nat) (ls : List Lt) : Nat → Nat → List Ent → Prop
  | start : Bfs n ls 0 0 [(List.range n, [])]
  | old {i k : Nat} {f : List Ent} : Bfs n ls i k f → i < f.length → k < ls.length → (mk ls f i k).1 ∈ f.map (·.1) → Bfs n ls i (k + 1) f
  | new {i k : Nat} {f : List Ent} : Bfs n ls i k f → i < f.length → k < ls.length → (mk ls f i k).1 ∉ f.map (·.1) → Bfs n ls i (k + 1) (f ++ [mk ls f i k])
  | next {i : Nat} {f : List Ent} : Bfs n ls i ls.length f → i < f.length → Bfs n ls (i + 1) 0 f
section
variable {n : Nat} {ls : List Lt} {i k : Nat} {f : List Ent}
theorem Bfs.unique (h : Bfs n ls i k f) : ∀ {g : List Ent}, Bfs n ls i k g → f = g := by
  induction h with
  | start => intro g hg; cases hg; rfl
  | old _ _ _ hm ih =>
    intro g hg
    cases hg with
    | old h' _ _ _ => exact ih h'
    | new h' _ _ hm' => obtain rfl := ih h'; exact absurd hm hm'
  | new _ _ _ hm ih =>
    intro g hg
    cases hg with
    | old h' _ _ hm' => obtain rfl := ih h'; exact absurd hm' hm
    | new h' _ _ _ => obtain rfl := ih h'; rfl
  | next _ _ ih =>
    intro g hg
    cases hg with
    | next h' _ => exact ih h'
theorem Bfs.k_le (h : Bfs n ls i k f) : k ≤ ls.length := by
  induction h with
  | start => omega
  | old _ _ h _ _ => exact h
  | new _ _ h _ _ => exact h
  | next => omega
theorem Bfs.i_le (h : Bfs n ls i k f) : i ≤ f.length ∧ 0 < f.length := by
  induction h with
  | start => simp
  | old _ _ _ _ ih => exact ih
  | new _ _ _ _ ih => rw [List.length_append]; simp; omega
  | next _ h ih => omega
theorem Bfs.pre {i' k' : Nat} {g : List Ent} (h : Bfs n ls i k f) (h' : Bfs n ls i' k' g) : i < i' ∨ i = i' ∧ k ≤ k' → f <+: g := by
  induction h' with
  | start =>
    intro hle
    obtain ⟨rfl, hk⟩ : i = 0 ∧ k ≤ 0 := by omega
    obtain rfl : k = 0 := by omega
    rw [h.unique .start]
    exact List.prefix_refl _
  | @old i' k' g h' a b hm ih =>
    intro hle
    by_cases e : i = i' ∧ k = k' + 1
    · obtain ⟨rfl, rfl⟩ := e
      rw [h.unique (.old h' a b hm)]
      exact List.prefix_refl _
    · exact ih (by omega)
  | @new i' k' g h' a b hm ih =>
    intro hle
    by_cases e : i = i' ∧ k = k' + 1
    · obtain ⟨rfl, rfl⟩ := e
      rw [h.unique (.new h' a b hm)]
      exact List.prefix_refl _
    · exact (ih (by omega)).trans (List.prefix_append _ _)
  | @next i' g h' a ih =>
    intro hle
    have hk := h.k_le
    by_cases e : i = i' + 1
    · obtain rfl := e
      obtain rfl : k = 0 := by omega
      rw [h.unique (.next h' a)]
      exact List.prefix_refl _
    · exact ih (by omega)
theorem Bfs.nd (h : Bfs n ls i k f) : (f.map (·.1)).Nodup := by
  induction h with
  | start => simp
  | old _ _ _ _ ih => exact ih
  | next _ _ ih => exact ih
  | @new i k f _ _ _ hm ih =>
    rw [List.map_append, List.nodup_append]
    refine ⟨ih, by simp, ?_⟩
    intro a ha b hb e
    have hb' : b = (mk ls f i k).1 := by simpa using hb
    rw [e, hb'] at ha
    exact hm ha
theorem Bfs.inj (h : Bfs n ls i k f) {e e' : Ent} (he : e ∈ f) (he' : e' ∈ f) (hp : e.1 = e'.1) : e = e' := by
  have hn := h.nd
  clear h
  induction f with
  | nil => simp at he
  | cons a f ih =>
    rw [List.map_cons, List.nodup_cons] at hn
    rcases List.mem_cons.1 he with rfl | he1
    · rcases List.mem_cons.1 he' with rfl | he2
      · rfl
      · exact absurd (List.mem_map.2 ⟨e', he2, hp.symm⟩) hn.1
    · rcases List.mem_cons.1 he' with rfl | he2
      · exact absurd (List.mem_map.2 ⟨e, he1, hp⟩) hn.1
      · exact ih he1 he2 hn.2
theorem Bfs.zero (h : Bfs n ls i k f) : entAt f 0 = (List.range n, []) := by
  induction h with
  | start => rfl
  | old _ _ _ _ ih => exact ih
  | next _ _ ih => exact ih
  | new h0 _ _ _ ih => rw [entAt_left h0.i_le.2]; exact ih
/-- Each entry but the first comes from an earlier one. -/
theorem Bfs.parent (h : Bfs n ls i k f) {j : Nat} (hj : j < f.length) (h0 : 0 < j) : ∃ a c, a < j ∧ c < ls.length ∧ entAt f j = mk ls f a c := by
  induction h with
  | start => simp at hj; omega
  | old _ _ _ _ ih => exact ih hj
  | next _ _ ih => exact ih hj
  | @new i k f hb hi hk _ ih =>
    rw [List.length_append] at hj
    simp only [List.length_cons, List.length_nil] at hj
    by_cases e : j = f.length
    · subst e
      refine ⟨i, k, hi, hk, ?_⟩
      rw [entAt_last]
      simp only [mk]
      rw [entAt_left hi]
    · obtain ⟨a, c, h1, h2, h3⟩ := ih (by omega)
      refine ⟨a, c, h1, h2, ?_⟩
      rw [entAt_left (by omega), h3]
      simp only [mk]
      rw [entAt_left (by omega)]
theorem Bfs.all {S : Ent → Prop} (h : Bfs n ls i k f) (h1 : S (List.range n, [])) (hs : ∀ e l, l ∈ ls → S e → S (comp e.1 l.2, e.2 ++ [l.1])) : ∀ e ∈ f, S e := by
  induction h with
  | start => intro e he; obtain rfl : e = _ := by simpa using he
             exact h1
  | old _ _ _ _ ih => exact ih
  | next _ _ ih => exact ih
  | new _ hi hk _ ih =>
    intro e he
    rcases List.mem_append.1 he with he | he
    · exact ih e he
    · obtain rfl : e = _ := by simpa using he
      exact hs _ _ (ltAt_mem hk) (ih _ (entAt_mem hi))
/-- Words do not get shorter, and the last is at most one letter longer than what is worked on. -/
theorem Bfs.mono (h : Bfs n ls i k f) : (∀ a b, a ≤ b → b < f.length → (entAt f a).2.length ≤ (entAt f b).2.length) ∧ (i < f.length → ∀ b, b < f.length → (entAt f b).2.length ≤ (entAt f i).2.length + 1) := by
  induction h with
  | start =>
    refine ⟨fun a b hab hb => ?_, fun _ b hb => ?_⟩
    · simp only [List.length_cons, List.length_nil] at hb
      obtain ⟨rfl, rfl⟩ : a = 0 ∧ b = 0 := by omega
      exact Nat.le_refl _
    · simp only [List.length_cons, List.length_nil] at hb
      obtain rfl : b = 0 := by omega
      omega
  | old _ _ _ _ ih => exact ih
  | @next i f _ _ ih =>
    refine ⟨ih.1, fun hi b hb => ?_⟩
    have h1 := ih.2 (by omega) b hb
    have h2 := ih.1 i (i + 1) (by omega) hi
    omega
  | @new i k f _ hi hk _ ih =>
    have hn : (entAt (f ++ [mk ls f i k]) f.length).2.length = (entAt f i).2.length + 1 := by rw [entAt_last]; simp [mk]
    refine ⟨fun a b hab hb => ?_, fun _ b hb => ?_⟩
    · rw [List.length_append] at hb
      simp only [List.length_cons, List.length_nil] at hb
      by_cases e : b = f.length
      · subst e
        rw [hn]
        by_cases e' : a = f.length
        · subst e'; rw [hn]; exact Nat.le_refl _
        · rw [entAt_left (by omega)]
          exact ih.2 hi a (by omega)
      · rw [entAt_left (by omega), entAt_left (by omega)]
        exact ih.1 a b hab (by omega)
    · rw [List.length_append] at hb
      simp only [List.length_cons, List.length_nil] at hb
      rw [entAt_left hi]
      by_cases e : b = f.length
      · subst e
        rw [hn]
        exact Nat.le_refl _
      · rw [entAt_left (by omega)]
        exact ih.2 hi b (by omega)
/-- What is done is closed; words grow by at most one letter. -/
theorem Bfs.closed (h : Bfs n ls i k f) : ∀ a c, a < f.length → c < ls.length → (a < i ∨ a = i ∧ c < k) → ∃ e ∈ f, e.1 = (mk ls f a c).1 ∧ e.2.length ≤ (entAt f a).2.length + 1 := by
  induction h with
  | start => intro a c _ _ h; omega
  | @old i k f hb hi hk hm ih =>
    intro a c ha hc hac
    by_cases e : a = i ∧ c = k
    · obtain ⟨rfl, rfl⟩ := e
      obtain ⟨e, he, hp⟩ := List.mem_map.1 hm
      obtain ⟨b, hb', rfl⟩ := mem_entAt he
      exact ⟨_, he, hp, hb.mono.2 hi b hb'⟩
    · exact ih a c ha hc (by omega)
  | @new i k f hb hi hk hm ih =>
    intro a c ha hc hac
    have hal : a < f.length := by omega
    have hmk : mk ls (f ++ [mk ls f i k]) a c = mk ls f a c := by simp only [mk]; rw [entAt_left hal]
    rw [hmk, entAt_left hal]
    by_cases e : a = i ∧ c = k
    · obtain ⟨rfl, rfl⟩ := e
      exact ⟨mk ls f a c, by simp, rfl, by simp [mk]⟩
    · obtain ⟨e, he, h1, h2⟩ := ih a c hal hc (by omega)
      exact ⟨e, List.mem_append_left _ he, h1, h2⟩
  | @next i f hb hi ih =>
    intro a c ha hc hac
    exact ih a c ha hc (by omega)

/-- A product of m letters. -/
inductive Val (n : Nat) (ls : List Lt) : Nat → List Nat → Prop
  | nil : Val n ls 0 (List.range n)
  | snoc {m c : Nat} {p : List Nat} : Val n ls m p → c < ls.length → Val n ls (m + 1) (comp p (ltAt ls c).2)
theorem Bfs.reach (h : Bfs n ls i k f) {j : Nat} (hj : j < f.length) (hji : j ≤ i) {m : Nat} {p : List Nat} (hv : Val n ls m p) : m < (entAt f j).2.length → ∃ a, a < j ∧ (entAt f a).1 = p ∧ (entAt f a).2.length ≤ m := by
  induction hv with
  | nil =>
    intro hm
    refine ⟨0, ?_, by rw [h.zero], by rw [h.zero]; exact Nat.le_refl _⟩
    rcases Nat.eq_zero_or_pos j with e | e
    · subst e; rw [h.zero] at hm; simp at hm
    · exact e
  | @snoc m c p _ hc ih =>
    intro hm
    obtain ⟨a, ha, hp, hl⟩ := ih (by omega)
    obtain ⟨e, he, h1, h2⟩ := h.closed a c (by omega) hc (by omega)
    obtain ⟨b, hb, rfl⟩ := mem_entAt he
    refine ⟨b, ?_, by rw [h1]; simp only [mk]; rw [hp], by omega⟩
    rcases Nat.lt_or_ge b j with e | e
    · exact e
    · have := h.mono.1 j b e hb; omega
/-- Words are shortest. -/
theorem Bfs.short (h : Bfs n ls i k f) {j : Nat} (hj : j < f.length) (hji : j ≤ i) {m : Nat} (hv : Val n ls m (entAt f j).1) : (entAt f j).2.length ≤ m := by
  rcases Nat.lt_or_ge m (entAt f j).2.length with hm | hm
  · obtain ⟨a, ha, hp, hl⟩ := h.reach hj hji hv hm
    have := h.inj (entAt_mem (show a < f.length by omega)) (entAt_mem hj) hp
    rw [this] at hl
    exact hl
  · exact hm
end
/-! ### the letters of generators -/
theorem getD_mem'' {gl : List (List Nat)} {k : Nat} (hk : k < gl.length) : gl.getD k [] ∈ gl := by
  rw [show gl.getD k [] = gl[k] by simp [List.getD, List.getElem?_eq_getElem hk]]
  exact List.getElem_mem hk
theorem nodup_le {α : Type} [DecidableEq α] : ∀ {a b : List α}, a.Nodup → (∀ x ∈ a, x ∈ b) → a.length ≤ b.length
  | [], _, _, _ => Nat.zero_le _
  | x :: a, b, hn, hs => by
    obtain ⟨h1, h2⟩ := List.nodup_cons.1 hn
    have hx : x ∈ b := hs x (by simp)
    have ih := nodup_le (b := b.erase x) h2 fun y hy => (List.mem_erase_of_ne (fun (e : y = x) => h1 (by rw [← e]; exact hy))).2 (hs y (by simp [hy]))
    rw [List.length_erase_of_mem hx] at ih
    have : 0 < b.length := List.length_pos_of_mem hx
    simp only [List.length_cons]
    omega
section
variable {n : Nat} {gl : List (List Nat)} {i k : Nat} {f : List Ent}
theorem lts_gen (hP : PMs n gl) {l : Lt} (h : l ∈ lts gl) : Gen n gl l.2 := by
  obtain ⟨j, hj, rfl | rfl⟩ := mem_ltsTo.1 h
  · exact Gen.of_mem hP (getD_mem'' hj)
  · exact (Gen.of_mem hP (getD_mem'' hj)).inv hP
theorem Bfs.gen (hP : PMs n gl) (h : Bfs n (lts gl) i k f) : ∀ e ∈ f, Gen n gl e.1 :=
  h.all .one fun _ _ hl hs => hs.comp hP (lts_gen hP hl)
theorem Bfs.le (hP : PMs n gl) (h : Bfs n (lts gl) i k f) {xs : List (List Nat)} (hx : ∀ p, Gen n gl p → p ∈ xs) : f.length ≤ xs.length := by
  have := nodup_le h.nd (fun p hp => by obtain ⟨e, he, rfl⟩ := List.mem_map.1 hp; exact hx _ (h.gen hP e he))
  simpa using this
/-- The value of a word. -/
def wv (n : Nat) (gl : List (List Nat)) (w : List Int) : List Nat := w.foldl (fun p x => comp p (lg gl x)) (List.range n)
theorem wv_snoc (w : List Int) (x : Int) : wv n gl (w ++ [x]) = comp (wv n gl w) (lg gl x) := by simp [wv, List.foldl_append]
theorem Bfs.word (h : Bfs n (lts gl) i k f) : ∀ e ∈ f, e.1 = wv n gl e.2 ∧ ∀ x ∈ e.2, x ≠ 0 ∧ x ≤ gl.length ∧ -(gl.length : Int) ≤ x := by
  refine h.all ⟨rfl, fun x hx => by simp at hx⟩ fun e l hl hs => ⟨?_, fun x hx => ?_⟩
  · rw [wv_snoc, ← hs.1, (mem_lts_lg hl).1]
  · rcases List.mem_append.1 hx with hx | hx
    · exact hs.2 x hx
    · obtain rfl : x = l.1 := by simpa using hx
      exact (mem_lts_lg hl).2
theorem mem_closed (h : Bfs n (lts gl) f.length 0 f) {p : List Nat} (hp : p ∈ f.map (·.1)) {l : Lt} (hl : l ∈ lts gl) : comp p l.2 ∈ f.map (·.1) := by
  obtain ⟨e, he, rfl⟩ := List.mem_map.1 hp
  obtain ⟨a, ha, rfl⟩ := mem_entAt he
  obtain ⟨c, hc, rfl⟩ := List.mem_iff_getElem.1 hl
  obtain ⟨e, he, h1, _⟩ := h.closed a c ha hc (by omega)
  refine List.mem_map.2 ⟨e, he, ?_⟩
  rw [h1]
  simp [mk, ltAt, List.getD, List.getElem?_eq_getElem hc]
/-- A search that is done has found the group. -/
theorem Bfs.done (hP : PMs n gl) (h : Bfs n (lts gl) f.length 0 f) (p : List Nat) : p ∈ f.map (·.1) ↔ Gen n gl p := by
  constructor
  · intro hp
    obtain ⟨e, he, rfl⟩ := List.mem_map.1 hp
    exact h.gen hP e he
  · intro hp
    have key : ∀ g ∈ gl, ∃ j, j < gl.length ∧ g = gl.getD j [] := fun g hg => by
      obtain ⟨j, hj, rfl⟩ := List.mem_iff_getElem.1 hg
      exact ⟨j, hj, by simp [List.getD, List.getElem?_eq_getElem hj]⟩
    induction hp with
    | one =>
      have := entAt_mem h.i_le.2
      rw [h.zero] at this
      exact List.mem_map.2 ⟨_, this, rfl⟩
    | mul _ hg ih =>
      obtain ⟨j, hj, rfl⟩ := key _ hg
      exact mem_closed h ih (l := ((j : Int) + 1, gl.getD j [])) (mem_ltsTo.2 ⟨j, hj, .inl rfl⟩)
    | div _ hg ih =>
      obtain ⟨j, hj, rfl⟩ := key _ hg
      exact mem_closed h ih (l := (-(j : Int) - 1, inv (gl.getD j []))) (mem_ltsTo.2 ⟨j, hj, .inr rfl⟩)
end
end Go.Proofs.Ytnpdlfnhpghkmaa
/- Plain mathematics: the sign of a permutation by inversions, and by cycles. -/
namespace Go.Proofs.Ytnpdlfnhpghkmaa
set_option linter.unusedVariables false
set_option linter.unusedSimpArgs false

/-- The sign, changed for each of the first k elements that is greater than element i. -/
def parIn (a : List Nat) (i : Nat) (s : Int) : Nat → Int
  | 0 => s
  | k + 1 => if a.getD i 0 < a.getD k 0 then -parIn a i s k else parIn a i s k
/-- The sign of the first i elements. -/
def parTo (a : List Nat) : Nat → Int
  | 0 => 1
  | i + 1 => parIn a i (parTo a i) i
theorem parIn_one (a : List Nat) (i : Nat) {s : Int} (hs : s = 1 ∨ s = -1) : ∀ k, parIn a i s k = 1 ∨ parIn a i s k = -1
  | 0 => hs
  | k + 1 => by
    have := parIn_one a i hs k
    rw [parIn]
    split <;> omega
theorem parTo_one (a : List Nat) : ∀ i, parTo a i = 1 ∨ parTo a i = -1
  | 0 => .inl rfl
  | i + 1 => parIn_one a i (parTo_one a i) i

/-- 1 for an even number, -1 for an odd one. -/
def sg (m : Nat) : Int := if m % 2 = 0 then 1 else -1
theorem sg_succ (m : Nat) : sg (m + 1) = -sg m := by
  unfold sg
  by_cases h : m % 2 = 0
  · rw [if_pos h, if_neg (by omega)]
  · rw [if_neg h, if_pos (by omega)]; rfl
theorem sg_add (m k : Nat) : sg (m + k) = sg m * sg k := by
  unfold sg
  by_cases h : m % 2 = 0 <;> by_cases h2 : k % 2 = 0
  · rw [if_pos h, if_pos h2, if_pos (by omega)]; rfl
  · rw [if_pos h, if_neg h2, if_neg (by omega)]; rfl
  · rw [if_neg h, if_pos h2, if_neg (by omega)]; rfl
  · rw [if_neg h, if_neg h2, if_pos (by omega)]; rfl
theorem sg_sq (m : Nat) : sg m * sg m = 1 := by
  unfold sg
  by_cases h : m % 2 = 0
  · rw [if_pos h]; rfl
  · rw [if_neg h]; rfl

/-- How many elements of l are greater than x. -/
def cntG (l : List Nat) (x : Nat) : Nat := l.countP fun y => decide (x < y)
/-- The number of inversions. -/
def invL : List Nat → Nat
  | [] => 0
  | x :: r => cntN r x + invL r
theorem cntN_append (l r : List Nat) (x : Nat) : cntN (l ++ r) x = cntN l x + cntN r x := by
  unfold cntN
  rw [List.countP_append]
theorem invL_snoc (x : Nat) : ∀ l, invL (l ++ [x]) = invL l + cntG l x
  | [] => rfl
  | y :: r => by
    rw [List.cons_append, invL, invL_snoc x r, cntN_append, invL]
    have h1 : cntN [x] y = if x < y then 1 else 0 := by rw [cntN_cons]; simp [cntN]
    have h2 : cntG (y :: r) x = cntG r x + if x < y then 1 else 0 := by
      unfold cntG
      rw [List.countP_cons]
      simp
    rw [h1, h2]
    omega
theorem parIn_sg (a : List Nat) (i : Nat) (s : Int) : ∀ k, k ≤ a.length → parIn a i s k = s * sg (cntG (a.take k) (a.getD i 0))
  | 0, _ => by simp [parIn, cntG, sg]
  | k + 1, hk => by
    have e : cntG (a.take (k + 1)) (a.getD i 0) = cntG (a.take k) (a.getD i 0) + if a.getD i 0 < a.getD k 0 then 1 else 0 := by
      unfold cntG
      rw [List.take_succ_eq_append_getElem (by omega), List.countP_append, ← getD_eq (by omega)]
      simp [List.countP_cons]
    rw [parIn, parIn_sg a i s k (by omega), e]
    by_cases h : a.getD i 0 < a.getD k 0
    · rw [if_pos h, if_pos h, sg_succ, Int.mul_neg]
    · rw [if_neg h, if_neg h, Nat.add_zero]
theorem parTo_sg (a : List Nat) : ∀ i, i ≤ a.length → parTo a i = sg (invL (a.take i))
  | 0, _ => rfl
  | i + 1, hi => by
    rw [parTo, parIn_sg a i _ i (by omega), parTo_sg a i (by omega), ← sg_add, List.take_succ_eq_append_getElem (by omega), invL_snoc, getD_eq (by omega)]
theorem par_sg (a : List Nat) : parTo a a.length = sg (invL a) := by
  rw [parTo_sg a a.length (Nat.le_refl _), List.take_length]

/-! The sign of a product. -/
theorem invL_sorted : ∀ {l : List Nat}, Sorted l → invL l = 0
  | [], _ => rfl
  | x :: r, h => by
    have h' := List.pairwise_cons.1 h
    rw [invL, cnt_zero (fun y hy => Nat.le_of_lt (h'.1 y hy)), invL_sorted h'.2]
/-- Whatever the order, the signs of a list and of its image go together. -/
theorem sg_perm (g : Nat → Nat) {l l' : List Nat} (h : l.Perm l') : (∀ x ∈ l, ∀ y ∈ l, g x = g y → x = y) → l.Nodup →
    sg (invL l) * sg (invL (l.map g)) = sg (invL l') * sg (invL (l'.map g)) := by
  induction h with
  | nil => intro _ _; rfl
  | cons x h ih =>
    rename_i l1 l2
    intro hg hn
    rw [List.nodup_cons] at hn
    have e := ih (fun a ha b hb => hg a (by simp [ha]) b (by simp [hb])) hn.2
    rw [List.map_cons, List.map_cons, invL, invL, invL, invL, sg_add, sg_add, sg_add, sg_add, cntN_perm h, cntN_perm (h.map g)]
    generalize sg (cntN l2 x) = p
    generalize sg (cntN (l2.map g) (g x)) = q
    have e1 : p * sg (invL l1) * (q * sg (invL (l1.map g))) = p * q * (sg (invL l1) * sg (invL (l1.map g))) := by
      rw [Int.mul_assoc, Int.mul_assoc, ← Int.mul_assoc (sg (invL l1)), Int.mul_comm (sg (invL l1)) q, Int.mul_assoc q]
    have e2 : p * sg (invL l2) * (q * sg (invL (l2.map g))) = p * q * (sg (invL l2) * sg (invL (l2.map g))) := by
      rw [Int.mul_assoc, Int.mul_assoc, ← Int.mul_assoc (sg (invL l2)), Int.mul_comm (sg (invL l2)) q, Int.mul_assoc q]
    rw [e1, e2, e]
  | swap x y l =>
    intro hg hn
    have hxy : x ≠ y := by
      intro e
      subst e
      simp at hn
    have hgxy : g x ≠ g y := fun e => hxy (hg x (by simp) y (by simp) e)
    have key : ∀ (u v : Nat) (r : List Nat), u ≠ v → sg (invL (u :: v :: r)) = -sg (invL (v :: u :: r)) := by
      intro u v r huv
      have e : ∀ (p q : Nat) (s : List Nat), invL (p :: q :: s) = (if q < p then 1 else 0) + (cntN s p + cntN s q + invL s) := by
        intro p q s
        rw [invL, invL, cntN_cons]
        omega
      rw [e, e, Nat.add_comm (cntN r v) (cntN r u)]
      rcases Nat.lt_or_gt_of_ne huv with h | h
      · rw [if_neg (by omega), if_pos h, Nat.zero_add, Nat.add_comm 1, sg_succ, Int.neg_neg]
      · rw [if_pos h, if_neg (by omega), Nat.zero_add, Nat.add_comm 1, sg_succ]
    rw [List.map_cons, List.map_cons, List.map_cons, List.map_cons, key y x l hxy.symm, key (g y) (g x) (l.map g) (fun e => hgxy e.symm), Int.neg_mul_neg]
  | trans h1 h2 ih1 ih2 =>
    intro hg hn
    rw [ih1 hg hn]
    exact ih2 (fun a ha b hb => hg a (h1.mem_iff.2 ha) b (h1.mem_iff.2 hb)) (h1.nodup hn)
theorem sg_comp {a b : List Nat} (pa : isP a) (pb : isP b) (hl : a.length = b.length) : sg (invL (comp a b)) = sg (invL a) * sg (invL b) := by
  have h := sg_perm (fun x => b.getD x 0) pa.perm (fun x hx y hy e => pb.inj (by have := pa.1 x hx; omega) (by have := pa.1 y hy; omega) e) pa.2
  have e1 : a.map (fun x => b.getD x 0) = comp a b := rfl
  have e2 : (List.range a.length).map (fun x => b.getD x 0) = b := by
    have := range_comp b
    rw [← hl] at this
    exact this
  rw [e1, e2, invL_sorted (range_sorted _)] at h
  have h3 : sg 0 = 1 := rfl
  rw [h3, Int.one_mul] at h
  have h4 := sg_sq (invL a)
  have h5 : sg (invL a) * (sg (invL a) * sg (invL (comp a b))) = sg (invL a) * sg (invL b) := by rw [h]
  rw [← Int.mul_assoc, h4, Int.one_mul] at h5
  exact h5
end Go.Proofs.Ytnpdlfnhpghkmaa
/- Plain mathematics: the sign by cycles is the sign by inversions. -/
namespace Go.Proofs.Ytnpdlfnhpghkmaa
set_option linter.unusedVariables false
set_option linter.unusedSimpArgs false

/-- 1, or -1 for an odd number of lengths that are even. -/
def sgnL (xss : List (List Nat)) : Int := xss.foldl (fun s c => if c.length % 2 = 0 then -s else s) 1
theorem foldl_sgn : ∀ (xss : List (List Nat)) (s : Int), (∀ c ∈ xss, 1 ≤ c.length) → xss.foldl (fun s c => if c.length % 2 = 0 then -s else s) s = s * sg ((xss.map fun c => c.length - 1).sum)
  | [], s, _ => by simp [sg]
  | c :: r, s, h => by
    have hc := h c (by simp)
    rw [List.foldl_cons, foldl_sgn r _ (fun d hd => h d (by simp [hd])), List.map_cons, List.sum_cons, sg_add]
    by_cases he : c.length % 2 = 0
    · have : sg (c.length - 1) = -1 := by unfold sg; rw [if_neg (by omega)]
      rw [if_pos he, this]
      simp [Int.neg_mul, Int.mul_neg]
    · have : sg (c.length - 1) = 1 := by unfold sg; rw [if_pos (by omega)]
      rw [if_neg he, this, Int.one_mul]

theorem cyc_nodup {a : List Nat} (h : isP a) {s : Nat} (hs : s < a.length) : (cyc a s).Nodup := by
  obtain ⟨h1, _, h3, h4⟩ := per_spec h hs
  unfold cyc
  rw [List.nodup_iff_pairwise_ne, List.pairwise_map]
  refine List.Pairwise.imp_of_mem ?_ (List.pairwise_lt_range (n := perOf a s))
  intro i j hi hj hij e
  simp at hi hj
  refine h4 (j - i) (by omega) (by omega) (it_back h hs (t := i) ?_)
  rw [show i + (j - i) = j from by omega]
  exact e.symm
theorem min_unique {a : List Nat} (h : isP a) {i j x : Nat} (hi : i < a.length) (hj : j < a.length) (mi : isMin a i = true) (mj : isMin a j = true) (hx : x ∈ cyc a i) (hy : x ∈ cyc a j) : i = j := by
  unfold isMin at mi mj
  rw [decide_eq_true_iff] at mi mj
  have h1 : j ∈ cyc a i := cyc_trans h hi hx (cyc_symm h hj hy)
  have h2 : i ∈ cyc a j := cyc_trans h hj hy (cyc_symm h hi hx)
  have := mi j h1
  have := mj i h2
  omega
theorem nodup_filter (p : Nat → Bool) {l : List Nat} (h : l.Nodup) : (l.filter p).Nodup :=
  List.nodup_iff_pairwise_ne.2 (List.Pairwise.filter _ (List.nodup_iff_pairwise_ne.1 h))
theorem length_filter_not (p : Nat → Bool) : ∀ (l : List Nat), l.length = (l.filter p).length + (l.filter fun x => !p x).length
  | [] => rfl
  | x :: r => by
    have ih := length_filter_not p r
    cases hp : p x
    · rw [List.filter_cons_of_neg (by simp [hp]), List.filter_cons_of_pos (by simp [hp])]
      simp only [List.length_cons]
      omega
    · rw [List.filter_cons_of_pos hp, List.filter_cons_of_neg (by simp [hp])]
      simp only [List.length_cons]
      omega
/-- The cycles are a partition. -/
theorem cyc_partition {a : List Nat} (h : isP a) (q : Nat → Bool) (hq : ∀ s, s < a.length → ∀ x ∈ cyc a s, q x = q s) :
    (((List.range a.length).filter fun i => isMin a i && q i).flatMap (cyc a)).Perm ((List.range a.length).filter q) := by
  refine (List.perm_ext_iff_of_nodup ?_ (nodup_filter _ List.nodup_range)).2 fun x => ?_
  · rw [List.nodup_iff_pairwise_ne, List.pairwise_flatMap]
    constructor
    · intro i hi
      have hi' := List.mem_range.1 (List.mem_filter.1 hi).1
      exact (List.nodup_iff_pairwise_ne.1 (cyc_nodup h hi'))
    · refine List.Pairwise.imp_of_mem ?_ (List.nodup_iff_pairwise_ne.1 (nodup_filter (fun i => isMin a i && q i) (List.nodup_range (n := a.length))))
      intro i j hi hj hij x hx y hy e
      subst e
      have hi' := List.mem_filter.1 hi
      have hj' := List.mem_filter.1 hj
      simp at hi' hj'
      exact hij (min_unique h hi'.1 hj'.1 hi'.2.1 hj'.2.1 hx hy)
  · rw [List.mem_flatMap]
    simp only [List.mem_filter, List.mem_range, Bool.and_eq_true]
    constructor
    · rintro ⟨i, ⟨hi, _, hqi⟩, hx⟩
      exact ⟨cyc_lt h hi hx, by rw [hq i hi x hx]; exact hqi⟩
    · rintro ⟨hx, hqx⟩
      obtain ⟨m, hm, hmem, hmin⟩ := min_ex h hx
      refine ⟨m, ⟨hm, hmin, by rw [hq x hx m hmem]; exact hqx⟩, cyc_symm h hx hmem⟩

theorem sum_filter {f : Nat → Nat} {p q : Nat → Bool} : ∀ (l : List Nat), (∀ x ∈ l, p x = true → q x = false → f x = 0) → ((l.filter fun x => p x && q x).map f).sum = ((l.filter p).map f).sum
  | [], _ => rfl
  | x :: r, h => by
    have ih := sum_filter r (fun y hy => h y (by simp [hy]))
    by_cases hp : p x = true
    · by_cases hq : q x = true
      · rw [List.filter_cons_of_pos (by simp [hp, hq]), List.filter_cons_of_pos hp, List.map_cons, List.map_cons, List.sum_cons, List.sum_cons, ih]
      · rw [List.filter_cons_of_neg (by simp [hq]), List.filter_cons_of_pos hp, List.map_cons, List.sum_cons, ih, h x (by simp) hp (by simpa using hq), Nat.zero_add]
    · rw [List.filter_cons_of_neg (by simp [hp]), List.filter_cons_of_neg hp, ih]
theorem sum_pred {f : Nat → Nat} : ∀ (l : List Nat), (∀ x ∈ l, 1 ≤ f x) → (l.map fun x => f x - 1).sum + l.length = (l.map f).sum
  | [], _ => rfl
  | x :: r, h => by
    have ih := sum_pred r (fun y hy => h y (by simp [hy]))
    have := h x (by simp)
    simp only [List.map_cons, List.sum_cons, List.length_cons]
    omega
/-- How many elements are not the smallest of their cycles. -/
def nonMin (a : List Nat) : Nat := ((List.range a.length).filter fun i => !isMin a i).length
theorem sgn_nonMin {a : List Nat} (h : isP a) : sgnL (cycs a) = sg (nonMin a) := by
  unfold sgnL
  rw [foldl_sgn _ _ (fun c hc => by
    obtain ⟨i, hi, rfl⟩ := List.mem_map.1 hc
    rw [cyc_length]
    exact (per_spec h (List.mem_range.1 (List.mem_filter.1 hi).1)).1), Int.one_mul]
  congr 1
  unfold cycs cycsTo
  rw [List.map_map]
  have e1 : ((fun c : List Nat => c.length - 1) ∘ cyc a) = fun i => perOf a i - 1 := by
    funext i
    simp [cyc_length]
  rw [e1, sum_filter (p := isMin a) (q := fun i => decide (1 < perOf a i)) (f := fun i => perOf a i - 1) _ (fun x _ _ hq => by simp at hq; omega)]
  have h2 := sum_pred (f := perOf a) ((List.range a.length).filter (isMin a)) (fun x hx => (per_spec h (List.mem_range.1 (List.mem_filter.1 hx).1)).1)
  have h3 := (cyc_partition h (fun _ => true) (fun _ _ _ _ => rfl)).length_eq
  have e2 : ((List.range a.length).filter fun i => isMin a i && true) = (List.range a.length).filter (isMin a) := by
    congr 1
    funext i
    simp
  rw [e2, List.length_flatMap] at h3
  have e3 : ((List.range a.length).filter (isMin a)).map (fun i => (cyc a i).length) = ((List.range a.length).filter (isMin a)).map (perOf a) := by
    congr 1
    funext i
    exact cyc_length a i
  rw [e3] at h3
  have e4 : ((List.range a.length).filter fun _ => true) = List.range a.length := List.filter_eq_self.2 (fun _ _ => rfl)
  rw [e4, List.length_range] at h3
  have h5 : ((List.range a.length).filter (isMin a)).length + ((List.range a.length).filter fun i => !isMin a i).length = a.length := by
    have := length_filter_not (isMin a) (List.range a.length)
    rw [List.length_range] at this
    omega
  unfold nonMin
  omega

/-! One point less. -/
def red (a : List Nat) (n : Nat) : List Nat := (a.take n).map fun x => if x = n then a.getD n 0 else x
section
variable {a : List Nat} {n : Nat}
theorem red_length (hl : a.length = n + 1) : (red a n).length = n := by simp [red]; omega
theorem red_getD (hl : a.length = n + 1) {s : Nat} (hs : s < n) : (red a n).getD s 0 = if a.getD s 0 = n then a.getD n 0 else a.getD s 0 := by
  unfold red
  rw [getD_map_nat (by simp; omega)]
  have : (a.take n).getD s 0 = a.getD s 0 := by
    simp [List.getD, List.getElem?_take, hs]
  rw [this]
theorem red_isP (h : isP a) (hl : a.length = n + 1) : isP (red a n) := by
  have hlt : ∀ s, s < n → a.getD s 0 < n + 1 := fun s hs => by have := h.lt (j := s) (by omega); omega
  have hv := h.lt (j := n) (by omega)
  refine isP_of ?_ ?_
  · intro s hs
    rw [red_length hl] at hs ⊢
    rw [red_getD hl hs]
    by_cases e : a.getD s 0 = n
    · rw [if_pos e]
      have : a.getD n 0 ≠ n := fun e2 => by
        have := h.inj (i := s) (j := n) (by omega) (by omega) (by rw [e, e2])
        omega
      omega
    · rw [if_neg e]
      have := hlt s hs
      omega
  · intro i j hi hj he
    rw [red_length hl] at hi hj
    rw [red_getD hl hi, red_getD hl hj] at he
    by_cases ei : a.getD i 0 = n <;> by_cases ej : a.getD j 0 = n
    · exact h.inj (by omega) (by omega) (by rw [ei, ej])
    · rw [if_pos ei, if_neg ej] at he
      have := h.inj (i := n) (j := j) (by omega) (by omega) he
      omega
    · rw [if_neg ei, if_pos ej] at he
      have := h.inj (i := i) (j := n) (by omega) (by omega) he
      omega
    · rw [if_neg ei, if_neg ej] at he
      exact h.inj (by omega) (by omega) he
theorem cyc_next (h : isP a) {s y : Nat} (hs : s < a.length) (hy : y ∈ cyc a s) : a.getD y 0 ∈ cyc a s := by
  obtain ⟨t, rfl⟩ := (mem_cyc h hs).1 hy
  exact (mem_cyc h hs).2 ⟨t + 1, rfl⟩
theorem red_cyc (h : isP a) (hl : a.length = n + 1) {s x : Nat} (hs : s < n) (hx : x < n) : x ∈ cyc (red a n) s ↔ x ∈ cyc a s := by
  have hb := red_isP h hl
  have hbl := red_length hl
  constructor
  · intro hm
    obtain ⟨t, rfl⟩ := (mem_cyc hb (by omega)).1 hm
    clear hm hx
    induction t with
    | zero => exact cyc_self h (by omega)
    | succ t ih =>
      have hy := it_lt hb (s := s) (by omega) t
      rw [hbl] at hy
      have h1 := cyc_next h (by omega) ih
      rw [it, red_getD hl hy]
      split
      · rename_i e
        rw [e] at h1
        exact cyc_next h (by omega) h1
      · exact h1
  · intro hm
    obtain ⟨t, rfl⟩ := (mem_cyc h (by omega)).1 hm
    have key : ∀ t, (it a t s ≠ n → it a t s ∈ cyc (red a n) s) ∧ (it a t s = n → a.getD n 0 ≠ n ∧ a.getD n 0 ∈ cyc (red a n) s) := by
      intro t
      induction t with
      | zero => exact ⟨fun _ => cyc_self hb (by omega), fun e => by have : s = n := e; omega⟩
      | succ t ih =>
        by_cases e : it a t s = n
        · obtain ⟨h1, h2⟩ := ih.2 e
          have e2 : it a (t + 1) s = a.getD n 0 := by rw [it, e]
          rw [e2]
          exact ⟨fun _ => h2, fun e3 => absurd e3 h1⟩
        · have h1 := ih.1 e
          have hlt : it a t s < n := by have := it_lt h (s := s) (by omega) t; omega
          have h2 := cyc_next hb (by omega) h1
          rw [red_getD hl hlt] at h2
          have e2 : it a (t + 1) s = a.getD (it a t s) 0 := rfl
          rw [e2]
          constructor
          · intro e3
            rw [if_neg e3] at h2
            exact h2
          · intro e3
            rw [if_pos e3] at h2
            refine ⟨fun e4 => ?_, h2⟩
            have := h.inj (i := it a t s) (j := n) (by omega) (by omega) (by rw [e3, e4])
            exact e this
    exact (key t).1 (by omega)
theorem red_min (h : isP a) (hl : a.length = n + 1) {s : Nat} (hs : s < n) : isMin (red a n) s = isMin a s := by
  have hb := red_isP h hl
  have hbl := red_length hl
  unfold isMin
  rw [decide_eq_decide]
  constructor
  · intro hall x hx
    by_cases e : x < n
    · exact hall x ((red_cyc h hl hs e).2 hx)
    · omega
  · intro hall x hx
    have hxl := cyc_lt hb (s := s) (by omega) hx
    rw [hbl] at hxl
    exact hall x ((red_cyc h hl hs hxl).1 hx)
theorem last_min (h : isP a) (hl : a.length = n + 1) : isMin a n = decide (a.getD n 0 = n) := by
  unfold isMin
  rw [decide_eq_decide]
  constructor
  · intro hall
    have h1 := hall _ (cyc_next h (by omega) (cyc_self h (s := n) (by omega)))
    have h2 := h.lt (j := n) (by omega)
    omega
  · intro e x hx
    obtain ⟨t, rfl⟩ := (mem_cyc h (by omega)).1 hx
    have : ∀ t, it a t n = n := by
      intro t
      induction t with
      | zero => rfl
      | succ t ih => rw [it, ih, e]
    rw [this t]
    exact Nat.le_refl n
theorem red_nonMin (h : isP a) (hl : a.length = n + 1) : nonMin a = nonMin (red a n) + if a.getD n 0 = n then 0 else 1 := by
  unfold nonMin
  rw [hl, red_length hl, List.range_succ, List.filter_append, List.length_append]
  have e1 : ((List.range n).filter fun i => !isMin a i) = (List.range n).filter fun i => !isMin (red a n) i := by
    apply List.filter_congr
    intro s hs
    rw [red_min h hl (List.mem_range.1 hs)]
  rw [e1]
  congr 1
  have := last_min h hl
  by_cases e : a.getD n 0 = n
  · rw [if_pos e]
    rw [decide_eq_true e] at this
    simp [this]
  · rw [if_neg e]
    rw [decide_eq_false e] at this
    simp [this]

theorem invL_append : ∀ (l r : List Nat), invL (l ++ r) = invL l + invL r + (l.map (cntN r)).sum
  | [], r => by simp [invL]
  | x :: l, r => by
    rw [List.cons_append, invL, invL_append l r, cntN_append, invL, List.map_cons, List.sum_cons]
    omega
theorem cnt_split {l : List Nat} {v : Nat} : (∀ x ∈ l, x ≠ v) → l.length = cntN l v + cntG l v := by
  induction l with
  | nil => intro _; rfl
  | cons x r ih =>
    intro h
    have ih' := ih (fun y hy => h y (by simp [hy]))
    have hx := h x (by simp)
    have e : cntG (x :: r) v = cntG r v + if v < x then 1 else 0 := by
      unfold cntG
      rw [List.countP_cons]
      simp
    rw [List.length_cons, cntN_cons, e]
    rcases Nat.lt_or_gt_of_ne hx with h1 | h1
    · rw [if_pos h1, if_neg (by omega)]; omega
    · rw [if_neg (by omega), if_pos h1]; omega
theorem cnt_all {l : List Nat} {v : Nat} : (∀ x ∈ l, x < v) → cntN l v = l.length ∧ cntG l v = 0 := by
  induction l with
  | nil => intro _; exact ⟨rfl, rfl⟩
  | cons x r ih =>
    intro h
    obtain ⟨h1, h2⟩ := ih (fun y hy => h y (by simp [hy]))
    have hx := h x (by simp)
    have e : cntG (x :: r) v = cntG r v + if v < x then 1 else 0 := by
      unfold cntG
      rw [List.countP_cons]
      simp
    rw [cntN_cons, e, h1, h2, if_pos hx, if_neg (by omega)]
    exact ⟨rfl, rfl⟩
theorem red_inv (h : isP a) (hl : a.length = n + 1) : sg (invL a) = (if a.getD n 0 = n then 1 else -1) * sg (invL (red a n)) := by
  have hsplit : a = a.take n ++ [a.getD n 0] := by
    have := List.take_append_drop n a
    rw [List.drop_eq_getElem_cons (show n < a.length by omega), List.drop_eq_nil_of_le (by omega), ← getD_eq (by omega)] at this
    exact this.symm
  have hnd : (a.take n ++ [a.getD n 0]).Nodup := by rw [← hsplit]; exact h.2
  rw [List.nodup_append] at hnd
  have hlt : ∀ x ∈ a.take n, x < n + 1 := fun x hx => by have := h.1 x (List.mem_of_mem_take hx); omega
  have hne : ∀ x ∈ a.take n, x ≠ a.getD n 0 := fun x hx => hnd.2.2 x hx _ (by simp)
  generalize hT : a.take n = T at *
  generalize hv : a.getD n 0 = v at *
  have hvlt : v < n + 1 := by have := h.lt (j := n) (by omega); rw [hv] at this; omega
  have hred : red a n = T.map fun x => if x = n then v else x := by unfold red; rw [hT, hv]
  rw [hred, hsplit]
  by_cases e : v = n
  · subst e
    have hid : (T.map fun x => if x = v then v else x) = T := by
      conv => rhs; rw [← List.map_id T]
      apply List.map_congr_left
      intro x hx
      rw [if_neg (hne x hx)]
      rfl
    rw [if_pos rfl, hid, Int.one_mul, invL_snoc, (cnt_all (fun x hx => by have := hlt x hx; have := hne x hx; omega)).2, Nat.add_zero]
  · have hn : n ∈ a := h.mem (by omega)
    rw [hsplit, List.mem_append] at hn
    have hnT : n ∈ T := by
      rcases hn with h1 | h1
      · exact h1
      · simp at h1; exact absurd h1.symm e
    obtain ⟨l1, l2, rfl⟩ := List.append_of_mem hnT
    have hnd1 := hnd.1
    rw [List.nodup_append] at hnd1
    have hl1 : ∀ x ∈ l1, x ≠ n := fun x hx => hnd1.2.2 x hx n (by simp)
    have hl2 : ∀ x ∈ l2, x ≠ n := fun x hx e2 => by
      have := (List.nodup_cons.1 hnd1.2.1).1
      rw [e2] at hx
      exact this hx
    have hm1 : (l1.map fun x => if x = n then v else x) = l1 := by
      conv => rhs; rw [← List.map_id l1]
      apply List.map_congr_left
      intro x hx
      rw [if_neg (hl1 x hx)]; rfl
    have hm2 : (l2.map fun x => if x = n then v else x) = l2 := by
      conv => rhs; rw [← List.map_id l2]
      apply List.map_congr_left
      intro x hx
      rw [if_neg (hl2 x hx)]; rfl
    rw [if_neg e, List.map_append, List.map_cons, hm1, hm2, if_pos rfl, List.append_assoc, List.cons_append, invL_append, invL_append l1 (v :: l2), invL, invL, invL_snoc, cntN_append]
    have hc2 : cntN l2 n = l2.length := (cnt_all (fun x hx => by have := hlt x (by simp [hx]); have := hl2 x hx; omega)).1
    have hcv : cntN [v] n = 1 := by rw [cntN_cons, if_pos (by omega)]; rfl
    have hsp := cnt_split (l := l2) (v := v) (fun x hx => hne x (by simp [hx]))
    have hcross : l1.map (cntN (n :: (l2 ++ [v]))) = l1.map (cntN (v :: l2)) := by
      apply List.map_congr_left
      intro x hx
      have hxn : x < n := by have := hlt x (by simp [hx]); have := hl1 x hx; omega
      have e1 : cntN [v] x = if v < x then 1 else 0 := by rw [cntN_cons]; simp [cntN]
      rw [cntN_cons, cntN_append, e1, cntN_cons, if_neg (show ¬ n < x by omega)]
      omega
    rw [hcross, hc2, hcv]
    have e5 : invL l1 + (l2.length + 1 + (invL l2 + cntG l2 v)) + (l1.map (cntN (v :: l2))).sum = (invL l1 + (cntN l2 v + invL l2) + (l1.map (cntN (v :: l2))).sum) + (cntG l2 v + cntG l2 v) + 1 := by omega
    rw [e5, sg_succ, sg_add, sg_add (cntG l2 v), sg_sq, Int.mul_one, Int.neg_mul, Int.one_mul]
end

theorem sign_inv : ∀ (n : Nat) {a : List Nat}, isP a → a.length = n → sg (nonMin a) = sg (invL a)
  | 0, a, _, hl => by
    have : a = [] := List.eq_nil_of_length_eq_zero hl
    subst this
    rfl
  | n + 1, a, h, hl => by
    rw [red_inv h hl, ← sign_inv n (red_isP h hl) (red_length hl), red_nonMin h hl]
    by_cases e : a.getD n 0 = n
    · rw [if_pos e, if_pos e, Nat.add_zero, Int.one_mul]
    · rw [if_neg e, if_neg e, sg_succ, Int.neg_mul, Int.one_mul]
/-- The sign by cycles is the sign by inversions. -/
theorem sgn_par {a : List Nat} (h : isP a) : sgnL (cycs a) = parTo a a.length := by
  rw [sgn_nonMin h, sign_inv a.length h rfl, par_sg]
theorem sgn_comp {a b : List Nat} (pa : isP a) (pb : isP b) (hl : a.length = b.length) : sgnL (cycs (comp a b)) = sgnL (cycs a) * sgnL (cycs b) := by
  have pc := comp_isP pa pb hl
  rw [sgn_nonMin pa, sgn_nonMin pb, sgn_nonMin pc, sign_inv _ pa rfl, sign_inv _ pb rfl, sign_inv _ pc rfl, sg_comp pa pb hl]
end Go.Proofs.Ytnpdlfnhpghkmaa
/- Plain mathematics: insertion sort; the lengths of the cycles of a conjugate. -/
namespace Go.Proofs.Ytnpdlfnhpghkmaa
set_option linter.unusedVariables false
set_option linter.unusedSimpArgs false

/-- Elements j and j + 1 exchanged. -/
def swp (ys : List Int) (j : Nat) : List Int := (ys.set (j + 1) (ys.getD j 0)).set j (ys.getD (j + 1) 0)
theorem swp_length (ys : List Int) (j : Nat) : (swp ys j).length = ys.length := by simp [swp]
theorem getD_eqI {a : List Int} {j : Nat} (hj : j < a.length) : a.getD j 0 = a[j] := by
  simp [List.getD, List.getElem?_eq_getElem hj]
theorem swp_perm {ys : List Int} {j : Nat} (hj : j + 1 < ys.length) : (swp ys j).Perm ys := by
  unfold swp
  rw [getD_eqI (by omega), getD_eqI hj]
  exact List.set_set_perm hj (show j < ys.length by omega)
theorem swp_getD {ys : List Int} {j : Nat} (hj : j + 1 < ys.length) (q : Nat) : (swp ys j).getD q 0 = if q = j then ys.getD (j + 1) 0 else if q = j + 1 then ys.getD j 0 else ys.getD q 0 := by
  unfold swp
  by_cases h1 : q = j
  · subst h1
    rw [if_pos rfl]
    simp only [List.getD]
    rw [List.getElem?_set_self (by simp; omega)]
    rfl
  · rw [if_neg h1]
    simp only [List.getD]
    rw [List.getElem?_set_ne (fun e => h1 e.symm)]
    by_cases h2 : q = j + 1
    · subst h2
      rw [if_pos rfl, List.getElem?_set_self (by omega)]
      rfl
    · rw [if_neg h2, List.getElem?_set_ne (fun e => h2 e.symm)]
/-- The first i elements are sorted. -/
def SortTo (ys : List Int) (i : Nat) : Prop := ∀ p q, p < q → q < i → ys.getD p 0 ≤ ys.getD q 0
/-- The first i + 1 elements are sorted but for element j, which is at most what follows. -/
structure InsSt (xs ys : List Int) (i j : Nat) : Prop where
  perm : ys.Perm xs
  rest : ∀ p q, p < q → q ≤ i → p ≠ j → q ≠ j → ys.getD p 0 ≤ ys.getD q 0
  low : ∀ q, j < q → q ≤ i → ys.getD j 0 ≤ ys.getD q 0
theorem InsSt.start {xs ys : List Int} {i : Nat} (hp : ys.Perm xs) (h : SortTo ys i) : InsSt xs ys i i :=
  ⟨hp, fun p q h1 h2 _ h4 => h p q h1 (by omega), fun q h1 h2 => by omega⟩
theorem InsSt.swap {xs ys : List Int} {i j : Nat} (h : InsSt xs ys i (j + 1)) (hi : i < ys.length) (hj : j + 1 ≤ i) (hlt : ys.getD (j + 1) 0 < ys.getD j 0) : InsSt xs (swp ys j) i j := by
  have hjl : j + 1 < ys.length := by omega
  refine ⟨(swp_perm hjl).trans h.perm, fun p q h1 h2 h3 h4 => ?_, fun q h1 h2 => ?_⟩
  · rw [swp_getD hjl, swp_getD hjl, if_neg h3, if_neg h4]
    by_cases e1 : p = j + 1
    · rw [if_pos e1, if_neg (by omega)]
      exact h.rest j q (by omega) h2 (by omega) (by omega)
    · rw [if_neg e1]
      by_cases e2 : q = j + 1
      · rw [if_pos e2]
        exact h.rest p j (by omega) (by omega) e1 (by omega)
      · rw [if_neg e2]
        exact h.rest p q h1 h2 e1 e2
  · rw [swp_getD hjl, swp_getD hjl, if_pos rfl, if_neg (by omega)]
    by_cases e2 : q = j + 1
    · rw [if_pos e2]
      omega
    · rw [if_neg e2]
      exact h.low q (by omega) h2
theorem InsSt.stop {xs ys : List Int} {i j : Nat} (h : InsSt xs ys i j) (hj : j ≤ i) (hs : j = 0 ∨ ys.getD (j - 1) 0 ≤ ys.getD j 0) : SortTo ys (i + 1) := by
  intro p q h1 h2
  by_cases e1 : p = j
  · subst e1
    exact h.low q h1 (by omega)
  · by_cases e2 : q = j
    · subst e2
      rcases hs with h0 | h0
      · omega
      · by_cases e3 : p = q - 1
        · rw [e3]; exact h0
        · have := h.rest p (q - 1) (by omega) (by omega) e1 (by omega)
          omega
    · exact h.rest p q h1 (by omega) e1 e2
theorem sorted_unique : ∀ {l l' : List Int}, l.Perm l' → l.Pairwise (· ≤ ·) → l'.Pairwise (· ≤ ·) → l = l'
  | [], l', h, _, _ => h.symm.eq_nil.symm
  | x :: r, [], h, _, _ => by have := h.length_eq; simp at this
  | x :: r, y :: s, h, h1, h2 => by
    have h1' := List.pairwise_cons.1 h1
    have h2' := List.pairwise_cons.1 h2
    have e : x = y := by
      have a1 : x ∈ y :: s := h.mem_iff.1 (List.mem_cons_self ..)
      have a2 : y ∈ x :: r := h.mem_iff.2 (List.mem_cons_self ..)
      rcases List.mem_cons.1 a1 with e | a1
      · exact e
      · rcases List.mem_cons.1 a2 with e | a2
        · exact e.symm
        · have := h1'.1 y a2
          have := h2'.1 x a1
          omega
    subst e
    rw [sorted_unique h.cons_inv h1'.2 h2'.2]
theorem sortTo_pairwise {ys : List Int} (h : SortTo ys ys.length) : ys.Pairwise (· ≤ ·) := by
  rw [List.pairwise_iff_getElem]
  intro i j hi hj hij
  have := h i j hij hj
  rwa [getD_eqI hi, getD_eqI hj] at this
/-! The lengths of the cycles of a conjugate. -/
def lens (a : List Nat) : List Nat := (cycs a).map List.length
theorem lens_eq (a : List Nat) : lens a = ((List.range a.length).filter fun i => isMin a i && decide (1 < perOf a i)).map (perOf a) := by
  unfold lens cycs cycsTo
  rw [List.map_map]
  congr 1
  funext i
  exact cyc_length a i
theorem lens_count_small (a : List Nat) {L : Nat} (hL : L ≤ 1) : (lens a).count L = 0 := by
  rw [List.count_eq_zero, lens_eq]
  intro h
  obtain ⟨i, hi, he⟩ := List.mem_map.1 h
  have := (List.mem_filter.1 hi).2
  simp at this
  omega
theorem lens_count (a : List Nat) {L : Nat} (hL : 1 < L) : (lens a).count L = ((List.range a.length).filter fun i => isMin a i && decide (perOf a i = L)).length := by
  rw [lens_eq, List.count, List.countP_map, List.countP_filter, List.countP_eq_length_filter]
  congr 1
  apply List.filter_congr
  intro i _
  simp only [Function.comp]
  cases isMin a i
  · simp
  · by_cases e : perOf a i = L
    · simp [e, hL]
    · simp [e]
theorem sum_const {f : Nat → Nat} {L : Nat} : ∀ (l : List Nat), (∀ x ∈ l, f x = L) → (l.map f).sum = l.length * L
  | [], _ => by simp
  | x :: r, h => by
    rw [List.map_cons, List.sum_cons, sum_const r (fun y hy => h y (by simp [hy])), h x (by simp), List.length_cons, Nat.add_mul, Nat.one_mul, Nat.add_comm]
theorem min_count {a : List Nat} (h : isP a) (L : Nat) : ((List.range a.length).filter fun i => isMin a i && decide (perOf a i = L)).length * L = ((List.range a.length).filter fun i => decide (perOf a i = L)).length := by
  have h1 := (cyc_partition h (fun i => decide (perOf a i = L)) (fun s hs x hx => by rw [per_cyc h hs hx])).length_eq
  rw [List.length_flatMap] at h1
  rw [← h1]
  exact (sum_const _ (fun x hx => by
    have := (List.mem_filter.1 hx).2
    simp at this
    rw [cyc_length]
    exact this.2)).symm
theorem conj_it {x y z : List Nat} (px : isP x) (hxy : x.length = y.length) (hc : ∀ s, s < x.length → z.getD (y.getD s 0) 0 = y.getD (x.getD s 0) 0) {s : Nat} (hs : s < x.length) : ∀ t, it z t (y.getD s 0) = y.getD (it x t s) 0
  | 0 => rfl
  | t + 1 => by rw [it, conj_it px hxy hc hs t, hc _ (it_lt px hs t)]; rfl
theorem conj_per {x y z : List Nat} (px : isP x) (py : isP y) (pz : isP z) (hxy : x.length = y.length) (hzy : z.length = y.length) (hc : ∀ s, s < x.length → z.getD (y.getD s 0) 0 = y.getD (x.getD s 0) 0) {s : Nat} (hs : s < x.length) :
    perOf z (y.getD s 0) = perOf x s := by
  have hys : y.getD s 0 < z.length := by rw [hzy]; exact py.lt (by omega)
  have key : ∀ t, it z t (y.getD s 0) = y.getD s 0 ↔ it x t s = s := by
    intro t
    rw [conj_it px hxy hc hs t]
    constructor
    · intro e
      have := it_lt px hs t
      exact py.inj (by omega) (by omega) e
    · intro e
      rw [e]
  refine Nat.dvd_antisymm ?_ ?_
  · rw [← it_self pz hys, key]
    exact (per_spec px hs).2.2.1
  · rw [← it_self px hs, ← key]
    exact (per_spec pz hys).2.2.1
theorem conj_lens {x y z : List Nat} (px : isP x) (py : isP y) (pz : isP z) (hxy : x.length = y.length) (hzy : z.length = y.length) (hc : ∀ s, s < x.length → z.getD (y.getD s 0) 0 = y.getD (x.getD s 0) 0) : (lens x).Perm (lens z) := by
  rw [List.perm_iff_count]
  intro L
  by_cases hL : 1 < L
  · rw [lens_count x hL, lens_count z hL]
    have hx := min_count px L
    have hz := min_count pz L
    have hyz : (List.range z.length).Perm ((List.range x.length).map fun s => y.getD s 0) := by
      have e : (List.range x.length).map (fun s => y.getD s 0) = y := by
        have := range_comp y
        rw [← hxy] at this
        exact this
      rw [e, hzy]
      exact py.perm.symm
    have e : ((List.range z.length).filter fun i => decide (perOf z i = L)).length = ((List.range x.length).filter fun i => decide (perOf x i = L)).length := by
      rw [← List.countP_eq_length_filter, ← List.countP_eq_length_filter, hyz.countP_eq, List.countP_map]
      apply List.countP_congr
      intro s hs
      simp only [Function.comp]
      rw [conj_per px py pz hxy hzy hc (List.mem_range.1 hs)]
    rw [e, ← hx] at hz
    exact (Nat.eq_of_mul_eq_mul_right (by omega) hz).symm
  · rw [lens_count_small x (by omega), lens_count_small z (by omega)]
theorem conj_law {x y : List Nat} (px : isP x) (py : isP y) (hxy : x.length = y.length) : (lens x).Perm (lens (comp (comp (inv y) x) y)) := by
  have h1 : isP (comp (inv y) x) := comp_isP (inv_isP py) px (by rw [inv_length]; omega)
  have hl1 : (comp (inv y) x).length = y.length := by rw [comp_length, inv_length]
  refine conj_lens px py (comp_isP h1 py hl1) hxy (by rw [comp_length, hl1]) ?_
  intro s hs
  have hys := py.lt (j := s) (by omega)
  rw [comp_getD (by rw [hl1]; exact hys), comp_getD (by rw [inv_length]; exact hys), inv_getD_self py (by omega)]

end Go.Proofs.Ytnpdlfnhpghkmaa
/- A slice of integers that came in as an argument. -/
namespace Go.Proofs.Ytnpdlfnhpghkmaa
set_option linter.unusedVariables false
set_option linter.unusedSimpArgs false
open Go.RowKit

theorem IL.of_row {W : World} {a : Addr} {len cap : Nat} {zs : List Int} (hl : len ≤ cap) (hz : zs.length = cap) (hr : cap * 8 ≤ 140737488351232) (hcell : ∀ i, i < zs.length → W.cell? (a.add i) = some (.int .i64 (zs.getD i 0))) : IL W (some a) len (zs.take len) := by
  refine ⟨by rw [List.length_take]; omega, by omega, fun h0 => ⟨a, rfl, ?_, fun j hj => ?_⟩⟩
  · have := World.block_lt_of_cell? W _ (hcell 0 (by omega))
    rwa [block_of_add] at this
  · rw [hcell j (by omega)]
    simp [List.getD, List.getElem?_take, hj]
end Go.Proofs.Ytnpdlfnhpghkmaa
