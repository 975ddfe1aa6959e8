/- Long division as the machine does it: two lists, with wraps; it is the division of Laurent polynomials. -/
import Derived.Test.YtbajelbfgekilaaLpV
import Derived.Test.YtbajelbfgekilaaRf
namespace Go.Proofs.Ytbajelbfgekilaa
set_option linter.unusedVariables false
set_option linter.unusedSimpArgs false
open Go.RowKit

/-- The first j of the cells from i on have lost z times the numbers ys. -/
def subJ (rs : List Int) (i : Nat) (z : Int) (ys : List Int) (j : Nat) : List Int := (List.range rs.length).map fun t => if i ≤ t ∧ t < i + j then wrap64 (rs.getD t 0 - wrap64 (z * ys.getD (t - i) 0)) else rs.getD t 0
theorem subJ_length (rs : List Int) (i : Nat) (z : Int) (ys : List Int) (j : Nat) : (subJ rs i z ys j).length = rs.length := by simp [subJ]
theorem subJ_getD {rs : List Int} {i : Nat} {z : Int} {ys : List Int} {j t : Nat} (ht : t < rs.length) : (subJ rs i z ys j).getD t 0 = if i ≤ t ∧ t < i + j then wrap64 (rs.getD t 0 - wrap64 (z * ys.getD (t - i) 0)) else rs.getD t 0 := by simp [subJ, List.getD, ht]
theorem subJ_zero (rs : List Int) (i : Nat) (z : Int) (ys : List Int) : subJ rs i z ys 0 = rs := by
  refine List.ext_getElem (by simp [subJ]) fun t h1 h2 => ?_
  simp only [subJ, List.getElem_map, List.getElem_range]
  rw [if_neg (by omega)]
  simp [List.getD, List.getElem?_eq_getElem h2]
theorem subJ_set {rs : List Int} {i : Nat} {z : Int} {ys : List Int} {j : Nat} (h : i + j < rs.length) : (subJ rs i z ys j).set (i + j) (wrap64 (rs.getD (i + j) 0 - wrap64 (z * ys.getD j 0))) = subJ rs i z ys (j + 1) := by
  refine List.ext_getElem (by simp [subJ]) fun t h1 h2 => ?_
  rw [List.getElem_set]
  simp only [subJ, List.getElem_map, List.getElem_range]
  by_cases e : i + j = t
  · subst e
    rw [if_pos rfl, if_pos (by omega), show i + j - i = j by omega]
  · rw [if_neg e]
    by_cases h3 : i ≤ t ∧ t < i + j
    · rw [if_pos h3, if_pos (by omega)]
    · rw [if_neg h3, if_neg (by omega)]

/-- Both lists, and whether no coefficient has been too large. -/
abbrev DvS := List Int × List Int × Bool
def dvZ (m : Nat) (lead : Int) (s : DvS) (i : Nat) : Int := wrap64 (s.1.getD (i + m - 1) 0 * lead)
def dvStep (ys : List Int) (lead : Int) {nq : Nat} (s : DvS) (p : BackX nq) : DvS :=
  (subJ s.1 p.1.1 (dvZ ys.length lead s p.1.1) ys ys.length, s.2.1.set p.1.1 (dvZ ys.length lead s p.1.1), s.2.2 && LP.okC (dvZ ys.length lead s p.1.1))
def dvRun (ys : List Int) (lead : Int) {nq : Nat} (s : DvS) (ps : List (BackX nq)) : DvS := ps.foldl (dvStep ys lead) s
theorem dvRun_snoc (ys : List Int) (lead : Int) {nq : Nat} (s : DvS) (ps : List (BackX nq)) (p : BackX nq) : dvRun ys lead s (ps ++ [p]) = dvStep ys lead (dvRun ys lead s ps) p := by simp [dvRun]
theorem dvRun_nil (ys : List Int) (lead : Int) {nq : Nat} (s : DvS) : dvRun ys lead s ([] : List (BackX nq)) = s := rfl

section
variable {la lb lead : Int} {xs ys : List Int} {nq : Nat}
/-- Where the division stands when k coefficients are known. -/
structure DvK (la lb lead : Int) (xs ys : List Int) (nq : Nat) (k : Nat) (s : DvS) : Prop where
  len : s.1.length = xs.length
  lenq : s.2.1.length = nq
  le : ∀ t, (s.1.getD t 0).natAbs ≤ 100000000 + k * 10000000000000000
  zero : ∀ t, t < nq - k → s.2.1.getD t 0 = 0
  eq : LP.divS (LP.of lb ys) (lb + ys.length - 1) lead (nq - k) (la - lb + (nq : Int) - 1 - k) (LP.of la s.1) (LP.of (la - lb) s.2.1) = LP.divS (LP.of lb ys) (lb + ys.length - 1) lead nq (la - lb + (nq : Int) - 1) (LP.of la xs) 0
theorem getD_set_ (l : List Int) (i : Nat) (v : Int) (t : Nat) (hi : i < l.length) : (l.set i v).getD t 0 = if t = i then v else l.getD t 0 := by
  rw [List.getD_eq_getElem?_getD, List.getD_eq_getElem?_getD]
  by_cases e : t = i
  · subst e; rw [if_pos rfl, List.getElem?_set_self hi]; rfl
  · rw [if_neg e, List.getElem?_set_ne (fun h => e h.symm)]
theorem of_set {lo : Int} {qs : List Int} {i : Nat} (hi : i < qs.length) (h0 : qs.getD i 0 = 0) (z : Int) : LP.of lo (qs.set i z) = LP.of lo qs + LP.term (lo + i) z := LP.ext fun k => by
  rw [LP.co_add, LP.co_term, LP.co_of, LP.co_of, List.length_set]
  by_cases h : lo ≤ k ∧ k < lo + qs.length
  · rw [if_pos h, if_pos h, getD_set_ _ _ _ _ hi]
    by_cases e : (k - lo).toNat = i
    · rw [if_pos e, if_pos (by omega), e, h0, Int.zero_add]
    · rw [if_neg e, if_neg (by omega), Int.add_zero]
  · rw [if_neg h, if_neg h, if_neg (by omega)]; rfl
theorem of_subJ {rs : List Int} {i : Nat} {z : Int} (hi : i + ys.length ≤ rs.length) (hw : ∀ t, t < rs.length → wrap64 (rs.getD t 0 - wrap64 (z * ys.getD (t - i) 0)) = rs.getD t 0 - z * ys.getD (t - i) 0) :
    LP.of la (subJ rs i z ys ys.length) = LP.of la rs + -(LP.term (la - lb + i) z * LP.of lb ys) := LP.ext fun k => by
  rw [LP.co_add, LP.co_neg, LP.co_term_mul, LP.co_of, LP.co_of, LP.co_of, subJ_length]
  by_cases h : la ≤ k ∧ k < la + rs.length
  · rw [if_pos h, if_pos h, subJ_getD (by omega)]
    by_cases h2 : i ≤ (k - la).toNat ∧ (k - la).toNat < i + ys.length
    · rw [if_pos h2, if_pos (by omega), hw _ (by omega), show (k - (la - lb + i) - lb).toNat = (k - la).toNat - i by omega]
      omega
    · rw [if_neg h2, if_neg (by omega)]; omega
  · rw [if_neg h, if_neg h, if_neg (by omega)]; omega

theorem DvK.start (hq : nq + ys.length = xs.length + 1 ∨ nq = 0) (hx : ∀ t, (xs.getD t 0).natAbs ≤ 100000000) : DvK la lb lead xs ys nq 0 (xs, List.replicate nq 0, true) :=
  ⟨rfl, by simp, fun t => by have := hx t; show (xs.getD t 0).natAbs ≤ _; omega, fun t _ => by
    show (List.replicate nq (0 : Int)).getD t 0 = 0
    rw [List.getD_eq_getElem?_getD, List.getElem?_replicate]
    split <;> rfl, by
    have h : LP.of (la - lb) (List.replicate nq 0) = 0 := LP.ext fun k => by
      rw [LP.co_of, LP.co_zero]
      split
      · rw [List.getD_eq_getElem?_getD, List.getElem?_replicate]
        split <;> rfl
      · rfl
    show LP.divS _ _ _ (nq - 0) _ (LP.of la xs) (LP.of (la - lb) (List.replicate nq 0)) = _
    rw [h, Nat.sub_zero]
    congr 1
    omega⟩
theorem dvZ_eq {k : Nat} {s : DvS} (h : DvK la lb lead xs ys nq k s) (hl : lead = 1 ∨ lead = -1) (hk : k ≤ 200) (i : Nat) : dvZ ys.length lead s i = s.1.getD (i + ys.length - 1) 0 * lead := by
  unfold dvZ
  have h1 := h.le (i + ys.length - 1)
  generalize s.1.getD (i + ys.length - 1) 0 = x at *
  unfold wrap64
  rcases hl with e | e <;> subst e <;> omega
/-- One more coefficient: it is what the division determines. -/
theorem DvK.co {k : Nat} {s : DvS} (h : DvK la lb lead xs ys nq k s) (hl : lead = 1 ∨ lead = -1) (hq : nq + ys.length = xs.length + 1) (hy0 : 0 < ys.length) (hk : k < nq) (hn : nq ≤ 200) :
    LP.co (LP.of la s.1) (la - lb + (nq : Int) - 1 - k + (lb + ys.length - 1)) * lead = dvZ ys.length lead s (nq - 1 - k) := by
  rw [dvZ_eq h hl (by omega), LP.co_of, h.len, if_pos (by omega)]
  congr 2
  omega
theorem DvK.big {k : Nat} {s : DvS} (h : DvK la lb lead xs ys nq k s) (hl : lead = 1 ∨ lead = -1) (hq : nq + ys.length = xs.length + 1) (hy0 : 0 < ys.length) (hk : k < nq) (hn : nq ≤ 200) (hz : LP.okC (dvZ ys.length lead s (nq - 1 - k)) = false) :
    LP.divS (LP.of lb ys) (lb + ys.length - 1) lead nq (la - lb + (nq : Int) - 1) (LP.of la xs) 0 = (2, 0, 0) := by
  rw [← h.eq]
  obtain ⟨r, hr⟩ : ∃ r, nq - k = r + 1 := ⟨nq - k - 1, by omega⟩
  rw [hr]
  unfold LP.divS
  rw [h.co hl hq hy0 hk hn, if_pos]
  unfold LP.okC at hz
  have := of_decide_eq_false hz
  omega
theorem DvK.next {k : Nat} {s : DvS} (h : DvK la lb lead xs ys nq k s) (hl : lead = 1 ∨ lead = -1) (hq : nq + ys.length = xs.length + 1) (hy0 : 0 < ys.length) (hk : k < nq) (hn : nq ≤ 200) (hy : ∀ t, (ys.getD t 0).natAbs ≤ 100000000) (hz : LP.okC (dvZ ys.length lead s (nq - 1 - k)) = true) (v : Int) (hi : nq - 1 - k < nq) :
    DvK la lb lead xs ys nq (k + 1) (dvStep ys lead s ⟨(nq - 1 - k, v), hi⟩) := by
  have hco := h.co hl hq hy0 hk hn
  have hz1 : (dvZ ys.length lead s (nq - 1 - k)).natAbs ≤ 100000000 := by
    unfold LP.okC at hz
    have := of_decide_eq_true hz
    omega
  have hw : ∀ t, t < s.1.length → (dvZ ys.length lead s (nq - 1 - k) * ys.getD (t - (nq - 1 - k)) 0).natAbs ≤ 10000000000000000 ∧ wrap64 (s.1.getD t 0 - wrap64 (dvZ ys.length lead s (nq - 1 - k) * ys.getD (t - (nq - 1 - k)) 0)) = s.1.getD t 0 - dvZ ys.length lead s (nq - 1 - k) * ys.getD (t - (nq - 1 - k)) 0 := fun t _ => by
    have h1 : (dvZ ys.length lead s (nq - 1 - k) * ys.getD (t - (nq - 1 - k)) 0).natAbs ≤ 10000000000000000 := by
      rw [Int.natAbs_mul]
      exact Nat.le_trans (Nat.mul_le_mul hz1 (hy _)) (by decide)
    refine ⟨h1, ?_⟩
    have h2 := h.le t
    generalize dvZ ys.length lead s (nq - 1 - k) * ys.getD (t - (nq - 1 - k)) 0 = p at *
    generalize s.1.getD t 0 = x at *
    unfold wrap64
    omega
  have hlen := h.len
  have hlq := h.lenq
  refine ⟨by show (subJ _ _ _ _ _).length = _; rw [subJ_length, hlen], by show (List.set _ _ _).length = _; rw [List.length_set, hlq], fun t => ?_, fun t ht => ?_, ?_⟩
  · show ((subJ s.1 (nq - 1 - k) _ ys ys.length).getD t 0).natAbs ≤ _
    by_cases ht : t < s.1.length
    · rw [subJ_getD ht]
      obtain ⟨h1, h2⟩ := hw t ht
      have h3 := h.le t
      have h4 : 100000000 + k * 10000000000000000 ≤ 100000000 + (k + 1) * 10000000000000000 := Nat.add_le_add_left (Nat.mul_le_mul_right _ (Nat.le_succ k)) _
      split
      · rw [h2]
        rw [Nat.succ_mul]
        clear h2 h4
        generalize dvZ ys.length lead s (nq - 1 - k) * ys.getD (t - (nq - 1 - k)) 0 = p at *
        generalize s.1.getD t 0 = x at *
        generalize k * 10000000000000000 = q at *
        omega
      · exact Nat.le_trans h3 h4
    · have e : (subJ s.1 (nq - 1 - k) (dvZ ys.length lead s (nq - 1 - k)) ys ys.length).getD t 0 = 0 := by
        rw [List.getD_eq_getElem?_getD, List.getElem?_eq_none (by rw [subJ_length]; omega)]
        rfl
      rw [e]
      exact Nat.zero_le _
  · show (List.set s.2.1 (nq - 1 - k) _).getD t 0 = 0
    rw [getD_set_ _ _ _ _ (by omega), if_neg (by omega)]
    exact h.zero t (by omega)
  · rw [← h.eq]
    obtain ⟨r, hr⟩ : ∃ r, nq - k = r + 1 := ⟨nq - k - 1, by omega⟩
    rw [hr, show nq - (k + 1) = r by omega]
    show LP.divS _ _ _ r _ (LP.of la (subJ s.1 (nq - 1 - k) _ ys ys.length)) (LP.of (la - lb) (s.2.1.set (nq - 1 - k) _)) = _
    rw [of_subJ (lb := lb) (by omega) (fun t ht => (hw t ht).2), of_set (by omega) (h.zero _ (by omega))]
    conv => rhs; unfold LP.divS
    rw [hco, if_neg (by omega)]
    rw [show la - lb + ((nq - 1 - k : Nat) : Int) = la - lb + (nq : Int) - 1 - k by omega, show la - lb + (nq : Int) - 1 - ((k + 1 : Nat) : Int) = la - lb + (nq : Int) - 1 - k - 1 by omega]
/-- The rounds of the loop. -/
theorem dvRun_ok {V : Nat → Int → Prop} (hl : lead = 1 ∨ lead = -1) (hq : nq + ys.length = xs.length + 1 ∨ nq = 0) (hy0 : 0 < ys.length) (hn : nq ≤ 200) (hx : ∀ t, (xs.getD t 0).natAbs ≤ 100000000) (hy : ∀ t, (ys.getD t 0).natAbs ≤ 100000000) {ps : List (BackX nq)} (hS : BackS V ps) :
    ∀ k, k ≤ ps.length → (dvRun ys lead (xs, List.replicate nq 0, true) (ps.take k)).2.2 = true → DvK la lb lead xs ys nq k (dvRun ys lead (xs, List.replicate nq 0, true) (ps.take k))
  | 0, _, _ => by rw [List.take_zero]; exact DvK.start hq hx
  | k + 1, hk, hok => by
    have hlt : k < ps.length := hk
    have hl2 := hS.1
    rw [List.take_succ_eq_append_getElem hlt, dvRun_snoc] at hok ⊢
    unfold dvStep at hok
    simp only [Bool.and_eq_true] at hok
    have ih := dvRun_ok hl hq hy0 hn hx hy hS k (by omega) hok.1
    obtain ⟨h1, h2⟩ := hS.2 k ps[k] (List.getElem?_eq_getElem hlt)
    generalize ps[k] = p at *
    obtain ⟨⟨i, v⟩, hi⟩ := p
    simp only at h1 hok
    subst h1
    exact ih.next hl (by omega) hy0 (by omega) hn hy hok.2 v hi
end
end Go.Proofs.Ytbajelbfgekilaa
