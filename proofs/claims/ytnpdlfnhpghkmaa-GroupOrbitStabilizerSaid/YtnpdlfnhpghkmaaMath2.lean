/- Plain mathematics: ranks. -/
import Derived.Test.YtnpdlfnhpghkmaaMath
namespace Go.Proofs.Ytnpdlfnhpghkmaa
set_option linter.unusedVariables false
set_option linter.unusedSimpArgs false

/-- How many elements are less than x. -/
def cntLt (xs : List Int) (x : Int) : Nat := xs.countP fun y => decide (y < x)
/-- The rank of the first k elements. -/
def rkGo (a : List Nat) : Nat → Nat
  | 0 => 0
  | k + 1 => rkGo a k * (a.length - k) + cntLt ((zs a).drop k) (a.getD k 0 : Nat)
/-- The rank. -/
def rankN (a : List Nat) : Nat := rkGo a a.length
/-- n (n - 1) .. of k factors. -/
def descF (n : Nat) : Nat → Nat
  | 0 => 1
  | k + 1 => descF n k * (n - k)
theorem cnt_drop_lt {a : List Nat} {k : Nat} (hk : k < a.length) : cntLt ((zs a).drop k) (a.getD k 0 : Nat) + 1 ≤ a.length - k := by
  have hk' : k < (zs a).length := by rw [zs_length]; exact hk
  have e : (zs a)[k] = ((a.getD k 0 : Nat) : Int) := by
    have := zs_getD a k
    rw [← this]
    simp [List.getD, List.getElem?_eq_getElem hk']
  rw [List.drop_eq_getElem_cons hk', e]
  unfold cntLt
  rw [List.countP_cons]
  have := List.countP_le_length (p := fun y => decide (y < ((a.getD k 0 : Nat) : Int))) (l := (zs a).drop (k + 1))
  rw [List.length_drop, zs_length] at this
  simp only [Int.lt_irrefl, decide_false, Bool.false_eq_true, if_false]
  omega
theorem rkGo_lt (a : List Nat) : ∀ k, k ≤ a.length → rkGo a k + 1 ≤ descF a.length k := by
  intro k
  induction k with
  | zero => intro _; simp [rkGo, descF]
  | succ k ih =>
    intro hk
    have h1 := ih (by omega)
    have h2 := cnt_drop_lt (a := a) (k := k) (by omega)
    rw [rkGo, descF]
    have h3 := Nat.mul_le_mul_right (a.length - k) h1
    rw [Nat.add_mul] at h3
    omega
theorem descF_small : ∀ n, n < 10 → ∀ k, k < 10 → descF n k ≤ 362880 := by decide
theorem rkGo_mul {a : List Nat} (h9 : a.length ≤ 9) {k : Nat} (hk : k < a.length) : rkGo a k * (a.length - k) ≤ 362880 := by
  have h1 := rkGo_lt a k (by omega)
  have h2 := descF_small a.length (by omega) (k + 1) (by omega)
  rw [descF] at h2
  exact Nat.le_trans (Nat.mul_le_mul_right _ (by omega)) h2
theorem rankN_lt {a : List Nat} (h9 : a.length ≤ 9) : rankN a < 362880 := by
  have h1 := rkGo_lt a a.length (Nat.le_refl _)
  have h2 := descF_small a.length (by omega) a.length (by omega)
  unfold rankN
  omega
theorem isP_of_perm {l : List Nat} {n : Nat} (h : l.Perm (List.range n)) : isP l ∧ l.length = n := by
  have hl : l.length = n := by rw [h.length_eq, List.length_range]
  refine ⟨⟨fun x hx => ?_, h.symm.nodup List.nodup_range⟩, hl⟩
  have := h.mem_iff.1 hx
  rw [hl]
  simpa using this
theorem perm_take {os rs : List Nat} {i n : Nat} (hi : i < rs.length) (h : (os ++ rs).Perm (List.range n)) : ((os ++ [rs.getD i 0]) ++ (rs.take i ++ rs.drop (i + 1))).Perm (List.range n) := by
  refine List.Perm.trans ?_ h
  rw [List.append_assoc]
  refine List.Perm.append_left _ ?_
  have e : rs = rs.take i ++ rs.getD i 0 :: rs.drop (i + 1) := by
    rw [getD_eq hi, ← List.drop_eq_getElem_cons hi, List.take_append_drop]
  have h2 : (rs.getD i 0 :: (rs.take i ++ rs.drop (i + 1))).Perm (rs.take i ++ rs.getD i 0 :: rs.drop (i + 1)) := List.perm_middle.symm
  rw [← e] at h2
  exact h2
theorem range_take {os rs : List Nat} {n : Nat} (hi : 0 < rs.length) (h : os ++ rs = List.range n) : (os ++ [rs.getD 0 0]) ++ (rs.take 0 ++ rs.drop 1) = List.range n := by
  rw [← h]
  have e : rs = rs.getD 0 0 :: rs.drop 1 := by
    rw [getD_eq hi, ← List.drop_eq_getElem_cons hi, List.drop_zero]
  conv => rhs; rw [e]
  simp
theorem zs_take (a : List Nat) (i : Nat) : (zs a).take i = zs (a.take i) := by simp [zs, List.map_take]
theorem zs_drop (a : List Nat) (i : Nat) : (zs a).drop i = zs (a.drop i) := by simp [zs, List.map_drop]
theorem zs_append (a b : List Nat) : zs a ++ zs b = zs (a ++ b) := by simp [zs]

end Go.Proofs.Ytnpdlfnhpghkmaa
