/- Plain mathematics: the sign of a permutation by inversions, and by cycles. -/
import Derived.Test.YtnpdlfnhpghkmaaMath5
namespace Go.Proofs.Ytnpdlfnhpghkmaa
set_option linter.unusedVariables false
set_option linter.unusedSimpArgs false

/-- The sign, changed for each of the first k elements that is greater than element i. -/
def parIn (a : List Nat) (i : Nat) (s : Int) : Nat → Int
  | 0 => s
  | k + 1 => if a.getD i 0 < a.getD k 0 then -parIn a i s k else parIn a i s k
/-- The sign of the first i elements. -/
def parTo (a : List Nat) : Nat → Int
  | 0 => 1
  | i + 1 => parIn a i (parTo a i) i
theorem parIn_one (a : List Nat) (i : Nat) {s : Int} (hs : s = 1 ∨ s = -1) : ∀ k, parIn a i s k = 1 ∨ parIn a i s k = -1
  | 0 => hs
  | k + 1 => by
    have := parIn_one a i hs k
    rw [parIn]
    split <;> omega
theorem parTo_one (a : List Nat) : ∀ i, parTo a i = 1 ∨ parTo a i = -1
  | 0 => .inl rfl
  | i + 1 => parIn_one a i (parTo_one a i) i

/-- 1 for an even number, -1 for an odd one. -/
def sg (m : Nat) : Int := if m % 2 = 0 then 1 else -1
theorem sg_succ (m : Nat) : sg (m + 1) = -sg m := by
  unfold sg
  by_cases h : m % 2 = 0
  · rw [if_pos h, if_neg (by omega)]
  · rw [if_neg h, if_pos (by omega)]; rfl
theorem sg_add (m k : Nat) : sg (m + k) = sg m * sg k := by
  unfold sg
  by_cases h : m % 2 = 0 <;> by_cases h2 : k % 2 = 0
  · rw [if_pos h, if_pos h2, if_pos (by omega)]; rfl
  · rw [if_pos h, if_neg h2, if_neg (by omega)]; rfl
  · rw [if_neg h, if_pos h2, if_neg (by omega)]; rfl
  · rw [if_neg h, if_neg h2, if_pos (by omega)]; rfl
theorem sg_sq (m : Nat) : sg m * sg m = 1 := by
  unfold sg
  by_cases h : m % 2 = 0
  · rw [if_pos h]; rfl
  · rw [if_neg h]; rfl

/-- How many elements of l are greater than x. -/
def cntG (l : List Nat) (x : Nat) : Nat := l.countP fun y => decide (x < y)
/-- The number of inversions. -/
def invL : List Nat → Nat
  | [] => 0
  | x :: r => cntN r x + invL r
theorem cntN_append (l r : List Nat) (x : Nat) : cntN (l ++ r) x = cntN l x + cntN r x := by
  unfold cntN
  rw [List.countP_append]
theorem invL_snoc (x : Nat) : ∀ l, invL (l ++ [x]) = invL l + cntG l x
  | [] => rfl
  | y :: r => by
    rw [List.cons_append, invL, invL_snoc x r, cntN_append, invL]
    have h1 : cntN [x] y = if x < y then 1 else 0 := by rw [cntN_cons]; simp [cntN]
    have h2 : cntG (y :: r) x = cntG r x + if x < y then 1 else 0 := by
      unfold cntG
      rw [List.countP_cons]
      simp
    rw [h1, h2]
    omega
theorem parIn_sg (a : List Nat) (i : Nat) (s : Int) : ∀ k, k ≤ a.length → parIn a i s k = s * sg (cntG (a.take k) (a.getD i 0))
  | 0, _ => by simp [parIn, cntG, sg]
  | k + 1, hk => by
    have e : cntG (a.take (k + 1)) (a.getD i 0) = cntG (a.take k) (a.getD i 0) + if a.getD i 0 < a.getD k 0 then 1 else 0 := by
      unfold cntG
      rw [List.take_succ_eq_append_getElem (by omega), List.countP_append, ← getD_eq (by omega)]
      simp [List.countP_cons]
    rw [parIn, parIn_sg a i s k (by omega), e]
    by_cases h : a.getD i 0 < a.getD k 0
    · rw [if_pos h, if_pos h, sg_succ, Int.mul_neg]
    · rw [if_neg h, if_neg h, Nat.add_zero]
theorem parTo_sg (a : List Nat) : ∀ i, i ≤ a.length → parTo a i = sg (invL (a.take i))
  | 0, _ => rfl
  | i + 1, hi => by
    rw [parTo, parIn_sg a i _ i (by omega), parTo_sg a i (by omega), ← sg_add, List.take_succ_eq_append_getElem (by omega), invL_snoc, getD_eq (by omega)]
theorem par_sg (a : List Nat) : parTo a a.length = sg (invL a) := by
  rw [parTo_sg a a.length (Nat.le_refl _), List.take_length]

/-! The sign of a product. -/
theorem invL_sorted : ∀ {l : List Nat}, Sorted l → invL l = 0
  | [], _ => rfl
  | x :: r, h => by
    have h' := List.pairwise_cons.1 h
    rw [invL, cnt_zero (fun y hy => Nat.le_of_lt (h'.1 y hy)), invL_sorted h'.2]
/-- Whatever the order, the signs of a list and of its image go together. -/
theorem sg_perm (g : Nat → Nat) {l l' : List Nat} (h : l.Perm l') : (∀ x ∈ l, ∀ y ∈ l, g x = g y → x = y) → l.Nodup →
    sg (invL l) * sg (invL (l.map g)) = sg (invL l') * sg (invL (l'.map g)) := by
  induction h with
  | nil => intro _ _; rfl
  | cons x h ih =>
    rename_i l1 l2
    intro hg hn
    rw [List.nodup_cons] at hn
    have e := ih (fun a ha b hb => hg a (by simp [ha]) b (by simp [hb])) hn.2
    rw [List.map_cons, List.map_cons, invL, invL, invL, invL, sg_add, sg_add, sg_add, sg_add, cntN_perm h, cntN_perm (h.map g)]
    generalize sg (cntN l2 x) = p
    generalize sg (cntN (l2.map g) (g x)) = q
    have e1 : p * sg (invL l1) * (q * sg (invL (l1.map g))) = p * q * (sg (invL l1) * sg (invL (l1.map g))) := by
      rw [Int.mul_assoc, Int.mul_assoc, ← Int.mul_assoc (sg (invL l1)), Int.mul_comm (sg (invL l1)) q, Int.mul_assoc q]
    have e2 : p * sg (invL l2) * (q * sg (invL (l2.map g))) = p * q * (sg (invL l2) * sg (invL (l2.map g))) := by
      rw [Int.mul_assoc, Int.mul_assoc, ← Int.mul_assoc (sg (invL l2)), Int.mul_comm (sg (invL l2)) q, Int.mul_assoc q]
    rw [e1, e2, e]
  | swap x y l =>
    intro hg hn
    have hxy : x ≠ y := by
      intro e
      subst e
      simp at hn
    have hgxy : g x ≠ g y := fun e => hxy (hg x (by simp) y (by simp) e)
    have key : ∀ (u v : Nat) (r : List Nat), u ≠ v → sg (invL (u :: v :: r)) = -sg (invL (v :: u :: r)) := by
      intro u v r huv
      have e : ∀ (p q : Nat) (s : List Nat), invL (p :: q :: s) = (if q < p then 1 else 0) + (cntN s p + cntN s q + invL s) := by
        intro p q s
        rw [invL, invL, cntN_cons]
        omega
      rw [e, e, Nat.add_comm (cntN r v) (cntN r u)]
      rcases Nat.lt_or_gt_of_ne huv with h | h
      · rw [if_neg (by omega), if_pos h, Nat.zero_add, Nat.add_comm 1, sg_succ, Int.neg_neg]
      · rw [if_pos h, if_neg (by omega), Nat.zero_add, Nat.add_comm 1, sg_succ]
    rw [List.map_cons, List.map_cons, List.map_cons, List.map_cons, key y x l hxy.symm, key (g y) (g x) (l.map g) (fun e => hgxy e.symm), Int.neg_mul_neg]
  | trans h1 h2 ih1 ih2 =>
    intro hg hn
    rw [ih1 hg hn]
    exact ih2 (fun a ha b hb => hg a (h1.mem_iff.2 ha) b (h1.mem_iff.2 hb)) (h1.nodup hn)
theorem sg_comp {a b : List Nat} (pa : isP a) (pb : isP b) (hl : a.length = b.length) : sg (invL (comp a b)) = sg (invL a) * sg (invL b) := by
  have h := sg_perm (fun x => b.getD x 0) pa.perm (fun x hx y hy e => pb.inj (by have := pa.1 x hx; omega) (by have := pa.1 y hy; omega) e) pa.2
  have e1 : a.map (fun x => b.getD x 0) = comp a b := rfl
  have e2 : (List.range a.length).map (fun x => b.getD x 0) = b := by
    have := range_comp b
    rw [← hl] at this
    exact this
  rw [e1, e2, invL_sorted (range_sorted _)] at h
  have h3 : sg 0 = 1 := rfl
  rw [h3, Int.one_mul] at h
  have h4 := sg_sq (invL a)
  have h5 : sg (invL a) * (sg (invL a) * sg (invL (comp a b))) = sg (invL a) * sg (invL b) := by rw [h]
  rw [← Int.mul_assoc, h4, Int.one_mul] at h5
  exact h5
end Go.Proofs.Ytnpdlfnhpghkmaa
