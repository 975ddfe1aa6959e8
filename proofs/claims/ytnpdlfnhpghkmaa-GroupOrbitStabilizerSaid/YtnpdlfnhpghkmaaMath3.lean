/- Plain mathematics: ranks, unranking, lexicographic order. -/
import Derived.Test.YtnpdlfnhpghkmaaMath2
namespace Go.Proofs.Ytnpdlfnhpghkmaa
set_option linter.unusedVariables false
set_option linter.unusedSimpArgs false

/-- Factorials. -/
def fct : Nat → Nat
  | 0 => 1
  | n + 1 => (n + 1) * fct n
theorem fct_pos : ∀ n, 0 < fct n
  | 0 => by simp [fct]
  | n + 1 => by rw [fct]; exact Nat.mul_pos (by omega) (fct_pos n)
theorem fct_small : ∀ n, n < 10 → fct n ≤ 362880 := by decide
def cntN (l : List Nat) (x : Nat) : Nat := l.countP fun y => decide (y < x)
def rkL : List Nat → Nat
  | [] => 0
  | x :: r => cntN r x * fct r.length + rkL r
theorem cntLt_zs (l : List Nat) (x : Nat) : cntLt (zs l) (x : Int) = cntN l x := by
  unfold cntLt cntN zs
  rw [List.countP_map]
  congr 1
  funext y
  simp
theorem cntN_self (r : List Nat) (x : Nat) : cntN (x :: r) x = cntN r x := by
  unfold cntN
  rw [List.countP_cons]
  simp
theorem rkL_lt : ∀ l, rkL l < fct l.length
  | [] => by simp [rkL, fct]
  | x :: r => by
    have h1 := rkL_lt r
    have h2 : cntN r x ≤ r.length := List.countP_le_length
    have h3 := Nat.mul_le_mul_right (fct r.length) h2
    rw [rkL, List.length_cons, fct, Nat.add_mul]
    omega
theorem rkGo_rkL (a : List Nat) : ∀ k, k ≤ a.length → rkGo a k * fct (a.length - k) + rkL (a.drop k) = rkL a := by
  intro k
  induction k with
  | zero => intro _; simp [rkGo]
  | succ k ih =>
    intro hk
    have h1 := ih (by omega)
    rw [List.drop_eq_getElem_cons (show k < a.length by omega), rkL, List.length_drop] at h1
    rw [rkGo, zs_drop, cntLt_zs, List.drop_eq_getElem_cons (show k < a.length by omega), getD_eq (show k < a.length by omega), cntN_self, Nat.add_mul, Nat.mul_assoc]
    rw [show a.length - k = (a.length - (k + 1)) + 1 from by omega, fct] at h1
    rw [show a.length - k = (a.length - (k + 1)) + 1 from by omega]
    omega
theorem rankN_eq (a : List Nat) : rankN a = rkL a := by
  have := rkGo_rkL a a.length (Nat.le_refl _)
  simp [fct, rkL] at this
  exact this

/-- The list of a rank, out of the sorted list us. -/
def unr : Nat → List Nat → Nat → List Nat
  | 0, _, _ => []
  | m + 1, us, r => us.getD (r / fct m) 0 :: unr m (us.take (r / fct m) ++ us.drop (r / fct m + 1)) (r % fct m)

abbrev Sorted (l : List Nat) : Prop := l.Pairwise (· < ·)

theorem cnt_zero {l : List Nat} {x : Nat} (h : ∀ y ∈ l, x ≤ y) : cntN l x = 0 := by
  unfold cntN
  rw [List.countP_eq_zero]
  intro y hy
  have := h y hy
  simp
  omega
theorem cntN_cons (u x : Nat) (t : List Nat) : cntN (u :: t) x = cntN t x + if u < x then 1 else 0 := by
  unfold cntN
  rw [List.countP_cons]
  simp
theorem sorted_at : ∀ {us : List Nat} {x : Nat}, Sorted us → x ∈ us → us.getD (cntN us x) 0 = x
  | u :: t, x, hs, hx => by
    have hs' := List.pairwise_cons.1 hs
    by_cases h : x = u
    · subst h
      rw [cntN_self, cnt_zero (fun y hy => Nat.le_of_lt (hs'.1 y hy))]
      rfl
    · have hxt : x ∈ t := by
        rcases List.mem_cons.1 hx with e | e
        · exact absurd e h
        · exact e
      rw [cntN_cons, if_pos (hs'.1 x hxt)]
      have := sorted_at hs'.2 hxt
      simpa [List.getD] using this
theorem cnt_sorted : ∀ {us : List Nat} {i : Nat}, Sorted us → i < us.length → cntN us (us.getD i 0) = i
  | u :: t, 0, hs, _ => by
    have hs' := List.pairwise_cons.1 hs
    simp only [List.getD, List.getElem?_cons_zero, Option.getD_some]
    rw [cntN_self]
    exact cnt_zero fun y hy => Nat.le_of_lt (hs'.1 y hy)
  | u :: t, i + 1, hs, hi => by
    have hs' := List.pairwise_cons.1 hs
    have hi' : i < t.length := by simpa using hi
    have e : (u :: t).getD (i + 1) 0 = t.getD i 0 := by simp [List.getD]
    rw [e, cntN_cons, cnt_sorted hs'.2 hi', if_pos (hs'.1 _ (getD_mem hi'))]
theorem perm_pick {us : List Nat} {i : Nat} (hi : i < us.length) : (us.getD i 0 :: (us.take i ++ us.drop (i + 1))).Perm us := by
  have e : us = us.take i ++ us.getD i 0 :: us.drop (i + 1) := by
    rw [getD_eq hi, ← List.drop_eq_getElem_cons hi, List.take_append_drop]
  have h2 : (us.getD i 0 :: (us.take i ++ us.drop (i + 1))).Perm (us.take i ++ us.getD i 0 :: us.drop (i + 1)) := List.perm_middle.symm
  rw [← e] at h2
  exact h2
theorem sorted_pick {us : List Nat} (hs : Sorted us) (i : Nat) : Sorted (us.take i ++ us.drop (i + 1)) := by
  rw [← List.eraseIdx_eq_take_drop_succ]
  exact List.Pairwise.sublist (List.eraseIdx_sublist us i) hs
theorem cntN_perm {l l' : List Nat} (h : l.Perm l') (x : Nat) : cntN l x = cntN l' x := h.countP_eq _

theorem unr_rkL : ∀ {l us : List Nat}, l.Perm us → Sorted us → unr us.length us (rkL l) = l
  | [], us, h, _ => by
    have : us = [] := h.symm.eq_nil
    subst this
    rfl
  | x :: r, us, h, hs => by
    have hl : us.length = r.length + 1 := by rw [← h.length_eq]; rfl
    have hr := rkL_lt r
    have hi : rkL (x :: r) / fct r.length = cntN us x := by
      rw [← cntN_perm h, cntN_self, rkL, Nat.add_comm, Nat.add_mul_div_right _ _ (fct_pos _), Nat.div_eq_of_lt hr, Nat.zero_add]
    have hm : rkL (x :: r) % fct r.length = rkL r := by
      rw [rkL, Nat.add_comm, Nat.add_mul_mod_self_right, Nat.mod_eq_of_lt hr]
    have hx := sorted_at hs (h.mem_iff.1 (List.mem_cons_self ..))
    have hlt : cntN us x < us.length := by
      have h1 : cntN r x ≤ r.length := List.countP_le_length
      rw [← cntN_perm h, cntN_self]
      omega
    have hp := perm_pick hlt
    rw [hx] at hp
    have hp2 : r.Perm (us.take (cntN us x) ++ us.drop (cntN us x + 1)) := (hp.trans h.symm).symm.cons_inv
    have ih := unr_rkL hp2 (sorted_pick hs _)
    rw [← hp2.length_eq] at ih
    rw [hl, unr, hi, hm, hx, ih]

theorem unr_spec : ∀ (m : Nat) {us : List Nat} {r : Nat}, us.length = m → Sorted us → r < fct m → (unr m us r).Perm us ∧ rkL (unr m us r) = r
  | 0, us, r, hl, _, hr => by
    have : us = [] := List.eq_nil_of_length_eq_zero hl
    subst this
    simp [fct] at hr
    subst hr
    exact ⟨List.Perm.nil, rfl⟩
  | m + 1, us, r, hl, hs, hr => by
    have hi : r / fct m < us.length := by
      rw [hl]
      rw [fct] at hr
      exact Nat.div_lt_of_lt_mul (by rw [Nat.mul_comm]; exact hr)
    have hl' : (us.take (r / fct m) ++ us.drop (r / fct m + 1)).length = m := by simp; omega
    have ih := unr_spec m hl' (sorted_pick hs (r / fct m)) (Nat.mod_lt r (fct_pos m))
    have hp : (unr (m + 1) us r).Perm us := (List.Perm.cons _ ih.1).trans (perm_pick hi)
    refine ⟨hp, ?_⟩
    rw [unr, rkL, ih.2, ih.1.length_eq, hl', ← cntN_self, cntN_perm ((List.Perm.cons _ ih.1).trans (perm_pick hi)), cnt_sorted hs hi, Nat.mul_comm]
    exact Nat.div_add_mod r (fct m)

/-- slices.Compare. -/
def cmpI : List Int → List Int → Int
  | [], [] => 0
  | [], _ :: _ => -1
  | _ :: _, [] => 1
  | x :: r, y :: s => if x < y then -1 else if y < x then 1 else cmpI r s

theorem countP_strict {p q : Nat → Bool} : ∀ {l : List Nat} {a : Nat}, (∀ x, p x = true → q x = true) → a ∈ l → q a = true → p a = false → l.countP p < l.countP q
  | x :: t, a, h, ha, hq, hp => by
    have hle : t.countP p ≤ t.countP q := List.countP_mono_left (fun x _ => h x)
    rw [List.countP_cons, List.countP_cons]
    rcases List.mem_cons.1 ha with rfl | ha
    · rw [hq, hp]
      simp
      omega
    · have ih := countP_strict h ha hq hp
      by_cases hx : p x = true
      · rw [hx, h x hx]
        simpa using ih
      · rw [if_neg hx]
        omega
theorem rkL_lex : ∀ {l l' : List Nat}, l.Perm l' → (rkL l < rkL l' ↔ cmpI (zs l) (zs l') < 0)
  | [], l', h => by
    have : l' = [] := h.symm.eq_nil
    subst this
    simp [rkL, zs, cmpI]
  | x :: r, [], h => by
    have := h.length_eq
    simp at this
  | x :: r, y :: s, h => by
    have hl : r.length = s.length := by have := h.length_eq; simpa using this
    have key : ∀ {x y : Nat} {r s : List Nat}, (x :: r).Perm (y :: s) → x < y → rkL (x :: r) < rkL (y :: s) := by
      intro x y r s h hxy
      have hl : r.length = s.length := by have := h.length_eq; simpa using this
      have h1 : cntN (x :: r) x < cntN (y :: s) y := by
        rw [cntN_perm h x]
        unfold cntN
        exact countP_strict (a := x) (fun z hz => by simp at hz ⊢; omega) (h.mem_iff.1 (List.mem_cons_self ..)) (by simpa using hxy) (by simp)
      rw [cntN_self, cntN_self] at h1
      have h2 := rkL_lt r
      rw [rkL, rkL, ← hl]
      have h3 := Nat.mul_le_mul_right (fct r.length) (show cntN r x + 1 ≤ cntN s y from h1)
      rw [Nat.add_mul] at h3
      omega
    have ex : zs (x :: r) = (x : Int) :: zs r := rfl
    have ey : zs (y :: s) = (y : Int) :: zs s := rfl
    rw [ex, ey, cmpI]
    rcases Nat.lt_trichotomy x y with hxy | hxy | hxy
    · rw [if_pos (by omega)]
      exact ⟨fun _ => by decide, fun _ => key h hxy⟩
    · subst hxy
      rw [if_neg (by omega), if_neg (by omega), ← rkL_lex h.cons_inv, rkL, rkL, hl, cntN_perm h.cons_inv]
      omega
    · rw [if_neg (by omega), if_pos (by omega)]
      have := key h.symm hxy
      exact ⟨fun h => by omega, fun h => by omega⟩
theorem isP.perm {a : List Nat} (h : isP a) : a.Perm (List.range a.length) := by
  refine (List.perm_ext_iff_of_nodup h.2 List.nodup_range).2 fun x => ?_
  rw [List.mem_range]
  exact ⟨fun hx => h.1 x hx, fun hx => h.mem hx⟩
theorem range_sorted (n : Nat) : Sorted (List.range n) := List.pairwise_lt_range
end Go.Proofs.Ytnpdlfnhpghkmaa
