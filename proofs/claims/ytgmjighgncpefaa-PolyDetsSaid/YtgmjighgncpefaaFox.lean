/- Free derivatives: exponents, the derivative of a word, the rule of a product, and t^e - 1 as a sum of derivatives. -/
import Derived.Test.YtgmjighgncpefaaLpG
import Derived.Test.YtgmjighgncpefaaLpV
import Derived.Test.YtgmjighgncpefaaBase
namespace Go.Proofs.Ytgmjighgncpefaa
set_option linter.unusedVariables false
set_option linter.unusedSimpArgs false
namespace LP

/-- The exponent of a word. -/
def expo (w : List Int) : Int := wsum Int.sign w
theorem sign_neg_ (x : Int) : Int.sign (-x) = -Int.sign x := Int.sign_neg x
theorem sign_le (x : Int) : (Int.sign x).natAbs ≤ 1 := by
  rcases Int.lt_trichotomy x 0 with h | h | h
  · rw [Int.sign_eq_neg_one_of_neg h]; decide
  · subst h; decide
  · rw [Int.sign_eq_one_of_pos h]; decide
theorem expo_nil : expo [] = 0 := rfl
theorem expo_cons (x : Int) (w : List Int) : expo (x :: w) = Int.sign x + expo w := by simp [expo, wsum]
theorem expo_append (u v : List Int) : expo (u ++ v) = expo u + expo v := wsum_append _ u v
theorem expo_le : ∀ w : List Int, (expo w).natAbs ≤ w.length
  | [] => by decide
  | x :: w => by
    rw [expo_cons, List.length_cons]
    have := sign_le x
    have := expo_le w
    omega

/-- The derivative of a letter. -/
def dx (i x : Int) : LP := if x = i then 1 else if x = -i then term (-1) (-1) else 0
/-- The derivative of a word. -/
def foxT (i : Int) : List Int → LP
  | [] => 0
  | x :: w => dx i x + term (Int.sign x) 1 * foxT i w
theorem term_mul (e f c d : Int) : term e c * term f d = term (e + f) (c * d) := ext fun k => by
  rw [co_term_mul, co_term, co_term]
  by_cases h : f = k - e
  · rw [if_pos h, if_pos (by omega)]
  · rw [if_neg h, if_neg (by omega), Int.mul_zero]
theorem term_one : term 0 1 = (1 : LP) := rfl
theorem foxT_append (i : Int) (v : List Int) : ∀ u : List Int, foxT i (u ++ v) = foxT i u + term (expo u) 1 * foxT i v
  | [] => by
    show foxT i v = 0 + term 0 1 * foxT i v
    rw [term_one, CR.one_mul, CR.zero_add]
  | x :: u => by
    show dx i x + term (Int.sign x) 1 * foxT i (u ++ v) = dx i x + term (Int.sign x) 1 * foxT i u + term (expo (x :: u)) 1 * foxT i v
    rw [foxT_append i v u, CR.mul_add, ← CR.mul_assoc, term_mul, expo_cons, CR.add_assoc]
    rfl
theorem foxT_one (i x : Int) : foxT i [x] = dx i x := by
  show dx i x + term (Int.sign x) 1 * 0 = _
  rw [CR.mul_zero, CR.add_zero]
theorem Sm.term (e c : Int) {l h : Int} {B : Nat} (h1 : l ≤ e) (h2 : e ≤ h) (h3 : c.natAbs ≤ B) : Sm (term e c) l h B :=
  ⟨fun k hk => by
    rw [co_term] at hk
    by_cases he : e = k
    · omega
    · rw [if_neg he] at hk; exact absurd rfl hk,
  fun k => by
    rw [co_term]
    split
    · exact h3
    · exact Nat.zero_le _⟩
theorem Sm.zero {l h : Int} {B : Nat} : Sm 0 l h B := ⟨fun k hk => absurd (co_zero k) hk, fun k => by rw [co_zero]; exact Nat.zero_le _⟩
theorem Sm.shift {x : LP} {l h : Int} {B : Nat} (hx : Sm x l h B) (e : Int) : Sm (LP.term e 1 * x) (l + e) (h + e) B :=
  ⟨fun k hk => by
    rw [co_term_mul, Int.one_mul] at hk
    have := hx.supp _ hk
    omega,
  fun k => by rw [co_term_mul, Int.one_mul]; exact hx.le _⟩
theorem dx_sm (i x : Int) : Sm (dx i x) (-1) 0 1 := by
  unfold dx
  split
  · exact Sm.term 0 1 (by decide) (by decide) (by decide)
  · split
    · exact Sm.term (-1) (-1) (by decide) (by decide) (by decide)
    · exact Sm.zero
theorem foxT_sm (i : Int) : ∀ w : List Int, Sm (foxT i w) (-(w.length : Int)) w.length w.length
  | [] => Sm.zero
  | x :: w => by
    have h := (dx_sm i x).add ((foxT_sm i w).shift (Int.sign x))
    have := sign_le x
    refine Sm.mono h ?_ ?_ ?_
    · rw [List.length_cons]; omega
    · rw [List.length_cons]; omega
    · rw [List.length_cons]; omega
theorem foxT_rt (i : Int) {w : List Int} (h : w.length ≤ 60) : Rt (foxT i w) :=
  (foxT_sm i w).pfl (by omega) (by omega) (by omega) (by omega)

/-- t - 1. -/
def less : LP := term 1 1 + -1
/-- The sum of the first derivatives times t - 1. -/
def part (w : List Int) : Nat → LP
  | 0 => 0
  | k + 1 => part w k + foxT ((k : Int) + 1) w * less
/-- The same of a letter. -/
def partX (x : Int) : Nat → LP
  | 0 => 0
  | k + 1 => partX x k + dx ((k : Int) + 1) x * less
theorem part_nil : ∀ k, part [] k = 0
  | 0 => rfl
  | k + 1 => by
    show part [] k + 0 * less = 0
    rw [part_nil k, CR.zero_mul, CR.add_zero]
theorem part_cons (x : Int) (w : List Int) : ∀ k, part (x :: w) k = partX x k + term (Int.sign x) 1 * part w k
  | 0 => by
    show (0 : LP) = 0 + _ * 0
    rw [CR.mul_zero, CR.add_zero]
  | k + 1 => by
    show part (x :: w) k + (dx ((k : Int) + 1) x + term (Int.sign x) 1 * foxT ((k : Int) + 1) w) * less = partX x k + dx ((k : Int) + 1) x * less + term (Int.sign x) 1 * (part w k + foxT ((k : Int) + 1) w * less)
    rw [part_cons x w k, CR.add_mul, CR.mul_add, CR.mul_assoc]
    generalize partX x k = a, term (Int.sign x) 1 * part w k = b, dx ((k : Int) + 1) x * less = c, term (Int.sign x) 1 * (foxT ((k : Int) + 1) w * less) = d
    rw [CR.add_assoc, CR.add_assoc, ← CR.add_assoc b, CR.add_comm b c, CR.add_assoc c]
theorem partX_eq {x : Int} (h0 : x ≠ 0) : ∀ k : Nat, partX x k = if x.natAbs ≤ k then term (Int.sign x) 1 + -1 else 0
  | 0 => by rw [if_neg (by omega)]; rfl
  | k + 1 => by
    show partX x k + dx ((k : Int) + 1) x * less = _
    rw [partX_eq h0 k]
    by_cases h : x.natAbs ≤ k
    · rw [if_pos h, if_pos (by omega)]
      unfold dx
      rw [if_neg (by omega), if_neg (by omega), CR.zero_mul, CR.add_zero]
    · rw [if_neg h, CR.zero_add]
      unfold dx
      by_cases h1 : x = (k : Int) + 1
      · rw [if_pos h1, if_pos (by omega), CR.one_mul, Int.sign_eq_one_of_pos (by omega)]
        rfl
      · rw [if_neg h1]
        by_cases h2 : x = -((k : Int) + 1)
        · rw [if_pos h2, if_pos (by omega), Int.sign_eq_neg_one_of_neg (by omega)]
          unfold less
          rw [CR.mul_add, term_mul]
          show term 0 (-1) + term (-1) (-1) * -1 = term (-1) 1 + -1
          refine ext fun j => ?_
          rw [co_add, co_add, co_term_mul, co_neg, co_neg, co_one, co_one, co_term, co_term]
          split <;> split <;> split <;> omega
        · rw [if_neg h2, if_neg (by omega), CR.zero_mul]
/-- FOX: t^e - 1 is the sum of all derivatives times t - 1. -/
theorem fox_sum {n : Nat} : ∀ {w : List Int}, (∀ x ∈ w, x ≠ 0 ∧ x.natAbs ≤ n) → part w n = term (expo w) 1 + -1
  | [], _ => by
    rw [part_nil, expo_nil, term_one, CR.add_neg]
  | x :: w, h => by
    have h1 := h x (by simp)
    rw [part_cons, partX_eq h1.1, if_pos h1.2, fox_sum fun y hy => h y (by simp [hy]), CR.mul_add, term_mul, expo_cons]
    show term (Int.sign x) 1 + -1 + (term (Int.sign x + expo w) 1 + term (Int.sign x) 1 * -1) = _
    rw [CR.mul_neg, CR.mul_one]
    rw [show term (Int.sign x) 1 + -1 + (term (Int.sign x + expo w) 1 + -term (Int.sign x) 1) = (term (Int.sign x) 1 + -term (Int.sign x) 1) + (term (Int.sign x + expo w) 1 + -1) from by ac_rfl, CR.add_neg, CR.zero_add]
theorem less_mul_sm {x : LP} {l h : Int} {B : Nat} (hx : Sm x l h B) (hl : l ≤ h + 1) : Sm (x * less) l (h + 1) (B + B) := by
  unfold less
  rw [CR.mul_add, CR.mul_neg, CR.mul_one, CR.mul_comm]
  exact ((hx.shift 1).add hx.neg).mono (by omega) (by omega) (Nat.le_refl _)
theorem part_sm (w : List Int) : ∀ k : Nat, Sm (part w k) (-(w.length : Int)) (w.length + 1) (2 * w.length * k)
  | 0 => Sm.zero
  | k + 1 => by
    have h := (part_sm w k).add (less_mul_sm (foxT_sm ((k : Int) + 1) w) (by omega))
    refine h.mono (by omega) (by omega) ?_
    rw [Nat.mul_succ]
    omega
theorem part_rt (w : List Int) (h : w.length ≤ 30) {k : Nat} (hk : k ≤ 6) : Rt (part w k) := by
  have h2 : 2 * w.length * k ≤ 60 * 6 := Nat.mul_le_mul (by omega) hk
  exact (part_sm w k).pfl (by omega) (by omega) (by omega) (by omega)
theorem less_rt (i : Int) {w : List Int} (h : w.length ≤ 60) : Rt (foxT i w * less) :=
  (less_mul_sm (foxT_sm i w) (by omega)).pfl (by omega) (by omega) (by omega) (by omega)
theorem canon_term1 (e : Int) : canon (term e 1) = (e, [1]) := by
  rw [← of_one]
  exact canon_term e 1 (.inl rfl)
end LP
end Go.Proofs.Ytgmjighgncpefaa
