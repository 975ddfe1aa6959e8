/- Several texts of the walk in one. -/
import Derived.Test.YtgmjighgncpefaaPart2
import Derived.Laws.BitsAllLaws
import Derived.Test.YtgmjighgncpefaaBase
import Derived.Test.YtgmjighgncpefaaPart1
import Derived.Lib.SliceRun
/- Values, conjugates and normal forms of small polynomials. -/
namespace Go.Proofs.Ytgmjighgncpefaa
set_option linter.unusedVariables false
set_option linter.unusedSimpArgs false
open Go.RowKit
namespace LP
theorem Sm.conj_ {x : LP} {l h : Int} {B : Nat} (hx : Sm x l h B) : Sm (conj x) (-h) (-l) B :=
  ⟨fun k hk => by rw [co_conj] at hk; have := hx.supp _ hk; omega, fun k => by rw [co_conj]; exact hx.le _⟩
theorem conjR_canon {x : LP} (hx : Rt x) (h : Rt (conj x)) : conjR (canon x).1 (canon x).2 = (0, (canon (conj x)).1, (canon (conj x)).2) := by
  unfold Rt at hx
  unfold conjR one1
  rw [if_pos hx, of_canon, fit_ok h]
theorem normR_canon {x : LP} (hx : Rt x) : normR (canon x).1 (canon x).2 = (0, 0, normC (canon x).2) := by
  unfold Rt at hx
  unfold normR one1
  rw [if_pos hx]
theorem evalR_canon {x : LP} (hx : Rt x) {u : Int} (hu : u = 1 ∨ u = -1) : evalE (canon x).1 (canon x).2 u = 0 ∧ evalV (canon x).1 (canon x).2 u = ev (decide (u = -1)) x := by
  unfold Rt at hx
  have h : evalE (canon x).1 (canon x).2 u = 0 := by unfold evalE; rw [if_pos hx, if_pos hu]
  refine ⟨h, ?_⟩
  unfold evalV
  rw [if_pos h, of_canon]
theorem pw_cases (neg : Bool) (e : Int) : pw neg e = 1 ∨ pw neg e = -1 := by unfold pw; split <;> simp
theorem ev_of_le (neg : Bool) {cs : List Int} {lo : Int} {B n : Nat} (hn : cs.length ≤ n) (h : ∀ c ∈ cs, c.natAbs ≤ B) : (ev neg (of lo cs)).natAbs ≤ n * B := by
  unfold ev
  rw [lin_of]
  refine Nat.le_trans (natAbs_sumN (D := B) fun i hi => ?_) (Nat.mul_le_mul_right _ hn)
  rw [Int.natAbs_mul]
  have h1 := h _ (getD_mem' hi)
  rcases pw_cases neg (lo + i) with e | e <;> rw [e] <;> simpa using h1
/-- A unit. -/
theorem canon_term (e s : Int) (hs : s = 1 ∨ s = -1) : canon (of e [s]) = (e, [s]) := canon_of (.inr ⟨by simp, by rcases hs with rfl | rfl <;> decide, by rcases hs with rfl | rfl <;> decide⟩)
theorem of_one (e s : Int) : of e [s] = term e s := by show term e s + 0 = _; rw [CR.add_zero]
theorem norm_unit (x : LP) (e s : Int) (hs : s = 1 ∨ s = -1) : normC (canon (x * of e [s])).2 = normC (canon x).2 := by
  rw [of_one]
  have hc := canon_cano x
  have ho := of_canon x
  by_cases hn : (canon x).2 = []
  · have hx : x = 0 := by
      rw [← ho, hn]; rfl
    rw [hx, CR.zero_mul]
  · have h := canon_unit hc hn e s hs
    rw [ho] at h
    rw [h]
    refine normC_unit hs ?_
    rcases hc with hc | hc
    · exact absurd hc.1 hn
    · exact hc.2.2
end LP
theorem i64_and1 (n : Int) : bits .and .i64 n 1 = n % 2 := by
  have h1 : (BitVec.ofInt 64 1).toNat = 2 ^ 1 - 1 := by decide
  have key : (BitVec.ofInt 64 n &&& BitVec.ofInt 64 1).toNat = (n % ((2 ^ 64 : Nat) : Int)).toNat % 2 ^ 1 := by
    rw [BitVec.toNat_and, BitVec.toNat_ofInt, h1, Nat.and_two_pow_sub_one_eq_mod]
  show IntKind.i64.wrap ((BitVec.ofInt 64 n &&& BitVec.ofInt 64 1).toNat : Nat) = n % 2
  rw [key, IntKind.wrap_i64]
  omega
end Go.Proofs.Ytgmjighgncpefaa
/- Free derivatives: exponents, the derivative of a word, the rule of a product, and t^e - 1 as a sum of derivatives. -/
namespace Go.Proofs.Ytgmjighgncpefaa
set_option linter.unusedVariables false
set_option linter.unusedSimpArgs false
namespace LP

/-- The exponent of a word. -/
def expo (w : List Int) : Int := wsum Int.sign w
theorem sign_neg_ (x : Int) : Int.sign (-x) = -Int.sign x := Int.sign_neg x
theorem sign_le (x : Int) : (Int.sign x).natAbs ≤ 1 := by
  rcases Int.lt_trichotomy x 0 with h | h | h
  · rw [Int.sign_eq_neg_one_of_neg h]; decide
  · subst h; decide
  · rw [Int.sign_eq_one_of_pos h]; decide
theorem expo_nil : expo [] = 0 := rfl
theorem expo_cons (x : Int) (w : List Int) : expo (x :: w) = Int.sign x + expo w := by simp [expo, wsum]
theorem expo_append (u v : List Int) : expo (u ++ v) = expo u + expo v := wsum_append _ u v
theorem expo_le : ∀ w : List Int, (expo w).natAbs ≤ w.length
  | [] => by decide
  | x :: w => by
    rw [expo_cons, List.length_cons]
    have := sign_le x
    have := expo_le w
    omega

/-- The derivative of a letter. -/
def dx (i x : Int) : LP := if x = i then 1 else if x = -i then term (-1) (-1) else 0
/-- The derivative of a word. -/
def foxT (i : Int) : List Int → LP
  | [] => 0
  | x :: w => dx i x + term (Int.sign x) 1 * foxT i w
theorem term_mul (e f c d : Int) : term e c * term f d = term (e + f) (c * d) := ext fun k => by
  rw [co_term_mul, co_term, co_term]
  by_cases h : f = k - e
  · rw [if_pos h, if_pos (by omega)]
  · rw [if_neg h, if_neg (by omega), Int.mul_zero]
theorem term_one : term 0 1 = (1 : LP) := rfl
theorem foxT_append (i : Int) (v : List Int) : ∀ u : List Int, foxT i (u ++ v) = foxT i u + term (expo u) 1 * foxT i v
  | [] => by
    show foxT i v = 0 + term 0 1 * foxT i v
    rw [term_one, CR.one_mul, CR.zero_add]
  | x :: u => by
    show dx i x + term (Int.sign x) 1 * foxT i (u ++ v) = dx i x + term (Int.sign x) 1 * foxT i u + term (expo (x :: u)) 1 * foxT i v
    rw [foxT_append i v u, CR.mul_add, ← CR.mul_assoc, term_mul, expo_cons, CR.add_assoc]
    rfl
theorem foxT_one (i x : Int) : foxT i [x] = dx i x := by
  show dx i x + term (Int.sign x) 1 * 0 = _
  rw [CR.mul_zero, CR.add_zero]
theorem Sm.term (e c : Int) {l h : Int} {B : Nat} (h1 : l ≤ e) (h2 : e ≤ h) (h3 : c.natAbs ≤ B) : Sm (term e c) l h B :=
  ⟨fun k hk => by
    rw [co_term] at hk
    by_cases he : e = k
    · omega
    · rw [if_neg he] at hk; exact absurd rfl hk,
  fun k => by
    rw [co_term]
    split
    · exact h3
    · exact Nat.zero_le _⟩
theorem Sm.zero {l h : Int} {B : Nat} : Sm 0 l h B := ⟨fun k hk => absurd (co_zero k) hk, fun k => by rw [co_zero]; exact Nat.zero_le _⟩
theorem Sm.shift {x : LP} {l h : Int} {B : Nat} (hx : Sm x l h B) (e : Int) : Sm (LP.term e 1 * x) (l + e) (h + e) B :=
  ⟨fun k hk => by
    rw [co_term_mul, Int.one_mul] at hk
    have := hx.supp _ hk
    omega,
  fun k => by rw [co_term_mul, Int.one_mul]; exact hx.le _⟩
theorem dx_sm (i x : Int) : Sm (dx i x) (-1) 0 1 := by
  unfold dx
  split
  · exact Sm.term 0 1 (by decide) (by decide) (by decide)
  · split
    · exact Sm.term (-1) (-1) (by decide) (by decide) (by decide)
    · exact Sm.zero
theorem foxT_sm (i : Int) : ∀ w : List Int, Sm (foxT i w) (-(w.length : Int)) w.length w.length
  | [] => Sm.zero
  | x :: w => by
    have h := (dx_sm i x).add ((foxT_sm i w).shift (Int.sign x))
    have := sign_le x
    refine Sm.mono h ?_ ?_ ?_
    · rw [List.length_cons]; omega
    · rw [List.length_cons]; omega
    · rw [List.length_cons]; omega
theorem foxT_rt (i : Int) {w : List Int} (h : w.length ≤ 60) : Rt (foxT i w) :=
  (foxT_sm i w).pfl (by omega) (by omega) (by omega) (by omega)

/-- t - 1. -/
def less : LP := term 1 1 + -1
/-- The sum of the first derivatives times t - 1. -/
def part (w : List Int) : Nat → LP
  | 0 => 0
  | k + 1 => part w k + foxT ((k : Int) + 1) w * less
/-- The same of a letter. -/
def partX (x : Int) : Nat → LP
  | 0 => 0
  | k + 1 => partX x k + dx ((k : Int) + 1) x * less
theorem part_nil : ∀ k, part [] k = 0
  | 0 => rfl
  | k + 1 => by
    show part [] k + 0 * less = 0
    rw [part_nil k, CR.zero_mul, CR.add_zero]
theorem part_cons (x : Int) (w : List Int) : ∀ k, part (x :: w) k = partX x k + term (Int.sign x) 1 * part w k
  | 0 => by
    show (0 : LP) = 0 + _ * 0
    rw [CR.mul_zero, CR.add_zero]
  | k + 1 => by
    show part (x :: w) k + (dx ((k : Int) + 1) x + term (Int.sign x) 1 * foxT ((k : Int) + 1) w) * less = partX x k + dx ((k : Int) + 1) x * less + term (Int.sign x) 1 * (part w k + foxT ((k : Int) + 1) w * less)
    rw [part_cons x w k, CR.add_mul, CR.mul_add, CR.mul_assoc]
    generalize partX x k = a, term (Int.sign x) 1 * part w k = b, dx ((k : Int) + 1) x * less = c, term (Int.sign x) 1 * (foxT ((k : Int) + 1) w * less) = d
    rw [CR.add_assoc, CR.add_assoc, ← CR.add_assoc b, CR.add_comm b c, CR.add_assoc c]
theorem partX_eq {x : Int} (h0 : x ≠ 0) : ∀ k : Nat, partX x k = if x.natAbs ≤ k then term (Int.sign x) 1 + -1 else 0
  | 0 => by rw [if_neg (by omega)]; rfl
  | k + 1 => by
    show partX x k + dx ((k : Int) + 1) x * less = _
    rw [partX_eq h0 k]
    by_cases h : x.natAbs ≤ k
    · rw [if_pos h, if_pos (by omega)]
      unfold dx
      rw [if_neg (by omega), if_neg (by omega), CR.zero_mul, CR.add_zero]
    · rw [if_neg h, CR.zero_add]
      unfold dx
      by_cases h1 : x = (k : Int) + 1
      · rw [if_pos h1, if_pos (by omega), CR.one_mul, Int.sign_eq_one_of_pos (by omega)]
        rfl
      · rw [if_neg h1]
        by_cases h2 : x = -((k : Int) + 1)
        · rw [if_pos h2, if_pos (by omega), Int.sign_eq_neg_one_of_neg (by omega)]
          unfold less
          rw [CR.mul_add, term_mul]
          show term 0 (-1) + term (-1) (-1) * -1 = term (-1) 1 + -1
          refine ext fun j => ?_
          rw [co_add, co_add, co_term_mul, co_neg, co_neg, co_one, co_one, co_term, co_term]
          split <;> split <;> split <;> omega
        · rw [if_neg h2, if_neg (by omega), CR.zero_mul]
/-- FOX: t^e - 1 is the sum of all derivatives times t - 1. -/
theorem fox_sum {n : Nat} : ∀ {w : List Int}, (∀ x ∈ w, x ≠ 0 ∧ x.natAbs ≤ n) → part w n = term (expo w) 1 + -1
  | [], _ => by
    rw [part_nil, expo_nil, term_one, CR.add_neg]
  | x :: w, h => by
    have h1 := h x (by simp)
    rw [part_cons, partX_eq h1.1, if_pos h1.2, fox_sum fun y hy => h y (by simp [hy]), CR.mul_add, term_mul, expo_cons]
    show term (Int.sign x) 1 + -1 + (term (Int.sign x + expo w) 1 + term (Int.sign x) 1 * -1) = _
    rw [CR.mul_neg, CR.mul_one]
    rw [show term (Int.sign x) 1 + -1 + (term (Int.sign x + expo w) 1 + -term (Int.sign x) 1) = (term (Int.sign x) 1 + -term (Int.sign x) 1) + (term (Int.sign x + expo w) 1 + -1) from by ac_rfl, CR.add_neg, CR.zero_add]
theorem less_mul_sm {x : LP} {l h : Int} {B : Nat} (hx : Sm x l h B) (hl : l ≤ h + 1) : Sm (x * less) l (h + 1) (B + B) := by
  unfold less
  rw [CR.mul_add, CR.mul_neg, CR.mul_one, CR.mul_comm]
  exact ((hx.shift 1).add hx.neg).mono (by omega) (by omega) (Nat.le_refl _)
theorem part_sm (w : List Int) : ∀ k : Nat, Sm (part w k) (-(w.length : Int)) (w.length + 1) (2 * w.length * k)
  | 0 => Sm.zero
  | k + 1 => by
    have h := (part_sm w k).add (less_mul_sm (foxT_sm ((k : Int) + 1) w) (by omega))
    refine h.mono (by omega) (by omega) ?_
    rw [Nat.mul_succ]
    omega
theorem part_rt (w : List Int) (h : w.length ≤ 30) {k : Nat} (hk : k ≤ 6) : Rt (part w k) := by
  have h2 : 2 * w.length * k ≤ 60 * 6 := Nat.mul_le_mul (by omega) hk
  exact (part_sm w k).pfl (by omega) (by omega) (by omega) (by omega)
theorem less_rt (i : Int) {w : List Int} (h : w.length ≤ 60) : Rt (foxT i w * less) :=
  (less_mul_sm (foxT_sm i w) (by omega)).pfl (by omega) (by omega) (by omega) (by omega)
theorem canon_term1 (e : Int) : canon (term e 1) = (e, [1]) := by
  rw [← of_one]
  exact canon_term e 1 (.inl rfl)
end LP
end Go.Proofs.Ytgmjighgncpefaa
/- Laurent polynomials as short sums of terms: exponents within E, absolute values of coefficients that add up to at most V. -/
namespace Go.Proofs.Ytgmjighgncpefaa
set_option linter.unusedVariables false
set_option linter.unusedSimpArgs false
namespace LP

def sumA : List Tm → Nat
  | [] => 0
  | p :: l => p.2.natAbs + sumA l
theorem sumA_append : ∀ a b : List Tm, sumA (a ++ b) = sumA a + sumA b
  | [], b => by simp [sumA]
  | p :: a, b => by
    show p.2.natAbs + sumA (a ++ b) = p.2.natAbs + sumA a + sumA b
    rw [sumA_append a b, Nat.add_assoc]
theorem sumA_scale (e c : Int) : ∀ l : List Tm, sumA (scaleT e c l) = c.natAbs * sumA l
  | [] => rfl
  | p :: l => by
    show (c * p.2).natAbs + sumA (scaleT e c l) = c.natAbs * (p.2.natAbs + sumA l)
    rw [sumA_scale e c l, Nat.mul_add, Int.natAbs_mul]
theorem sumA_mul (b : List Tm) : ∀ a : List Tm, sumA (mulT a b) = sumA a * sumA b
  | [] => by
    show 0 = 0 * sumA b
    rw [Nat.zero_mul]
  | p :: a => by
    rw [mulT_cons, sumA_append, sumA_scale, sumA_mul b a]
    show _ = (p.2.natAbs + sumA a) * sumA b
    rw [Nat.add_mul]
theorem coefT_sumA (k : Int) : ∀ l : List Tm, (coefT l k).natAbs ≤ sumA l
  | [] => Nat.le_refl _
  | p :: l => by
    have h := coefT_sumA k l
    show ((if p.1 = k then p.2 else 0) + coefT l k).natAbs ≤ p.2.natAbs + sumA l
    split <;> omega

/-- A short sum of terms. -/
def N1 (x : LP) (E V : Nat) : Prop := ∃ l : List Tm, mk l = x ∧ (∀ p ∈ l, p.1.natAbs ≤ E) ∧ sumA l ≤ V
theorem N1.mono {x : LP} {E V E' V' : Nat} (h : N1 x E V) (h1 : E ≤ E') (h2 : V ≤ V') : N1 x E' V' := by
  obtain ⟨l, e, hk, hv⟩ := h
  exact ⟨l, e, fun p hp => Nat.le_trans (hk p hp) h1, Nat.le_trans hv h2⟩
theorem N1.zero : N1 0 0 0 := ⟨[], rfl, fun p hp => by simp at hp, Nat.le_refl _⟩
theorem N1.term (e c : Int) : N1 (LP.term e c) e.natAbs c.natAbs := ⟨[(e, c)], rfl, fun p hp => by simp at hp; subst hp; exact Nat.le_refl _, by simp [sumA]⟩
theorem N1.one : N1 1 0 1 := N1.term 0 1
theorem N1.add {x y : LP} {E V V' : Nat} (hx : N1 x E V) (hy : N1 y E V') : N1 (x + y) E (V + V') := by
  obtain ⟨a, rfl, h1, h2⟩ := hx
  obtain ⟨b, rfl, h3, h4⟩ := hy
  refine ⟨a ++ b, rfl, fun p hp => ?_, by rw [sumA_append]; omega⟩
  rcases List.mem_append.1 hp with h | h
  · exact h1 p h
  · exact h3 p h
theorem N1.neg {x : LP} {E V : Nat} (hx : N1 x E V) : N1 (-x) E V := by
  obtain ⟨a, rfl, h1, h2⟩ := hx
  refine ⟨scaleT 0 (-1) a, rfl, fun p hp => ?_, by rw [sumA_scale, show (-1 : Int).natAbs = 1 from rfl]; omega⟩
  obtain ⟨q, hq, rfl⟩ := List.mem_map.1 hp
  have := h1 q hq
  show (0 + q.1).natAbs ≤ E
  rw [Int.zero_add]; exact this
theorem N1.mul {x y : LP} {E V E' V' : Nat} (hx : N1 x E V) (hy : N1 y E' V') : N1 (x * y) (E + E') (V * V') := by
  obtain ⟨a, rfl, h1, h2⟩ := hx
  obtain ⟨b, rfl, h3, h4⟩ := hy
  refine ⟨mulT a b, rfl, fun p hp => ?_, by rw [sumA_mul]; exact Nat.mul_le_mul h2 h4⟩
  obtain ⟨q, hq, hp⟩ := List.mem_flatMap.1 hp
  obtain ⟨r, hr, rfl⟩ := List.mem_map.1 hp
  have := h1 q hq
  have := h3 r hr
  show (q.1 + r.1).natAbs ≤ E + E'
  omega
theorem N1.co {x : LP} {E V : Nat} (h : N1 x E V) (k : Int) : (LP.co x k).natAbs ≤ V := by
  obtain ⟨l, rfl, _, hv⟩ := h
  exact Nat.le_trans (coefT_sumA k l) hv
theorem N1.supp {x : LP} {E V : Nat} (h : N1 x E V) {k : Int} (hk : LP.co x k ≠ 0) : k.natAbs ≤ E := by
  obtain ⟨l, rfl, h1, _⟩ := h
  by_cases hm : ∀ p ∈ l, p.1 ≠ k
  · exact absurd (sumT_out k l hm) hk
  · obtain ⟨p, hp⟩ := Classical.not_forall.1 hm
    obtain ⟨hp, e⟩ := Classical.not_imp.1 hp
    have := h1 p hp
    rw [Classical.not_not.1 e] at this
    exact this
theorem N1.sm {x : LP} {E V : Nat} (h : N1 x E V) : Sm x (-(E : Int)) E V := ⟨fun k hk => by have := h.supp hk; omega, h.co⟩
theorem N1.rt {x : LP} {E V : Nat} (h : N1 x E V) (h1 : E ≤ 99) (h2 : V ≤ 100000000) : Rt x := h.sm.pfl (by omega) (by omega) (by omega) h2
theorem N1.of_ : ∀ (cs : List Int) (lo : Int) (E B : Nat), lo.natAbs ≤ E → (lo + cs.length).natAbs ≤ E → (∀ c ∈ cs, c.natAbs ≤ B) → N1 (LP.of lo cs) E (cs.length * B)
  | [], lo, E, B, _, _, _ => N1.zero.mono (Nat.zero_le _) (Nat.zero_le _)
  | c :: cs, lo, E, B, h1, h2, h3 => by
    have hc := h3 c (by simp)
    have h := (N1.term lo c).mono (V' := B) h1 hc
    simp only [List.length_cons] at h2
    have h4 := N1.of_ cs (lo + 1) E B (by omega) (by omega) (fun x hx => h3 x (by simp [hx]))
    refine (h.add h4).mono (Nat.le_refl _) ?_
    rw [List.length_cons, Nat.succ_mul]
    omega
theorem N1.sumN {f : Nat → LP} {E V : Nat} : ∀ {n : Nat}, (∀ i, i < n → N1 (f i) E V) → N1 (CR.sumN n f) E (n * V)
  | 0, _ => N1.zero.mono (Nat.zero_le _) (Nat.zero_le _)
  | n + 1, h => by
    rw [CR.sumN_succ, Nat.succ_mul]
    exact (N1.sumN fun i hi => h i (by omega)).add (h n (by omega))
theorem N1.sgR (j : Nat) : N1 (CR.sgR LP j) 0 1 := by
  unfold CR.sgR
  split
  · exact N1.one
  · exact N1.one.neg
def fctP : Nat → Nat
  | 0 => 1
  | n + 1 => (n + 1) * fctP n
theorem N1.detR {E V : Nat} : ∀ {n : Nat} {M : Mtx LP}, (∀ i, i < n → ∀ j, j < n → N1 (M i j) E V) → N1 (Proofs.Ytgmjighgncpefaa.detR n M) (n * E) (fctP n * V ^ n)
  | 0, M, _ => by
    show N1 1 (0 * E) (1 * V ^ 0)
    rw [Nat.zero_mul, Nat.pow_zero]
    exact N1.one
  | n + 1, M, h => by
    have h1 : ∀ j, j < n + 1 → N1 (CR.sgR LP j * (M 0 j * Proofs.Ytgmjighgncpefaa.detR n fun a b => M (a + 1) (CR.skip j b))) ((n + 1) * E) (V * (fctP n * V ^ n)) := fun j hj => by
      have h2 := (N1.sgR j).mul ((h 0 (by omega) j hj).mul (N1.detR (M := fun a b => M (a + 1) (CR.skip j b)) fun i hi k hk => h (i + 1) (by omega) _ (skip_lt hk)))
      refine h2.mono ?_ ?_
      · rw [Nat.succ_mul]; omega
      · rw [Nat.one_mul]; exact Nat.le_refl _
    have h3 := N1.sumN h1
    refine N1.mono (x := CR.sumN (n + 1) _) h3 (Nat.le_refl _) (Nat.le_of_eq ?_)
    show (n + 1) * (V * (fctP n * V ^ n)) = (n + 1) * fctP n * V ^ (n + 1)
    rw [Nat.pow_succ]
    ac_rfl
end LP
end Go.Proofs.Ytgmjighgncpefaa
/- What package polymatrix's functions are to answer; determinants of polynomials. -/
namespace Go.Proofs.Ytgmjighgncpefaa
set_option linter.unusedVariables false
set_option linter.unusedSimpArgs false
open Go.RowKit

/-- The entries as polynomials. -/
def mP (pss : List (List Po)) : Mtx LP := fun i j => LP.of ((pss.getD i []).getD j (0, [])).1 ((pss.getD i []).getD j (0, [])).2
noncomputable def detPR (pss : List (List Po)) : LP.PR := if sqE pss = 0 then LP.fit (detR pss.length (mP pss)) else (sqE pss, 0, [])
/-- Package polymatrix, as the document asks. -/
structure PmC : Prop where
  check : ∀ (A : Option Addr) (n c : Nat) (pss : List (List Po)) (w : World), SPP w A n c pss → Calls Try.prog 7 #[.slice A n c] w fun e w' => e = .returned (.int .i64 (sqE pss)) ∧ Below w.heap.size w w'
  det : ∀ (A : Option Addr) (n c : Nat) (pss : List (List Po)) (w : World), SPP w A n c pss → Calls Try.prog 5 #[.slice A n c] w (GivesPE w (detPR pss))

theorem polyE_zero {p : Po} (h : polyE p = 0) : LP.pfl p.1 p.2 = 0 ∧ p.2.length ≤ 20 ∧ -20 ≤ p.1 ∧ p.1 ≤ 20 ∧ ∀ c ∈ p.2, c.natAbs ≤ 1000 := by
  unfold polyE at h
  by_cases h1 : LP.pfl p.1 p.2 = 0
  · rw [if_neg (by simp [h1])] at h
    by_cases h2 : 20 < p.2.length ∨ 20 < p.1 ∨ p.1 < -20
    · rw [if_pos h2] at h; omega
    · rw [if_neg h2] at h
      by_cases h3 : p.2.any (fun c => decide (1000 < c) || decide (c < -1000)) = true
      · rw [if_pos h3] at h; omega
      · refine ⟨h1, by omega, by omega, by omega, fun c hc => ?_⟩
        rw [Bool.not_eq_true, List.any_eq_false] at h3
        have h4 := h3 c hc
        simp at h4
        omega
  · rw [if_pos h1] at h; exact absurd h h1
theorem rowE_zero {n : Nat} : ∀ {ps : List Po}, rowE n ps = 0 → ∀ p ∈ ps, polyE p = 0
  | [], _, p, hp => by simp at hp
  | q :: r, h, p, hp => by
    unfold rowE at h
    by_cases h1 : polyE q = 0
    · rw [if_neg (by simp [h1])] at h
      rcases List.mem_cons.1 hp with rfl | h2
      · exact h1
      · exact rowE_zero h p h2
    · rw [if_pos h1] at h; exact absurd h h1
theorem rowsE_zero {n : Nat} : ∀ {pss : List (List Po)}, rowsE n pss = 0 → ∀ r ∈ pss, r.length = n ∧ ∀ p ∈ r, polyE p = 0
  | [], _, p, hp => by simp at hp
  | q :: r, h, p, hp => by
    unfold rowsE at h
    by_cases h1 : q.length = n
    · rw [if_neg (by simp [h1])] at h
      by_cases h2 : rowE n q = 0
      · rw [if_neg (by simp [h2])] at h
        rcases List.mem_cons.1 hp with rfl | h3
        · exact ⟨h1, rowE_zero h2⟩
        · exact rowsE_zero h p h3
      · rw [if_pos h2] at h; exact absurd h h2
    · rw [if_pos h1] at h; omega
theorem sqE_zero {pss : List (List Po)} (h : sqE pss = 0) : pss.length ≤ 4 ∧ ∀ r ∈ pss, r.length = pss.length ∧ ∀ p ∈ r, polyE p = 0 := by
  unfold sqE at h
  by_cases h1 : 4 < pss.length
  · rw [if_pos h1] at h; omega
  · rw [if_neg h1] at h
    exact ⟨by omega, rowsE_zero h⟩
theorem rowE_all {n : Nat} : ∀ {ps : List Po}, (∀ p ∈ ps, polyE p = 0) → rowE n ps = 0
  | [], _ => rfl
  | q :: r, h => by
    unfold rowE
    rw [if_neg (by simp [h q (by simp)])]
    exact rowE_all fun p hp => h p (by simp [hp])
theorem rowsE_all {n : Nat} : ∀ {pss : List (List Po)}, (∀ r ∈ pss, r.length = n ∧ ∀ p ∈ r, polyE p = 0) → rowsE n pss = 0
  | [], _ => rfl
  | q :: r, h => by
    unfold rowsE
    rw [if_neg (by simp [(h q (by simp)).1]), if_neg (by simp [rowE_all (n := n) (h q (by simp)).2])]
    exact rowsE_all fun p hp => h p (by simp [hp])
theorem sqE_all {pss : List (List Po)} (h4 : pss.length ≤ 4) (h : ∀ r ∈ pss, r.length = pss.length ∧ ∀ p ∈ r, polyE p = 0) : sqE pss = 0 := by
  unfold sqE
  rw [if_neg (by omega)]
  exact rowsE_all h
theorem getD_of_lt {α : Type} {l : List α} {i : Nat} (d : α) (h : i < l.length) : l.getD i d = l[i] := by simp [List.getD, List.getElem?_eq_getElem h]
theorem mP_entry {pss : List (List Po)} (h : sqE pss = 0) {i j : Nat} (hi : i < pss.length) (hj : j < pss.length) : ∃ p : Po, (pss.getD i []).getD j (0, []) = p ∧ polyE p = 0 := by
  obtain ⟨h4, hr⟩ := sqE_zero h
  have h1 := hr pss[i] (List.getElem_mem _)
  rw [getD_of_lt [] hi, getD_of_lt (0, []) (by rw [h1.1]; exact hj)]
  exact ⟨_, rfl, h1.2 _ (List.getElem_mem _)⟩
theorem poly_n1 {p : Po} (h : polyE p = 0) : LP.N1 (LP.of p.1 p.2) 40 20000 ∧ ∀ k, (LP.co (LP.of p.1 p.2) k).natAbs ≤ 1000 := by
  obtain ⟨_, h1, h2, h3, h4⟩ := polyE_zero h
  refine ⟨(LP.N1.of_ p.2 p.1 40 1000 (by omega) (by omega) h4).mono (Nat.le_refl _) (by omega), LP.co_of_le h4⟩
theorem fitL_fit (x : LP) : (if LP.pfl (LP.canon x).1 (LP.canon x).2 = 0 then (0, (LP.canon x).1, (LP.canon x).2) else (2, 0, [])) = LP.fit x := rfl
/-- Two by two. -/
theorem detR_two {R : Type} [CR R] (M : Mtx R) : detR 2 M = M 0 0 * M 1 1 + -(M 0 1 * M 1 0) := by
  have h1 : ∀ N : Mtx R, detR 1 N = N 0 0 := fun N => by
    show 0 + CR.sgR R 0 * (N 0 0 * 1) = N 0 0
    rw [CR.zero_add, CR.mul_one, CR.sgR_zero, CR.one_mul]
  show 0 + CR.sgR R 0 * (M 0 0 * detR 1 _) + CR.sgR R 1 * (M 0 1 * detR 1 _) = _
  rw [h1, h1, CR.zero_add, CR.sgR_zero, CR.one_mul, show CR.sgR R 1 = -1 from rfl, CR.neg_mul, CR.one_mul]
  rfl
theorem det_t11t : detPR [[(1, [1]), (0, [1])], [(0, [1]), (1, [1])]] = (0, 0, [-1, 0, 1]) := by
  have h : LP.canon (detR 2 (mP [[(1, [1]), (0, [1])], [(0, [1]), (1, [1])]])) = (0, [-1, 0, 1]) := by
    refine LP.canon_eq (.inr ⟨by decide, by decide, by decide⟩) ?_
    rw [detR_two]
    show LP.of 0 [-1, 0, 1] = LP.of 1 [1] * LP.of 1 [1] + -(LP.of 0 [1] * LP.of 0 [1])
    rw [LP.of_one, LP.of_one, LP.term_mul, LP.term_mul]
    refine LP.ext fun k => ?_
    show LP.co (LP.term 0 (-1) + (LP.term 1 0 + (LP.term 2 1 + 0))) k = _
    rw [LP.co_add, LP.co_add, LP.co_add, LP.co_add, LP.co_neg, LP.co_term, LP.co_term, LP.co_term, LP.co_term, LP.co_term, LP.co_zero]
    split <;> split <;> split <;> omega
  unfold detPR
  rw [show sqE [[(1, [1]), (0, [1])], [(0, [1]), (1, [1])]] = 0 from by decide, if_pos rfl]
  show LP.fit (detR 2 _) = _
  unfold LP.fit
  rw [h]
  decide
end Go.Proofs.Ytgmjighgncpefaa
/- slices.IndexFunc and slices.DeleteFunc of integers, with a function that only answers. -/
namespace Go.Proofs.Ytgmjighgncpefaa
set_option linter.unusedVariables false
set_option linter.unusedSimpArgs false
open Go.RowKit

theorem cntP_take {xs : List Int} {k : Nat} (p : Int → Bool) (hk : k < xs.length) : (xs.take (k + 1)).countP p = (xs.take k).countP p + if p (xs.getD k 0) then 1 else 0 := by
  rw [List.take_succ_eq_append_getElem hk, List.countP_append, List.countP_singleton]
  simp [List.getD, List.getElem?_eq_getElem hk]
theorem cntP_take_all {xs : List Int} (p : Int → Bool) : ∀ k, k ≤ xs.length → (∀ j, j < k → p (xs.getD j 0) = true) → (xs.take k).countP p = k
  | 0, _, _ => rfl
  | k + 1, hk, h => by rw [cntP_take p (by omega), cntP_take_all p k (by omega) fun j hj => h j (by omega), h k (by omega)]; rfl

set_option maxRecDepth 100000 in
set_option maxHeartbeats 2000000 in
theorem intIndex_any {fid : FuncId} {caps : List Value} (f : Int → Bool) (hfid : ∀ args w, (callFunc fid args).run Try.prog w = .ok (.enter fid args) w) (A : Option Addr) (n c : Nat) (xs : List Int) (w : World) (ha : IL w A n xs)
    (hf : ∀ x w, Calls Try.prog fid (.int .i64 x :: caps).toArray w fun e w' => e = .returned (.bool (f x)) ∧ w = w') :
    Calls Try.prog 50 #[.slice A n c, .func (.func fid) #[] caps.toArray] w fun e w' => ((e = .returned (.int .i64 (-1)) ∧ ∀ j, j < n → f (xs.getD j 0) = false) ∨ ∃ k : Nat, e = .returned (.int .i64 k) ∧ k < n ∧ f (xs.getD k 0) = true ∧ ∀ j, j < k → f (xs.getD j 0) = false) ∧ w = w' := by
  have hs := ha.small
  have HA := hide ha
  have HF := hide hf
  clear ha hf
  go_enter Try.func50, Try.ntmps50
  go_wp2
  go_loop [8] (fun i => ∃ k : Nat, k ≤ n ∧ i = .int .i64 k ∧ Hid (∀ j, j < k → f (xs.getD j 0) = false)) (fun i => n - (intOf i).toNat)
  case atStart => exact ⟨0, Nat.zero_le _, rfl, hide (fun j hj => absurd hj (by omega))⟩
  case round =>
    obtain ⟨k, hk, rfl, HN⟩ := hrel
    by_cases hlt : k < n
    · obtain ⟨ad, rfl, hc⟩ := HA.out.at_ hlt
      have HC := hide (HF.out (xs.getD k 0) w)
      by_cases hfk : f (xs.getD k 0) = true
      · have HY := hide hfk
        rw [hfk] at HC
        clear hfk
        go_wp2_with fail
        refine HC.out.mono ?_
        rintro e w1 ⟨rfl, rfl⟩
        go_wp2_with fail
        go_ret
        exact ⟨.inr ⟨k, rfl, hlt, HY.out, HN.out⟩, rfl⟩
      · have hfk' : f (xs.getD k 0) = false := by simpa using hfk
        have HN2 : Hid (∀ j, j < k + 1 → f (xs.getD j 0) = false) := hide (fun j hj => by
          by_cases e : j = k
          · rw [e]; exact hfk'
          · exact HN.out j (by omega))
        rw [hfk'] at HC
        clear hfk hfk'
        go_wp2_with fail
        refine HC.out.mono ?_
        rintro e w1 ⟨rfl, rfl⟩
        go_wp2_with fail
        go_round
        case rel => exact ⟨k + 1, by omega, by go_num, HN2⟩
        case measure => simp [intOf]; omega
    · go_wp2_with fail
      go_ret
      exact ⟨.inl ⟨rfl, fun j hj => HN.out j (by omega)⟩, rfl⟩
theorem eIntIx : ∀ args w, (callFunc 50 args).run Try.prog w = .ok (.enter 50 args) w := enters (fn := Try.f50) (by kernel_rfl) (by kernel_rfl) (by kernel_rfl)
theorem zeroInt (w : World) : (zeroValue 3).run Try.prog w = .ok (.int .i64 0) w := by kernel_rfl

end Go.Proofs.Ytgmjighgncpefaa
/- Package laurent: Check and small functions. -/
namespace Go.Proofs.Ytgmjighgncpefaa
set_option linter.unusedVariables false
set_option linter.unusedSimpArgs false
open Go.RowKit

theorem eLarge : ∀ args w, (callFunc 40 args).run Try.prog w = .ok (.enter 40 args) w := enters (fn := Try.f40) (by kernel_rfl) (by kernel_rfl) (by kernel_rfl)
set_option maxRecDepth 100000 in
set_option maxHeartbeats 2000000 in
theorem large_any (x : Int) (w : World) :
    Calls Try.prog 40 #[.int .i64 x] w fun e w' => e = .returned (.bool (!LP.okC x)) ∧ w = w' := by
  by_cases h1 : x < -100000000
  · have HR : Hid ((!LP.okC x) = true) := hide (by unfold LP.okC; simp; omega)
    go_enter Try.func40, Try.ntmps40
    go_wp2_with fail
    go_ret
    rw [HR.out]
    exact ⟨rfl, rfl⟩
  by_cases h2 : 100000000 < x
  · have HR : Hid ((!LP.okC x) = true) := hide (by unfold LP.okC; simp; omega)
    go_enter Try.func40, Try.ntmps40
    go_wp2_with fail
    go_ret
    rw [HR.out]
    exact ⟨rfl, rfl⟩
  · have HR : Hid ((!LP.okC x) = false) := hide (by unfold LP.okC; simp; omega)
    go_enter Try.func40, Try.ntmps40
    go_wp2_with fail
    go_ret
    rw [HR.out]
    exact ⟨rfl, rfl⟩

set_option maxRecDepth 100000 in
set_option maxHeartbeats 2000000 in
/-- slices.ContainsFunc of integers, with a function that only answers. -/
theorem containsI_any {fid : FuncId} {caps : List Value} (f : Int → Bool) (hfid : ∀ args w, (callFunc fid args).run Try.prog w = .ok (.enter fid args) w) (A : Option Addr) (n c : Nat) (xs : List Int) (w : World) (ha : IL w A n xs)
    (hf : ∀ x w, Calls Try.prog fid (.int .i64 x :: caps).toArray w fun e w' => e = .returned (.bool (f x)) ∧ w = w') :
    Calls Try.prog 39 #[.slice A n c, .func (.func fid) #[] caps.toArray] w fun e w' => e = .returned (.bool (xs.any f)) ∧ w = w' := by
  have HL := hide ha.len
  have HI := hide (intIndex_any (caps := caps) f hfid A n c xs w ha hf)
  have e1 := eIntIx
  clear ha hf
  go_enter Try.func39, Try.ntmps39
  go_wp2_with fail
  refine HI.out.mono ?_
  rintro e w1 ⟨h | h, rfl⟩
  · obtain ⟨rfl, h⟩ := h
    have HB : Hid (xs.any f = false) := hide (by
      rw [List.any_eq_false]
      intro x hx
      obtain ⟨j, hj, rfl⟩ := List.mem_iff_getElem.1 hx
      have := h j (by rw [← HL.out]; exact hj)
      rw [show xs.getD j 0 = xs[j] by simp [List.getD, List.getElem?_eq_getElem hj]] at this
      simp [this])
    clear HI h
    go_wp2_with fail
    go_ret
    rw [HB.out]
    exact ⟨rfl, rfl⟩
  · obtain ⟨k, rfl, hk, hfk, _⟩ := h
    have HB : Hid (xs.any f = true) := hide (by
      rw [List.any_eq_true]
      have hj : k < xs.length := by rw [HL.out]; exact hk
      rw [show xs.getD k 0 = xs[k] by simp [List.getD, List.getElem?_eq_getElem hj]] at hfk
      exact ⟨xs[k], List.getElem_mem _, hfk⟩)
    clear HI hfk
    go_wp2_with fail
    go_ret
    rw [HB.out]
    exact ⟨rfl, rfl⟩
theorem eContI : ∀ args w, (callFunc 39 args).run Try.prog w = .ok (.enter 39 args) w := enters (fn := Try.f39) (by kernel_rfl) (by kernel_rfl) (by kernel_rfl)
theorem LP.any_large (xs : List Int) : (xs.any fun x => !okC x) = !xs.all okC := by rw [List.not_all_eq_any_not]

set_option maxRecDepth 100000 in
set_option maxHeartbeats 4000000 in
theorem lcheck_any (la : Int) (A : Option Addr) (n c : Nat) (xs : List Int) (w : World) (ha : SL w A n c xs) :
    Calls Try.prog 22 #[PV la A n c] w fun e w' => e = .returned (.int .i64 (LP.pfl la xs)) ∧ Below w.heap.size w w' := by
  have hl := ha.il.len
  have hns := ha.il.small
  have hb0 : Below w.heap.size w (w.alloc (.cells #[.int .i64 la, .slice A n c] 25)) := (Below.refl _ _).alloc (Nat.le_refl _) _
  have HW := hide hb0
  have HA := hide (ha.below hb0)
  have hb1 := Blk.new w 25 #[.int .i64 la, .slice A n c]
  obtain ⟨w0, hw0⟩ : ∃ x, w.alloc (.cells #[.int .i64 la, .slice A n c] 25) = x := ⟨_, rfl⟩
  have HW0 := hide hw0
  rw [hw0] at HW HA hb1
  have B0 := hide hb1
  have hq0 := hb1.cell 0
  have hq1 := hb1.cell 1
  simp at hq0 hq1
  by_cases hbig : 200 < n ∨ 1000 < la ∨ la < -1000
  · have HP := hide (LP.pfl_big (lo := la) (xs := xs) (by omega))
    clear ha hl hb0 hb1
    by_cases h1 : 200 < n
    · go_enter Try.func22, Try.ntmps22
      go_upto_region 2 with fail
      clear hw0
      go_wp2_with fail
      go_ret
      rw [HP.out]
      exact ⟨rfl, HW.out⟩
    by_cases h2 : la < -1000
    · go_enter Try.func22, Try.ntmps22
      go_upto_region 2 with fail
      clear hw0
      go_wp2_with fail
      go_ret
      rw [HP.out]
      exact ⟨rfl, HW.out⟩
    · have h3 : 1000 < la := by omega
      go_enter Try.func22, Try.ntmps22
      go_upto_region 2 with fail
      clear hw0
      go_wp2_with fail
      go_ret
      rw [HP.out]
      exact ⟨rfl, HW.out⟩
  have hN : ¬ (200 < xs.length ∨ 1000 < la ∨ la < -1000) := by omega
  have h1 : n ≤ 200 := by omega
  have h2 : la ≤ 1000 := by omega
  have h3 : -1000 ≤ la := by omega
  have HCN := hide (containsI_any (fid := 40) (caps := []) (fun x => !LP.okC x) eLarge A n c xs w0 HA.out.il (fun x w => large_any x w))
  rw [LP.any_large] at HCN
  have ec := eContI
  by_cases h4 : n = 0
  · by_cases h5 : la = 0
    · have HP := hide (LP.pfl_loop hN (by omega))
      have hx : xs = [] := List.eq_nil_of_length_eq_zero (by omega)
      have HP2 : Hid (LP.pfl la xs = 0) := hide (by rw [HP.out, hx]; rfl)
      have HAL : Hid ((!xs.all LP.okC) = false) := hide (by rw [hx]; rfl)
      rw [HAL.out] at HCN
      clear ha hl hb0 hb1 HP hx HA hN HAL
      subst h4 h5
      go_enter Try.func22, Try.ntmps22
      go_upto_region 2 with fail
      clear hw0
      go_wp2_with fail
      refine HCN.out.mono ?_
      rintro e w1 ⟨rfl, rfl⟩
      go_wp2_with fail
      go_ret
      rw [HP2.out]
      exact ⟨rfl, HW.out⟩
    · have HP := hide (LP.pfl_bad hN (by omega))
      have hb : (la != 0) = true := by simpa using h5
      clear ha hl hb0 hb1 HA hN h5
      subst h4
      go_enter Try.func22, Try.ntmps22
      go_upto_region 2 with fail
      clear hw0
      go_wp2_with fail
      go_ret
      rw [HP.out]
      exact ⟨rfl, HW.out⟩
  · have b4 : ((n : Int) == 0) = false := by simp; omega
    have b5 : decide ((0 : Int) < n) = true := by simp; omega
    have hpos : 0 < n := by omega
    obtain ⟨ad, hA, hal, hac⟩ := HA.out.il.mem hpos
    subst hA
    have c0 := hac 0 hpos
    have cl := hac (n - 1) (by omega)
    obtain ⟨x0, hx0⟩ : ∃ x, xs.getD 0 0 = x := ⟨_, rfl⟩
    obtain ⟨xl, hxl⟩ : ∃ x, xs.getD (n - 1) 0 = x := ⟨_, rfl⟩
    rw [hx0] at c0
    have c0 : w0.cell? ad = some (.int .i64 x0) := by
      have e : ad.add 0 = ad := by cases ad; simp [Addr.add]
      rw [e] at c0; exact c0
    rw [hxl] at cl
    have hw1 : IntKind.i64.wrap ((n : Int) - 1) = ((n - 1 : Nat) : Int) := by rw [IntKind.wrap_i64]; omega
    obtain ⟨k1, hk1⟩ : ∃ k, n - 1 = k := ⟨_, rfl⟩
    rw [hk1] at cl hw1 hxl
    have hkn : k1 < n := by omega
    clear hb0 hb1 hac
    by_cases h6 : x0 = 0
    · have HP := hide (LP.pfl_bad hN (.inr ⟨by omega, .inl (by rw [hx0]; exact h6)⟩))
      subst h6
      clear ha hl hN hk1 cl hw1 hxl hkn hx0 HCN
      go_enter Try.func22, Try.ntmps22
      go_upto_region 2 with fail
      clear hw0
      go_wp2_with fail
      go_ret
      rw [HP.out]
      exact ⟨rfl, HW.out⟩
    have b6 : (x0 == 0) = false := by simpa using h6
    by_cases h7 : xl = 0
    · have HP := hide (LP.pfl_bad hN (.inr ⟨by omega, .inr (by rw [hl, hk1, hxl]; exact h7)⟩))
      subst h7
      clear ha hl hN hk1 hxl hx0 h6 HCN
      go_enter Try.func22, Try.ntmps22
      go_upto_region 2 with fail
      clear hw0
      go_wp2_with fail
      go_ret
      rw [HP.out]
      exact ⟨rfl, HW.out⟩
    have b7 : (xl == 0) = false := by simpa using h7
    have HP := hide (LP.pfl_loop hN (by rw [hx0, hl, hk1, hxl]; omega))
    clear ha hl hN hk1 hxl hx0 h6 h7
    obtain ⟨q, hq⟩ : ∃ q, xs.all LP.okC = q := ⟨_, rfl⟩
    rw [hq] at HP HCN
    clear hq
    go_enter Try.func22, Try.ntmps22
    go_upto_region 2 with fail
    clear hw0
    go_upto_region 6 with fail
    go_wp2_with fail
    refine HCN.out.mono ?_
    rintro e w1 ⟨rfl, rfl⟩
    cases q
    · go_wp2_with fail
      go_ret
      rw [HP.out]
      exact ⟨rfl, HW.out⟩
    · go_wp2_with fail
      go_ret
      rw [HP.out]
      exact ⟨rfl, HW.out⟩
end Go.Proofs.Ytgmjighgncpefaa
