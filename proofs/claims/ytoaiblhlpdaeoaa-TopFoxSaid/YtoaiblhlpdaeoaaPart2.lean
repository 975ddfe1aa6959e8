/- Several texts in one. -/
import Derived.Test.YtoaiblhlpdaeoaaPart1
import Derived.Test.YtoaiblhlpdaeoaaBase1
import Derived.Deep.DeepCutAuto
import Derived.Laws.BitsAllLaws
import Derived.Deep.LoopGhost
/- timbmake.Poly. -/
namespace Go.Proofs.Ytoaiblhlpdaeoaa
set_option linter.unusedVariables false
set_option linter.unusedSimpArgs false
open Go.RowKit

def lenV : Value → Nat
  | .slice _ n _ => n
  | _ => 0
theorem LP.of_zeros {C : List Int} (lo : Int) (h : ∀ j, j < C.length → C.getD j 0 = 0) : LP.of 0 [] = LP.of lo C := LP.ext fun k => by
  rw [LP.co_of, LP.co_of]
  rw [if_neg (by simp only [List.length_nil]; omega)]
  split
  · next hk => rw [h _ (by omega)]
  · rfl
theorem LP.of_trim {C : List Int} (lo : Int) {i m : Nat} (him : i + m ≤ C.length) (h1 : ∀ j, j < i → C.getD j 0 = 0) (h2 : ∀ j, i + m ≤ j → j < C.length → C.getD j 0 = 0) : LP.of (lo + i) ((C.drop i).take m) = LP.of lo C := LP.ext fun k => by
  have hl : ((C.drop i).take m).length = m := by simp; omega
  rw [LP.co_of, LP.co_of, hl]
  by_cases hk : lo + i ≤ k ∧ k < lo + i + m
  · rw [if_pos hk, if_pos (by omega)]
    simp only [List.getD_eq_getElem?_getD, List.getElem?_take, List.getElem?_drop]
    rw [if_pos (by omega), show i + (k - (lo + i)).toNat = (k - lo).toNat by omega]
  · rw [if_neg hk]
    split
    · next h =>
      by_cases h3 : k < lo + i
      · exact (h1 _ (by omega)).symm
      · exact (h2 _ (by omega) (by omega)).symm
    · rfl
theorem SL.tail_ {w : World} {ad : Addr} {m d : Nat} {xs : List Int} (h : SL w (some ad) m d xs) (hm : 0 < m) : SL w (if d = 1 then some ad else some ⟨ad.block, ad.off + 1, none⟩) (m - 1) (d - 1) (xs.drop 1) := by
  have hc := h.cap
  have hl := h.il.len
  by_cases hd : d = 1
  · rw [if_pos hd]
    refine ⟨⟨by rw [List.length_drop]; omega, by have := h.il.small; omega, fun h0 => by omega⟩, fun e => (by cases e), by omega⟩
  · have h2 := h.il.cut (l := 1) (h := m) (by omega) (Nat.le_refl _) hc
    unfold cutA at h2
    rw [if_neg hd] at h2
    rw [if_neg hd]
    have e : (some ad).map (·.add 1) = some (⟨ad.block, ad.off + 1, none⟩ : Addr) := by simp [Addr.add]
    rw [e, List.take_of_length_le (by rw [List.length_drop]; omega)] at h2
    exact ⟨h2, fun e => (by cases e), by omega⟩
theorem SL.init_ {w : World} {A : Option Addr} {m d k : Nat} {xs : List Int} (h : SL w A m d xs) (hk : k ≤ m) (hA : A ≠ none) : SL w A k d (xs.take k) := ⟨h.il.pre hk, fun e => absurd e hA, by have := h.cap; omega⟩

end Go.Proofs.Ytoaiblhlpdaeoaa
/- Sums and products of small polynomials fit. -/
namespace Go.Proofs.Ytoaiblhlpdaeoaa
set_option linter.unusedVariables false
set_option linter.unusedSimpArgs false
open Go.RowKit
namespace LP
/-- A right polynomial. -/
def Rt (x : LP) : Prop := pfl (canon x).1 (canon x).2 = 0
theorem mulR_canon {x y : LP} (hx : Rt x) (hy : Rt y) (h : Rt (x * y)) : mulR (canon x).1 (canon x).2 (canon y).1 (canon y).2 = (0, (canon (x * y)).1, (canon (x * y)).2) := by
  unfold Rt at *
  unfold mulR two2
  rw [if_pos hx, if_pos hy, of_canon, of_canon, fit_ok h]
theorem addR_canon {x y : LP} (hx : Rt x) (hy : Rt y) (h : Rt (x + y)) : addR (canon x).1 (canon x).2 (canon y).1 (canon y).2 = (0, (canon (x + y)).1, (canon (x + y)).2) := by
  unfold Rt at *
  unfold addR two2
  rw [if_pos hx, if_pos hy, of_canon, of_canon, fit_ok h]
theorem Rt.wf {x : LP} (h : Rt x) : (Lit.int .i64 (canon x).1).wf = true := by
  obtain ⟨_, h1, h2, _⟩ := pfl_zero h
  have h3 : IntKind.i64.min = -9223372036854775808 := by decide
  simp [Lit.wf, h3]
  omega
end LP
end Go.Proofs.Ytoaiblhlpdaeoaa
/- Values, conjugates and normal forms of small polynomials. -/
namespace Go.Proofs.Ytoaiblhlpdaeoaa
set_option linter.unusedVariables false
set_option linter.unusedSimpArgs false
open Go.RowKit
namespace LP
/-- A unit. -/
theorem canon_term (e s : Int) (hs : s = 1 ∨ s = -1) : canon (of e [s]) = (e, [s]) := canon_of (.inr ⟨by simp, by rcases hs with rfl | rfl <;> decide, by rcases hs with rfl | rfl <;> decide⟩)
theorem of_one (e s : Int) : of e [s] = term e s := by show term e s + 0 = _; rw [CR.add_zero]
end LP
end Go.Proofs.Ytoaiblhlpdaeoaa
/- Free derivatives: exponents, the derivative of a word, the rule of a product, and t^e - 1 as a sum of derivatives. -/
namespace Go.Proofs.Ytoaiblhlpdaeoaa
set_option linter.unusedVariables false
set_option linter.unusedSimpArgs false
namespace LP

/-- The exponent of a word. -/
def expo (w : List Int) : Int := wsum Int.sign w
theorem sign_le (x : Int) : (Int.sign x).natAbs ≤ 1 := by
  rcases Int.lt_trichotomy x 0 with h | h | h
  · rw [Int.sign_eq_neg_one_of_neg h]; decide
  · subst h; decide
  · rw [Int.sign_eq_one_of_pos h]; decide
theorem expo_nil : expo [] = 0 := rfl
theorem expo_cons (x : Int) (w : List Int) : expo (x :: w) = Int.sign x + expo w := by simp [expo, wsum]
theorem expo_append (u v : List Int) : expo (u ++ v) = expo u + expo v := wsum_append _ u v
theorem expo_le : ∀ w : List Int, (expo w).natAbs ≤ w.length
  | [] => by decide
  | x :: w => by
    rw [expo_cons, List.length_cons]
    have := sign_le x
    have := expo_le w
    omega

/-- The derivative of a letter. -/
def dx (i x : Int) : LP := if x = i then 1 else if x = -i then term (-1) (-1) else 0
/-- The derivative of a word. -/
def foxT (i : Int) : List Int → LP
  | [] => 0
  | x :: w => dx i x + term (Int.sign x) 1 * foxT i w
theorem term_mul (e f c d : Int) : term e c * term f d = term (e + f) (c * d) := ext fun k => by
  rw [co_term_mul, co_term, co_term]
  by_cases h : f = k - e
  · rw [if_pos h, if_pos (by omega)]
  · rw [if_neg h, if_neg (by omega), Int.mul_zero]
theorem term_one : term 0 1 = (1 : LP) := rfl
theorem foxT_append (i : Int) (v : List Int) : ∀ u : List Int, foxT i (u ++ v) = foxT i u + term (expo u) 1 * foxT i v
  | [] => by
    show foxT i v = 0 + term 0 1 * foxT i v
    rw [term_one, CR.one_mul, CR.zero_add]
  | x :: u => by
    show dx i x + term (Int.sign x) 1 * foxT i (u ++ v) = dx i x + term (Int.sign x) 1 * foxT i u + term (expo (x :: u)) 1 * foxT i v
    rw [foxT_append i v u, CR.mul_add, ← CR.mul_assoc, term_mul, expo_cons, CR.add_assoc]
    rfl
theorem foxT_one (i x : Int) : foxT i [x] = dx i x := by
  show dx i x + term (Int.sign x) 1 * 0 = _
  rw [CR.mul_zero, CR.add_zero]
theorem Sm.term (e c : Int) {l h : Int} {B : Nat} (h1 : l ≤ e) (h2 : e ≤ h) (h3 : c.natAbs ≤ B) : Sm (term e c) l h B :=
  ⟨fun k hk => by
    rw [co_term] at hk
    by_cases he : e = k
    · omega
    · rw [if_neg he] at hk; exact absurd rfl hk,
  fun k => by
    rw [co_term]
    split
    · exact h3
    · exact Nat.zero_le _⟩
theorem Sm.zero {l h : Int} {B : Nat} : Sm 0 l h B := ⟨fun k hk => absurd (co_zero k) hk, fun k => by rw [co_zero]; exact Nat.zero_le _⟩
theorem Sm.shift {x : LP} {l h : Int} {B : Nat} (hx : Sm x l h B) (e : Int) : Sm (LP.term e 1 * x) (l + e) (h + e) B :=
  ⟨fun k hk => by
    rw [co_term_mul, Int.one_mul] at hk
    have := hx.supp _ hk
    omega,
  fun k => by rw [co_term_mul, Int.one_mul]; exact hx.le _⟩
theorem dx_sm (i x : Int) : Sm (dx i x) (-1) 0 1 := by
  unfold dx
  split
  · exact Sm.term 0 1 (by decide) (by decide) (by decide)
  · split
    · exact Sm.term (-1) (-1) (by decide) (by decide) (by decide)
    · exact Sm.zero
theorem foxT_sm (i : Int) : ∀ w : List Int, Sm (foxT i w) (-(w.length : Int)) w.length w.length
  | [] => Sm.zero
  | x :: w => by
    have h := (dx_sm i x).add ((foxT_sm i w).shift (Int.sign x))
    have := sign_le x
    refine Sm.mono h ?_ ?_ ?_
    · rw [List.length_cons]; omega
    · rw [List.length_cons]; omega
    · rw [List.length_cons]; omega
theorem foxT_rt (i : Int) {w : List Int} (h : w.length ≤ 60) : Rt (foxT i w) :=
  (foxT_sm i w).pfl (by omega) (by omega) (by omega) (by omega)

/-- t - 1. -/
def less : LP := term 1 1 + -1
/-- The sum of the first derivatives times t - 1. -/
def part (w : List Int) : Nat → LP
  | 0 => 0
  | k + 1 => part w k + foxT ((k : Int) + 1) w * less
end LP
end Go.Proofs.Ytoaiblhlpdaeoaa
/- Laurent polynomials as short sums of terms: exponents within E, absolute values of coefficients that add up to at most V. -/
namespace Go.Proofs.Ytoaiblhlpdaeoaa
set_option linter.unusedVariables false
set_option linter.unusedSimpArgs false
namespace LP

def sumA : List Tm → Nat
  | [] => 0
  | p :: l => p.2.natAbs + sumA l
theorem sumA_append : ∀ a b : List Tm, sumA (a ++ b) = sumA a + sumA b
  | [], b => by simp [sumA]
  | p :: a, b => by
    show p.2.natAbs + sumA (a ++ b) = p.2.natAbs + sumA a + sumA b
    rw [sumA_append a b, Nat.add_assoc]
theorem sumA_scale (e c : Int) : ∀ l : List Tm, sumA (scaleT e c l) = c.natAbs * sumA l
  | [] => rfl
  | p :: l => by
    show (c * p.2).natAbs + sumA (scaleT e c l) = c.natAbs * (p.2.natAbs + sumA l)
    rw [sumA_scale e c l, Nat.mul_add, Int.natAbs_mul]
theorem sumA_mul (b : List Tm) : ∀ a : List Tm, sumA (mulT a b) = sumA a * sumA b
  | [] => by
    show 0 = 0 * sumA b
    rw [Nat.zero_mul]
  | p :: a => by
    rw [mulT_cons, sumA_append, sumA_scale, sumA_mul b a]
    show _ = (p.2.natAbs + sumA a) * sumA b
    rw [Nat.add_mul]
theorem coefT_sumA (k : Int) : ∀ l : List Tm, (coefT l k).natAbs ≤ sumA l
  | [] => Nat.le_refl _
  | p :: l => by
    have h := coefT_sumA k l
    show ((if p.1 = k then p.2 else 0) + coefT l k).natAbs ≤ p.2.natAbs + sumA l
    split <;> omega

/-- A short sum of terms. -/
def N1 (x : LP) (E V : Nat) : Prop := ∃ l : List Tm, mk l = x ∧ (∀ p ∈ l, p.1.natAbs ≤ E) ∧ sumA l ≤ V
theorem N1.mono {x : LP} {E V E' V' : Nat} (h : N1 x E V) (h1 : E ≤ E') (h2 : V ≤ V') : N1 x E' V' := by
  obtain ⟨l, e, hk, hv⟩ := h
  exact ⟨l, e, fun p hp => Nat.le_trans (hk p hp) h1, Nat.le_trans hv h2⟩
theorem N1.zero : N1 0 0 0 := ⟨[], rfl, fun p hp => by simp at hp, Nat.le_refl _⟩
theorem N1.term (e c : Int) : N1 (LP.term e c) e.natAbs c.natAbs := ⟨[(e, c)], rfl, fun p hp => by simp at hp; subst hp; exact Nat.le_refl _, by simp [sumA]⟩
theorem N1.one : N1 1 0 1 := N1.term 0 1
theorem N1.add {x y : LP} {E V V' : Nat} (hx : N1 x E V) (hy : N1 y E V') : N1 (x + y) E (V + V') := by
  obtain ⟨a, rfl, h1, h2⟩ := hx
  obtain ⟨b, rfl, h3, h4⟩ := hy
  refine ⟨a ++ b, rfl, fun p hp => ?_, by rw [sumA_append]; omega⟩
  rcases List.mem_append.1 hp with h | h
  · exact h1 p h
  · exact h3 p h
theorem N1.neg {x : LP} {E V : Nat} (hx : N1 x E V) : N1 (-x) E V := by
  obtain ⟨a, rfl, h1, h2⟩ := hx
  refine ⟨scaleT 0 (-1) a, rfl, fun p hp => ?_, by rw [sumA_scale, show (-1 : Int).natAbs = 1 from rfl]; omega⟩
  obtain ⟨q, hq, rfl⟩ := List.mem_map.1 hp
  have := h1 q hq
  show (0 + q.1).natAbs ≤ E
  rw [Int.zero_add]; exact this
theorem N1.mul {x y : LP} {E V E' V' : Nat} (hx : N1 x E V) (hy : N1 y E' V') : N1 (x * y) (E + E') (V * V') := by
  obtain ⟨a, rfl, h1, h2⟩ := hx
  obtain ⟨b, rfl, h3, h4⟩ := hy
  refine ⟨mulT a b, rfl, fun p hp => ?_, by rw [sumA_mul]; exact Nat.mul_le_mul h2 h4⟩
  obtain ⟨q, hq, hp⟩ := List.mem_flatMap.1 hp
  obtain ⟨r, hr, rfl⟩ := List.mem_map.1 hp
  have := h1 q hq
  have := h3 r hr
  show (q.1 + r.1).natAbs ≤ E + E'
  omega
theorem N1.co {x : LP} {E V : Nat} (h : N1 x E V) (k : Int) : (LP.co x k).natAbs ≤ V := by
  obtain ⟨l, rfl, _, hv⟩ := h
  exact Nat.le_trans (coefT_sumA k l) hv
theorem N1.supp {x : LP} {E V : Nat} (h : N1 x E V) {k : Int} (hk : LP.co x k ≠ 0) : k.natAbs ≤ E := by
  obtain ⟨l, rfl, h1, _⟩ := h
  by_cases hm : ∀ p ∈ l, p.1 ≠ k
  · exact absurd (sumT_out k l hm) hk
  · obtain ⟨p, hp⟩ := Classical.not_forall.1 hm
    obtain ⟨hp, e⟩ := Classical.not_imp.1 hp
    have := h1 p hp
    rw [Classical.not_not.1 e] at this
    exact this
theorem N1.sm {x : LP} {E V : Nat} (h : N1 x E V) : Sm x (-(E : Int)) E V := ⟨fun k hk => by have := h.supp hk; omega, h.co⟩
theorem N1.rt {x : LP} {E V : Nat} (h : N1 x E V) (h1 : E ≤ 99) (h2 : V ≤ 100000000) : Rt x := h.sm.pfl (by omega) (by omega) (by omega) h2
theorem N1.sumN {f : Nat → LP} {E V : Nat} : ∀ {n : Nat}, (∀ i, i < n → N1 (f i) E V) → N1 (CR.sumN n f) E (n * V)
  | 0, _ => N1.zero.mono (Nat.zero_le _) (Nat.zero_le _)
  | n + 1, h => by
    rw [CR.sumN_succ, Nat.succ_mul]
    exact (N1.sumN fun i hi => h i (by omega)).add (h n (by omega))
theorem N1.sgR (j : Nat) : N1 (CR.sgR LP j) 0 1 := by
  unfold CR.sgR
  split
  · exact N1.one
  · exact N1.one.neg
def fctP : Nat → Nat
  | 0 => 1
  | n + 1 => (n + 1) * fctP n
theorem N1.detR {E V : Nat} : ∀ {n : Nat} {M : Mtx LP}, (∀ i, i < n → ∀ j, j < n → N1 (M i j) E V) → N1 (Proofs.Ytoaiblhlpdaeoaa.detR n M) (n * E) (fctP n * V ^ n)
  | 0, M, _ => by
    show N1 1 (0 * E) (1 * V ^ 0)
    rw [Nat.zero_mul, Nat.pow_zero]
    exact N1.one
  | n + 1, M, h => by
    have h1 : ∀ j, j < n + 1 → N1 (CR.sgR LP j * (M 0 j * Proofs.Ytoaiblhlpdaeoaa.detR n fun a b => M (a + 1) (CR.skip j b))) ((n + 1) * E) (V * (fctP n * V ^ n)) := fun j hj => by
      have h2 := (N1.sgR j).mul ((h 0 (by omega) j hj).mul (N1.detR (M := fun a b => M (a + 1) (CR.skip j b)) fun i hi k hk => h (i + 1) (by omega) _ (skip_lt hk)))
      refine h2.mono ?_ ?_
      · rw [Nat.succ_mul]; omega
      · rw [Nat.one_mul]; exact Nat.le_refl _
    have h3 := N1.sumN h1
    refine N1.mono (x := CR.sumN (n + 1) _) h3 (Nat.le_refl _) (Nat.le_of_eq ?_)
    show (n + 1) * (V * (fctP n * V ^ n)) = (n + 1) * fctP n * V ^ (n + 1)
    rw [Nat.pow_succ]
    ac_rfl
end LP
end Go.Proofs.Ytoaiblhlpdaeoaa
/- Burau matrices: letters as row operations, the relations of the braid group, row sums, the row 1, t, t^2, .. . -/
namespace Go.Proofs.Ytoaiblhlpdaeoaa
set_option linter.unusedVariables false
set_option linter.unusedSimpArgs false
set_option linter.unusedSectionVars false
open CR

section
variable {R : Type} [CR R]
theorem sumN_two {f : Nat → R} {n a b : Nat} (ha : a < n) (hb : b < n) (hab : a ≠ b) (h : ∀ i, i < n → i ≠ a → i ≠ b → f i = 0) : sumN n f = f a + f b := by
  have e : sumN n f = sumN n (fun i => (if i = a then f a else 0) + (if i = b then f b else 0)) := sumN_congr fun i hi => by
    by_cases h1 : i = a
    · subst h1; rw [if_pos rfl, if_neg hab, add_zero]
    · by_cases h2 : i = b
      · subst h2; rw [if_pos rfl, if_neg h1, zero_add]
      · rw [if_neg h1, if_neg h2, h i hi h1 h2, add_zero]
  rw [e, sumN_add, sumN_single (k := a) ha (fun i _ hne => if_neg hne), sumN_single (k := b) hb (fun i _ hne => if_neg hne), if_pos rfl, if_pos rfl]
theorem mulM_assoc (n : Nat) (A B C : Mtx R) : mulM n (mulM n A B) C = mulM n A (mulM n B C) := by
  funext i j
  show sumN n (fun k => (sumN n fun l => A i l * B l k) * C k j) = sumN n fun l => A i l * sumN n fun k => B l k * C k j
  have e1 : ∀ k, (sumN n fun l => A i l * B l k) * C k j = sumN n fun l => A i l * (B l k * C k j) := fun k => by
    rw [mul_comm, ← sumN_mul]
    exact sumN_congr fun l _ => by ac_rfl
  rw [sumN_congr fun k _ => e1 k, sumN_swap]
  exact sumN_congr fun l _ => sumN_mul _ _ _
/-- Equal within n rows and columns. -/
def EqM (n : Nat) (A B : Mtx R) : Prop := ∀ i, i < n → ∀ j, j < n → A i j = B i j
theorem EqM.refl (n : Nat) (A : Mtx R) : EqM n A A := fun _ _ _ _ => rfl
theorem EqM.symm {n : Nat} {A B : Mtx R} (h : EqM n A B) : EqM n B A := fun i hi j hj => (h i hi j hj).symm
theorem EqM.trans {n : Nat} {A B C : Mtx R} (h : EqM n A B) (k : EqM n B C) : EqM n A C := fun i hi j hj => (h i hi j hj).trans (k i hi j hj)
theorem EqM.mul {n : Nat} {A A' B B' : Mtx R} (h : EqM n A A') (k : EqM n B B') : EqM n (mulM n A B) (mulM n A' B') := fun i hi j hj =>
  sumN_congr fun l hl => by rw [h i hi l hl, k l hl j hj]
theorem EqM.one_mul (n : Nat) (A : Mtx R) : EqM n (mulM n oneM A) A := fun i hi j hj => by
  show sumN n (fun k => oneM i k * A k j) = A i j
  rw [sumN_single (k := i) hi (fun k _ hne => by rw [show (oneM : Mtx R) i k = 0 from if_neg (Ne.symm hne), zero_mul]), show (oneM : Mtx R) i i = 1 from if_pos rfl, CR.one_mul]
theorem EqM.mul_one (n : Nat) (A : Mtx R) : EqM n (mulM n A oneM) A := fun i hi j hj => by
  show sumN n (fun k => A i k * oneM k j) = A i j
  rw [sumN_single (k := j) hj (fun k _ hne => by rw [show (oneM : Mtx R) k j = 0 from if_neg hne, mul_zero]), show (oneM : Mtx R) j j = 1 from if_pos rfl, CR.mul_one]

/-- What a positive letter does to rows a - 1 and a. -/
def opP (t : R) (a : Nat) (A : Mtx R) : Mtx R := fun r c => if r + 1 = a then (1 + -t) * A r c + t * A (r + 1) c else if r = a then A (r - 1) c else A r c
def opN (t : R) (a : Nat) (A : Mtx R) : Mtx R := fun r c => if r + 1 = a then A (r + 1) c else if r = a then t * A (r - 1) c + (1 + -t) * A r c else A r c
theorem EqM.opP {n : Nat} {A B : Mtx R} (t : R) {a : Nat} (ha : a < n) (h : EqM n A B) : EqM n (Proofs.Ytoaiblhlpdaeoaa.opP t a A) (Proofs.Ytoaiblhlpdaeoaa.opP t a B) := fun r hr c hc => by
  unfold Proofs.Ytoaiblhlpdaeoaa.opP
  by_cases h1 : r + 1 = a
  · rw [if_pos h1, if_pos h1, h r hr c hc, h (r + 1) (by omega) c hc]
  · rw [if_neg h1, if_neg h1]
    split
    · exact h _ (by omega) c hc
    · exact h r hr c hc
theorem EqM.opN {n : Nat} {A B : Mtx R} (t : R) {a : Nat} (ha : a < n) (h : EqM n A B) : EqM n (Proofs.Ytoaiblhlpdaeoaa.opN t a A) (Proofs.Ytoaiblhlpdaeoaa.opN t a B) := fun r hr c hc => by
  unfold Proofs.Ytoaiblhlpdaeoaa.opN
  by_cases h1 : r + 1 = a
  · rw [if_pos h1, if_pos h1, h (r + 1) (by omega) c hc]
  · rw [if_neg h1, if_neg h1]
    split
    · rw [h r hr c hc, h _ (by omega) c hc]
    · exact h r hr c hc
end

def tT : LP := LP.term 1 1
def tI : LP := LP.term (-1) 1
/-- The matrix of a letter. -/
def bl (x : Int) : Mtx LP := fun r c =>
  if r + 1 = x.natAbs then (if 0 < x then (if c = r then 1 + -tT else if c = r + 1 then tT else 0) else (if c = r + 1 then 1 else 0))
  else if r = x.natAbs then (if 0 < x then (if c + 1 = r then 1 else 0) else (if c + 1 = r then tI else if c = r then 1 + -tI else 0))
  else if r = c then 1 else 0
/-- The Burau matrix of a word. -/
def bu (n : Nat) : List Int → Mtx LP
  | [] => oneM
  | x :: w => mulM n (bl x) (bu n w)
def opL (x : Int) (A : Mtx LP) : Mtx LP := if 0 < x then opP tT x.natAbs A else opN tI x.natAbs A
theorem bl_mul {n : Nat} {x : Int} (h1 : x ≠ 0) (h2 : x.natAbs < n) (A : Mtx LP) : EqM n (mulM n (bl x) A) (opL x A) := fun r hr c hc => by
  show sumN n (fun k => bl x r k * A k c) = _
  obtain ⟨a, ha⟩ : ∃ a, x.natAbs = a := ⟨_, rfl⟩
  have ha1 : 1 ≤ a := by omega
  unfold opL bl
  rw [ha] at h2 ⊢
  by_cases hx : 0 < x
  · simp only [if_pos hx]
    unfold opP
    by_cases h3 : r + 1 = a
    · simp only [if_pos h3]
      rw [sumN_two (a := r) (b := r + 1) hr (by omega) (by omega) (fun i _ h4 h5 => by rw [if_neg h4, if_neg h5, zero_mul]), if_pos rfl, if_neg (by omega), if_pos rfl]
    · simp only [if_neg h3]
      by_cases h4 : r = a
      · simp only [if_pos h4]
        rw [sumN_single (k := r - 1) (by omega) (fun i _ h5 => by rw [if_neg (by omega), zero_mul]), if_pos (by omega), CR.one_mul]
      · simp only [if_neg h4]
        rw [sumN_single (k := r) hr (fun i _ h5 => by rw [if_neg (fun e => h5 e.symm), zero_mul]), if_pos rfl, CR.one_mul]
  · simp only [if_neg hx]
    unfold opN
    by_cases h3 : r + 1 = a
    · simp only [if_pos h3]
      rw [sumN_single (k := r + 1) (by omega) (fun i _ h5 => by rw [if_neg h5, zero_mul]), if_pos rfl, CR.one_mul]
    · simp only [if_neg h3]
      by_cases h4 : r = a
      · simp only [if_pos h4]
        rw [sumN_two (a := r - 1) (b := r) (by omega) hr (by omega) (fun i _ h5 h6 => by rw [if_neg (by omega), if_neg h6, zero_mul]), if_pos (by omega), if_neg (by omega), if_pos rfl]
      · simp only [if_neg h4]
        rw [sumN_single (k := r) hr (fun i _ h5 => by rw [if_neg (fun e => h5 e.symm), zero_mul]), if_pos rfl, CR.one_mul]
theorem bu_append (n : Nat) : ∀ u v : List Int, EqM n (bu n (u ++ v)) (mulM n (bu n u) (bu n v))
  | [], v => (EqM.one_mul n _).symm
  | x :: u, v => by
    show EqM n (mulM n (bl x) (bu n (u ++ v))) (mulM n (mulM n (bl x) (bu n u)) (bu n v))
    rw [mulM_assoc]
    exact (EqM.refl n _).mul (bu_append n u v)
/-- Letters of a braid word on n strands. -/
def okB (n : Nat) (w : List Int) : Prop := ∀ x ∈ w, x ≠ 0 ∧ x.natAbs < n
theorem EqM.opL {n : Nat} {A B : Mtx LP} {x : Int} (hx : x.natAbs < n) (h : EqM n A B) : EqM n (Proofs.Ytoaiblhlpdaeoaa.opL x A) (Proofs.Ytoaiblhlpdaeoaa.opL x B) := by
  unfold Proofs.Ytoaiblhlpdaeoaa.opL
  split
  · exact h.opP _ hx
  · exact h.opN _ hx
def opW : List Int → Mtx LP → Mtx LP
  | [], A => A
  | x :: w, A => opL x (opW w A)
theorem bu_op {n : Nat} : ∀ {w : List Int}, okB n w → EqM n (bu n w) (opW w oneM)
  | [], _ => EqM.refl _ _
  | x :: w, h => (bl_mul (h x (by simp)).1 (h x (by simp)).2 _).trans ((bu_op fun y hy => h y (by simp [hy])).opL (h x (by simp)).2)
/-- Words that are equal by a relation: what they do to all matrices is equal. -/
def RelB (a b : List Int) : Prop := ∀ A : Mtx LP, opW a A = opW b A
theorem RelB.bu {n : Nat} {a b : List Int} (h : RelB a b) (ha : okB n a) (hb : okB n b) (u v : List Int) : EqM n (bu n (u ++ a ++ v)) (bu n (u ++ b ++ v)) := by
  have e : EqM n (Proofs.Ytoaiblhlpdaeoaa.bu n a) (Proofs.Ytoaiblhlpdaeoaa.bu n b) := (bu_op ha).trans (by rw [h oneM]; exact (bu_op hb).symm)
  refine (bu_append n _ _).trans (EqM.trans ?_ (bu_append n _ _).symm)
  refine EqM.mul ?_ (EqM.refl _ _)
  exact (bu_append n _ _).trans (((EqM.refl n _).mul e).trans (bu_append n _ _).symm)
theorem RelB.symm {a b : List Int} (h : RelB a b) : RelB b a := fun A => (h A).symm
end Go.Proofs.Ytoaiblhlpdaeoaa
/- Braid words: what is wrong with one, where its strands end. -/
namespace Go.Proofs.Ytoaiblhlpdaeoaa
set_option linter.unusedVariables false
set_option linter.unusedSimpArgs false

def okX (n x : Int) : Bool := decide (x ≠ 0 ∧ x < n ∧ -n < x)
def bfault (n : Int) (w : List Int) : Int := if n < 1 ∨ 6 < n then 1 else if 30 < w.length then 2 else if w.all (okX n) then 0 else 3
theorem bfault_zero {n : Int} {w : List Int} (h : bfault n w = 0) : 1 ≤ n ∧ n ≤ 6 ∧ w.length ≤ 30 ∧ ∀ x ∈ w, x ≠ 0 ∧ x < n ∧ -n < x := by
  unfold bfault at h
  split at h
  · omega
  · next h1 =>
    split at h
    · omega
    · next h2 =>
      split at h
      · next h3 => exact ⟨by omega, by omega, by omega, fun x hx => by simpa [okX] using List.all_eq_true.1 h3 x hx⟩
      · omega
theorem bfault_ok {n : Int} {w : List Int} (h1 : 1 ≤ n) (h6 : n ≤ 6) (h : w.length ≤ 30) (hw : ∀ x ∈ w, x ≠ 0 ∧ x < n ∧ -n < x) : bfault n w = 0 := by
  unfold bfault
  rw [if_neg (by omega), if_neg (by omega), if_pos (List.all_eq_true.2 fun x hx => by simpa [okX] using hw x hx)]
/-- Where a strand goes at a letter. -/
def stepE (at_ : Nat) (x : Int) : Nat := if at_ + 1 = x.natAbs then at_ + 1 else if at_ = x.natAbs then at_ - 1 else at_
def endE (w : List Int) (s : Nat) : Nat := w.foldl stepE s
def endsL (n : Nat) (w : List Int) : List Nat := (List.range n).map (endE w)
theorem endsL_length (n : Nat) (w : List Int) : (endsL n w).length = n := by simp [endsL]
theorem stepE_lt {n at_ : Nat} {x : Int} (hx : x ≠ 0) (h1 : x.natAbs < n) (h : at_ < n) : stepE at_ x < n := by
  unfold stepE
  split
  · omega
  · split <;> omega
theorem endE_append (u v : List Int) (s : Nat) : endE (u ++ v) s = endE v (endE u s) := by unfold endE; rw [List.foldl_append]
theorem endE_snoc (w : List Int) (x : Int) (s : Nat) : endE (w ++ [x]) s = stepE (endE w s) x := by rw [endE_append]; rfl
theorem okB_of {n : Nat} {w : List Int} (h : ∀ x ∈ w, x ≠ 0 ∧ x < (n : Int) ∧ -(n : Int) < x) : okB n w := fun x hx => by have := h x hx; omega
/-- Words that act alike on all strands. -/
def RelE (a b : List Int) : Prop := ∀ s, endE a s = endE b s
theorem RelE.ends {a b : List Int} (h : RelE a b) (n : Nat) (u v : List Int) : endsL n (u ++ a ++ v) = endsL n (u ++ b ++ v) := by
  unfold endsL
  refine List.map_congr_left fun s _ => ?_
  rw [endE_append, endE_append, endE_append, endE_append, h]
theorem stepE_twice {x : Int} (h : x ≠ 0) (s : Nat) : stepE (stepE s x) x = s := by
  unfold stepE
  by_cases h1 : s + 1 = x.natAbs
  · rw [if_pos h1, if_neg (by omega), if_pos (by omega)]; omega
  · rw [if_neg h1]
    by_cases h2 : s = x.natAbs
    · rw [if_pos h2, if_pos (by omega)]; omega
    · rw [if_neg h2, if_neg h1, if_neg h2]
end Go.Proofs.Ytoaiblhlpdaeoaa
/- timbref1.Core: the cyclically reduced part. -/
namespace Go.Proofs.Ytoaiblhlpdaeoaa
set_option linter.unusedVariables false
set_option linter.unusedSimpArgs false
open Go.RowKit

theorem IL.mid {w : World} {ad : Addr} {n k m : Nat} {xs : List Int} (h : IL w (some ad) n xs) (hk : k + m ≤ n) : IL w (some (ad.add k)) m ((xs.drop k).take m) := by
  have hl := h.len
  refine ⟨by simp; omega, by have := h.small; omega, fun h0 => ?_⟩
  obtain ⟨ad', e, hlt, hc⟩ := h.mem (by omega)
  injection e with e
  subst e
  refine ⟨ad.add k, rfl, by rw [block_of_add]; exact hlt, fun j hj => ?_⟩
  rw [add_of_add, hc (k + j) (by omega)]
  simp [List.getD, List.getElem?_take, List.getElem?_drop, hj]
end Go.Proofs.Ytoaiblhlpdaeoaa
/- timbmake.Letter, timbmake.Word. -/
namespace Go.Proofs.Ytoaiblhlpdaeoaa
set_option linter.unusedVariables false
set_option linter.unusedSimpArgs false
open Go.RowKit

theorem letter_any (x : Int) (k : Nat) (w : World) (h0 : 0 < k) (hk : k ≤ 1000) :
    Calls Try.prog 68 #[.int .i64 x, .int .i64 k] w fun e w' => ∃ y : Int, e = .returned (.int .i64 y) ∧ y ≠ 0 ∧ -(k : Int) ≤ y ∧ y ≤ k ∧ w = w' := by
  have HM := hide (mbelow_any x (2 * k) w (by omega) (by omega))
  have h1 := Int.emod_nonneg x (show ((2 * k : Nat) : Int) ≠ 0 by omega)
  have h2 := Int.emod_lt_of_pos x (show (0 : Int) < ((2 * k : Nat) : Int) by omega)
  obtain ⟨z, hz⟩ : ∃ z, x % ((2 * k : Nat) : Int) = z := ⟨_, rfl⟩
  rw [hz] at HM h1 h2
  have e2 : ((2 * k : Nat) : Int) = 2 * (k : Int) := by omega
  rw [e2] at HM h2
  clear hz e2
  go_enter Try.func68, Try.ntmps68
  go_wp2_with fail
  refine HM.out.mono ?_
  rintro e w' ⟨rfl, rfl⟩
  by_cases hlt : z < k
  · go_wp2
    go_ret
    exact ⟨z + 1, rfl, by omega, by omega, by omega, rfl⟩
  · go_wp2
    go_ret
    exact ⟨_, rfl, by omega, by omega, by omega, rfl⟩

/-- The letters so far. -/
structure WoSt (w wr : World) (k : Nat) (A : Option Addr) (n c : Nat) (us : List Int) : Prop where
  own : OwnI wr w.heap.size A n c us
  ok : ∀ x ∈ us, x ≠ 0 ∧ x ≤ k ∧ -(k : Int) ≤ x
  below : Below w.heap.size w wr
set_option maxRecDepth 100000 in
set_option maxHeartbeats 2000000 in
theorem word_any (A : Option Addr) (k l c L : Nat) (xs : List Int) (w : World) (hx : IL w A l xs) (hc : l ≤ c) (h0 : 0 < k) (hk : k ≤ 1000) (hL : L ≤ 1000) :
    Calls Try.prog 28 #[.int .i64 k, .slice A l c, .int .i64 L] w fun e w' => ∃ us B m d, e = .returned (.slice B m d) ∧ OwnI w' w.heap.size B m d us ∧ (∀ x ∈ us, x ≠ 0 ∧ x ≤ k ∧ -(k : Int) ≤ x) ∧ m ≤ L ∧ Below w.heap.size w w' := by
  obtain ⟨i0, hi0, hz0, hz1, hz2⟩ := info_parts int_info
  have HX := hide hx
  have hsm := hx.small
  clear hx
  obtain ⟨K, hK⟩ : ∃ K, K = min l L := ⟨_, rfl⟩
  have hKl : K ≤ l := by omega
  have HP := hide (HX.out.pre hKl)
  have hK10 : K ≤ L := by omega
  go_enter Try.func28, Try.ntmps28
  go_upto_region 3 with fail
  all_goals
    first | (have e : K = L := by omega) | (have e : K = l := by omega)
    subst e
    clear hK
    go_loopw [7, 17] (fun ov iv wr => ∃ (i c7 : Nat) (A7 : Option Addr) (us : List Int), ov = .slice A7 i c7 ∧ iv = .int .i64 i ∧ i ≤ K ∧ WoSt w wr k A7 i c7 us) (fun _ iv _ => K - (intOf iv).toNat)
    case atStart => exact ⟨0, 0, none, [], rfl, rfl, by omega, ⟨OwnI.nil_ _ _, fun x hx => by simp at hx, Below.refl _ _⟩⟩
    case round =>
      obtain ⟨i, c7, A7, us, rfl, rfl, hi, hst⟩ := hrel
      by_cases hlt : i < K
      · obtain ⟨ad, rfl, hcl⟩ := (HP.out.below hst.below).at_ hlt
        generalize (xs.take K).getD i 0 = x at *
        go_wp2_with fail
        refine (letter_any x k wr h0 hk).mono ?_
        rintro e w2 ⟨y, rfl, hy0, hy1, hy2, rfl⟩
        have HST := hide hst
        have hs := hst.below.size
        clear hst hcl
        go_wp2_with (at_builtin; refine wpList_append_int _ rfl _ _ 22 rfl w.heap.size i0 Try.underlying22 hi0 hz0 hz1 hz2 A7 i c7 us rfl (HST.out.own.alloc _) (some ⟨_, 0, none⟩) 1 1 [y] rfl (IL.lit _ [y] (by simp) rfl rfl) (by omega) (by simp; omega) ?_; intro A8 c8 w8 hap)
        have hN : WoSt w w8 k A8 (i + 1) c8 (us ++ [y]) := by
          refine ⟨hap.own, fun z hz => ?_, (HST.out.below.alloc hs _).grown hap.grown (by simp; omega) (fun j hj => (HST.out.own.lt j (by rw [ownBlock_len A7 i (i + 1) c7 c7]; exact hj)).1)⟩
          rcases List.mem_append.1 hz with hz | hz
          · exact HST.out.ok z hz
          · obtain rfl : z = y := by simpa using hz
            exact ⟨hy0, hy2, hy1⟩
        clear hap
        go_roundw
        case rel => exact ⟨i + 1, c8, A8, _, by go_num, by go_num, by omega, hN⟩
        case measure => simp [intOf]; omega
      · go_wp2
        go_ret
        exact ⟨us, A7, i, c7, rfl, hst.own, hst.ok, by omega, hst.below⟩
end Go.Proofs.Ytoaiblhlpdaeoaa
/- What package freegroup's functions are to answer (words alone), and what follows for the facts free and reduced that the laws begin with. -/
namespace Go.Proofs.Ytoaiblhlpdaeoaa
set_option linter.unusedVariables false
set_option linter.unusedSimpArgs false
open Go.RowKit

/-- A slice and an error. -/
def GivesLE (w : World) (err : Int) (xs : List Int) (e : Ending) (w' : World) : Prop :=
  ∃ A n c, e = .returned (.tuple #[.slice A n c, .int .i64 err]) ∧ SL w' A n c xs ∧ Below w.heap.size w w'

/-- The same, the slice in memory that was not there before. -/
def GivesLEn (w : World) (err : Int) (xs : List Int) (e : Ending) (w' : World) : Prop :=
  ∃ A n c, e = .returned (.tuple #[.slice A n c, .int .i64 err]) ∧ SL w' A n c xs ∧ (0 < n → ∀ ad, A = some ad → w.heap.size ≤ ad.block) ∧ Below w.heap.size w w'
theorem GivesLEn.le {w : World} {err : Int} {xs : List Int} {e : Ending} {w' : World} (h : GivesLEn w err xs e w') : GivesLE w err xs e w' := by
  obtain ⟨A, n, c, h1, h2, _, h3⟩ := h
  exact ⟨A, n, c, h1, h2, h3⟩

end Go.Proofs.Ytoaiblhlpdaeoaa
/- Images under short braid words are short; what package artin's functions are to answer. -/
namespace Go.Proofs.Ytoaiblhlpdaeoaa
set_option linter.unusedVariables false
set_option linter.unusedSimpArgs false
open Go.RowKit

theorem artL_len3 (y z : Int) : (artL y z).length ≤ 3 := by
  unfold artL artV
  (repeat' split) <;> simp [invw]
theorem artW_len3 (y : Int) : ∀ u : List Int, (artW y u).length ≤ 3 * u.length
  | [] => Nat.le_refl _
  | z :: u => by
    rw [artW_cons, List.length_append, List.length_cons]
    have := artW_len3 y u
    have := artL_len3 y z
    omega
def sixL : List Int := [1, -1, 2, -2, 3, -3, 4, -4, 5, -5]
theorem sixL_mem {y : Int} (h0 : y ≠ 0) (h : y.natAbs < 6) : y ∈ sixL := by
  have : y = 1 ∨ y = -1 ∨ y = 2 ∨ y = -2 ∨ y = 3 ∨ y = -3 ∨ y = 4 ∨ y = -4 ∨ y = 5 ∨ y = -5 := by omega
  rcases this with rfl | rfl | rfl | rfl | rfl | rfl | rfl | rfl | rfl | rfl <;> decide
def chkA : Nat → List Int → Bool
  | 0, u => decide (u.length ≤ 54)
  | d + 1, u => decide (u.length * 3 ^ (d + 1) ≤ 54) || (decide (u.length ≤ 54) && sixL.all fun y => chkA d (nf (artW y u)))
theorem artF_len : ∀ (w u : List Int), (artF w u).length ≤ u.length * 3 ^ w.length
  | [], u => by show u.length ≤ _; simp
  | y :: w, u => by
    show (artF w (nf (artW y u))).length ≤ _
    have h1 := artF_len w (nf (artW y u))
    have h2 := nf_len_le (artW y u)
    have h3 := artW_len3 y u
    have h4 : (nf (artW y u)).length * 3 ^ w.length ≤ (3 * u.length) * 3 ^ w.length := Nat.mul_le_mul_right _ (by omega)
    rw [List.length_cons, Nat.pow_succ, Nat.mul_comm (3 ^ w.length), ← Nat.mul_assoc, Nat.mul_comm u.length]
    omega
theorem chkA_spec : ∀ (d : Nat) (u : List Int), chkA d u = true → ∀ w : List Int, w.length ≤ d → (∀ y ∈ w, y ≠ 0 ∧ y.natAbs < 6) → (artF w u).length ≤ 54
  | 0, u, h, w, hw, _ => by
    rw [List.eq_nil_of_length_eq_zero (by omega : w.length = 0)]
    show u.length ≤ 54
    simpa [chkA] using h
  | d + 1, u, h, w, hw, hl => by
    unfold chkA at h
    rw [Bool.or_eq_true] at h
    rcases h with h | h
    · have h := of_decide_eq_true h
      have h1 := artF_len w u
      have h2 : 3 ^ w.length ≤ 3 ^ (d + 1) := Nat.pow_le_pow_right (by omega) hw
      have h3 := Nat.mul_le_mul_left u.length h2
      omega
    · rw [Bool.and_eq_true] at h
      cases w with
      | nil => exact of_decide_eq_true h.1
      | cons y w =>
        have h2 := List.all_eq_true.1 h.2 y (sixL_mem (hl y (by simp)).1 (hl y (by simp)).2)
        exact chkA_spec d _ h2 w (by simpa using hw) fun z hz => hl z (by simp [hz])
theorem chkA_all : ([1, 2, 3, 4, 5, 6] : List Int).all (fun z => chkA 5 [z]) = true := by decide +kernel
theorem artW_far {y : Int} {k : Nat} (h : y.natAbs + 1 < k) : artW y [(k : Int)] = [(k : Int)] := by
  rw [artW_one, artL_o (by omega) (by omega)]
theorem artC_far {k : Nat} : ∀ {w : List Int}, (∀ y ∈ w, y.natAbs + 1 < k) → artC w [(k : Int)] = [(k : Int)]
  | [], _ => rfl
  | y :: w, h => by
    rw [artC_cons, artW_far (h y (by simp))]
    exact artC_far fun z hz => h z (by simp [hz])
theorem img5 {w : List Int} (hw : ∀ y ∈ w, y ≠ 0 ∧ y.natAbs < 6) (hl : w.length ≤ 5) {z : Int} (hz : z ≠ 0) : (nf (artC w [z])).length ≤ 54 := by
  have hnz : nz w := fun y hy => (hw y hy).1
  have pos : ∀ k : Nat, 0 < k → (nf (artC w [(k : Int)])).length ≤ 54 := fun k hk => by
    by_cases h6 : k ≤ 6
    · have h1 : chkA 5 [(k : Int)] = true := List.all_eq_true.1 chkA_all _ (by
        have : k = 1 ∨ k = 2 ∨ k = 3 ∨ k = 4 ∨ k = 5 ∨ k = 6 := by omega
        rcases this with rfl | rfl | rfl | rfl | rfl | rfl <;> decide)
      have h2 := chkA_spec 5 _ h1 w hl hw
      have h3 := artF_nf hnz (u := [(k : Int)]) (fun x hx => by simp at hx; omega)
      rw [show nf [(k : Int)] = [(k : Int)] from rfl] at h3
      rw [← h3]
      exact h2
    · rw [artC_far fun y hy => by have := (hw y hy).2; omega]
      exact Nat.le_trans (nf_len_le _) (by simp)
  rcases Int.natAbs_eq z with e | e
  · rw [e]; exact pos _ (by omega)
  · have h1 := artC_invw (w := w) (u := [(z.natAbs : Int)]) hnz (fun x hx => by simp at hx; omega)
    rw [show invw [(z.natAbs : Int)] = [z] by simp [invw]; omega] at h1
    rw [h1, nf_invw, invw_length]
    exact pos _ (by omega)
theorem imgs5 {w : List Int} (hw : ∀ y ∈ w, y ≠ 0 ∧ y.natAbs < 6) (hl : w.length ≤ 5) : ∀ {u : List Int}, nz u → (nf (artC w u)).length ≤ 54 * u.length
  | [], _ => by rw [artC_nil]; exact Nat.le_refl _
  | z :: u, h => by
    have e : artC w (z :: u) = artC w [z] ++ artC w u := artC_append w [z] u
    have h1 := img5 hw hl (z := z) (h z (by simp))
    have h2 := imgs5 hw hl (u := u) fun x hx => h x (by simp [hx])
    rw [e, ← nf_left, ← nf_right]
    have h3 := nf_len_le (nf (artC w [z]) ++ nf (artC w u))
    rw [List.length_append] at h3
    rw [List.length_cons]
    omega
/-- Words of at most 10 letters. -/
theorem img10 {w : List Int} (hw : ∀ y ∈ w, y ≠ 0 ∧ y.natAbs < 6) (hl : w.length ≤ 10) {z : Int} (hz : z ≠ 0) : (nf (artC w [z])).length ≤ 3000 := by
  have e : w = w.take 5 ++ w.drop 5 := (List.take_append_drop 5 w).symm
  have m1 : ∀ y ∈ w.take 5, y ≠ 0 ∧ y.natAbs < 6 := fun y hy => hw y (List.mem_of_mem_take hy)
  have m2 : ∀ y ∈ w.drop 5, y ≠ 0 ∧ y.natAbs < 6 := fun y hy => hw y (List.mem_of_mem_drop hy)
  have n1 : nz (w.take 5) := fun y hy => (m1 y hy).1
  have n2 : nz (w.drop 5) := fun y hy => (m2 y hy).1
  have hz1 : nz [z] := fun x hx => by simp at hx; omega
  rw [e, artC_app]
  have h1 := img5 m1 (by simp; omega) hz
  have h2 := imgs5 m2 (by simp; omega) (u := nf (artC (w.take 5) [z])) (artC_nz n1 hz1).nf
  rw [artC_congr n2 (artC_nz n1 hz1) (artC_nz n1 hz1).nf (nf_nf _).symm]
  omega

/-- The images. -/
def imgs (n : Nat) (w : List Int) : List (List Int) := (List.range n).map fun (s : Nat) => nf (artC w [((s : Nat) : Int) + 1])
theorem imgs_length (n : Nat) (w : List Int) : (imgs n w).length = n := by simp [imgs]
theorem imgs_getD {n s : Nat} (w : List Int) (h : s < n) : (imgs n w).getD s [] = nf (artC w [((s : Nat) : Int) + 1]) := by simp [imgs, List.getD, h]
/-- Is an image of the word, or of what remains of it, too long? -/
def longA (n : Nat) (w : List Int) : Bool := (List.range (w.length + 1)).any fun k => (imgs n (w.drop k)).any fun u => decide (3000 < u.length)
def artE (n : Int) (w : List Int) : Int := if bfault n w ≠ 0 then bfault n w else if longA n.toNat w then 2 else 0
def artI (n : Int) (w : List Int) : List (List Int) := if artE n w = 0 then imgs n.toNat w else []
/-- All that is wrong with a, then with b (as the document says). -/
def eqE (n : Int) (a b : List Int) : Int := if artE n a ≠ 0 then artE n a else artE n b
def eqA (n : Int) (a b : List Int) : Bool := decide (eqE n a b = 0) && decide (imgs n.toNat a = imgs n.toNat b)
theorem long_short {n : Nat} (hn : n ≤ 6) {w : List Int} (hw : okB n w) (hl : w.length ≤ 10) : longA n w = false := by
  unfold longA
  rw [List.any_eq_false]
  intro k _
  rw [Bool.not_eq_true, List.any_eq_false]
  intro u hu
  unfold imgs at hu
  obtain ⟨s, _, rfl⟩ := List.mem_map.1 hu
  have h := img10 (w := w.drop k) (fun y hy => by have := hw y (List.mem_of_mem_drop hy); omega) (by simp; omega) (z := ((s : Nat) : Int) + 1) (by omega)
  simp
  omega
theorem okB_nz {n : Nat} {w : List Int} (h : okB n w) : nz w := fun x hx => by have := h x hx; omega
/-- Lists of words and an error. -/
def GivesLLE (w : World) (err : Int) (xss : List (List Int)) (e : Ending) (w' : World) : Prop :=
  ∃ A n c, e = .returned (.tuple #[.slice A n c, .int .i64 err]) ∧ SLL w' A n c xss ∧ Below w.heap.size w w'
/-- Package artin, as the document asks. -/
structure ArtinC : Prop where
  images : ∀ (m : Int) (A : Option Addr) (n c : Nat) (xs : List Int) (w : World), SL w A n c xs → (Lit.int .i64 m).wf = true → Calls Try.prog 33 #[.int .i64 m, .slice A n c] w (GivesLLE w (artE m xs) (artI m xs)) -- 33
  equal : ∀ (m : Int) (A : Option Addr) (n c : Nat) (xs : List Int) (B : Option Addr) (k d : Nat) (ys : List Int) (w : World), SL w A n c xs → SL w B k d ys → (Lit.int .i64 m).wf = true → Calls Try.prog 77 #[.int .i64 m, .slice A n c, .slice B k d] w fun e w' => e = .returned (.tuple #[.bool (eqA m xs ys), .int .i64 (eqE m xs ys)]) ∧ Below w.heap.size w w' -- 77
end Go.Proofs.Ytoaiblhlpdaeoaa
/- How long the images under words of permutation braids can be. -/
namespace Go.Proofs.Ytoaiblhlpdaeoaa
set_option linter.unusedVariables false
set_option linter.unusedSimpArgs false
open Gar

/-- Images of letters under w are no longer than B. -/
def LB (w : List Int) (B : Nat) : Prop := ∀ z : Int, z ≠ 0 → (nf (artC w [z])).length ≤ B
theorem LB.all {w : List Int} {B : Nat} (h : LB w B) : ∀ {u : List Int}, nz u → (nf (artC w u)).length ≤ B * u.length
  | [], _ => by rw [artC_nil]; exact Nat.zero_le _
  | z :: u, hu => by
    have e : artC w (z :: u) = artC w [z] ++ artC w u := artC_append w [z] u
    have h1 := h z (hu z (by simp))
    have h2 := h.all (u := u) fun x hx => hu x (by simp [hx])
    rw [e, ← nf_left, ← nf_right]
    have h3 := nf_len_le (nf (artC w [z]) ++ nf (artC w u))
    rw [List.length_append] at h3
    rw [List.length_cons, Nat.mul_succ]
    omega
theorem LB.mul {u v : List Int} {B C : Nat} (hu : nz u) (hv : nz v) (h : LB u B) (k : LB v C) : LB (u ++ v) (C * B) := fun z hz => by
  have hz1 : nz [z] := fun x hx => by simp at hx; omega
  rw [artC_app]
  have h1 := h z hz
  have h2 := k.all (u := nf (artC u [z])) (artC_nz hu hz1).nf
  rw [artC_congr hv (artC_nz hu hz1) (artC_nz hu hz1).nf (nf_nf _).symm]
  exact Nat.le_trans h2 (Nat.mul_le_mul_left _ h1)
theorem LB.rel {a b : List Int} {B : Nat} (h : LB a B) (e : RelA a b) : LB b B := fun z hz => by
  rw [← e [z] (fun x hx => by simp at hx; omega)]
  exact h z hz
theorem LB.mono {a : List Int} {B C : Nat} (h : LB a B) (k : B ≤ C) : LB a C := fun z hz => Nat.le_trans (h z hz) k
theorem LB.nil_ : LB [] 1 := fun z hz => Nat.le_trans (nf_len_le _) (by show [z].length ≤ 1; simp)
theorem LB.short {w : List Int} (hw : ∀ y ∈ w, y ≠ 0 ∧ y.natAbs < 6) (hl : w.length ≤ 10) : LB w 3000 := fun z hz => img10 hw hl hz
/-- The word of a permutation. -/
def wrd (p : List Nat) : List Int := (spl (p.length * p.length) p).map up
def halfW (n : Nat) : List Int := wrd (fullL n)
end Go.Proofs.Ytoaiblhlpdaeoaa
/- Words of normal forms: what they are worth, how long the images under their beginnings can be. -/
namespace Go.Proofs.Ytoaiblhlpdaeoaa
set_option linter.unusedVariables false
set_option linter.unusedSimpArgs false
open Gar

theorem wrd_ok {n : Nat} {p : List Nat} (hp : isP p) (hl : p.length = n) : ∀ i ∈ spl (p.length * p.length) p, i + 1 < n := fun i hi => (elt_spec hp hl).1.1 i hi
theorem map_up_ok {n : Nat} {u : List Nat} (h : ∀ i ∈ u, i + 1 < n) : okB n (u.map up) := fun x hx => by
  obtain ⟨i, hi, rfl⟩ := List.mem_map.1 hx
  have := h i hi
  unfold up
  omega
theorem okB_okl {n : Nat} {w : List Int} (h : okB n w) : ∀ x ∈ w, okl n x := fun x hx => h x hx
theorem okB_wrd {n : Nat} {p : List Nat} (hp : isP p) (hl : p.length = n) : okB n (wrd p) := map_up_ok (wrd_ok hp hl)
def facW (l : List (List Nat)) : List Int := l.flatMap wrd
def PL (n : Nat) (l : List (List Nat)) : Prop := ∀ p ∈ l, isP p ∧ p.length = n
/-- The half twist. -/
theorem full_isP (n : Nat) : isP (fullL n) ∧ (fullL n).length = n := by
  refine ⟨isP_of (fun j hj => ?_) (fun i j hi hj e => ?_), by simp [fullL]⟩
  · rw [show (fullL n).length = n by simp [fullL]] at hj ⊢
    rw [fullL_getD hj]
    omega
  · rw [show (fullL n).length = n by simp [fullL]] at hi hj
    rw [fullL_getD hi, fullL_getD hj] at e
    omega
theorem okB_half (n : Nat) : okB n (halfW n) := okB_wrd (full_isP n).1 (full_isP n).2
/-- The word of a power of the half twist. -/
def powW (n : Nat) (k : Int) : List Int := rep (if k < 0 then invw (halfW n) else halfW n) k.natAbs
/-- The word of a normal form. -/
def wriW (n : Nat) (k : Int) (l : List (List Nat)) : List Int := powW n k ++ facW l
end Go.Proofs.Ytoaiblhlpdaeoaa
