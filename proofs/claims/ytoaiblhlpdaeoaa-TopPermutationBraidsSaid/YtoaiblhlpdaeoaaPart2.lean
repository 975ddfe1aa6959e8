/- Several texts in one. -/
import Derived.Test.YtoaiblhlpdaeoaaPart1
import Derived.Test.YtoaiblhlpdaeoaaBase1
import Derived.Deep.DeepCutAuto
import Derived.Laws.BitsAllLaws
import Derived.Deep.LoopGhost
/- timbmake.Poly. -/
namespace Go.Proofs.Ytoaiblhlpdaeoaa
set_option linter.unusedVariables false
set_option linter.unusedSimpArgs false
open Go.RowKit

def lenV : Value → Nat
  | .slice _ n _ => n
  | _ => 0
theorem LP.of_zeros {C : List Int} (lo : Int) (h : ∀ j, j < C.length → C.getD j 0 = 0) : LP.of 0 [] = LP.of lo C := LP.ext fun k => by
  rw [LP.co_of, LP.co_of]
  rw [if_neg (by simp only [List.length_nil]; omega)]
  split
  · next hk => rw [h _ (by omega)]
  · rfl
theorem LP.of_trim {C : List Int} (lo : Int) {i m : Nat} (him : i + m ≤ C.length) (h1 : ∀ j, j < i → C.getD j 0 = 0) (h2 : ∀ j, i + m ≤ j → j < C.length → C.getD j 0 = 0) : LP.of (lo + i) ((C.drop i).take m) = LP.of lo C := LP.ext fun k => by
  have hl : ((C.drop i).take m).length = m := by simp; omega
  rw [LP.co_of, LP.co_of, hl]
  by_cases hk : lo + i ≤ k ∧ k < lo + i + m
  · rw [if_pos hk, if_pos (by omega)]
    simp only [List.getD_eq_getElem?_getD, List.getElem?_take, List.getElem?_drop]
    rw [if_pos (by omega), show i + (k - (lo + i)).toNat = (k - lo).toNat by omega]
  · rw [if_neg hk]
    split
    · next h =>
      by_cases h3 : k < lo + i
      · exact (h1 _ (by omega)).symm
      · exact (h2 _ (by omega) (by omega)).symm
    · rfl
theorem SL.tail_ {w : World} {ad : Addr} {m d : Nat} {xs : List Int} (h : SL w (some ad) m d xs) (hm : 0 < m) : SL w (if d = 1 then some ad else some ⟨ad.block, ad.off + 1, none⟩) (m - 1) (d - 1) (xs.drop 1) := by
  have hc := h.cap
  have hl := h.il.len
  by_cases hd : d = 1
  · rw [if_pos hd]
    refine ⟨⟨by rw [List.length_drop]; omega, by have := h.il.small; omega, fun h0 => by omega⟩, fun e => (by cases e), by omega⟩
  · have h2 := h.il.cut (l := 1) (h := m) (by omega) (Nat.le_refl _) hc
    unfold cutA at h2
    rw [if_neg hd] at h2
    rw [if_neg hd]
    have e : (some ad).map (·.add 1) = some (⟨ad.block, ad.off + 1, none⟩ : Addr) := by simp [Addr.add]
    rw [e, List.take_of_length_le (by rw [List.length_drop]; omega)] at h2
    exact ⟨h2, fun e => (by cases e), by omega⟩
theorem SL.init_ {w : World} {A : Option Addr} {m d k : Nat} {xs : List Int} (h : SL w A m d xs) (hk : k ≤ m) (hA : A ≠ none) : SL w A k d (xs.take k) := ⟨h.il.pre hk, fun e => absurd e hA, by have := h.cap; omega⟩

end Go.Proofs.Ytoaiblhlpdaeoaa
/- Sums and products of small polynomials fit. -/
namespace Go.Proofs.Ytoaiblhlpdaeoaa
set_option linter.unusedVariables false
set_option linter.unusedSimpArgs false
open Go.RowKit
namespace LP
/-- A right polynomial. -/
def Rt (x : LP) : Prop := pfl (canon x).1 (canon x).2 = 0
theorem mulR_canon {x y : LP} (hx : Rt x) (hy : Rt y) (h : Rt (x * y)) : mulR (canon x).1 (canon x).2 (canon y).1 (canon y).2 = (0, (canon (x * y)).1, (canon (x * y)).2) := by
  unfold Rt at *
  unfold mulR two2
  rw [if_pos hx, if_pos hy, of_canon, of_canon, fit_ok h]
theorem addR_canon {x y : LP} (hx : Rt x) (hy : Rt y) (h : Rt (x + y)) : addR (canon x).1 (canon x).2 (canon y).1 (canon y).2 = (0, (canon (x + y)).1, (canon (x + y)).2) := by
  unfold Rt at *
  unfold addR two2
  rw [if_pos hx, if_pos hy, of_canon, of_canon, fit_ok h]
theorem Rt.wf {x : LP} (h : Rt x) : (Lit.int .i64 (canon x).1).wf = true := by
  obtain ⟨_, h1, h2, _⟩ := pfl_zero h
  have h3 : IntKind.i64.min = -9223372036854775808 := by decide
  simp [Lit.wf, h3]
  omega
end LP
end Go.Proofs.Ytoaiblhlpdaeoaa
/- Free derivatives: exponents, the derivative of a word, the rule of a product, and t^e - 1 as a sum of derivatives. -/
namespace Go.Proofs.Ytoaiblhlpdaeoaa
set_option linter.unusedVariables false
set_option linter.unusedSimpArgs false
namespace LP

/-- The exponent of a word. -/
def expo (w : List Int) : Int := wsum Int.sign w
theorem sign_le (x : Int) : (Int.sign x).natAbs ≤ 1 := by
  rcases Int.lt_trichotomy x 0 with h | h | h
  · rw [Int.sign_eq_neg_one_of_neg h]; decide
  · subst h; decide
  · rw [Int.sign_eq_one_of_pos h]; decide
theorem expo_nil : expo [] = 0 := rfl
theorem expo_cons (x : Int) (w : List Int) : expo (x :: w) = Int.sign x + expo w := by simp [expo, wsum]
theorem expo_append (u v : List Int) : expo (u ++ v) = expo u + expo v := wsum_append _ u v
theorem expo_le : ∀ w : List Int, (expo w).natAbs ≤ w.length
  | [] => by decide
  | x :: w => by
    rw [expo_cons, List.length_cons]
    have := sign_le x
    have := expo_le w
    omega

/-- The derivative of a letter. -/
def dx (i x : Int) : LP := if x = i then 1 else if x = -i then term (-1) (-1) else 0
/-- The derivative of a word. -/
def foxT (i : Int) : List Int → LP
  | [] => 0
  | x :: w => dx i x + term (Int.sign x) 1 * foxT i w
theorem Sm.term (e c : Int) {l h : Int} {B : Nat} (h1 : l ≤ e) (h2 : e ≤ h) (h3 : c.natAbs ≤ B) : Sm (term e c) l h B :=
  ⟨fun k hk => by
    rw [co_term] at hk
    by_cases he : e = k
    · omega
    · rw [if_neg he] at hk; exact absurd rfl hk,
  fun k => by
    rw [co_term]
    split
    · exact h3
    · exact Nat.zero_le _⟩
theorem Sm.zero {l h : Int} {B : Nat} : Sm 0 l h B := ⟨fun k hk => absurd (co_zero k) hk, fun k => by rw [co_zero]; exact Nat.zero_le _⟩
/-- t - 1. -/
def less : LP := term 1 1 + -1
/-- The sum of the first derivatives times t - 1. -/
def part (w : List Int) : Nat → LP
  | 0 => 0
  | k + 1 => part w k + foxT ((k : Int) + 1) w * less
end LP
end Go.Proofs.Ytoaiblhlpdaeoaa
/- Laurent polynomials as short sums of terms: exponents within E, absolute values of coefficients that add up to at most V. -/
namespace Go.Proofs.Ytoaiblhlpdaeoaa
set_option linter.unusedVariables false
set_option linter.unusedSimpArgs false
namespace LP

def sumA : List Tm → Nat
  | [] => 0
  | p :: l => p.2.natAbs + sumA l
theorem sumA_append : ∀ a b : List Tm, sumA (a ++ b) = sumA a + sumA b
  | [], b => by simp [sumA]
  | p :: a, b => by
    show p.2.natAbs + sumA (a ++ b) = p.2.natAbs + sumA a + sumA b
    rw [sumA_append a b, Nat.add_assoc]
theorem sumA_scale (e c : Int) : ∀ l : List Tm, sumA (scaleT e c l) = c.natAbs * sumA l
  | [] => rfl
  | p :: l => by
    show (c * p.2).natAbs + sumA (scaleT e c l) = c.natAbs * (p.2.natAbs + sumA l)
    rw [sumA_scale e c l, Nat.mul_add, Int.natAbs_mul]
theorem sumA_mul (b : List Tm) : ∀ a : List Tm, sumA (mulT a b) = sumA a * sumA b
  | [] => by
    show 0 = 0 * sumA b
    rw [Nat.zero_mul]
  | p :: a => by
    rw [mulT_cons, sumA_append, sumA_scale, sumA_mul b a]
    show _ = (p.2.natAbs + sumA a) * sumA b
    rw [Nat.add_mul]
theorem coefT_sumA (k : Int) : ∀ l : List Tm, (coefT l k).natAbs ≤ sumA l
  | [] => Nat.le_refl _
  | p :: l => by
    have h := coefT_sumA k l
    show ((if p.1 = k then p.2 else 0) + coefT l k).natAbs ≤ p.2.natAbs + sumA l
    split <;> omega

/-- A short sum of terms. -/
def N1 (x : LP) (E V : Nat) : Prop := ∃ l : List Tm, mk l = x ∧ (∀ p ∈ l, p.1.natAbs ≤ E) ∧ sumA l ≤ V
theorem N1.mono {x : LP} {E V E' V' : Nat} (h : N1 x E V) (h1 : E ≤ E') (h2 : V ≤ V') : N1 x E' V' := by
  obtain ⟨l, e, hk, hv⟩ := h
  exact ⟨l, e, fun p hp => Nat.le_trans (hk p hp) h1, Nat.le_trans hv h2⟩
theorem N1.zero : N1 0 0 0 := ⟨[], rfl, fun p hp => by simp at hp, Nat.le_refl _⟩
theorem N1.term (e c : Int) : N1 (LP.term e c) e.natAbs c.natAbs := ⟨[(e, c)], rfl, fun p hp => by simp at hp; subst hp; exact Nat.le_refl _, by simp [sumA]⟩
theorem N1.one : N1 1 0 1 := N1.term 0 1
theorem N1.add {x y : LP} {E V V' : Nat} (hx : N1 x E V) (hy : N1 y E V') : N1 (x + y) E (V + V') := by
  obtain ⟨a, rfl, h1, h2⟩ := hx
  obtain ⟨b, rfl, h3, h4⟩ := hy
  refine ⟨a ++ b, rfl, fun p hp => ?_, by rw [sumA_append]; omega⟩
  rcases List.mem_append.1 hp with h | h
  · exact h1 p h
  · exact h3 p h
theorem N1.neg {x : LP} {E V : Nat} (hx : N1 x E V) : N1 (-x) E V := by
  obtain ⟨a, rfl, h1, h2⟩ := hx
  refine ⟨scaleT 0 (-1) a, rfl, fun p hp => ?_, by rw [sumA_scale, show (-1 : Int).natAbs = 1 from rfl]; omega⟩
  obtain ⟨q, hq, rfl⟩ := List.mem_map.1 hp
  have := h1 q hq
  show (0 + q.1).natAbs ≤ E
  rw [Int.zero_add]; exact this
theorem N1.mul {x y : LP} {E V E' V' : Nat} (hx : N1 x E V) (hy : N1 y E' V') : N1 (x * y) (E + E') (V * V') := by
  obtain ⟨a, rfl, h1, h2⟩ := hx
  obtain ⟨b, rfl, h3, h4⟩ := hy
  refine ⟨mulT a b, rfl, fun p hp => ?_, by rw [sumA_mul]; exact Nat.mul_le_mul h2 h4⟩
  obtain ⟨q, hq, hp⟩ := List.mem_flatMap.1 hp
  obtain ⟨r, hr, rfl⟩ := List.mem_map.1 hp
  have := h1 q hq
  have := h3 r hr
  show (q.1 + r.1).natAbs ≤ E + E'
  omega
theorem N1.co {x : LP} {E V : Nat} (h : N1 x E V) (k : Int) : (LP.co x k).natAbs ≤ V := by
  obtain ⟨l, rfl, _, hv⟩ := h
  exact Nat.le_trans (coefT_sumA k l) hv
theorem N1.supp {x : LP} {E V : Nat} (h : N1 x E V) {k : Int} (hk : LP.co x k ≠ 0) : k.natAbs ≤ E := by
  obtain ⟨l, rfl, h1, _⟩ := h
  by_cases hm : ∀ p ∈ l, p.1 ≠ k
  · exact absurd (sumT_out k l hm) hk
  · obtain ⟨p, hp⟩ := Classical.not_forall.1 hm
    obtain ⟨hp, e⟩ := Classical.not_imp.1 hp
    have := h1 p hp
    rw [Classical.not_not.1 e] at this
    exact this
theorem N1.sm {x : LP} {E V : Nat} (h : N1 x E V) : Sm x (-(E : Int)) E V := ⟨fun k hk => by have := h.supp hk; omega, h.co⟩
theorem N1.rt {x : LP} {E V : Nat} (h : N1 x E V) (h1 : E ≤ 99) (h2 : V ≤ 100000000) : Rt x := h.sm.pfl (by omega) (by omega) (by omega) h2
theorem N1.sumN {f : Nat → LP} {E V : Nat} : ∀ {n : Nat}, (∀ i, i < n → N1 (f i) E V) → N1 (CR.sumN n f) E (n * V)
  | 0, _ => N1.zero.mono (Nat.zero_le _) (Nat.zero_le _)
  | n + 1, h => by
    rw [CR.sumN_succ, Nat.succ_mul]
    exact (N1.sumN fun i hi => h i (by omega)).add (h n (by omega))
theorem N1.sgR (j : Nat) : N1 (CR.sgR LP j) 0 1 := by
  unfold CR.sgR
  split
  · exact N1.one
  · exact N1.one.neg
def fctP : Nat → Nat
  | 0 => 1
  | n + 1 => (n + 1) * fctP n
theorem N1.detR {E V : Nat} : ∀ {n : Nat} {M : Mtx LP}, (∀ i, i < n → ∀ j, j < n → N1 (M i j) E V) → N1 (Proofs.Ytoaiblhlpdaeoaa.detR n M) (n * E) (fctP n * V ^ n)
  | 0, M, _ => by
    show N1 1 (0 * E) (1 * V ^ 0)
    rw [Nat.zero_mul, Nat.pow_zero]
    exact N1.one
  | n + 1, M, h => by
    have h1 : ∀ j, j < n + 1 → N1 (CR.sgR LP j * (M 0 j * Proofs.Ytoaiblhlpdaeoaa.detR n fun a b => M (a + 1) (CR.skip j b))) ((n + 1) * E) (V * (fctP n * V ^ n)) := fun j hj => by
      have h2 := (N1.sgR j).mul ((h 0 (by omega) j hj).mul (N1.detR (M := fun a b => M (a + 1) (CR.skip j b)) fun i hi k hk => h (i + 1) (by omega) _ (skip_lt hk)))
      refine h2.mono ?_ ?_
      · rw [Nat.succ_mul]; omega
      · rw [Nat.one_mul]; exact Nat.le_refl _
    have h3 := N1.sumN h1
    refine N1.mono (x := CR.sumN (n + 1) _) h3 (Nat.le_refl _) (Nat.le_of_eq ?_)
    show (n + 1) * (V * (fctP n * V ^ n)) = (n + 1) * fctP n * V ^ (n + 1)
    rw [Nat.pow_succ]
    ac_rfl
end LP
end Go.Proofs.Ytoaiblhlpdaeoaa
/- Burau matrices: letters as row operations, the relations of the braid group, row sums, the row 1, t, t^2, .. . -/
namespace Go.Proofs.Ytoaiblhlpdaeoaa
set_option linter.unusedVariables false
set_option linter.unusedSimpArgs false
set_option linter.unusedSectionVars false
open CR

section
variable {R : Type} [CR R]
theorem sumN_two {f : Nat → R} {n a b : Nat} (ha : a < n) (hb : b < n) (hab : a ≠ b) (h : ∀ i, i < n → i ≠ a → i ≠ b → f i = 0) : sumN n f = f a + f b := by
  have e : sumN n f = sumN n (fun i => (if i = a then f a else 0) + (if i = b then f b else 0)) := sumN_congr fun i hi => by
    by_cases h1 : i = a
    · subst h1; rw [if_pos rfl, if_neg hab, add_zero]
    · by_cases h2 : i = b
      · subst h2; rw [if_pos rfl, if_neg h1, zero_add]
      · rw [if_neg h1, if_neg h2, h i hi h1 h2, add_zero]
  rw [e, sumN_add, sumN_single (k := a) ha (fun i _ hne => if_neg hne), sumN_single (k := b) hb (fun i _ hne => if_neg hne), if_pos rfl, if_pos rfl]
theorem mulM_assoc (n : Nat) (A B C : Mtx R) : mulM n (mulM n A B) C = mulM n A (mulM n B C) := by
  funext i j
  show sumN n (fun k => (sumN n fun l => A i l * B l k) * C k j) = sumN n fun l => A i l * sumN n fun k => B l k * C k j
  have e1 : ∀ k, (sumN n fun l => A i l * B l k) * C k j = sumN n fun l => A i l * (B l k * C k j) := fun k => by
    rw [mul_comm, ← sumN_mul]
    exact sumN_congr fun l _ => by ac_rfl
  rw [sumN_congr fun k _ => e1 k, sumN_swap]
  exact sumN_congr fun l _ => sumN_mul _ _ _
/-- Equal within n rows and columns. -/
def EqM (n : Nat) (A B : Mtx R) : Prop := ∀ i, i < n → ∀ j, j < n → A i j = B i j
theorem EqM.refl (n : Nat) (A : Mtx R) : EqM n A A := fun _ _ _ _ => rfl
theorem EqM.symm {n : Nat} {A B : Mtx R} (h : EqM n A B) : EqM n B A := fun i hi j hj => (h i hi j hj).symm
theorem EqM.trans {n : Nat} {A B C : Mtx R} (h : EqM n A B) (k : EqM n B C) : EqM n A C := fun i hi j hj => (h i hi j hj).trans (k i hi j hj)
theorem EqM.mul {n : Nat} {A A' B B' : Mtx R} (h : EqM n A A') (k : EqM n B B') : EqM n (mulM n A B) (mulM n A' B') := fun i hi j hj =>
  sumN_congr fun l hl => by rw [h i hi l hl, k l hl j hj]
theorem EqM.one_mul (n : Nat) (A : Mtx R) : EqM n (mulM n oneM A) A := fun i hi j hj => by
  show sumN n (fun k => oneM i k * A k j) = A i j
  rw [sumN_single (k := i) hi (fun k _ hne => by rw [show (oneM : Mtx R) i k = 0 from if_neg (Ne.symm hne), zero_mul]), show (oneM : Mtx R) i i = 1 from if_pos rfl, CR.one_mul]
theorem EqM.mul_one (n : Nat) (A : Mtx R) : EqM n (mulM n A oneM) A := fun i hi j hj => by
  show sumN n (fun k => A i k * oneM k j) = A i j
  rw [sumN_single (k := j) hj (fun k _ hne => by rw [show (oneM : Mtx R) k j = 0 from if_neg hne, mul_zero]), show (oneM : Mtx R) j j = 1 from if_pos rfl, CR.mul_one]

/-- What a positive letter does to rows a - 1 and a. -/
def opP (t : R) (a : Nat) (A : Mtx R) : Mtx R := fun r c => if r + 1 = a then (1 + -t) * A r c + t * A (r + 1) c else if r = a then A (r - 1) c else A r c
def opN (t : R) (a : Nat) (A : Mtx R) : Mtx R := fun r c => if r + 1 = a then A (r + 1) c else if r = a then t * A (r - 1) c + (1 + -t) * A r c else A r c
theorem EqM.opP {n : Nat} {A B : Mtx R} (t : R) {a : Nat} (ha : a < n) (h : EqM n A B) : EqM n (Proofs.Ytoaiblhlpdaeoaa.opP t a A) (Proofs.Ytoaiblhlpdaeoaa.opP t a B) := fun r hr c hc => by
  unfold Proofs.Ytoaiblhlpdaeoaa.opP
  by_cases h1 : r + 1 = a
  · rw [if_pos h1, if_pos h1, h r hr c hc, h (r + 1) (by omega) c hc]
  · rw [if_neg h1, if_neg h1]
    split
    · exact h _ (by omega) c hc
    · exact h r hr c hc
theorem EqM.opN {n : Nat} {A B : Mtx R} (t : R) {a : Nat} (ha : a < n) (h : EqM n A B) : EqM n (Proofs.Ytoaiblhlpdaeoaa.opN t a A) (Proofs.Ytoaiblhlpdaeoaa.opN t a B) := fun r hr c hc => by
  unfold Proofs.Ytoaiblhlpdaeoaa.opN
  by_cases h1 : r + 1 = a
  · rw [if_pos h1, if_pos h1, h (r + 1) (by omega) c hc]
  · rw [if_neg h1, if_neg h1]
    split
    · rw [h r hr c hc, h _ (by omega) c hc]
    · exact h r hr c hc
end

def tT : LP := LP.term 1 1
def tI : LP := LP.term (-1) 1
/-- The matrix of a letter. -/
def bl (x : Int) : Mtx LP := fun r c =>
  if r + 1 = x.natAbs then (if 0 < x then (if c = r then 1 + -tT else if c = r + 1 then tT else 0) else (if c = r + 1 then 1 else 0))
  else if r = x.natAbs then (if 0 < x then (if c + 1 = r then 1 else 0) else (if c + 1 = r then tI else if c = r then 1 + -tI else 0))
  else if r = c then 1 else 0
/-- The Burau matrix of a word. -/
def bu (n : Nat) : List Int → Mtx LP
  | [] => oneM
  | x :: w => mulM n (bl x) (bu n w)
def opL (x : Int) (A : Mtx LP) : Mtx LP := if 0 < x then opP tT x.natAbs A else opN tI x.natAbs A
theorem bl_mul {n : Nat} {x : Int} (h1 : x ≠ 0) (h2 : x.natAbs < n) (A : Mtx LP) : EqM n (mulM n (bl x) A) (opL x A) := fun r hr c hc => by
  show sumN n (fun k => bl x r k * A k c) = _
  obtain ⟨a, ha⟩ : ∃ a, x.natAbs = a := ⟨_, rfl⟩
  have ha1 : 1 ≤ a := by omega
  unfold opL bl
  rw [ha] at h2 ⊢
  by_cases hx : 0 < x
  · simp only [if_pos hx]
    unfold opP
    by_cases h3 : r + 1 = a
    · simp only [if_pos h3]
      rw [sumN_two (a := r) (b := r + 1) hr (by omega) (by omega) (fun i _ h4 h5 => by rw [if_neg h4, if_neg h5, zero_mul]), if_pos rfl, if_neg (by omega), if_pos rfl]
    · simp only [if_neg h3]
      by_cases h4 : r = a
      · simp only [if_pos h4]
        rw [sumN_single (k := r - 1) (by omega) (fun i _ h5 => by rw [if_neg (by omega), zero_mul]), if_pos (by omega), CR.one_mul]
      · simp only [if_neg h4]
        rw [sumN_single (k := r) hr (fun i _ h5 => by rw [if_neg (fun e => h5 e.symm), zero_mul]), if_pos rfl, CR.one_mul]
  · simp only [if_neg hx]
    unfold opN
    by_cases h3 : r + 1 = a
    · simp only [if_pos h3]
      rw [sumN_single (k := r + 1) (by omega) (fun i _ h5 => by rw [if_neg h5, zero_mul]), if_pos rfl, CR.one_mul]
    · simp only [if_neg h3]
      by_cases h4 : r = a
      · simp only [if_pos h4]
        rw [sumN_two (a := r - 1) (b := r) (by omega) hr (by omega) (fun i _ h5 h6 => by rw [if_neg (by omega), if_neg h6, zero_mul]), if_pos (by omega), if_neg (by omega), if_pos rfl]
      · simp only [if_neg h4]
        rw [sumN_single (k := r) hr (fun i _ h5 => by rw [if_neg (fun e => h5 e.symm), zero_mul]), if_pos rfl, CR.one_mul]
theorem bu_append (n : Nat) : ∀ u v : List Int, EqM n (bu n (u ++ v)) (mulM n (bu n u) (bu n v))
  | [], v => (EqM.one_mul n _).symm
  | x :: u, v => by
    show EqM n (mulM n (bl x) (bu n (u ++ v))) (mulM n (mulM n (bl x) (bu n u)) (bu n v))
    rw [mulM_assoc]
    exact (EqM.refl n _).mul (bu_append n u v)
/-- Letters of a braid word on n strands. -/
def okB (n : Nat) (w : List Int) : Prop := ∀ x ∈ w, x ≠ 0 ∧ x.natAbs < n
theorem EqM.opL {n : Nat} {A B : Mtx LP} {x : Int} (hx : x.natAbs < n) (h : EqM n A B) : EqM n (Proofs.Ytoaiblhlpdaeoaa.opL x A) (Proofs.Ytoaiblhlpdaeoaa.opL x B) := by
  unfold Proofs.Ytoaiblhlpdaeoaa.opL
  split
  · exact h.opP _ hx
  · exact h.opN _ hx
def opW : List Int → Mtx LP → Mtx LP
  | [], A => A
  | x :: w, A => opL x (opW w A)
theorem bu_op {n : Nat} : ∀ {w : List Int}, okB n w → EqM n (bu n w) (opW w oneM)
  | [], _ => EqM.refl _ _
  | x :: w, h => (bl_mul (h x (by simp)).1 (h x (by simp)).2 _).trans ((bu_op fun y hy => h y (by simp [hy])).opL (h x (by simp)).2)
/-- Words that are equal by a relation: what they do to all matrices is equal. -/
def RelB (a b : List Int) : Prop := ∀ A : Mtx LP, opW a A = opW b A
theorem RelB.bu {n : Nat} {a b : List Int} (h : RelB a b) (ha : okB n a) (hb : okB n b) (u v : List Int) : EqM n (bu n (u ++ a ++ v)) (bu n (u ++ b ++ v)) := by
  have e : EqM n (Proofs.Ytoaiblhlpdaeoaa.bu n a) (Proofs.Ytoaiblhlpdaeoaa.bu n b) := (bu_op ha).trans (by rw [h oneM]; exact (bu_op hb).symm)
  refine (bu_append n _ _).trans (EqM.trans ?_ (bu_append n _ _).symm)
  refine EqM.mul ?_ (EqM.refl _ _)
  exact (bu_append n _ _).trans (((EqM.refl n _).mul e).trans (bu_append n _ _).symm)
theorem RelB.symm {a b : List Int} (h : RelB a b) : RelB b a := fun A => (h A).symm
end Go.Proofs.Ytoaiblhlpdaeoaa
/- Braid words: what is wrong with one, where its strands end. -/
namespace Go.Proofs.Ytoaiblhlpdaeoaa
set_option linter.unusedVariables false
set_option linter.unusedSimpArgs false

def okX (n x : Int) : Bool := decide (x ≠ 0 ∧ x < n ∧ -n < x)
def bfault (n : Int) (w : List Int) : Int := if n < 1 ∨ 6 < n then 1 else if 30 < w.length then 2 else if w.all (okX n) then 0 else 3
theorem bfault_zero {n : Int} {w : List Int} (h : bfault n w = 0) : 1 ≤ n ∧ n ≤ 6 ∧ w.length ≤ 30 ∧ ∀ x ∈ w, x ≠ 0 ∧ x < n ∧ -n < x := by
  unfold bfault at h
  split at h
  · omega
  · next h1 =>
    split at h
    · omega
    · next h2 =>
      split at h
      · next h3 => exact ⟨by omega, by omega, by omega, fun x hx => by simpa [okX] using List.all_eq_true.1 h3 x hx⟩
      · omega
theorem bfault_ok {n : Int} {w : List Int} (h1 : 1 ≤ n) (h6 : n ≤ 6) (h : w.length ≤ 30) (hw : ∀ x ∈ w, x ≠ 0 ∧ x < n ∧ -n < x) : bfault n w = 0 := by
  unfold bfault
  rw [if_neg (by omega), if_neg (by omega), if_pos (List.all_eq_true.2 fun x hx => by simpa [okX] using hw x hx)]
/-- Where a strand goes at a letter. -/
def stepE (at_ : Nat) (x : Int) : Nat := if at_ + 1 = x.natAbs then at_ + 1 else if at_ = x.natAbs then at_ - 1 else at_
def endE (w : List Int) (s : Nat) : Nat := w.foldl stepE s
def endsL (n : Nat) (w : List Int) : List Nat := (List.range n).map (endE w)
theorem endsL_length (n : Nat) (w : List Int) : (endsL n w).length = n := by simp [endsL]
theorem stepE_lt {n at_ : Nat} {x : Int} (hx : x ≠ 0) (h1 : x.natAbs < n) (h : at_ < n) : stepE at_ x < n := by
  unfold stepE
  split
  · omega
  · split <;> omega
theorem endE_append (u v : List Int) (s : Nat) : endE (u ++ v) s = endE v (endE u s) := by unfold endE; rw [List.foldl_append]
theorem endE_snoc (w : List Int) (x : Int) (s : Nat) : endE (w ++ [x]) s = stepE (endE w s) x := by rw [endE_append]; rfl
theorem okB_of {n : Nat} {w : List Int} (h : ∀ x ∈ w, x ≠ 0 ∧ x < (n : Int) ∧ -(n : Int) < x) : okB n w := fun x hx => by have := h x hx; omega
/-- Words that act alike on all strands. -/
def RelE (a b : List Int) : Prop := ∀ s, endE a s = endE b s
theorem RelE.ends {a b : List Int} (h : RelE a b) (n : Nat) (u v : List Int) : endsL n (u ++ a ++ v) = endsL n (u ++ b ++ v) := by
  unfold endsL
  refine List.map_congr_left fun s _ => ?_
  rw [endE_append, endE_append, endE_append, endE_append, h]
theorem stepE_twice {x : Int} (h : x ≠ 0) (s : Nat) : stepE (stepE s x) x = s := by
  unfold stepE
  by_cases h1 : s + 1 = x.natAbs
  · rw [if_pos h1, if_neg (by omega), if_pos (by omega)]; omega
  · rw [if_neg h1]
    by_cases h2 : s = x.natAbs
    · rw [if_pos h2, if_pos (by omega)]; omega
    · rw [if_neg h2, if_neg h1, if_neg h2]
end Go.Proofs.Ytoaiblhlpdaeoaa
/- timbref1.Core: the cyclically reduced part. -/
namespace Go.Proofs.Ytoaiblhlpdaeoaa
set_option linter.unusedVariables false
set_option linter.unusedSimpArgs false
open Go.RowKit

theorem IL.mid {w : World} {ad : Addr} {n k m : Nat} {xs : List Int} (h : IL w (some ad) n xs) (hk : k + m ≤ n) : IL w (some (ad.add k)) m ((xs.drop k).take m) := by
  have hl := h.len
  refine ⟨by simp; omega, by have := h.small; omega, fun h0 => ?_⟩
  obtain ⟨ad', e, hlt, hc⟩ := h.mem (by omega)
  injection e with e
  subst e
  refine ⟨ad.add k, rfl, by rw [block_of_add]; exact hlt, fun j hj => ?_⟩
  rw [add_of_add, hc (k + j) (by omega)]
  simp [List.getD, List.getElem?_take, List.getElem?_drop, hj]
end Go.Proofs.Ytoaiblhlpdaeoaa
/- timbmake.Perm. -/
namespace Go.Proofs.Ytoaiblhlpdaeoaa
set_option linter.unusedVariables false
set_option linter.unusedSimpArgs false
open Go.RowKit

/-- The state of the loop: what is out, what is left. -/
def MpState (n : Nat) (raws : List Int) (os rs : List Nat) : Prop := (os ++ rs).Perm (List.range n) ∧ (raws = [] → os ++ rs = List.range n)

theorem rest_tail {w8 w9 : World} {B5 g5 m c5 i c9 : Nat} {A9 B10 : Option Addr} {xs ys : List Int} (hr : OwnI w8 B5 (some ⟨g5, 0, none⟩) m c5 xs) (hg : g5 < w8.heap.size)
    (h9 : Appended (w8.alloc (.cells #[] 3)).drew w8.heap.size (some ⟨w8.heap.size, 0, none⟩) (0 + i) 0 ys A9 c9 w9) (hi : i + 1 ≤ m)
    (hB : (if c5 = i + 1 then some (⟨g5, 0, none⟩ : Addr) else some ⟨g5, i + 1, none⟩) = B10) : IL w9 B10 (m - (i + 1)) (xs.drop (i + 1)) := by
  have h1 : OwnI w9 B5 (some ⟨g5, 0, none⟩) m c5 xs := (hr.alloc _).drew.kept h9.grown (.inr (by simp [Value.ownBlock]; omega))
  have h2 := h1.il.tail (k := i + 1) (d := c5) hi h1.cap
  rw [Nat.zero_add, hB] at h2
  exact h2

theorem mp_keep {w w8 w9 w10 : World} {k c8 i j c9 c10 : Nat} {A8 A9 A10 : Option Addr} {xs ys ys' : List Int} (hB8 : Below w.heap.size w w8) (ho : OwnI w8 w.heap.size A8 k c8 xs)
    (h9 : Appended (w8.alloc (.cells #[] 3)).drew w8.heap.size (some ⟨w8.heap.size, 0, none⟩) (0 + i) 0 ys A9 c9 w9) (h10 : Appended w9 w8.heap.size A9 j c9 ys' A10 c10 w10) :
    OwnI w10 w.heap.size A8 k c8 xs ∧ Below w.heap.size w w10 ∧ w.heap.size ≤ w8.heap.size ∧ (∀ g, (Value.slice A8 k c8).ownBlock = some g → g < w8.heap.size) := by
  have hs := hB8.size
  have hlt : ∀ g, (Value.slice A8 k c8).ownBlock = some g → g < w8.heap.size := fun g hg => (ho.lt g hg).2
  have hA9 : ∀ g, (Value.slice A9 j c9).ownBlock = some g → w8.heap.size ≤ g := by
    intro g hg
    rcases h9.lies with e | e
    · rw [ownBlock_len A9 j (0 + i) c9 c9, e] at hg
      simp [Value.ownBlock] at hg
      omega
    · rw [ownBlock_len A9 j (0 + i) c9 c9, e] at hg
      simp at hg
      omega
  have o9 : OwnI w9 w.heap.size A8 k c8 xs := (ho.alloc _).drew.kept h9.grown (by
    rcases hb : (Value.slice A8 k c8).ownBlock with _ | g
    · exact .inl rfl
    · refine .inr ?_
      have := hlt g hb
      simp [Value.ownBlock]; omega)
  have o10 : OwnI w10 w.heap.size A8 k c8 xs := o9.kept h10.grown (by
    rcases hb : (Value.slice A8 k c8).ownBlock with _ | g
    · exact .inl rfl
    · refine .inr fun e => ?_
      have := hlt g hb
      have := hA9 g e.symm
      omega)
  have b9 : Below w.heap.size w w9 := ((hB8.alloc hs _).drew).grown h9.grown (by simp; omega) (by intro g hg; simp [Value.ownBlock] at hg; omega)
  have b10 : Below w.heap.size w w10 := b9.grown h10.grown b9.size (fun g hg => by have := hA9 g hg; omega)
  exact ⟨o10, b10, hs, hlt⟩

theorem mp_state {n : Nat} {raws : List Int} {os rs : List Nat} {i q : Nat} (hi : i < rs.length) (hq : rs.getD i 0 = q) (hraw : raws = [] → i = 0) (h : MpState n raws os rs) :
    MpState n raws (os ++ [q]) (rs.take i ++ rs.drop (i + 1)) := by
  subst hq
  refine ⟨perm_take hi h.1, fun hr => ?_⟩
  obtain rfl := hraw hr
  exact range_take hi (h.2 hr)
theorem mp_rest {w : World} {base m i c m2 : Nat} {A : Option Addr} {rs : List Nat} (h : OwnI w base A (0 + i + (m - (i + 1))) c ([] ++ (zs rs).take i ++ (zs rs).drop (i + 1))) (hm2 : m2 = 0 + i + (m - (i + 1))) :
    OwnI w base A m2 c (zs (rs.take i ++ rs.drop (i + 1))) := by
  rw [List.nil_append, zs_take, zs_drop, zs_append] at h
  rw [hm2]
  exact h
theorem mp_out {w : World} {base k c : Nat} {A : Option Addr} {os : List Nat} {q : Nat} (h : OwnI w base A k c (zs os ++ [(q : Int)])) : OwnI w base A k c (zs (os ++ [q])) := by
  have e : zs os ++ [(q : Int)] = zs (os ++ [q]) := by simp [zs]
  rw [← e]
  exact h
/-- What timbmake.Perm gives. -/
def GivesPerm (n : Nat) (raws : List Int) (w : World) (e : Ending) (w' : World) : Prop := ∃ a : List Nat, isP a ∧ a.length = n ∧ (raws = [] → a = List.range n) ∧ GivesOwn w (zs a) e w'

set_option maxHeartbeats 2000000 in
theorem mperm_any (n : Nat) (A : Option Addr) (r c : Nat) (raws : List Int) (w : World) (hr : IL w A r raws) (hn : n ≤ 1000) :
    Calls Try.prog 40 #[.int .i64 n, .slice A r c] w (GivesPerm n raws w) := by
  obtain ⟨i0, hi0, hz0, hz1, hz2⟩ := info_parts int_info
  have hr63 := hr.small
  go_enter Try.func40, Try.ntmps40
  go_wp2_with (at_make; refine wpList_make_full _ rfl _ _ 22 rfl w.heap.size 3 i0 (.int .i64 0) 1 Try.underlying22 hi0 hz0 hz1 .i64 .i64 _ _ n rfl rfl rfl rfl (by rw [hz2]; omega) (by unfold maxLen; omega) (Nat.le_refl _) ?_; intro w1 hown1 hg1)
  have hB1 : Below w.heap.size w w1 := (Below.refl _ _).grown hg1 (Nat.le_refl _) (by intro k hk; cases hk)
  have hw1 := OwnI.zero (z := #[]) hown1 (by omega)
  clear hown1 hg1
  go_loopw [14] (fun i wr => ∃ k : Nat, k ≤ n ∧ i = .int .i64 k ∧ OwnI wr w.heap.size (some ⟨w.heap.size, 0, none⟩) n n (fillN (fun j => (j : Int)) n k) ∧ Below w.heap.size w wr) (fun i _ => n - (intOf i).toNat)
  case atStart => exact ⟨0, Nat.zero_le _, rfl, by rw [fillN_zero]; exact hw1, hB1⟩
  case round =>
    obtain ⟨k, hk, rfl, hown, hnx⟩ := hrel
    clear hw1 hB1
    by_cases hlt : k < n
    · have hcell := hown.cell hlt
      have hfr := hown.frozen k
      have HS := hide (hown.set_ k (k : Int))
      clear hown
      generalize hz : (fillN (fun j => (j : Int)) n k).getD k 0 = z at *
      clear hz
      go_wp2
      go_roundw
      case rel =>
        refine ⟨k + 1, by omega, by go_num, ?_, hnx.setCell (Nat.le_refl _) _⟩
        have := HS.out
        rw [fillN_set (fun j => (j : Int))] at this
        exact this
      case measure => simp [intOf]; omega
    · have HF : Hid (fillN (fun j => (j : Int)) n k = zs (List.range n)) := by
        obtain rfl : k = n := by omega
        exact fillN_full (by simp [zs]) (fun j hj => by rw [zs_getD, range_getD hj])
      rw [HF.out] at hown
      go_wp2
      have hw0 : OwnI wr w.heap.size none 0 0 [] := OwnI.nil_ wr _
      go_loopw [5, 7, 8] (fun rest out kk wr => ∃ (os rs : List Nat) (k m B5 c5 c7 : Nat) (A5 A7 : Option Addr), rest = .slice A5 m c5 ∧ out = .slice A7 k c7 ∧ kk = .int .i64 k ∧ k + m = n ∧
          OwnI wr B5 A5 m c5 (zs rs) ∧ OwnI wr w.heap.size A7 k c7 (zs os) ∧ w.heap.size ≤ B5 ∧ (∀ g, (Value.slice A7 k c7).ownBlock = some g → g < B5) ∧ Hid (MpState n raws os rs) ∧ Below w.heap.size w wr) (fun rest out kk _ => n - (intOf kk).toNat)
      case atStart => exact ⟨[], List.range n, 0, n, w.heap.size, n, 0, _, none, rfl, rfl, rfl, by omega, hown, hw0, Nat.le_refl _, (by intro g hg; cases hg), ⟨by simp, fun _ => by simp⟩, hnx⟩
      case round =>
        clear hown hw0 hnx HF hk hlt
        obtain ⟨os, rs, k2, m, B5, c5, c7, A5, A7, rfl, rfl, rfl, hkm, hrest, hout, hB5, hlies, hst, hnx⟩ := hrel
        by_cases hm : 0 < m
        · obtain ⟨g5, rfl, hg5, hg5l⟩ := hrest.form hm
          have HRL := hide hrest.len
          have HRAW := hide hr.len
          have hraw := hr.below hnx
          by_cases hkr : k2 < r
          · obtain ⟨ad, rfl, hca⟩ := hraw.at_ hkr
            clear hr hraw
            generalize raws.getD k2 0 = x at *
            obtain ⟨i, hi⟩ : ∃ i : Nat, x % (m : Int) = (i : Int) := ⟨(x % (m : Int)).toNat, by have := Int.emod_nonneg x (show (m : Int) ≠ 0 by omega); omega⟩
            have him : i < m := by have := Int.emod_lt_of_pos x (show (0 : Int) < m by omega); omega
            have HC : Hid (∀ w, Calls Try.prog 65 #[.int .i64 x, .int .i64 m] w fun e w' => e = .returned (.int .i64 i) ∧ w = w') := fun w => by
              have := mbelow_any x m w hm (by omega)
              rw [hi] at this
              exact this
            clear hi
            have HK := hide hkm
            clear hkm
            have hic := hrest.cell him
            rw [zs_getD] at hic
            generalize hq : rs.getD i 0 = q at *
            have HQ := hide hq
            clear hq
            have hcap5 := hrest.cap
            go_wp2_with (first | (go_at_call 65; refine (HC.out _).mono ?_; rintro e w' ⟨rfl, rfl⟩) | (at_builtin; refine wpList_append_int _ rfl (.tmp 38) (.tmp 43) 22 rfl w.heap.size i0 Try.underlying22 hi0 hz0 hz1 hz2 A7 _ c7 (zs os) rfl (hout.alloc _) (some ⟨wr.heap.size, 0, none⟩) 1 1 [(q : Int)] rfl (IL.lit wr [(q : Int)] (by simp) rfl rfl) (by omega) (by have := hnx.size; simp; omega) ?_; intro A8 c8 w8 happ))
            have hB8 : Below w.heap.size w w8 := (hnx.alloc hnx.size _).grown happ.grown (by have := hnx.size; simp; omega) (fun g hg => (hout.lt g (by rw [ownBlock_len A7 k2 (k2 + 1) c7 c7]; exact hg)).1)
            have hrest8 : OwnI w8 B5 (some ⟨g5, 0, none⟩) m c5 (zs rs) := (hrest.alloc _).kept happ.grown (.inr (by
              intro he
              have := hlies g5 (by rw [ownBlock_len A7 k2 (k2 + 1) c7 c7]; exact he.symm)
              omega))
            have hm1000 : m ≤ 1000 := by have := HK.out; omega
            have hic5 : i ≤ c5 := by omega
            have hl1 := (hrest8.il.alloc (.cells #[] 3)).drew
            have hpre := hl1.pre (k := i) (by omega)
            have hg58 : g5 < w8.heap.size := (hrest8.lt g5 rfl).2
            have him1 : i + 1 ≤ m := him
            have HR8 := hide hrest8
            have HO8 := hide happ.own
            have hwr : IntKind.i64.wrap ((i : Int) + 1) = (i : Int) + 1 := by rw [IntKind.wrap_i64]; omega
            have hp0 : (0 : Int) ≤ (i : Int) + 1 := by omega
            have hp1 : (i : Int) + 1 ≤ (m : Int) := by omega
            have hp2 : ((i : Int) + 1).toNat = i + 1 := by omega
            obtain ⟨B10, hB10⟩ : ∃ B, (if c5 = i + 1 then some (⟨g5, 0, none⟩ : Addr) else some ⟨g5, i + 1, none⟩) = B := ⟨_, rfl⟩
            have HB10 := hide hB10
            have hl0 : OwnI (w8.alloc (.cells #[] 3)).drew w8.heap.size (some ⟨w8.heap.size, 0, none⟩) 0 0 [] := OwnI.drew (OwnI.lit w8 [] (Nat.le_refl _) (by simp) rfl rfl rfl)
            clear hl1 hrest8 hrest hout hca hic
            go_region_law (first | (refine step_append_int _ rfl (.tmp 45) (.tmp 48) 22 rfl w8.heap.size i0 Try.underlying22 hi0 hz0 hz1 hz2 (some ⟨w8.heap.size, 0, none⟩) 0 0 [] (by simp [Act.eval, Act.put]) hl0 (some ⟨g5, 0, none⟩) i c5 ((zs rs).take i) (by simp [Act.eval, Act.put]) hpre (by omega) (by simp) ?_; intro A9 c9 w9 h9; have hq9 : IL w9 B10 (m - (i + 1)) ((zs rs).drop (i + 1)) := rest_tail HR8.out hg58 h9 him1 HB10.out; have hsz9 : w8.heap.size ≤ w9.heap.size := Nat.le_of_succ_le (by simpa using h9.grown.size)) | (refine step_append_int _ rfl (.tmp 49) (.tmp 53) 22 rfl w8.heap.size i0 Try.underlying22 hi0 hz0 hz1 hz2 A9 (0 + i) c9 ([] ++ (zs rs).take i) (by simp [Act.eval, Act.put]) h9.own B10 (m - (i + 1)) (c5 - (i + 1)) ((zs rs).drop (i + 1)) (by simp [Act.eval, Act.put]) hq9 (by omega) hsz9 ?_; intro A10 c10 w10 h10))
            have HX := hide (mp_keep hB8 HO8.out h9 h10)
            have HY := hide h10.own
            clear h9 h10 hB8 happ hnx
            go_wp2
            go_roundw
            case rel =>
              have hx := HX.out
              have hk := HK.out
              exact ⟨os ++ [q], rs.take i ++ rs.drop (i + 1), k2 + 1, _, _, _, _, _, _, rfl, rfl, by go_num, by omega, mp_rest HY.out (by omega), mp_out hx.1, hx.2.2.1, hx.2.2.2,
                mp_state (by have := HRL.out; rw [zs_length] at this; omega) HQ.out (by intro hr0; have := HRAW.out; rw [hr0] at this; simp at this; omega) hst.out, hx.2.1⟩
            case measure => have := HK.out; simp [intOf]; omega
          · clear hr hraw
            have hkr' : ¬ k2 < r := hkr
            have hk1000 : k2 ≤ 1000 := by omega
            have HK := hide hkm
            clear hkm
            have hic := hrest.cell hm
            rw [zs_getD] at hic
            generalize hq : rs.getD 0 0 = q at *
            have HQ := hide hq
            clear hq
            have hcap5 := hrest.cap
            go_wp2_with ((at_builtin; refine wpList_append_int _ rfl (.tmp 38) (.tmp 43) 22 rfl w.heap.size i0 Try.underlying22 hi0 hz0 hz1 hz2 A7 _ c7 (zs os) rfl (hout.alloc _) (some ⟨wr.heap.size, 0, none⟩) 1 1 [(q : Int)] rfl (IL.lit wr [(q : Int)] (by simp) rfl rfl) (by omega) (by have := hnx.size; simp; omega) ?_; intro A8 c8 w8 happ))
            have hB8 : Below w.heap.size w w8 := (hnx.alloc hnx.size _).grown happ.grown (by have := hnx.size; simp; omega) (fun g hg => (hout.lt g (by rw [ownBlock_len A7 k2 (k2 + 1) c7 c7]; exact hg)).1)
            have hrest8 : OwnI w8 B5 (some ⟨g5, 0, none⟩) m c5 (zs rs) := (hrest.alloc _).kept happ.grown (.inr (by
              intro he
              have := hlies g5 (by rw [ownBlock_len A7 k2 (k2 + 1) c7 c7]; exact he.symm)
              omega))
            have hm1000 : m ≤ 1000 := by have := HK.out; omega
            have hm5 : 1 ≤ c5 := by omega
            have hl1 := (hrest8.il.alloc (.cells #[] 3)).drew
            have hpre := hl1.pre (k := 0) (by omega)
            have hg58 : g5 < w8.heap.size := (hrest8.lt g5 rfl).2
            have hm1 : 0 + 1 ≤ m := hm
            have HR8 := hide hrest8
            have HO8 := hide happ.own
            have hwr : IntKind.i64.wrap 1 = 1 := by decide
            have hp1 : (1 : Int) ≤ (m : Int) := by omega
            obtain ⟨B10, hB10⟩ : ∃ B, (if c5 = 0 + 1 then some (⟨g5, 0, none⟩ : Addr) else some ⟨g5, 0 + 1, none⟩) = B := ⟨_, rfl⟩
            have HB10 := hide hB10
            simp only [Nat.zero_add] at hB10
            have hl0 : OwnI (w8.alloc (.cells #[] 3)).drew w8.heap.size (some ⟨w8.heap.size, 0, none⟩) 0 0 [] := OwnI.drew (OwnI.lit w8 [] (Nat.le_refl _) (by simp) rfl rfl rfl)
            clear hl1 hrest8 hrest hout hic
            go_region_law (first | (refine step_append_int _ rfl (.tmp 45) (.tmp 48) 22 rfl w8.heap.size i0 Try.underlying22 hi0 hz0 hz1 hz2 (some ⟨w8.heap.size, 0, none⟩) 0 0 [] (by simp [Act.eval, Act.put]) hl0 (some ⟨g5, 0, none⟩) 0 c5 ((zs rs).take 0) (by simp [Act.eval, Act.put]) hpre (by omega) (by simp) ?_; intro A9 c9 w9 h9; have hq9 : IL w9 B10 (m - (0 + 1)) ((zs rs).drop (0 + 1)) := rest_tail HR8.out hg58 h9 hm1 HB10.out; have hsz9 : w8.heap.size ≤ w9.heap.size := Nat.le_of_succ_le (by simpa using h9.grown.size)) | (refine step_append_int _ rfl (.tmp 49) (.tmp 53) 22 rfl w8.heap.size i0 Try.underlying22 hi0 hz0 hz1 hz2 A9 (0 + 0) c9 ([] ++ (zs rs).take 0) (by simp [Act.eval, Act.put]) h9.own B10 (m - (0 + 1)) (c5 - (0 + 1)) ((zs rs).drop (0 + 1)) (by simp [Act.eval, Act.put]) hq9 (by omega) hsz9 ?_; intro A10 c10 w10 h10))
            have HX := hide (mp_keep hB8 HO8.out h9 h10)
            have HY := hide h10.own
            clear h9 h10 hB8 happ hnx
            go_wp2
            go_roundw
            case rel =>
              have hx := HX.out
              have hk := HK.out
              exact ⟨os ++ [q], rs.take 0 ++ rs.drop (0 + 1), k2 + 1, _, _, _, _, _, _, rfl, rfl, by go_num, by omega, mp_rest HY.out (by omega), mp_out hx.1, hx.2.2.1, hx.2.2.2,
                mp_state (by have := HRL.out; rw [zs_length] at this; omega) HQ.out (fun _ => rfl) hst.out, hx.2.1⟩
            case measure => have := HK.out; simp [intOf]; omega
        · have HRL := hide hrest.len
          have hm0 : m = 0 := by omega
          subst hm0
          have hkn : k2 = n := by omega
          have HK := hide hkn
          clear hkm hkn hr
          go_wp2
          go_ret
          have hrs : rs = [] := List.eq_nil_of_length_eq_zero (by have := HRL.out; rw [zs_length] at this; exact this)
          subst hrs
          obtain ⟨h1, h2⟩ := hst.out
          rw [List.append_nil] at h1 h2
          exact ⟨os, (isP_of_perm h1).1, (isP_of_perm h1).2, h2, _, _, _, rfl, hout, hnx⟩
end Go.Proofs.Ytoaiblhlpdaeoaa
/- What package freegroup's functions are to answer (words alone), and what follows for the facts free and reduced that the laws begin with. -/
namespace Go.Proofs.Ytoaiblhlpdaeoaa
set_option linter.unusedVariables false
set_option linter.unusedSimpArgs false
open Go.RowKit

/-- A slice and an error. -/
def GivesLE (w : World) (err : Int) (xs : List Int) (e : Ending) (w' : World) : Prop :=
  ∃ A n c, e = .returned (.tuple #[.slice A n c, .int .i64 err]) ∧ SL w' A n c xs ∧ Below w.heap.size w w'

/-- The same, the slice in memory that was not there before. -/
def GivesLEn (w : World) (err : Int) (xs : List Int) (e : Ending) (w' : World) : Prop :=
  ∃ A n c, e = .returned (.tuple #[.slice A n c, .int .i64 err]) ∧ SL w' A n c xs ∧ (0 < n → ∀ ad, A = some ad → w.heap.size ≤ ad.block) ∧ Below w.heap.size w w'
theorem GivesLEn.le {w : World} {err : Int} {xs : List Int} {e : Ending} {w' : World} (h : GivesLEn w err xs e w') : GivesLE w err xs e w' := by
  obtain ⟨A, n, c, h1, h2, _, h3⟩ := h
  exact ⟨A, n, c, h1, h2, h3⟩

end Go.Proofs.Ytoaiblhlpdaeoaa
