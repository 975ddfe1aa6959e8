/- Several texts of the walk in one. -/
import Derived.Test.YtihpmdfeonphpaaBase
import Derived.Test.YtihpmdfeonphpaaPart1
import Derived.Handy
import Derived.Deep.DeepCutAuto
import Derived.Laws.BitsAllLaws
/- What package laurent's functions are to answer. -/
namespace Go.Proofs.Ytihpmdfeonphpaa
set_option linter.unusedVariables false
set_option linter.unusedSimpArgs false
open Go.RowKit

/-- A polynomial as a value. -/
abbrev PV (lo : Int) (A : Option Addr) (n c : Nat) : Value := .agg #[.int .i64 lo, .slice A n c]
/-- The slice lies in memory that w has not. -/
def NewA (w : World) (A : Option Addr) (n : Nat) : Prop := 0 < n → ∀ ad, A = some ad → w.heap.size ≤ ad.block
theorem SL.setCell {w : World} {A : Option Addr} {n c : Nat} {xs : List Int} (h : SL w A n c xs) {b : Nat} (hb : 0 < n → ∀ ad, A = some ad → ad.block ≠ b) (i : Nat) (v : Value) : SL (w.setCell ⟨b, i, none⟩ v) A n c xs :=
  ⟨⟨h.il.len, h.il.small, fun hn => by
    obtain ⟨ad, e, hl, hc⟩ := h.il.mem hn
    refine ⟨ad, e, by simpa using hl, fun j hj => ?_⟩
    rw [← hc j hj]
    exact World.cell?_setCell_other (w := w) (a := ⟨b, i, none⟩) (b := ad.add j) v (by intro e2; exact hb hn ad e (by have := congrArg Addr.block e2; rw [block_of_add] at this; exact this.symm))⟩, h.nil, h.cap⟩
/-- A polynomial and an error. -/
def GivesPE (w : World) (r : LP.PR) (e : Ending) (w' : World) : Prop :=
  ∃ A n c, e = .returned (.tuple #[PV r.2.1 A n c, .int .i64 r.1]) ∧ SL w' A n c r.2.2 ∧ NewA w A n ∧ Below w.heap.size w w'
/-- A polynomial. -/
def GivesP (w : World) (lo : Int) (cs : List Int) (e : Ending) (w' : World) : Prop :=
  ∃ A n c, e = .returned (PV lo A n c) ∧ SL w' A n c cs ∧ NewA w A n ∧ Below w.heap.size w w'

/-- Package laurent, as the document asks. -/
structure PolyC : Prop where

end Go.Proofs.Ytihpmdfeonphpaa
/- timbmake.Poly. -/
namespace Go.Proofs.Ytihpmdfeonphpaa
set_option linter.unusedVariables false
set_option linter.unusedSimpArgs false
open Go.RowKit

def lenV : Value → Nat
  | .slice _ n _ => n
  | _ => 0
def rawC (raw : List Int) : List Int := (raw.take 12).map fun x => x % 101 - 50
/-- The polynomial that raw numbers give. -/
noncomputable def mkP (low : Int) (raw : List Int) : LP := LP.of (low % 21 - 10) (rawC raw)

theorem LP.of_zeros {C : List Int} (lo : Int) (h : ∀ j, j < C.length → C.getD j 0 = 0) : LP.of 0 [] = LP.of lo C := LP.ext fun k => by
  rw [LP.co_of, LP.co_of]
  rw [if_neg (by simp only [List.length_nil]; omega)]
  split
  · next hk => rw [h _ (by omega)]
  · rfl
theorem LP.of_trim {C : List Int} (lo : Int) {i m : Nat} (him : i + m ≤ C.length) (h1 : ∀ j, j < i → C.getD j 0 = 0) (h2 : ∀ j, i + m ≤ j → j < C.length → C.getD j 0 = 0) : LP.of (lo + i) ((C.drop i).take m) = LP.of lo C := LP.ext fun k => by
  have hl : ((C.drop i).take m).length = m := by simp; omega
  rw [LP.co_of, LP.co_of, hl]
  by_cases hk : lo + i ≤ k ∧ k < lo + i + m
  · rw [if_pos hk, if_pos (by omega)]
    simp only [List.getD_eq_getElem?_getD, List.getElem?_take, List.getElem?_drop]
    rw [if_pos (by omega), show i + (k - (lo + i)).toNat = (k - lo).toNat by omega]
  · rw [if_neg hk]
    split
    · next h =>
      by_cases h3 : k < lo + i
      · exact (h1 _ (by omega)).symm
      · exact (h2 _ (by omega) (by omega)).symm
    · rfl
theorem SL.tail_ {w : World} {ad : Addr} {m d : Nat} {xs : List Int} (h : SL w (some ad) m d xs) (hm : 0 < m) : SL w (if d = 1 then some ad else some ⟨ad.block, ad.off + 1, none⟩) (m - 1) (d - 1) (xs.drop 1) := by
  have hc := h.cap
  have hl := h.il.len
  by_cases hd : d = 1
  · rw [if_pos hd]
    refine ⟨⟨by rw [List.length_drop]; omega, by have := h.il.small; omega, fun h0 => by omega⟩, fun e => (by cases e), by omega⟩
  · have h2 := h.il.cut (l := 1) (h := m) (by omega) (Nat.le_refl _) hc
    unfold cutA at h2
    rw [if_neg hd] at h2
    rw [if_neg hd]
    have e : (some ad).map (·.add 1) = some (⟨ad.block, ad.off + 1, none⟩ : Addr) := by simp [Addr.add]
    rw [e, List.take_of_length_le (by rw [List.length_drop]; omega)] at h2
    exact ⟨h2, fun e => (by cases e), by omega⟩
theorem SL.init_ {w : World} {A : Option Addr} {m d k : Nat} {xs : List Int} (h : SL w A m d xs) (hk : k ≤ m) (hA : A ≠ none) : SL w A k d (xs.take k) := ⟨h.il.pre hk, fun e => absurd e hA, by have := h.cap; omega⟩

end Go.Proofs.Ytihpmdfeonphpaa
/- Sums and products of small polynomials fit. -/
namespace Go.Proofs.Ytihpmdfeonphpaa
set_option linter.unusedVariables false
set_option linter.unusedSimpArgs false
open Go.RowKit
namespace LP
/-- A right polynomial. -/
def Rt (x : LP) : Prop := pfl (canon x).1 (canon x).2 = 0
theorem mulR_canon {x y : LP} (hx : Rt x) (hy : Rt y) (h : Rt (x * y)) : mulR (canon x).1 (canon x).2 (canon y).1 (canon y).2 = (0, (canon (x * y)).1, (canon (x * y)).2) := by
  unfold Rt at *
  unfold mulR two2
  rw [if_pos hx, if_pos hy, of_canon, of_canon, fit_ok h]
theorem addR_canon {x y : LP} (hx : Rt x) (hy : Rt y) (h : Rt (x + y)) : addR (canon x).1 (canon x).2 (canon y).1 (canon y).2 = (0, (canon (x + y)).1, (canon (x + y)).2) := by
  unfold Rt at *
  unfold addR two2
  rw [if_pos hx, if_pos hy, of_canon, of_canon, fit_ok h]
theorem subR_canon {x y : LP} (hx : Rt x) (hy : Rt y) (h : Rt (x + -y)) : subR (canon x).1 (canon x).2 (canon y).1 (canon y).2 = (0, (canon (x + -y)).1, (canon (x + -y)).2) := by
  unfold Rt at *
  unfold subR two2
  rw [if_pos hx, if_pos hy, of_canon, of_canon, fit_ok h]
theorem Rt.wf {x : LP} (h : Rt x) : (Lit.int .i64 (canon x).1).wf = true := by
  obtain ⟨_, h1, h2, _⟩ := pfl_zero h
  have h3 : IntKind.i64.min = -9223372036854775808 := by decide
  simp [Lit.wf, h3]
  omega
end LP
theorem rawC_len (raw : List Int) : (rawC raw).length ≤ 12 := by unfold rawC; rw [List.length_map, List.length_take]; omega
theorem rawC_le (raw : List Int) : ∀ c ∈ rawC raw, c.natAbs ≤ 50 := fun c hc => by
  obtain ⟨x, _, rfl⟩ := List.mem_map.1 hc
  have h1 := Int.emod_nonneg x (show (101 : Int) ≠ 0 by omega)
  have h2 := Int.emod_lt_of_pos x (show (0 : Int) < 101 by omega)
  omega
theorem mkP_sm (low : Int) (raw : List Int) : LP.Sm (mkP low raw) (-10) 21 50 := by
  have h1 := Int.emod_nonneg low (show (21 : Int) ≠ 0 by omega)
  have h2 := Int.emod_lt_of_pos low (show (0 : Int) < 21 by omega)
  exact (LP.Sm.of_ (rawC_len raw) (rawC_le raw)).mono (by omega) (by omega) (Nat.le_refl _)
/-- A product with such a polynomial. -/
theorem mkP_mul (low : Int) (raw : List Int) {y : LP} {l h : Int} {C : Nat} (hy : LP.Sm y l h C) : LP.Sm (mkP low raw * y) (l - 10) (h + 21) (12 * (50 * C)) := by
  have h1 := Int.emod_nonneg low (show (21 : Int) ≠ 0 by omega)
  have h2 := Int.emod_lt_of_pos low (show (0 : Int) < 21 by omega)
  exact (LP.Sm.mul_of (rawC_len raw) (rawC_le raw) hy).mono (by omega) (by omega) (Nat.le_refl _)
end Go.Proofs.Ytihpmdfeonphpaa
/- Values, conjugates and normal forms of small polynomials. -/
namespace Go.Proofs.Ytihpmdfeonphpaa
set_option linter.unusedVariables false
set_option linter.unusedSimpArgs false
open Go.RowKit
namespace LP
theorem Sm.conj_ {x : LP} {l h : Int} {B : Nat} (hx : Sm x l h B) : Sm (conj x) (-h) (-l) B :=
  ⟨fun k hk => by rw [co_conj] at hk; have := hx.supp _ hk; omega, fun k => by rw [co_conj]; exact hx.le _⟩
theorem conjR_canon {x : LP} (hx : Rt x) (h : Rt (conj x)) : conjR (canon x).1 (canon x).2 = (0, (canon (conj x)).1, (canon (conj x)).2) := by
  unfold Rt at hx
  unfold conjR one1
  rw [if_pos hx, of_canon, fit_ok h]
theorem normR_canon {x : LP} (hx : Rt x) : normR (canon x).1 (canon x).2 = (0, 0, normC (canon x).2) := by
  unfold Rt at hx
  unfold normR one1
  rw [if_pos hx]
theorem evalR_canon {x : LP} (hx : Rt x) {u : Int} (hu : u = 1 ∨ u = -1) : evalE (canon x).1 (canon x).2 u = 0 ∧ evalV (canon x).1 (canon x).2 u = ev (decide (u = -1)) x := by
  unfold Rt at hx
  have h : evalE (canon x).1 (canon x).2 u = 0 := by unfold evalE; rw [if_pos hx, if_pos hu]
  refine ⟨h, ?_⟩
  unfold evalV
  rw [if_pos h, of_canon]
theorem pw_cases (neg : Bool) (e : Int) : pw neg e = 1 ∨ pw neg e = -1 := by unfold pw; split <;> simp
theorem ev_of_le (neg : Bool) {cs : List Int} {lo : Int} {B n : Nat} (hn : cs.length ≤ n) (h : ∀ c ∈ cs, c.natAbs ≤ B) : (ev neg (of lo cs)).natAbs ≤ n * B := by
  unfold ev
  rw [lin_of]
  refine Nat.le_trans (natAbs_sumN (D := B) fun i hi => ?_) (Nat.mul_le_mul_right _ hn)
  rw [Int.natAbs_mul]
  have h1 := h _ (getD_mem' hi)
  rcases pw_cases neg (lo + i) with e | e <;> rw [e] <;> simpa using h1
/-- A unit. -/
theorem canon_term (e s : Int) (hs : s = 1 ∨ s = -1) : canon (of e [s]) = (e, [s]) := canon_of (.inr ⟨by simp, by rcases hs with rfl | rfl <;> decide, by rcases hs with rfl | rfl <;> decide⟩)
theorem of_one (e s : Int) : of e [s] = term e s := by show term e s + 0 = _; rw [CR.add_zero]
theorem norm_unit (x : LP) (e s : Int) (hs : s = 1 ∨ s = -1) : normC (canon (x * of e [s])).2 = normC (canon x).2 := by
  rw [of_one]
  have hc := canon_cano x
  have ho := of_canon x
  by_cases hn : (canon x).2 = []
  · have hx : x = 0 := by
      rw [← ho, hn]; rfl
    rw [hx, CR.zero_mul]
  · have h := canon_unit hc hn e s hs
    rw [ho] at h
    rw [h]
    refine normC_unit hs ?_
    rcases hc with hc | hc
    · exact absurd hc.1 hn
    · exact hc.2.2
end LP
theorem i64_and1 (n : Int) : bits .and .i64 n 1 = n % 2 := by
  have h1 : (BitVec.ofInt 64 1).toNat = 2 ^ 1 - 1 := by decide
  have key : (BitVec.ofInt 64 n &&& BitVec.ofInt 64 1).toNat = (n % ((2 ^ 64 : Nat) : Int)).toNat % 2 ^ 1 := by
    rw [BitVec.toNat_and, BitVec.toNat_ofInt, h1, Nat.and_two_pow_sub_one_eq_mod]
  show IntKind.i64.wrap ((BitVec.ofInt 64 n &&& BitVec.ofInt 64 1).toNat : Nat) = n % 2
  rw [key, IntKind.wrap_i64]
  omega
end Go.Proofs.Ytihpmdfeonphpaa
/- Free derivatives: exponents, the derivative of a word, the rule of a product, and t^e - 1 as a sum of derivatives. -/
namespace Go.Proofs.Ytihpmdfeonphpaa
set_option linter.unusedVariables false
set_option linter.unusedSimpArgs false
namespace LP

/-- The exponent of a word. -/
def expo (w : List Int) : Int := wsum Int.sign w
theorem sign_neg_ (x : Int) : Int.sign (-x) = -Int.sign x := Int.sign_neg x
theorem sign_le (x : Int) : (Int.sign x).natAbs ≤ 1 := by
  rcases Int.lt_trichotomy x 0 with h | h | h
  · rw [Int.sign_eq_neg_one_of_neg h]; decide
  · subst h; decide
  · rw [Int.sign_eq_one_of_pos h]; decide
theorem expo_nil : expo [] = 0 := rfl
theorem expo_cons (x : Int) (w : List Int) : expo (x :: w) = Int.sign x + expo w := by simp [expo, wsum]
theorem expo_append (u v : List Int) : expo (u ++ v) = expo u + expo v := wsum_append _ u v
theorem expo_le : ∀ w : List Int, (expo w).natAbs ≤ w.length
  | [] => by decide
  | x :: w => by
    rw [expo_cons, List.length_cons]
    have := sign_le x
    have := expo_le w
    omega

/-- The derivative of a letter. -/
def dx (i x : Int) : LP := if x = i then 1 else if x = -i then term (-1) (-1) else 0
/-- The derivative of a word. -/
def foxT (i : Int) : List Int → LP
  | [] => 0
  | x :: w => dx i x + term (Int.sign x) 1 * foxT i w
theorem term_mul (e f c d : Int) : term e c * term f d = term (e + f) (c * d) := ext fun k => by
  rw [co_term_mul, co_term, co_term]
  by_cases h : f = k - e
  · rw [if_pos h, if_pos (by omega)]
  · rw [if_neg h, if_neg (by omega), Int.mul_zero]
theorem term_one : term 0 1 = (1 : LP) := rfl
theorem foxT_append (i : Int) (v : List Int) : ∀ u : List Int, foxT i (u ++ v) = foxT i u + term (expo u) 1 * foxT i v
  | [] => by
    show foxT i v = 0 + term 0 1 * foxT i v
    rw [term_one, CR.one_mul, CR.zero_add]
  | x :: u => by
    show dx i x + term (Int.sign x) 1 * foxT i (u ++ v) = dx i x + term (Int.sign x) 1 * foxT i u + term (expo (x :: u)) 1 * foxT i v
    rw [foxT_append i v u, CR.mul_add, ← CR.mul_assoc, term_mul, expo_cons, CR.add_assoc]
    rfl
theorem foxT_one (i x : Int) : foxT i [x] = dx i x := by
  show dx i x + term (Int.sign x) 1 * 0 = _
  rw [CR.mul_zero, CR.add_zero]
theorem Sm.term (e c : Int) {l h : Int} {B : Nat} (h1 : l ≤ e) (h2 : e ≤ h) (h3 : c.natAbs ≤ B) : Sm (term e c) l h B :=
  ⟨fun k hk => by
    rw [co_term] at hk
    by_cases he : e = k
    · omega
    · rw [if_neg he] at hk; exact absurd rfl hk,
  fun k => by
    rw [co_term]
    split
    · exact h3
    · exact Nat.zero_le _⟩
theorem Sm.zero {l h : Int} {B : Nat} : Sm 0 l h B := ⟨fun k hk => absurd (co_zero k) hk, fun k => by rw [co_zero]; exact Nat.zero_le _⟩
theorem Sm.shift {x : LP} {l h : Int} {B : Nat} (hx : Sm x l h B) (e : Int) : Sm (LP.term e 1 * x) (l + e) (h + e) B :=
  ⟨fun k hk => by
    rw [co_term_mul, Int.one_mul] at hk
    have := hx.supp _ hk
    omega,
  fun k => by rw [co_term_mul, Int.one_mul]; exact hx.le _⟩
theorem dx_sm (i x : Int) : Sm (dx i x) (-1) 0 1 := by
  unfold dx
  split
  · exact Sm.term 0 1 (by decide) (by decide) (by decide)
  · split
    · exact Sm.term (-1) (-1) (by decide) (by decide) (by decide)
    · exact Sm.zero
theorem foxT_sm (i : Int) : ∀ w : List Int, Sm (foxT i w) (-(w.length : Int)) w.length w.length
  | [] => Sm.zero
  | x :: w => by
    have h := (dx_sm i x).add ((foxT_sm i w).shift (Int.sign x))
    have := sign_le x
    refine Sm.mono h ?_ ?_ ?_
    · rw [List.length_cons]; omega
    · rw [List.length_cons]; omega
    · rw [List.length_cons]; omega
theorem foxT_rt (i : Int) {w : List Int} (h : w.length ≤ 60) : Rt (foxT i w) :=
  (foxT_sm i w).pfl (by omega) (by omega) (by omega) (by omega)

/-- t - 1. -/
def less : LP := term 1 1 + -1
/-- The sum of the first derivatives times t - 1. -/
def part (w : List Int) : Nat → LP
  | 0 => 0
  | k + 1 => part w k + foxT ((k : Int) + 1) w * less
/-- The same of a letter. -/
def partX (x : Int) : Nat → LP
  | 0 => 0
  | k + 1 => partX x k + dx ((k : Int) + 1) x * less
theorem part_nil : ∀ k, part [] k = 0
  | 0 => rfl
  | k + 1 => by
    show part [] k + 0 * less = 0
    rw [part_nil k, CR.zero_mul, CR.add_zero]
theorem part_cons (x : Int) (w : List Int) : ∀ k, part (x :: w) k = partX x k + term (Int.sign x) 1 * part w k
  | 0 => by
    show (0 : LP) = 0 + _ * 0
    rw [CR.mul_zero, CR.add_zero]
  | k + 1 => by
    show part (x :: w) k + (dx ((k : Int) + 1) x + term (Int.sign x) 1 * foxT ((k : Int) + 1) w) * less = partX x k + dx ((k : Int) + 1) x * less + term (Int.sign x) 1 * (part w k + foxT ((k : Int) + 1) w * less)
    rw [part_cons x w k, CR.add_mul, CR.mul_add, CR.mul_assoc]
    generalize partX x k = a, term (Int.sign x) 1 * part w k = b, dx ((k : Int) + 1) x * less = c, term (Int.sign x) 1 * (foxT ((k : Int) + 1) w * less) = d
    rw [CR.add_assoc, CR.add_assoc, ← CR.add_assoc b, CR.add_comm b c, CR.add_assoc c]
theorem partX_eq {x : Int} (h0 : x ≠ 0) : ∀ k : Nat, partX x k = if x.natAbs ≤ k then term (Int.sign x) 1 + -1 else 0
  | 0 => by rw [if_neg (by omega)]; rfl
  | k + 1 => by
    show partX x k + dx ((k : Int) + 1) x * less = _
    rw [partX_eq h0 k]
    by_cases h : x.natAbs ≤ k
    · rw [if_pos h, if_pos (by omega)]
      unfold dx
      rw [if_neg (by omega), if_neg (by omega), CR.zero_mul, CR.add_zero]
    · rw [if_neg h, CR.zero_add]
      unfold dx
      by_cases h1 : x = (k : Int) + 1
      · rw [if_pos h1, if_pos (by omega), CR.one_mul, Int.sign_eq_one_of_pos (by omega)]
        rfl
      · rw [if_neg h1]
        by_cases h2 : x = -((k : Int) + 1)
        · rw [if_pos h2, if_pos (by omega), Int.sign_eq_neg_one_of_neg (by omega)]
          unfold less
          rw [CR.mul_add, term_mul]
          show term 0 (-1) + term (-1) (-1) * -1 = term (-1) 1 + -1
          refine ext fun j => ?_
          rw [co_add, co_add, co_term_mul, co_neg, co_neg, co_one, co_one, co_term, co_term]
          split <;> split <;> split <;> omega
        · rw [if_neg h2, if_neg (by omega), CR.zero_mul]
/-- FOX: t^e - 1 is the sum of all derivatives times t - 1. -/
theorem fox_sum {n : Nat} : ∀ {w : List Int}, (∀ x ∈ w, x ≠ 0 ∧ x.natAbs ≤ n) → part w n = term (expo w) 1 + -1
  | [], _ => by
    rw [part_nil, expo_nil, term_one, CR.add_neg]
  | x :: w, h => by
    have h1 := h x (by simp)
    rw [part_cons, partX_eq h1.1, if_pos h1.2, fox_sum fun y hy => h y (by simp [hy]), CR.mul_add, term_mul, expo_cons]
    show term (Int.sign x) 1 + -1 + (term (Int.sign x + expo w) 1 + term (Int.sign x) 1 * -1) = _
    rw [CR.mul_neg, CR.mul_one]
    rw [show term (Int.sign x) 1 + -1 + (term (Int.sign x + expo w) 1 + -term (Int.sign x) 1) = (term (Int.sign x) 1 + -term (Int.sign x) 1) + (term (Int.sign x + expo w) 1 + -1) from by ac_rfl, CR.add_neg, CR.zero_add]
theorem less_mul_sm {x : LP} {l h : Int} {B : Nat} (hx : Sm x l h B) (hl : l ≤ h + 1) : Sm (x * less) l (h + 1) (B + B) := by
  unfold less
  rw [CR.mul_add, CR.mul_neg, CR.mul_one, CR.mul_comm]
  exact ((hx.shift 1).add hx.neg).mono (by omega) (by omega) (Nat.le_refl _)
theorem part_sm (w : List Int) : ∀ k : Nat, Sm (part w k) (-(w.length : Int)) (w.length + 1) (2 * w.length * k)
  | 0 => Sm.zero
  | k + 1 => by
    have h := (part_sm w k).add (less_mul_sm (foxT_sm ((k : Int) + 1) w) (by omega))
    refine h.mono (by omega) (by omega) ?_
    rw [Nat.mul_succ]
    omega
theorem part_rt (w : List Int) (h : w.length ≤ 30) {k : Nat} (hk : k ≤ 6) : Rt (part w k) := by
  have h2 : 2 * w.length * k ≤ 60 * 6 := Nat.mul_le_mul (by omega) hk
  exact (part_sm w k).pfl (by omega) (by omega) (by omega) (by omega)
theorem less_rt (i : Int) {w : List Int} (h : w.length ≤ 60) : Rt (foxT i w * less) :=
  (less_mul_sm (foxT_sm i w) (by omega)).pfl (by omega) (by omega) (by omega) (by omega)
theorem canon_term1 (e : Int) : canon (term e 1) = (e, [1]) := by
  rw [← of_one]
  exact canon_term e 1 (.inl rfl)
end LP
end Go.Proofs.Ytihpmdfeonphpaa
/- Laurent polynomials as short sums of terms: exponents within E, absolute values of coefficients that add up to at most V. -/
namespace Go.Proofs.Ytihpmdfeonphpaa
set_option linter.unusedVariables false
set_option linter.unusedSimpArgs false
namespace LP

def sumA : List Tm → Nat
  | [] => 0
  | p :: l => p.2.natAbs + sumA l
theorem sumA_append : ∀ a b : List Tm, sumA (a ++ b) = sumA a + sumA b
  | [], b => by simp [sumA]
  | p :: a, b => by
    show p.2.natAbs + sumA (a ++ b) = p.2.natAbs + sumA a + sumA b
    rw [sumA_append a b, Nat.add_assoc]
theorem sumA_scale (e c : Int) : ∀ l : List Tm, sumA (scaleT e c l) = c.natAbs * sumA l
  | [] => rfl
  | p :: l => by
    show (c * p.2).natAbs + sumA (scaleT e c l) = c.natAbs * (p.2.natAbs + sumA l)
    rw [sumA_scale e c l, Nat.mul_add, Int.natAbs_mul]
theorem sumA_mul (b : List Tm) : ∀ a : List Tm, sumA (mulT a b) = sumA a * sumA b
  | [] => by
    show 0 = 0 * sumA b
    rw [Nat.zero_mul]
  | p :: a => by
    rw [mulT_cons, sumA_append, sumA_scale, sumA_mul b a]
    show _ = (p.2.natAbs + sumA a) * sumA b
    rw [Nat.add_mul]
theorem coefT_sumA (k : Int) : ∀ l : List Tm, (coefT l k).natAbs ≤ sumA l
  | [] => Nat.le_refl _
  | p :: l => by
    have h := coefT_sumA k l
    show ((if p.1 = k then p.2 else 0) + coefT l k).natAbs ≤ p.2.natAbs + sumA l
    split <;> omega

/-- A short sum of terms. -/
def N1 (x : LP) (E V : Nat) : Prop := ∃ l : List Tm, mk l = x ∧ (∀ p ∈ l, p.1.natAbs ≤ E) ∧ sumA l ≤ V
theorem N1.mono {x : LP} {E V E' V' : Nat} (h : N1 x E V) (h1 : E ≤ E') (h2 : V ≤ V') : N1 x E' V' := by
  obtain ⟨l, e, hk, hv⟩ := h
  exact ⟨l, e, fun p hp => Nat.le_trans (hk p hp) h1, Nat.le_trans hv h2⟩
theorem N1.zero : N1 0 0 0 := ⟨[], rfl, fun p hp => by simp at hp, Nat.le_refl _⟩
theorem N1.term (e c : Int) : N1 (LP.term e c) e.natAbs c.natAbs := ⟨[(e, c)], rfl, fun p hp => by simp at hp; subst hp; exact Nat.le_refl _, by simp [sumA]⟩
theorem N1.one : N1 1 0 1 := N1.term 0 1
theorem N1.add {x y : LP} {E V V' : Nat} (hx : N1 x E V) (hy : N1 y E V') : N1 (x + y) E (V + V') := by
  obtain ⟨a, rfl, h1, h2⟩ := hx
  obtain ⟨b, rfl, h3, h4⟩ := hy
  refine ⟨a ++ b, rfl, fun p hp => ?_, by rw [sumA_append]; omega⟩
  rcases List.mem_append.1 hp with h | h
  · exact h1 p h
  · exact h3 p h
theorem N1.neg {x : LP} {E V : Nat} (hx : N1 x E V) : N1 (-x) E V := by
  obtain ⟨a, rfl, h1, h2⟩ := hx
  refine ⟨scaleT 0 (-1) a, rfl, fun p hp => ?_, by rw [sumA_scale, show (-1 : Int).natAbs = 1 from rfl]; omega⟩
  obtain ⟨q, hq, rfl⟩ := List.mem_map.1 hp
  have := h1 q hq
  show (0 + q.1).natAbs ≤ E
  rw [Int.zero_add]; exact this
theorem N1.mul {x y : LP} {E V E' V' : Nat} (hx : N1 x E V) (hy : N1 y E' V') : N1 (x * y) (E + E') (V * V') := by
  obtain ⟨a, rfl, h1, h2⟩ := hx
  obtain ⟨b, rfl, h3, h4⟩ := hy
  refine ⟨mulT a b, rfl, fun p hp => ?_, by rw [sumA_mul]; exact Nat.mul_le_mul h2 h4⟩
  obtain ⟨q, hq, hp⟩ := List.mem_flatMap.1 hp
  obtain ⟨r, hr, rfl⟩ := List.mem_map.1 hp
  have := h1 q hq
  have := h3 r hr
  show (q.1 + r.1).natAbs ≤ E + E'
  omega
theorem N1.co {x : LP} {E V : Nat} (h : N1 x E V) (k : Int) : (LP.co x k).natAbs ≤ V := by
  obtain ⟨l, rfl, _, hv⟩ := h
  exact Nat.le_trans (coefT_sumA k l) hv
theorem N1.supp {x : LP} {E V : Nat} (h : N1 x E V) {k : Int} (hk : LP.co x k ≠ 0) : k.natAbs ≤ E := by
  obtain ⟨l, rfl, h1, _⟩ := h
  by_cases hm : ∀ p ∈ l, p.1 ≠ k
  · exact absurd (sumT_out k l hm) hk
  · obtain ⟨p, hp⟩ := Classical.not_forall.1 hm
    obtain ⟨hp, e⟩ := Classical.not_imp.1 hp
    have := h1 p hp
    rw [Classical.not_not.1 e] at this
    exact this
theorem N1.sm {x : LP} {E V : Nat} (h : N1 x E V) : Sm x (-(E : Int)) E V := ⟨fun k hk => by have := h.supp hk; omega, h.co⟩
theorem N1.rt {x : LP} {E V : Nat} (h : N1 x E V) (h1 : E ≤ 99) (h2 : V ≤ 100000000) : Rt x := h.sm.pfl (by omega) (by omega) (by omega) h2
theorem N1.of_ : ∀ (cs : List Int) (lo : Int) (E B : Nat), lo.natAbs ≤ E → (lo + cs.length).natAbs ≤ E → (∀ c ∈ cs, c.natAbs ≤ B) → N1 (LP.of lo cs) E (cs.length * B)
  | [], lo, E, B, _, _, _ => N1.zero.mono (Nat.zero_le _) (Nat.zero_le _)
  | c :: cs, lo, E, B, h1, h2, h3 => by
    have hc := h3 c (by simp)
    have h := (N1.term lo c).mono (V' := B) h1 hc
    simp only [List.length_cons] at h2
    have h4 := N1.of_ cs (lo + 1) E B (by omega) (by omega) (fun x hx => h3 x (by simp [hx]))
    refine (h.add h4).mono (Nat.le_refl _) ?_
    rw [List.length_cons, Nat.succ_mul]
    omega
theorem N1.sumN {f : Nat → LP} {E V : Nat} : ∀ {n : Nat}, (∀ i, i < n → N1 (f i) E V) → N1 (CR.sumN n f) E (n * V)
  | 0, _ => N1.zero.mono (Nat.zero_le _) (Nat.zero_le _)
  | n + 1, h => by
    rw [CR.sumN_succ, Nat.succ_mul]
    exact (N1.sumN fun i hi => h i (by omega)).add (h n (by omega))
theorem N1.sgR (j : Nat) : N1 (CR.sgR LP j) 0 1 := by
  unfold CR.sgR
  split
  · exact N1.one
  · exact N1.one.neg
def fctP : Nat → Nat
  | 0 => 1
  | n + 1 => (n + 1) * fctP n
theorem N1.detR {E V : Nat} : ∀ {n : Nat} {M : Mtx LP}, (∀ i, i < n → ∀ j, j < n → N1 (M i j) E V) → N1 (Proofs.Ytihpmdfeonphpaa.detR n M) (n * E) (fctP n * V ^ n)
  | 0, M, _ => by
    show N1 1 (0 * E) (1 * V ^ 0)
    rw [Nat.zero_mul, Nat.pow_zero]
    exact N1.one
  | n + 1, M, h => by
    have h1 : ∀ j, j < n + 1 → N1 (CR.sgR LP j * (M 0 j * Proofs.Ytihpmdfeonphpaa.detR n fun a b => M (a + 1) (CR.skip j b))) ((n + 1) * E) (V * (fctP n * V ^ n)) := fun j hj => by
      have h2 := (N1.sgR j).mul ((h 0 (by omega) j hj).mul (N1.detR (M := fun a b => M (a + 1) (CR.skip j b)) fun i hi k hk => h (i + 1) (by omega) _ (skip_lt hk)))
      refine h2.mono ?_ ?_
      · rw [Nat.succ_mul]; omega
      · rw [Nat.one_mul]; exact Nat.le_refl _
    have h3 := N1.sumN h1
    refine N1.mono (x := CR.sumN (n + 1) _) h3 (Nat.le_refl _) (Nat.le_of_eq ?_)
    show (n + 1) * (V * (fctP n * V ^ n)) = (n + 1) * fctP n * V ^ (n + 1)
    rw [Nat.pow_succ]
    ac_rfl
end LP
end Go.Proofs.Ytihpmdfeonphpaa
/- Burau matrices: letters as row operations, the relations of the braid group, row sums, the row 1, t, t^2, .. . -/
namespace Go.Proofs.Ytihpmdfeonphpaa
set_option linter.unusedVariables false
set_option linter.unusedSimpArgs false
set_option linter.unusedSectionVars false
open CR

section
variable {R : Type} [CR R]
theorem sumN_two {f : Nat → R} {n a b : Nat} (ha : a < n) (hb : b < n) (hab : a ≠ b) (h : ∀ i, i < n → i ≠ a → i ≠ b → f i = 0) : sumN n f = f a + f b := by
  have e : sumN n f = sumN n (fun i => (if i = a then f a else 0) + (if i = b then f b else 0)) := sumN_congr fun i hi => by
    by_cases h1 : i = a
    · subst h1; rw [if_pos rfl, if_neg hab, add_zero]
    · by_cases h2 : i = b
      · subst h2; rw [if_pos rfl, if_neg h1, zero_add]
      · rw [if_neg h1, if_neg h2, h i hi h1 h2, add_zero]
  rw [e, sumN_add, sumN_single (k := a) ha (fun i _ hne => if_neg hne), sumN_single (k := b) hb (fun i _ hne => if_neg hne), if_pos rfl, if_pos rfl]
theorem mulM_assoc (n : Nat) (A B C : Mtx R) : mulM n (mulM n A B) C = mulM n A (mulM n B C) := by
  funext i j
  show sumN n (fun k => (sumN n fun l => A i l * B l k) * C k j) = sumN n fun l => A i l * sumN n fun k => B l k * C k j
  have e1 : ∀ k, (sumN n fun l => A i l * B l k) * C k j = sumN n fun l => A i l * (B l k * C k j) := fun k => by
    rw [mul_comm, ← sumN_mul]
    exact sumN_congr fun l _ => by ac_rfl
  rw [sumN_congr fun k _ => e1 k, sumN_swap]
  exact sumN_congr fun l _ => sumN_mul _ _ _
/-- Equal within n rows and columns. -/
def EqM (n : Nat) (A B : Mtx R) : Prop := ∀ i, i < n → ∀ j, j < n → A i j = B i j
theorem EqM.refl (n : Nat) (A : Mtx R) : EqM n A A := fun _ _ _ _ => rfl
theorem EqM.symm {n : Nat} {A B : Mtx R} (h : EqM n A B) : EqM n B A := fun i hi j hj => (h i hi j hj).symm
theorem EqM.trans {n : Nat} {A B C : Mtx R} (h : EqM n A B) (k : EqM n B C) : EqM n A C := fun i hi j hj => (h i hi j hj).trans (k i hi j hj)
theorem EqM.mul {n : Nat} {A A' B B' : Mtx R} (h : EqM n A A') (k : EqM n B B') : EqM n (mulM n A B) (mulM n A' B') := fun i hi j hj =>
  sumN_congr fun l hl => by rw [h i hi l hl, k l hl j hj]
theorem EqM.one_mul (n : Nat) (A : Mtx R) : EqM n (mulM n oneM A) A := fun i hi j hj => by
  show sumN n (fun k => oneM i k * A k j) = A i j
  rw [sumN_single (k := i) hi (fun k _ hne => by rw [show (oneM : Mtx R) i k = 0 from if_neg (Ne.symm hne), zero_mul]), show (oneM : Mtx R) i i = 1 from if_pos rfl, CR.one_mul]
theorem EqM.mul_one (n : Nat) (A : Mtx R) : EqM n (mulM n A oneM) A := fun i hi j hj => by
  show sumN n (fun k => A i k * oneM k j) = A i j
  rw [sumN_single (k := j) hj (fun k _ hne => by rw [show (oneM : Mtx R) k j = 0 from if_neg hne, mul_zero]), show (oneM : Mtx R) j j = 1 from if_pos rfl, CR.mul_one]

/-- What a positive letter does to rows a - 1 and a. -/
def opP (t : R) (a : Nat) (A : Mtx R) : Mtx R := fun r c => if r + 1 = a then (1 + -t) * A r c + t * A (r + 1) c else if r = a then A (r - 1) c else A r c
def opN (t : R) (a : Nat) (A : Mtx R) : Mtx R := fun r c => if r + 1 = a then A (r + 1) c else if r = a then t * A (r - 1) c + (1 + -t) * A r c else A r c
theorem braid_ring (t u v z : R) : (1 + -t) * ((1 + -t) * u + t * v) + t * ((1 + -t) * u + t * z) = (1 + -t) * u + t * ((1 + -t) * v + t * z) := by
  obtain ⟨s, hs⟩ : ∃ s, 1 + -t = s := ⟨_, rfl⟩
  have h1 : s + t = 1 := by rw [← hs, add_assoc, neg_add, add_zero]
  rw [hs, mul_add, mul_add, mul_add, ← mul_assoc t s u, ← mul_assoc s s u]
  rw [show s * s * u + s * (t * v) + (t * s * u + t * (t * z)) = (s + t) * s * u + (t * (s * v) + t * (t * z)) by rw [add_mul, add_mul]; ac_rfl, h1, CR.one_mul]
theorem inv_ring1 {t t' : R} (h : t * t' = 1) (u v : R) : (1 + -t) * v + t * (t' * u + (1 + -t') * v) = u := by
  rw [mul_add, ← mul_assoc t t' u, h, CR.one_mul, ← mul_assoc, mul_add t 1, CR.mul_one, mul_neg, h]
  rw [show (1 + -t) * v + (u + (t + -1) * v) = u + ((1 + -t) + (t + -1)) * v by rw [add_mul (1 + -t)]; ac_rfl]
  rw [show (1 : R) + -t + (t + -1) = (1 + -1) + (-t + t) by ac_rfl, add_neg, neg_add, add_zero, zero_mul, add_zero]
theorem inv_ring2 {t t' : R} (h : t * t' = 1) (u v : R) : t' * ((1 + -t) * u + t * v) + (1 + -t') * u = v := by
  have h' : t' * t = 1 := by rw [mul_comm]; exact h
  rw [mul_add, ← mul_assoc t' t v, h', CR.one_mul, ← mul_assoc, mul_add t' 1, CR.mul_one, mul_neg, h']
  rw [show (t' + -1) * u + v + (1 + -t') * u = v + ((t' + -1) + (1 + -t')) * u by rw [add_mul (t' + -1)]; ac_rfl]
  rw [show t' + -1 + ((1 : R) + -t') = (t' + -t') + (1 + -1) by ac_rfl, add_neg, add_neg, add_zero, zero_mul, add_zero]
theorem opP_braid (t : R) (a : Nat) (h : 1 ≤ a) (A : Mtx R) : opP t a (opP t (a + 1) (opP t a A)) = opP t (a + 1) (opP t a (opP t (a + 1) A)) := by
  funext r c
  simp only [opP]
  by_cases h1 : r + 1 = a
  · repeat (first | rw [if_pos (by omega)] | rw [if_neg (by omega)])
    exact braid_ring t _ _ _
  · by_cases h2 : r = a
    · repeat (first | rw [if_pos (by omega)] | rw [if_neg (by omega)])
      rw [show r - 1 + 1 = r by omega, show r + 1 - 1 = r by omega]
    · by_cases h3 : r = a + 1
      · repeat (first | rw [if_pos (by omega)] | rw [if_neg (by omega)])
      · repeat (first | rw [if_pos (by omega)] | rw [if_neg (by omega)])
theorem opP_opN {t t' : R} (ht : t * t' = 1) (a : Nat) (h : 1 ≤ a) (A : Mtx R) : opP t a (opN t' a A) = A := by
  funext r c
  simp only [opP, opN]
  by_cases h1 : r + 1 = a
  · repeat (first | rw [if_pos (by omega)] | rw [if_neg (by omega)])
    rw [show r + 1 - 1 = r by omega]
    exact inv_ring1 ht _ _
  · by_cases h2 : r = a
    · repeat (first | rw [if_pos (by omega)] | rw [if_neg (by omega)])
      rw [show r - 1 + 1 = r by omega]
    · repeat (first | rw [if_pos (by omega)] | rw [if_neg (by omega)])
theorem opN_opP {t t' : R} (ht : t * t' = 1) (a : Nat) (h : 1 ≤ a) (A : Mtx R) : opN t' a (opP t a A) = A := by
  funext r c
  simp only [opP, opN]
  by_cases h1 : r + 1 = a
  · repeat (first | rw [if_pos (by omega)] | rw [if_neg (by omega)])
    rw [show r + 1 - 1 = r by omega]
  · by_cases h2 : r = a
    · repeat (first | rw [if_pos (by omega)] | rw [if_neg (by omega)])
      rw [show r - 1 + 1 = r by omega]
      exact inv_ring2 ht _ _
    · repeat (first | rw [if_pos (by omega)] | rw [if_neg (by omega)])
theorem opP_opN_comm (t t' : R) (a b : Nat) (ha : 1 ≤ a) (hb : 1 ≤ b) (h : a + 2 ≤ b ∨ b + 2 ≤ a) (A : Mtx R) : opP t a (opN t' b A) = opN t' b (opP t a A) := by
  funext r c
  simp only [opP, opN]
  by_cases h1 : r + 1 = a
  · repeat (first | rw [if_pos (by omega)] | rw [if_neg (by omega)])
  · by_cases h2 : r = a
    · repeat (first | rw [if_pos (by omega)] | rw [if_neg (by omega)])
    · by_cases h3 : r + 1 = b
      · repeat (first | rw [if_pos (by omega)] | rw [if_neg (by omega)])
      · by_cases h4 : r = b
        · repeat (first | rw [if_pos (by omega)] | rw [if_neg (by omega)])
        · repeat (first | rw [if_pos (by omega)] | rw [if_neg (by omega)])
theorem EqM.opP {n : Nat} {A B : Mtx R} (t : R) {a : Nat} (ha : a < n) (h : EqM n A B) : EqM n (Proofs.Ytihpmdfeonphpaa.opP t a A) (Proofs.Ytihpmdfeonphpaa.opP t a B) := fun r hr c hc => by
  unfold Proofs.Ytihpmdfeonphpaa.opP
  by_cases h1 : r + 1 = a
  · rw [if_pos h1, if_pos h1, h r hr c hc, h (r + 1) (by omega) c hc]
  · rw [if_neg h1, if_neg h1]
    split
    · exact h _ (by omega) c hc
    · exact h r hr c hc
theorem EqM.opN {n : Nat} {A B : Mtx R} (t : R) {a : Nat} (ha : a < n) (h : EqM n A B) : EqM n (Proofs.Ytihpmdfeonphpaa.opN t a A) (Proofs.Ytihpmdfeonphpaa.opN t a B) := fun r hr c hc => by
  unfold Proofs.Ytihpmdfeonphpaa.opN
  by_cases h1 : r + 1 = a
  · rw [if_pos h1, if_pos h1, h (r + 1) (by omega) c hc]
  · rw [if_neg h1, if_neg h1]
    split
    · rw [h r hr c hc, h _ (by omega) c hc]
    · exact h r hr c hc
end

def tT : LP := LP.term 1 1
def tI : LP := LP.term (-1) 1
theorem tT_tI : tT * tI = 1 := by unfold tT tI; rw [LP.term_mul]; rfl
/-- The matrix of a letter. -/
def bl (x : Int) : Mtx LP := fun r c =>
  if r + 1 = x.natAbs then (if 0 < x then (if c = r then 1 + -tT else if c = r + 1 then tT else 0) else (if c = r + 1 then 1 else 0))
  else if r = x.natAbs then (if 0 < x then (if c + 1 = r then 1 else 0) else (if c + 1 = r then tI else if c = r then 1 + -tI else 0))
  else if r = c then 1 else 0
/-- The Burau matrix of a word. -/
def bu (n : Nat) : List Int → Mtx LP
  | [] => oneM
  | x :: w => mulM n (bl x) (bu n w)
def opL (x : Int) (A : Mtx LP) : Mtx LP := if 0 < x then opP tT x.natAbs A else opN tI x.natAbs A
theorem bl_mul {n : Nat} {x : Int} (h1 : x ≠ 0) (h2 : x.natAbs < n) (A : Mtx LP) : EqM n (mulM n (bl x) A) (opL x A) := fun r hr c hc => by
  show sumN n (fun k => bl x r k * A k c) = _
  obtain ⟨a, ha⟩ : ∃ a, x.natAbs = a := ⟨_, rfl⟩
  have ha1 : 1 ≤ a := by omega
  unfold opL bl
  rw [ha] at h2 ⊢
  by_cases hx : 0 < x
  · simp only [if_pos hx]
    unfold opP
    by_cases h3 : r + 1 = a
    · simp only [if_pos h3]
      rw [sumN_two (a := r) (b := r + 1) hr (by omega) (by omega) (fun i _ h4 h5 => by rw [if_neg h4, if_neg h5, zero_mul]), if_pos rfl, if_neg (by omega), if_pos rfl]
    · simp only [if_neg h3]
      by_cases h4 : r = a
      · simp only [if_pos h4]
        rw [sumN_single (k := r - 1) (by omega) (fun i _ h5 => by rw [if_neg (by omega), zero_mul]), if_pos (by omega), CR.one_mul]
      · simp only [if_neg h4]
        rw [sumN_single (k := r) hr (fun i _ h5 => by rw [if_neg (fun e => h5 e.symm), zero_mul]), if_pos rfl, CR.one_mul]
  · simp only [if_neg hx]
    unfold opN
    by_cases h3 : r + 1 = a
    · simp only [if_pos h3]
      rw [sumN_single (k := r + 1) (by omega) (fun i _ h5 => by rw [if_neg h5, zero_mul]), if_pos rfl, CR.one_mul]
    · simp only [if_neg h3]
      by_cases h4 : r = a
      · simp only [if_pos h4]
        rw [sumN_two (a := r - 1) (b := r) (by omega) hr (by omega) (fun i _ h5 h6 => by rw [if_neg (by omega), if_neg h6, zero_mul]), if_pos (by omega), if_neg (by omega), if_pos rfl]
      · simp only [if_neg h4]
        rw [sumN_single (k := r) hr (fun i _ h5 => by rw [if_neg (fun e => h5 e.symm), zero_mul]), if_pos rfl, CR.one_mul]
theorem bu_append (n : Nat) : ∀ u v : List Int, EqM n (bu n (u ++ v)) (mulM n (bu n u) (bu n v))
  | [], v => (EqM.one_mul n _).symm
  | x :: u, v => by
    show EqM n (mulM n (bl x) (bu n (u ++ v))) (mulM n (mulM n (bl x) (bu n u)) (bu n v))
    rw [mulM_assoc]
    exact (EqM.refl n _).mul (bu_append n u v)
/-- Letters of a braid word on n strands. -/
def okB (n : Nat) (w : List Int) : Prop := ∀ x ∈ w, x ≠ 0 ∧ x.natAbs < n
theorem EqM.opL {n : Nat} {A B : Mtx LP} {x : Int} (hx : x.natAbs < n) (h : EqM n A B) : EqM n (Proofs.Ytihpmdfeonphpaa.opL x A) (Proofs.Ytihpmdfeonphpaa.opL x B) := by
  unfold Proofs.Ytihpmdfeonphpaa.opL
  split
  · exact h.opP _ hx
  · exact h.opN _ hx
def opW : List Int → Mtx LP → Mtx LP
  | [], A => A
  | x :: w, A => opL x (opW w A)
theorem bu_op {n : Nat} : ∀ {w : List Int}, okB n w → EqM n (bu n w) (opW w oneM)
  | [], _ => EqM.refl _ _
  | x :: w, h => (bl_mul (h x (by simp)).1 (h x (by simp)).2 _).trans ((bu_op fun y hy => h y (by simp [hy])).opL (h x (by simp)).2)
/-- Words that are equal by a relation: what they do to all matrices is equal. -/
def RelB (a b : List Int) : Prop := ∀ A : Mtx LP, opW a A = opW b A
theorem RelB.bu {n : Nat} {a b : List Int} (h : RelB a b) (ha : okB n a) (hb : okB n b) (u v : List Int) : EqM n (bu n (u ++ a ++ v)) (bu n (u ++ b ++ v)) := by
  have e : EqM n (Proofs.Ytihpmdfeonphpaa.bu n a) (Proofs.Ytihpmdfeonphpaa.bu n b) := (bu_op ha).trans (by rw [h oneM]; exact (bu_op hb).symm)
  refine (bu_append n _ _).trans (EqM.trans ?_ (bu_append n _ _).symm)
  refine EqM.mul ?_ (EqM.refl _ _)
  exact (bu_append n _ _).trans (((EqM.refl n _).mul e).trans (bu_append n _ _).symm)
theorem opL_pos {a : Nat} (h : 1 ≤ a) (A : Mtx LP) : opL (a : Int) A = opP tT a A := by unfold opL; rw [if_pos (by omega), Int.natAbs_natCast]
theorem opL_neg {a : Nat} (h : 1 ≤ a) (A : Mtx LP) : opL (-(a : Int)) A = opN tI a A := by unfold opL; rw [if_neg (by omega), Int.natAbs_neg, Int.natAbs_natCast]
theorem RelB.symm {a b : List Int} (h : RelB a b) : RelB b a := fun A => (h A).symm
theorem relB_braid {a : Nat} (h : 1 ≤ a) : RelB [(a : Int), ((a + 1 : Nat) : Int), (a : Int)] [((a + 1 : Nat) : Int), (a : Int), ((a + 1 : Nat) : Int)] := fun A => by
  show opL _ (opL _ (opL _ A)) = opL _ (opL _ (opL _ A))
  rw [opL_pos h, opL_pos (by omega), opL_pos h, opL_pos (by omega), opL_pos h, opL_pos (by omega)]
  exact opP_braid _ _ h _
theorem relB_inv {a : Nat} (h : 1 ≤ a) : RelB [(a : Int), -(a : Int)] [] := fun A => by
  show opL _ (opL _ A) = A
  rw [opL_neg h, opL_pos h]
  exact opP_opN tT_tI _ h _
theorem relB_inv' {a : Nat} (h : 1 ≤ a) : RelB [-(a : Int), (a : Int)] [] := fun A => by
  show opL _ (opL _ A) = A
  rw [opL_pos h, opL_neg h]
  exact opN_opP tT_tI _ h _
theorem relB_comm {a b : Nat} (ha : 1 ≤ a) (hb : 1 ≤ b) (h : a + 2 ≤ b ∨ b + 2 ≤ a) : RelB [(a : Int), -(b : Int)] [-(b : Int), (a : Int)] := fun A => by
  show opL _ (opL _ A) = opL _ (opL _ A)
  rw [opL_pos ha, opL_neg hb, opL_pos ha, opL_neg hb]
  exact opP_opN_comm _ _ _ _ ha hb h _
/-- A letter and its inverse. -/
theorem relB_x {x : Int} (h : x ≠ 0) : RelB [x, -x] [] := by
  by_cases hx : 0 < x
  · have e : x = ((x.natAbs : Nat) : Int) := by omega
    rw [e]; exact relB_inv (by omega)
  · have e : x = -((x.natAbs : Nat) : Int) := by omega
    rw [e, Int.neg_neg]; exact relB_inv' (by omega)
theorem opW_append : ∀ (u v : List Int) (A : Mtx LP), opW (u ++ v) A = opW u (opW v A)
  | [], _, _ => rfl
  | x :: u, v, A => by
    show opL x (opW (u ++ v) A) = opL x (opW u (opW v A))
    rw [opW_append u v A]
theorem opW_inv : ∀ (w : List Int), (∀ x ∈ w, x ≠ 0) → ∀ A : Mtx LP, opW (w ++ invw w) A = A
  | [], _, _ => rfl
  | x :: w, h, A => by
    have e : invw (x :: w) = invw w ++ [-x] := by simp [invw]
    rw [e, show x :: w ++ (invw w ++ [-x]) = [x] ++ ((w ++ invw w) ++ [-x]) by simp, opW_append, opW_append, opW_inv w (fun y hy => h y (by simp [hy])), ← opW_append]
    exact relB_x (h x (by simp)) A
/-- Each row has the sum 1. -/
theorem opL_ones {x : Int} (h : x ≠ 0) {A : Mtx LP} {c : Nat} (hA : ∀ r, A r c = 1) : ∀ r, opL x A r c = 1 := fun r => by
  unfold opL
  split <;> simp only [opP, opN]
  · split
    · rw [hA, hA, CR.mul_one, CR.mul_one, add_assoc, neg_add, add_zero]
    · split
      · exact hA _
      · exact hA _
  · split
    · exact hA _
    · split
      · rw [hA, hA, CR.mul_one, CR.mul_one, add_comm, add_assoc, neg_add, add_zero]
      · exact hA _
theorem bl_rowSum {n : Nat} {x : Int} (h1 : x ≠ 0) (h2 : x.natAbs < n) {v : Nat → LP} (hv : ∀ k, v k = 1) {r : Nat} (hr : r < n) : (sumN n fun k => bl x r k * v k) = 1 := by
  have h := bl_mul h1 h2 (fun k _ => v k) r hr 0 (by omega)
  rw [opL_ones h1 (A := fun k _ => v k) hv] at h
  exact h
theorem bu_rowSum {n : Nat} : ∀ {w : List Int}, okB n w → ∀ r, r < n → (sumN n fun k => bu n w r k) = 1
  | [], _, r, hr => by
    show (sumN n fun k => oneM r k) = 1
    have e := sumN_single (f := fun k => (oneM : Mtx LP) r k) (k := r) hr (fun k _ hne => if_neg (Ne.symm hne))
    rw [e]
    exact if_pos rfl
  | x :: w, h, r, hr => by
    have hx := h x (by simp)
    show (sumN n fun k => sumN n fun l => bl x r l * bu n w l k) = 1
    rw [sumN_swap, sumN_congr (g := fun l => bl x r l * 1) fun l hl => by
      rw [sumN_mul, bu_rowSum (fun y hy => h y (by simp [hy])) l hl]]
    exact bl_rowSum hx.1 hx.2 (fun _ => rfl) hr
/-- The row 1, t, t^2, .. -/
def tK (k : Nat) : LP := LP.term k 1
theorem tK_mul (k : Nat) (e : Int) (c : Int) : tK k * LP.term e c = LP.term (k + e) c := by unfold tK; rw [LP.term_mul, Int.one_mul]
theorem bl_row {n : Nat} {x : Int} (h1 : x ≠ 0) (h2 : x.natAbs < n) {c : Nat} (hc : c < n) : (sumN n fun k => tK k * bl x k c) = tK c := by
  obtain ⟨a, ha⟩ : ∃ a, x.natAbs = a := ⟨_, rfl⟩
  have ha1 : 1 ≤ a := by omega
  have hlt : a < n := by omega
  unfold bl
  rw [ha]
  by_cases hc1 : c + 1 = a
  · rw [sumN_two (a := c) (b := c + 1) hc (by omega) (by omega) (fun i _ h3 h4 => by
      rw [if_neg (by omega), if_neg (by omega), if_neg (by omega), mul_zero])]
    simp only [if_pos hc1, if_neg (show ¬ c + 1 + 1 = a by omega), if_true]
    by_cases hx : 0 < x
    · simp only [if_pos hx, if_true]
      rw [CR.mul_one, mul_add, CR.mul_one, mul_neg, show tK (c + 1) = tK c * tT by unfold tT; rw [tK_mul]; rfl, add_assoc, neg_add, add_zero]
    · simp only [if_neg hx, if_true, if_neg (show ¬ c = c + 1 by omega)]
      rw [mul_zero, zero_add]
      unfold tI
      rw [tK_mul]
      unfold tK
      congr 1
      omega
  · by_cases hc2 : c = a
    · have e1 : c - 1 + 1 = c := by omega
      rw [sumN_two (a := c - 1) (b := c) (by omega) hc (by omega) (fun i _ h3 h4 => by
        rw [if_neg (by omega), if_neg (by omega), if_neg (by omega), mul_zero])]
      simp only [e1, if_pos hc2, if_neg hc1, if_true]
      by_cases hx : 0 < x
      · simp only [if_pos hx, if_neg (show ¬ c = c - 1 by omega), if_true, if_neg (show ¬ c + 1 = c by omega)]
        rw [mul_zero, add_zero]
        unfold tT
        rw [tK_mul]
        unfold tK
        congr 1
        omega
      · simp only [if_neg hx, if_true, if_neg (show ¬ c + 1 = c by omega)]
        rw [CR.mul_one, mul_add, CR.mul_one, mul_neg, show tK c * tI = tK (c - 1) by unfold tI; rw [tK_mul]; unfold tK; congr 1; omega]
        rw [add_comm (tK c), ← add_assoc, add_neg, zero_add]
    · rw [sumN_single (k := c) hc (fun i _ h3 => ?_)]
      · rw [if_neg hc1, if_neg hc2, if_pos rfl, CR.mul_one]
      · have e2 : ¬ i = c := h3
        by_cases h4 : i + 1 = a
        · rw [if_pos h4]
          simp only [if_neg (show ¬ c = i by omega), if_neg (show ¬ c = i + 1 by omega)]
          split <;> exact mul_zero _
        · by_cases h5 : i = a
          · rw [if_neg h4, if_pos h5]
            simp only [if_neg (show ¬ c + 1 = i by omega), if_neg (show ¬ c = i by omega)]
            split <;> exact mul_zero _
          · rw [if_neg h4, if_neg h5, if_neg e2, mul_zero]
theorem bu_row {n : Nat} : ∀ {w : List Int}, okB n w → ∀ c, c < n → (sumN n fun k => tK k * bu n w k c) = tK c
  | [], _, c, hc => by
    show (sumN n fun k => tK k * oneM k c) = tK c
    rw [sumN_single (k := c) hc (fun k _ hne => by rw [show (oneM : Mtx LP) k c = 0 from if_neg hne, mul_zero]), show (oneM : Mtx LP) c c = 1 from if_pos rfl, CR.mul_one]
  | x :: w, h, c, hc => by
    have hx := h x (by simp)
    show (sumN n fun k => tK k * sumN n fun l => bl x k l * bu n w l c) = tK c
    have e : ∀ k, tK k * (sumN n fun l => bl x k l * bu n w l c) = sumN n fun l => bu n w l c * (tK k * bl x k l) := fun k => by
      rw [← sumN_mul]
      exact sumN_congr fun l _ => by ac_rfl
    rw [sumN_congr fun k _ => e k, sumN_swap, sumN_congr (g := fun l => tK l * bu n w l c) fun l hl => by
      rw [sumN_mul, bl_row hx.1 hx.2 hl, CR.mul_comm]]
    exact bu_row (fun y hy => h y (by simp [hy])) c hc
end Go.Proofs.Ytihpmdfeonphpaa
