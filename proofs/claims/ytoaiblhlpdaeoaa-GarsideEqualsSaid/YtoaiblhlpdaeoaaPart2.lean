/- Several texts in one. -/
import Derived.Test.YtoaiblhlpdaeoaaBase1
import Derived.Test.YtoaiblhlpdaeoaaPart1
import Derived.Handy
import Derived.Deep.DeepCutAuto
import Derived.Laws.BitsAllLaws
/- What package laurent's functions are to answer. -/
namespace Go.Proofs.Ytoaiblhlpdaeoaa
set_option linter.unusedVariables false
set_option linter.unusedSimpArgs false
open Go.RowKit

/-- The slice lies in memory that w has not. -/
def NewA (w : World) (A : Option Addr) (n : Nat) : Prop := 0 < n → ∀ ad, A = some ad → w.heap.size ≤ ad.block
theorem SL.setCell {w : World} {A : Option Addr} {n c : Nat} {xs : List Int} (h : SL w A n c xs) {b : Nat} (hb : 0 < n → ∀ ad, A = some ad → ad.block ≠ b) (i : Nat) (v : Value) : SL (w.setCell ⟨b, i, none⟩ v) A n c xs :=
  ⟨⟨h.il.len, h.il.small, fun hn => by
    obtain ⟨ad, e, hl, hc⟩ := h.il.mem hn
    refine ⟨ad, e, by simpa using hl, fun j hj => ?_⟩
    rw [← hc j hj]
    exact World.cell?_setCell_other (w := w) (a := ⟨b, i, none⟩) (b := ad.add j) v (by intro e2; exact hb hn ad e (by have := congrArg Addr.block e2; rw [block_of_add] at this; exact this.symm))⟩, h.nil, h.cap⟩
end Go.Proofs.Ytoaiblhlpdaeoaa
/- Sums and products of small polynomials fit. -/
namespace Go.Proofs.Ytoaiblhlpdaeoaa
set_option linter.unusedVariables false
set_option linter.unusedSimpArgs false
open Go.RowKit
namespace LP
/-- A right polynomial. -/
def Rt (x : LP) : Prop := pfl (canon x).1 (canon x).2 = 0
theorem Rt.wf {x : LP} (h : Rt x) : (Lit.int .i64 (canon x).1).wf = true := by
  obtain ⟨_, h1, h2, _⟩ := pfl_zero h
  have h3 : IntKind.i64.min = -9223372036854775808 := by decide
  simp [Lit.wf, h3]
  omega
end LP
end Go.Proofs.Ytoaiblhlpdaeoaa
/- Free derivatives: exponents, the derivative of a word, the rule of a product, and t^e - 1 as a sum of derivatives. -/
namespace Go.Proofs.Ytoaiblhlpdaeoaa
set_option linter.unusedVariables false
set_option linter.unusedSimpArgs false
namespace LP

theorem Sm.term (e c : Int) {l h : Int} {B : Nat} (h1 : l ≤ e) (h2 : e ≤ h) (h3 : c.natAbs ≤ B) : Sm (term e c) l h B :=
  ⟨fun k hk => by
    rw [co_term] at hk
    by_cases he : e = k
    · omega
    · rw [if_neg he] at hk; exact absurd rfl hk,
  fun k => by
    rw [co_term]
    split
    · exact h3
    · exact Nat.zero_le _⟩
theorem Sm.zero {l h : Int} {B : Nat} : Sm 0 l h B := ⟨fun k hk => absurd (co_zero k) hk, fun k => by rw [co_zero]; exact Nat.zero_le _⟩
/-- t - 1. -/
def less : LP := term 1 1 + -1
end LP
end Go.Proofs.Ytoaiblhlpdaeoaa
/- Laurent polynomials as short sums of terms: exponents within E, absolute values of coefficients that add up to at most V. -/
namespace Go.Proofs.Ytoaiblhlpdaeoaa
set_option linter.unusedVariables false
set_option linter.unusedSimpArgs false
namespace LP

def sumA : List Tm → Nat
  | [] => 0
  | p :: l => p.2.natAbs + sumA l
theorem sumA_append : ∀ a b : List Tm, sumA (a ++ b) = sumA a + sumA b
  | [], b => by simp [sumA]
  | p :: a, b => by
    show p.2.natAbs + sumA (a ++ b) = p.2.natAbs + sumA a + sumA b
    rw [sumA_append a b, Nat.add_assoc]
theorem sumA_scale (e c : Int) : ∀ l : List Tm, sumA (scaleT e c l) = c.natAbs * sumA l
  | [] => rfl
  | p :: l => by
    show (c * p.2).natAbs + sumA (scaleT e c l) = c.natAbs * (p.2.natAbs + sumA l)
    rw [sumA_scale e c l, Nat.mul_add, Int.natAbs_mul]
theorem sumA_mul (b : List Tm) : ∀ a : List Tm, sumA (mulT a b) = sumA a * sumA b
  | [] => by
    show 0 = 0 * sumA b
    rw [Nat.zero_mul]
  | p :: a => by
    rw [mulT_cons, sumA_append, sumA_scale, sumA_mul b a]
    show _ = (p.2.natAbs + sumA a) * sumA b
    rw [Nat.add_mul]
theorem coefT_sumA (k : Int) : ∀ l : List Tm, (coefT l k).natAbs ≤ sumA l
  | [] => Nat.le_refl _
  | p :: l => by
    have h := coefT_sumA k l
    show ((if p.1 = k then p.2 else 0) + coefT l k).natAbs ≤ p.2.natAbs + sumA l
    split <;> omega

/-- A short sum of terms. -/
def N1 (x : LP) (E V : Nat) : Prop := ∃ l : List Tm, mk l = x ∧ (∀ p ∈ l, p.1.natAbs ≤ E) ∧ sumA l ≤ V
theorem N1.mono {x : LP} {E V E' V' : Nat} (h : N1 x E V) (h1 : E ≤ E') (h2 : V ≤ V') : N1 x E' V' := by
  obtain ⟨l, e, hk, hv⟩ := h
  exact ⟨l, e, fun p hp => Nat.le_trans (hk p hp) h1, Nat.le_trans hv h2⟩
theorem N1.zero : N1 0 0 0 := ⟨[], rfl, fun p hp => by simp at hp, Nat.le_refl _⟩
theorem N1.term (e c : Int) : N1 (LP.term e c) e.natAbs c.natAbs := ⟨[(e, c)], rfl, fun p hp => by simp at hp; subst hp; exact Nat.le_refl _, by simp [sumA]⟩
theorem N1.one : N1 1 0 1 := N1.term 0 1
theorem N1.add {x y : LP} {E V V' : Nat} (hx : N1 x E V) (hy : N1 y E V') : N1 (x + y) E (V + V') := by
  obtain ⟨a, rfl, h1, h2⟩ := hx
  obtain ⟨b, rfl, h3, h4⟩ := hy
  refine ⟨a ++ b, rfl, fun p hp => ?_, by rw [sumA_append]; omega⟩
  rcases List.mem_append.1 hp with h | h
  · exact h1 p h
  · exact h3 p h
theorem N1.neg {x : LP} {E V : Nat} (hx : N1 x E V) : N1 (-x) E V := by
  obtain ⟨a, rfl, h1, h2⟩ := hx
  refine ⟨scaleT 0 (-1) a, rfl, fun p hp => ?_, by rw [sumA_scale, show (-1 : Int).natAbs = 1 from rfl]; omega⟩
  obtain ⟨q, hq, rfl⟩ := List.mem_map.1 hp
  have := h1 q hq
  show (0 + q.1).natAbs ≤ E
  rw [Int.zero_add]; exact this
theorem N1.mul {x y : LP} {E V E' V' : Nat} (hx : N1 x E V) (hy : N1 y E' V') : N1 (x * y) (E + E') (V * V') := by
  obtain ⟨a, rfl, h1, h2⟩ := hx
  obtain ⟨b, rfl, h3, h4⟩ := hy
  refine ⟨mulT a b, rfl, fun p hp => ?_, by rw [sumA_mul]; exact Nat.mul_le_mul h2 h4⟩
  obtain ⟨q, hq, hp⟩ := List.mem_flatMap.1 hp
  obtain ⟨r, hr, rfl⟩ := List.mem_map.1 hp
  have := h1 q hq
  have := h3 r hr
  show (q.1 + r.1).natAbs ≤ E + E'
  omega
theorem N1.co {x : LP} {E V : Nat} (h : N1 x E V) (k : Int) : (LP.co x k).natAbs ≤ V := by
  obtain ⟨l, rfl, _, hv⟩ := h
  exact Nat.le_trans (coefT_sumA k l) hv
theorem N1.supp {x : LP} {E V : Nat} (h : N1 x E V) {k : Int} (hk : LP.co x k ≠ 0) : k.natAbs ≤ E := by
  obtain ⟨l, rfl, h1, _⟩ := h
  by_cases hm : ∀ p ∈ l, p.1 ≠ k
  · exact absurd (sumT_out k l hm) hk
  · obtain ⟨p, hp⟩ := Classical.not_forall.1 hm
    obtain ⟨hp, e⟩ := Classical.not_imp.1 hp
    have := h1 p hp
    rw [Classical.not_not.1 e] at this
    exact this
theorem N1.sumN {f : Nat → LP} {E V : Nat} : ∀ {n : Nat}, (∀ i, i < n → N1 (f i) E V) → N1 (CR.sumN n f) E (n * V)
  | 0, _ => N1.zero.mono (Nat.zero_le _) (Nat.zero_le _)
  | n + 1, h => by
    rw [CR.sumN_succ, Nat.succ_mul]
    exact (N1.sumN fun i hi => h i (by omega)).add (h n (by omega))
theorem N1.sgR (j : Nat) : N1 (CR.sgR LP j) 0 1 := by
  unfold CR.sgR
  split
  · exact N1.one
  · exact N1.one.neg
def fctP : Nat → Nat
  | 0 => 1
  | n + 1 => (n + 1) * fctP n
theorem N1.detR {E V : Nat} : ∀ {n : Nat} {M : Mtx LP}, (∀ i, i < n → ∀ j, j < n → N1 (M i j) E V) → N1 (Proofs.Ytoaiblhlpdaeoaa.detR n M) (n * E) (fctP n * V ^ n)
  | 0, M, _ => by
    show N1 1 (0 * E) (1 * V ^ 0)
    rw [Nat.zero_mul, Nat.pow_zero]
    exact N1.one
  | n + 1, M, h => by
    have h1 : ∀ j, j < n + 1 → N1 (CR.sgR LP j * (M 0 j * Proofs.Ytoaiblhlpdaeoaa.detR n fun a b => M (a + 1) (CR.skip j b))) ((n + 1) * E) (V * (fctP n * V ^ n)) := fun j hj => by
      have h2 := (N1.sgR j).mul ((h 0 (by omega) j hj).mul (N1.detR (M := fun a b => M (a + 1) (CR.skip j b)) fun i hi k hk => h (i + 1) (by omega) _ (skip_lt hk)))
      refine h2.mono ?_ ?_
      · rw [Nat.succ_mul]; omega
      · rw [Nat.one_mul]; exact Nat.le_refl _
    have h3 := N1.sumN h1
    refine N1.mono (x := CR.sumN (n + 1) _) h3 (Nat.le_refl _) (Nat.le_of_eq ?_)
    show (n + 1) * (V * (fctP n * V ^ n)) = (n + 1) * fctP n * V ^ (n + 1)
    rw [Nat.pow_succ]
    ac_rfl
end LP
end Go.Proofs.Ytoaiblhlpdaeoaa
/- Burau matrices: letters as row operations, the relations of the braid group, row sums, the row 1, t, t^2, .. . -/
namespace Go.Proofs.Ytoaiblhlpdaeoaa
set_option linter.unusedVariables false
set_option linter.unusedSimpArgs false
set_option linter.unusedSectionVars false
open CR

section
variable {R : Type} [CR R]
/-- Equal within n rows and columns. -/
def EqM (n : Nat) (A B : Mtx R) : Prop := ∀ i, i < n → ∀ j, j < n → A i j = B i j
theorem EqM.refl (n : Nat) (A : Mtx R) : EqM n A A := fun _ _ _ _ => rfl
theorem EqM.symm {n : Nat} {A B : Mtx R} (h : EqM n A B) : EqM n B A := fun i hi j hj => (h i hi j hj).symm
theorem EqM.trans {n : Nat} {A B C : Mtx R} (h : EqM n A B) (k : EqM n B C) : EqM n A C := fun i hi j hj => (h i hi j hj).trans (k i hi j hj)
theorem EqM.mul {n : Nat} {A A' B B' : Mtx R} (h : EqM n A A') (k : EqM n B B') : EqM n (mulM n A B) (mulM n A' B') := fun i hi j hj =>
  sumN_congr fun l hl => by rw [h i hi l hl, k l hl j hj]
theorem EqM.one_mul (n : Nat) (A : Mtx R) : EqM n (mulM n oneM A) A := fun i hi j hj => by
  show sumN n (fun k => oneM i k * A k j) = A i j
  rw [sumN_single (k := i) hi (fun k _ hne => by rw [show (oneM : Mtx R) i k = 0 from if_neg (Ne.symm hne), zero_mul]), show (oneM : Mtx R) i i = 1 from if_pos rfl, CR.one_mul]
theorem EqM.mul_one (n : Nat) (A : Mtx R) : EqM n (mulM n A oneM) A := fun i hi j hj => by
  show sumN n (fun k => A i k * oneM k j) = A i j
  rw [sumN_single (k := j) hj (fun k _ hne => by rw [show (oneM : Mtx R) k j = 0 from if_neg hne, mul_zero]), show (oneM : Mtx R) j j = 1 from if_pos rfl, CR.mul_one]

/-- What a positive letter does to rows a - 1 and a. -/
def opP (t : R) (a : Nat) (A : Mtx R) : Mtx R := fun r c => if r + 1 = a then (1 + -t) * A r c + t * A (r + 1) c else if r = a then A (r - 1) c else A r c
def opN (t : R) (a : Nat) (A : Mtx R) : Mtx R := fun r c => if r + 1 = a then A (r + 1) c else if r = a then t * A (r - 1) c + (1 + -t) * A r c else A r c
theorem EqM.opP {n : Nat} {A B : Mtx R} (t : R) {a : Nat} (ha : a < n) (h : EqM n A B) : EqM n (Proofs.Ytoaiblhlpdaeoaa.opP t a A) (Proofs.Ytoaiblhlpdaeoaa.opP t a B) := fun r hr c hc => by
  unfold Proofs.Ytoaiblhlpdaeoaa.opP
  by_cases h1 : r + 1 = a
  · rw [if_pos h1, if_pos h1, h r hr c hc, h (r + 1) (by omega) c hc]
  · rw [if_neg h1, if_neg h1]
    split
    · exact h _ (by omega) c hc
    · exact h r hr c hc
theorem EqM.opN {n : Nat} {A B : Mtx R} (t : R) {a : Nat} (ha : a < n) (h : EqM n A B) : EqM n (Proofs.Ytoaiblhlpdaeoaa.opN t a A) (Proofs.Ytoaiblhlpdaeoaa.opN t a B) := fun r hr c hc => by
  unfold Proofs.Ytoaiblhlpdaeoaa.opN
  by_cases h1 : r + 1 = a
  · rw [if_pos h1, if_pos h1, h (r + 1) (by omega) c hc]
  · rw [if_neg h1, if_neg h1]
    split
    · rw [h r hr c hc, h _ (by omega) c hc]
    · exact h r hr c hc
end

def tT : LP := LP.term 1 1
def tI : LP := LP.term (-1) 1
def opL (x : Int) (A : Mtx LP) : Mtx LP := if 0 < x then opP tT x.natAbs A else opN tI x.natAbs A
/-- Letters of a braid word on n strands. -/
def okB (n : Nat) (w : List Int) : Prop := ∀ x ∈ w, x ≠ 0 ∧ x.natAbs < n
theorem EqM.opL {n : Nat} {A B : Mtx LP} {x : Int} (hx : x.natAbs < n) (h : EqM n A B) : EqM n (Proofs.Ytoaiblhlpdaeoaa.opL x A) (Proofs.Ytoaiblhlpdaeoaa.opL x B) := by
  unfold Proofs.Ytoaiblhlpdaeoaa.opL
  split
  · exact h.opP _ hx
  · exact h.opN _ hx
def opW : List Int → Mtx LP → Mtx LP
  | [], A => A
  | x :: w, A => opL x (opW w A)
/-- Words that are equal by a relation: what they do to all matrices is equal. -/
def RelB (a b : List Int) : Prop := ∀ A : Mtx LP, opW a A = opW b A
theorem RelB.symm {a b : List Int} (h : RelB a b) : RelB b a := fun A => (h A).symm
end Go.Proofs.Ytoaiblhlpdaeoaa
/- Braid words: what is wrong with one, where its strands end. -/
namespace Go.Proofs.Ytoaiblhlpdaeoaa
set_option linter.unusedVariables false
set_option linter.unusedSimpArgs false

def okX (n x : Int) : Bool := decide (x ≠ 0 ∧ x < n ∧ -n < x)
def bfault (n : Int) (w : List Int) : Int := if n < 1 ∨ 6 < n then 1 else if 30 < w.length then 2 else if w.all (okX n) then 0 else 3
theorem bfault_zero {n : Int} {w : List Int} (h : bfault n w = 0) : 1 ≤ n ∧ n ≤ 6 ∧ w.length ≤ 30 ∧ ∀ x ∈ w, x ≠ 0 ∧ x < n ∧ -n < x := by
  unfold bfault at h
  split at h
  · omega
  · next h1 =>
    split at h
    · omega
    · next h2 =>
      split at h
      · next h3 => exact ⟨by omega, by omega, by omega, fun x hx => by simpa [okX] using List.all_eq_true.1 h3 x hx⟩
      · omega
theorem bfault_ok {n : Int} {w : List Int} (h1 : 1 ≤ n) (h6 : n ≤ 6) (h : w.length ≤ 30) (hw : ∀ x ∈ w, x ≠ 0 ∧ x < n ∧ -n < x) : bfault n w = 0 := by
  unfold bfault
  rw [if_neg (by omega), if_neg (by omega), if_pos (List.all_eq_true.2 fun x hx => by simpa [okX] using hw x hx)]
/-- Where a strand goes at a letter. -/
def stepE (at_ : Nat) (x : Int) : Nat := if at_ + 1 = x.natAbs then at_ + 1 else if at_ = x.natAbs then at_ - 1 else at_
def endE (w : List Int) (s : Nat) : Nat := w.foldl stepE s
def endsL (n : Nat) (w : List Int) : List Nat := (List.range n).map (endE w)
theorem endsL_length (n : Nat) (w : List Int) : (endsL n w).length = n := by simp [endsL]
theorem stepE_lt {n at_ : Nat} {x : Int} (hx : x ≠ 0) (h1 : x.natAbs < n) (h : at_ < n) : stepE at_ x < n := by
  unfold stepE
  split
  · omega
  · split <;> omega
theorem endE_append (u v : List Int) (s : Nat) : endE (u ++ v) s = endE v (endE u s) := by unfold endE; rw [List.foldl_append]
theorem endE_snoc (w : List Int) (x : Int) (s : Nat) : endE (w ++ [x]) s = stepE (endE w s) x := by rw [endE_append]; rfl
theorem okB_of {n : Nat} {w : List Int} (h : ∀ x ∈ w, x ≠ 0 ∧ x < (n : Int) ∧ -(n : Int) < x) : okB n w := fun x hx => by have := h x hx; omega
/-- Words that act alike on all strands. -/
def RelE (a b : List Int) : Prop := ∀ s, endE a s = endE b s
theorem RelE.ends {a b : List Int} (h : RelE a b) (n : Nat) (u v : List Int) : endsL n (u ++ a ++ v) = endsL n (u ++ b ++ v) := by
  unfold endsL
  refine List.map_congr_left fun s _ => ?_
  rw [endE_append, endE_append, endE_append, endE_append, h]
theorem stepE_twice {x : Int} (h : x ≠ 0) (s : Nat) : stepE (stepE s x) x = s := by
  unfold stepE
  by_cases h1 : s + 1 = x.natAbs
  · rw [if_pos h1, if_neg (by omega), if_pos (by omega)]; omega
  · rw [if_neg h1]
    by_cases h2 : s = x.natAbs
    · rw [if_pos h2, if_pos (by omega)]; omega
    · rw [if_neg h2, if_neg h1, if_neg h2]
end Go.Proofs.Ytoaiblhlpdaeoaa
/- timbref1.BraidFault, Index, Ends. -/
namespace Go.Proofs.Ytoaiblhlpdaeoaa
set_option linter.unusedVariables false
set_option linter.unusedSimpArgs false
open Go.RowKit

set_option maxHeartbeats 2000000 in
theorem braidFault_any (m : Int) (A : Option Addr) (n c : Nat) (xs : List Int) (w : World) (ha : IL w A n xs) (hm : (Lit.int .i64 m).wf = true) :
    Calls Try.prog 13 #[.int .i64 m, .slice A n c] w fun e w' => e = .returned (.int .i64 (bfault m xs)) ∧ w = w' := by
  have hl := ha.len
  have hns := ha.small
  have HA := hide ha
  have HL := hide hl
  have HM := hide hm
  clear ha hl hm
  by_cases h1 : m < 1
  · have HF : Hid (bfault m xs = 1) := hide (by unfold bfault; rw [if_pos (.inl h1)])
    go_enter Try.func13, Try.ntmps13
    go_wp2
    go_ret
    rw [HF.out]
    exact ⟨rfl, rfl⟩
  by_cases h6 : 6 < m
  · have HF : Hid (bfault m xs = 1) := hide (by unfold bfault; rw [if_pos (.inr h6)])
    go_enter Try.func13, Try.ntmps13
    go_wp2
    go_ret
    rw [HF.out]
    exact ⟨rfl, rfl⟩
  by_cases h30 : 30 < n
  · have HF : Hid (bfault m xs = 2) := hide (by unfold bfault; rw [if_neg (by omega), if_pos (by rw [HL.out]; exact h30)])
    go_enter Try.func13, Try.ntmps13
    go_wp2
    go_ret
    rw [HF.out]
    exact ⟨rfl, rfl⟩
  · have HF : Hid (bfault m xs = if xs.all (okX m) then 0 else 3) := hide (by unfold bfault; rw [if_neg (by omega), if_neg (by rw [HL.out]; exact h30)])
    have hwm : IntKind.i64.wrap (-m) = -m := by rw [IntKind.wrap_i64]; omega
    go_enter Try.func13, Try.ntmps13
    go_wp2
    go_loop [18] (fun iv => ∃ k : Nat, k ≤ n ∧ iv = .int .i64 k ∧ Hid ((xs.take k).all (okX m) = true)) (fun iv => n - (intOf iv).toNat)
    case atStart => exact ⟨0, Nat.zero_le _, rfl, by rw [List.take_zero]; exact rfl⟩
    case round =>
      obtain ⟨k, hk, rfl, HK⟩ := hrel
      by_cases hlt : k < n
      · obtain ⟨ad, rfl, hcl⟩ := HA.out.at_ hlt
        have hkl : k < xs.length := by rw [HL.out]; exact hlt
        have hget : xs.getD k 0 = xs[k] := by simp [List.getD, List.getElem?_eq_getElem hkl]
        have HT : Hid ((xs.take (k + 1)).all (okX m) = ((xs.take k).all (okX m) && okX m (xs.getD k 0))) := hide (by rw [List.take_succ_eq_append_getElem hkl, List.all_append, hget]; simp)
        have HM : Hid (xs.getD k 0 ∈ xs) := hide (by rw [hget]; exact List.getElem_mem _)
        clear hkl hget
        generalize xs.getD k 0 = x at *
        by_cases hok : x ≠ 0 ∧ x < m ∧ -m < x
        · have HN : Hid ((xs.take (k + 1)).all (okX m) = true) := hide (by rw [HT.out, HK.out]; simp [okX, hok])
          obtain ⟨h0, h2, h3⟩ := hok
          have hb : (x == 0) = false := by simpa using h0
          clear h0
          go_wp2
          go_round
          case rel => exact ⟨k + 1, by omega, by go_num, HN.out⟩
          case measure => simp [intOf]; omega
        · have HN : Hid (xs.all (okX m) = false) := hide (by
            rw [Bool.eq_false_iff]
            intro h
            have := List.all_eq_true.1 h x HM.out
            exact hok (by simpa [okX] using this))
          rw [HN.out] at HF
          by_cases h0 : x = 0
          · subst h0
            clear hok
            go_wp2
            go_ret
            rw [HF.out]
            exact ⟨rfl, rfl⟩
          · have hb : (x == 0) = false := by simpa using h0
            by_cases h2 : m ≤ x
            · clear hok h0
              go_wp2
              go_ret
              rw [HF.out]
              exact ⟨rfl, rfl⟩
            · have h3 : x ≤ -m := by
                rcases Int.lt_or_le (-m) x with h | h
                · exact absurd ⟨h0, by omega, h⟩ hok
                · exact h
              clear hok h0
              go_wp2
              go_ret
              rw [HF.out]
              exact ⟨rfl, rfl⟩
      · have HE : Hid (xs.all (okX m) = true) := hide (by
          have := HK.out
          rwa [List.take_of_length_le (by rw [HL.out]; omega)] at this)
        rw [HE.out] at HF
        go_wp2
        go_ret
        rw [HF.out]
        exact ⟨rfl, rfl⟩

set_option maxHeartbeats 1000000 in
theorem index_any_ (x : Int) (w : World) (hx : x.natAbs ≤ 1000000) : Calls Try.prog 99 #[.int .i64 x] w fun e w' => e = .returned (.int .i64 (x.natAbs : Int)) ∧ w = w' := by
  have hw : IntKind.i64.wrap (-x) = -x := by rw [IntKind.wrap_i64]; omega
  by_cases h : 0 ≤ x
  · obtain ⟨a, rfl⟩ : ∃ a : Nat, x = (a : Int) := ⟨x.natAbs, by omega⟩
    rw [Int.natAbs_natCast]
    have hm : max (a : Int) (-(a : Int)) = (a : Int) := by omega
    go_enter Try.func99, Try.ntmps99
    go_wp2
    all_goals first | (exfalso; omega) | (go_ret; exact ⟨rfl, rfl⟩)
  · obtain ⟨a, rfl⟩ : ∃ a : Nat, x = -(a : Int) := ⟨x.natAbs, by omega⟩
    rw [Int.natAbs_neg, Int.natAbs_natCast, Int.neg_neg] at *
    have hm : max (-(a : Int)) (a : Int) = (a : Int) := by omega
    go_enter Try.func99, Try.ntmps99
    go_wp2
    all_goals first | (exfalso; omega) | (go_ret; exact ⟨rfl, rfl⟩)

end Go.Proofs.Ytoaiblhlpdaeoaa
/- slices.Delete of two elements of a slice that the call owns. -/
namespace Go.Proofs.Ytoaiblhlpdaeoaa
set_option linter.unusedVariables false
set_option linter.unusedSimpArgs false
open Go.RowKit

/-- The list without its elements i and i + 1. -/
def without2 (xs : List Int) (i : Nat) : List Int := xs.take i ++ xs.drop (i + 2)
theorem without2_length {xs : List Int} {i : Nat} (h : i + 2 ≤ xs.length) : (without2 xs i).length = xs.length - 2 := by simp [without2]; omega
theorem deleted2 {xs : List Int} {n i : Nat} (hl : xs.length = n) (hi : i + 2 ≤ n) : (((setMany xs i (xs.drop (i + 2))).set (n - 2) 0).set (n - 2 + 1) 0).take (n - 2) = without2 xs i := by
  have hx : (setMany xs i (xs.drop (i + 2))).length = n := by rw [setMany_length, hl]
  apply List.ext_getElem?
  intro j
  by_cases hj : j < n - 2
  · rw [List.getElem?_take, if_pos hj, List.getElem?_set, if_neg (by omega), List.getElem?_set, if_neg (by omega)]
    have h1 := setMany_getD (xs.drop (i + 2)) xs i j (by simp; omega)
    have h2 : ((setMany xs i (xs.drop (i + 2)))[j]?) = some ((setMany xs i (xs.drop (i + 2))).getD j 0) := by
      simp [List.getD, List.getElem?_eq_getElem (show j < (setMany xs i (xs.drop (i + 2))).length by omega)]
    rw [h2, h1]
    have h3 : (without2 xs i)[j]? = some ((without2 xs i).getD j 0) := by
      simp [List.getD, List.getElem?_eq_getElem (show j < (without2 xs i).length by rw [without2_length (by omega)]; omega)]
    rw [h3]
    congr 1
    by_cases hji : j < i
    · rw [if_neg (by omega)]
      simp only [without2, List.getD, List.getElem?_append, List.length_take, List.getElem?_take]
      rw [if_pos (by omega), if_pos hji]
    · rw [if_pos (by simp; omega)]
      simp only [without2, List.getD, List.getElem?_append, List.length_take, List.getElem?_drop]
      rw [if_neg (by omega), show min i xs.length = i from by omega]
  · rw [List.getElem?_eq_none (by simp; omega), List.getElem?_eq_none (by rw [without2_length (by omega)]; omega)]

theorem run_clear_two (w : World) (ty : TypeId) (b o cap : Nat) {v v' : Value} (hc : w.cell? ⟨b, o, none⟩ = some v) (hf : w.frozen? ⟨b, o, none⟩ = false) (hc' : (w.setCell ⟨b, o, none⟩ (.int .i64 0)).cell? ⟨b, o + 1, none⟩ = some v') (hf' : (w.setCell ⟨b, o, none⟩ (.int .i64 0)).frozen? ⟨b, o + 1, none⟩ = false) :
    (Builtin.clear_ #[22] ty #[.slice (some ⟨b, o, none⟩) 2 cap]).run Try.prog w = .ok (.tuple #[]) ((w.setCell ⟨b, o, none⟩ (.int .i64 0)).setCell ⟨b, o + 1, none⟩ (.int .i64 0)) := by
  obtain ⟨i0, hi0, hz0, hz1, hz2⟩ := info_parts int_info
  have e : (⟨b, o, none⟩ : Addr).add 1 = ⟨b, o + 1, none⟩ := by simp [Addr.add]
  simp [Builtin.clear_, run_underlying Try.underlying22, zeroValue, typeInfo, hi0, hz0, storeCells, Builtin.zeroCells, go_sem, hc, hf, e, hc', hf']
theorem run_clear_tail2 (w : World) (ty : TypeId) {base g n c i m d : Nat} {xs : List Int} (h : OwnI w base (some ⟨g, 0, none⟩) n c xs) (hi : i + 2 = n) (hm : m = 2) :
    (Builtin.clear_ #[22] ty #[.slice (some ⟨g, i, none⟩) m d]).run Try.prog w = .ok (.tuple #[]) ((w.setCell ⟨g, i, none⟩ (.int .i64 0)).setCell ⟨g, i + 1, none⟩ (.int .i64 0)) := by
  subst hm
  exact run_clear_two w ty g i d (h.cell (by omega)) (h.frozen i) ((h.set_ i 0).cell (by omega)) ((h.set_ i 0).frozen (i + 1))

set_option maxHeartbeats 1600000 in
set_option maxRecDepth 1000000 in
theorem delete2_any (base g n c i : Nat) (xs : List Int) (w : World) (h : OwnI w base (some ⟨g, 0, none⟩) n c xs) (hi : i + 2 ≤ n) :
    Calls Try.prog 114 #[.slice (some ⟨g, 0, none⟩) n c, .int .i64 i, .int .i64 ((i : Int) + 2)] w fun e w' => e = .returned (.slice (some ⟨g, 0, none⟩) (n - 2) c) ∧ OwnI w' base (some ⟨g, 0, none⟩) (n - 2) c (without2 xs i) ∧ w.grownBy w' (some g) := by
  obtain ⟨i0, hi0, hz0, hz1, hz2⟩ := info_parts int_info
  have hcap := h.cap
  have hsm := h.small
  have HL := hide h.len
  have hcm : c ≤ 9223372036854775807 := by
    rcases h.own.2 with ⟨hv, _⟩ | ⟨g', cap, cur, hv, _, _, _, hcm, _⟩
    · cases hv
    · simp only [Value.slice.injEq, true_and] at hv
      obtain ⟨_, rfl⟩ := hv
      unfold maxLen at hcm
      exact hcm
  obtain ⟨B, hB⟩ : ∃ B : Addr, (if c = i + 2 then some (⟨g, 0, none⟩ : Addr) else some ⟨g, i + 2, none⟩) = some B := by
    by_cases h : c = i + 2
    · exact ⟨_, if_pos h⟩
    · exact ⟨_, if_neg h⟩
  have hnews : Hid (∀ j u, ((xs.drop (i + 2)).map (Value.int .i64))[j]? = some u → w.drew.cell? (B.add j) = some u) := by
    intro j u hu
    have ht := h.il.tail (k := i + 2) (d := c) (by omega) hcap
    rw [Nat.zero_add, hB] at ht
    have hj : j < n - (i + 2) := by
      have := (List.getElem?_eq_some_iff.1 hu).1
      simp at this
      have := HL.out
      omega
    obtain ⟨ad, e, hc⟩ := ht.at_ hj
    injection e with e
    subst e
    show w.cell? _ = _
    rw [hc, ← hu]
    simp [List.getD, show i + 2 + j < xs.length by have := HL.out; omega]
  have s1 : Hid (((xs.drop (i + 2)).map (Value.int .i64)).length = (n - (i + 2)) * 1) := by
    have := HL.out
    show _ = _
    simp
    omega
  have s2 : Hid (∀ u ∈ (xs.drop (i + 2)).map (Value.int .i64), u.oneCell' = true) := ints_oneCell _ _
  have s3 : Hid (∀ j, j < ((xs.drop (i + 2)).map (Value.int .i64)).length → (w.drew.cell? ⟨g, 0 + i * 1 + j, none⟩).isSome = true ∧ w.drew.frozen? ⟨g, 0 + i * 1 + j, none⟩ = false) := by
    intro j hj
    rw [s1.out] at hj
    refine ⟨?_, h.frozen _⟩
    show (w.cell? _).isSome = true
    rw [h.cell (by omega)]
    rfl
  have hic : i ≤ c := by omega
  have hwr : IntKind.i64.wrap ((i : Int) + 2) = (i : Int) + 2 := by rw [IntKind.wrap_i64]; omega
  have hp0 : (0 : Int) ≤ (i : Int) + 2 := by omega
  have hp1 : (i : Int) + 2 ≤ (n : Int) := by omega
  have hp2 : ((i : Int) + 2).toNat = i + 2 := by omega
  have HO : Hid (OwnI (w.drew.setCells g i (List.drop (i + 2) (List.map (Value.int .i64) xs))) base (some ⟨g, 0, none⟩) n c (setMany xs i (xs.drop (i + 2)))) := by
    have h1 : OwnI w.drew base (some ⟨g, 0, none⟩) n c xs := h.drew
    rw [← List.map_drop]
    exact h1.setCells _ i
  have HG : Hid (w.grownBy (w.drew.setCells g i (List.drop (i + 2) (List.map (Value.int .i64) xs))) (some g)) := grownBy_setCells g _ _ _ _ (grownBy_drew (World.grownBy.refl w _))
  have hclr := run_clear_tail2 (w.drew.setCells g i (List.drop (i + 2) (List.map (Value.int .i64) xs))) 0 (i := i + (n - (i + 2))) (m := n - (i + (n - (i + 2)))) (d := c - (i + (n - (i + 2)))) HO.out (by omega) (by omega)
  clear h
  go_enter Try.func114, Try.ntmps114
  go_wp2_with fail
  go_region_law (refine step_append_room rfl (.tmp 22) (.tmp 25) 22 rfl 3 i0 1 Try.underlying22 hi0 hz1 g 0 i c (by simp [Act.eval, Act.put]) B (n - (i + 2)) (c - (i + 2)) ((xs.drop (i + 2)).map (Value.int .i64)) (by simp [Act.eval, Act.put]) s1.out hnews.out s2.out (by omega) s3.out ?_)
  go_wp2
  go_ret
  have e1 : i + (n - (i + 2)) = n - 2 := by omega
  rw [e1]
  refine ⟨rfl, ?_, ?_⟩
  · have h2 := ((HO.out.set_ (n - 2) 0).set_ (n - 2 + 1) 0).shrink (m := n - 2) (by omega) (by omega)
    rw [deleted2 HL.out hi] at h2
    exact h2
  · exact grownBy_setCells g [Value.int .i64 0, Value.int .i64 0] (n - 2) _ _ HG.out
end Go.Proofs.Ytoaiblhlpdaeoaa
/- timbref1.Short: the reduced form. -/
namespace Go.Proofs.Ytoaiblhlpdaeoaa
set_option linter.unusedVariables false
set_option linter.unusedSimpArgs false
open Go.RowKit

/-- The word, reduced from letter k on. -/
def shK (xs : List Int) (k : Nat) : List Int := xs.take k ++ nf (xs.drop k)
theorem shK_succ {xs : List Int} {i : Nat} (h : i < xs.length) : shK xs (i + 1) = xs.take i ++ xs.getD i 0 :: nf (xs.drop (i + 1)) := by
  unfold shK
  rw [List.take_succ_eq_append_getElem h, List.append_assoc]
  simp [List.getD, List.getElem?_eq_getElem h]
theorem shK_cns {xs : List Int} {i : Nat} (h : i < xs.length) : shK xs i = xs.take i ++ cns (xs.getD i 0) (nf (xs.drop (i + 1))) := by
  unfold shK
  rw [List.drop_eq_getElem_cons h]
  rw [show xs.getD i 0 = xs[i] by simp [List.getD, List.getElem?_eq_getElem h]]
  rfl
theorem getD_mid (a : List Int) (x : Int) (t : List Int) : (a ++ x :: t).getD a.length 0 = x := by simp [List.getD]
theorem getD_mid2 (a : List Int) (x y : Int) (t : List Int) : (a ++ x :: y :: t).getD (a.length + 1) 0 = y := by
  simp only [List.getD]
  rw [List.getElem?_append_right (by omega)]
  simp
theorem without2_mid (a : List Int) (x y : Int) (t : List Int) : without2 (a ++ x :: y :: t) a.length = a ++ t := by
  unfold without2
  rw [List.take_left, List.drop_append, List.drop_of_length_le (by omega), show a.length + 2 - a.length = 2 by omega]
  simp

set_option maxRecDepth 100000 in
set_option maxHeartbeats 2000000 in
theorem short_any (A : Option Addr) (n c : Nat) (xs : List Int) (w : World) (ha : IL w A n xs) (hc : A = none → n = 0 ∧ c = 0) (hb : ∀ x ∈ xs, -1000 ≤ x ∧ x ≤ 1000) :
    Calls Try.prog 100 #[.slice A n c] w (GivesOwn w (nf xs)) := by
  have hl := ha.len
  have hna := ha.small
  have HL := hide hl
  have HB := hide hb
  have HC := hide (clone_any A n c xs w ha hc)
  clear ha hl hb hc
  go_enter Try.func100, Try.ntmps100
  go_wp2_with fail
  refine HC.out.mono ?_
  rintro e w1 ⟨A1, n1, c1, rfl, ho1, hb1⟩
  have hn1 : n1 = n := by rw [← ho1.len]; exact HL.out
  subst hn1
  have HS : Hid (OwnI w1 w.heap.size A1 n1 c1 (shK xs (n1 - 1))) := by
    have : shK xs (n1 - 1) = xs := by
      by_cases h0 : n1 = 0
      · rw [List.eq_nil_of_length_eq_zero (show xs.length = 0 by rw [HL.out]; exact h0)]; simp [shK, nf, act]
      · have hlt : n1 - 1 < xs.length := by rw [HL.out]; omega
        unfold shK
        rw [List.drop_eq_getElem_cons hlt, List.drop_of_length_le (by rw [HL.out]; omega)]
        rw [show nf [xs[n1 - 1]] = [xs[n1 - 1]] from rfl]
        rw [← List.take_succ_eq_append_getElem hlt, List.take_of_length_le (by rw [HL.out]; omega)]
    rw [this]
    exact ho1
  have HST : Hid ((n1 : Int) - 2 = ((n1 - 1 : Nat) : Int) - 1 ∨ ((n1 : Int) - 2 < 0 ∧ n1 - 1 = 0)) := hide (by omega)
  clear ho1
  go_wp2_with fail
  go_loopw [0, 3] (fun sv iv wr => ∃ (m k : Nat) (j : Int), sv = .slice A1 m c1 ∧ iv = .int .i64 j ∧ k ≤ n1 - 1 ∧ -2 ≤ j ∧ j ≤ 17592186044416 ∧ Hid (j = (k : Int) - 1 ∨ (j < 0 ∧ k = 0)) ∧ Hid (OwnI wr w.heap.size A1 m c1 (shK xs k)) ∧ Below w.heap.size w wr) (fun _ iv _ => (intOf iv + 1).toNat)
  case atStart => exact ⟨n1, n1 - 1, (n1 : Int) - 2, rfl, rfl, by omega, by omega, by omega, HST.out, HS.out, hb1⟩
  case round =>
    clear HS HST hb1
    obtain ⟨m, k, j, rfl, rfl, hk, hj0, hj1, HJ, HO, hb⟩ := hrel
    by_cases hneg : j < 0
    · have HE : Hid (OwnI wr w.heap.size A1 m c1 (nf xs)) := by
        have hk0 : k = 0 := by have := HJ.out; omega
        have := HO.out
        rw [hk0] at this
        exact this
      go_wp2
      go_ret
      exact ⟨_, _, _, rfl, HE.out, hb⟩
    · obtain ⟨i, rfl⟩ : ∃ i : Nat, j = i := ⟨j.toNat, by omega⟩
      have hki : k = i + 1 := by have := HJ.out; omega
      have hil : i < xs.length := by rw [HL.out]; omega
      have HSU := hide (shK_succ hil)
      have HCN := hide (shK_cns hil)
      have hm : xs.getD i 0 ∈ xs := by
        rw [show xs.getD i 0 = xs[i] by simp [List.getD, List.getElem?_eq_getElem hil]]
        exact List.getElem_mem _
      obtain ⟨hx0, hx1⟩ := HB.out _ hm
      have htl : (xs.take i).length = i := by rw [List.length_take]; omega
      have hmem : ∀ y ∈ nf (xs.drop (i + 1)), -1000 ≤ y ∧ y ≤ 1000 := fun y hy => HB.out y (List.mem_of_mem_drop (nf_mem hy))
      have HM := hide hmem
      obtain ⟨x, hx⟩ : ∃ x, xs.getD i 0 = x := ⟨_, rfl⟩
      obtain ⟨t, ht⟩ : ∃ t, nf (xs.drop (i + 1)) = t := ⟨_, rfl⟩
      obtain ⟨a, ha⟩ : ∃ a, xs.take i = a := ⟨_, rfl⟩
      rw [hx, ht, ha] at HSU HCN
      rw [hx] at hx0 hx1
      rw [ht] at HM
      rw [ha] at htl
      rw [hki, HSU.out] at HO
      have hml := HO.out.len
      have hms := HO.out.small
      rw [List.length_append, List.length_cons, htl] at hml
      obtain ⟨g, rfl, hg1, hg2⟩ := HO.out.form (by omega)
      have HNJ : Hid ((i : Int) - 1 = (i : Int) - 1) := rfl
      have hin : i ≤ n1 - 1 := by omega
      clear hm hmem hx ht ha hki hil HJ HSU
      cases t with
      | nil =>
        have HN : Hid (OwnI wr w.heap.size (some ⟨g, 0, none⟩) m c1 (shK xs i)) := by rw [HCN.out]; exact HO.out
        have hmi : m = i + 1 := by rw [← hml]; rfl
        subst hmi
        have hg : decide (((i : Nat) : Int) + 1 < ((i + 1 : Nat) : Int)) = false := by simp
        have hg2 : decide (i + 1 < i + 1) = false := by simp
        clear hml HO
        go_wp2_with fail
        go_quiet (fail)
        have HN2 := hide (HN.out.drewN nq)
        have hb2 := below_drewN hb nq
        clear HN hb
        generalize wr.drewN nq = w9 at *
        go_wp2
        go_roundw
        case rel => exact ⟨i + 1, i, (i : Int) - 1, by go_num, rfl, by omega, by omega, by omega, .inl rfl, HN2.out, hb2⟩
        case measure => first | (simp [intOf]; done) | (simp [intOf]; omega)
      | cons y s =>
        have hmi : i + 1 < m := by rw [← hml, List.length_cons]; omega
        have hg : decide ((i : Int) + 1 < (m : Int)) = true := by simp; omega
        have hg2 : decide (i + 1 < m) = true := by simp; omega
        have hc1 := HO.out.cell (j := i) (by omega)
        have hc2 := HO.out.cell (j := i + 1) hmi
        have e1 : (a ++ x :: y :: s).getD i 0 = x := by rw [← htl]; exact getD_mid a x _
        have e2 : (a ++ x :: y :: s).getD (i + 1) 0 = y := by rw [← htl]; exact getD_mid2 a x y s
        rw [e1] at hc1
        rw [e2] at hc2
        obtain ⟨hy0, hy1⟩ := HM.out y (by simp)
        have hwr : IntKind.i64.wrap ((i : Int) + 1) = (i : Int) + 1 := by rw [IntKind.wrap_i64]; omega
        have hp0 : (0 : Int) ≤ (i : Int) + 1 := by omega
        have hp1 : (i : Int) + 1 < (m : Int) := by omega
        have hp2 : ((i : Int) + 1).toNat = i + 1 := by omega
        clear hml e1 e2
        by_cases hxy : x = -y
        · have hbe : (x == -y) = true := by simpa using hxy
          have HW : Hid (without2 (a ++ x :: y :: s) i = shK xs i) := hide (by
            rw [HCN.out, cns_cons, if_pos hxy]
            have := without2_mid a x y s
            rwa [htl] at this)
          clear hxy
          go_wp2_with fail
          go_quiet (fail)
          have HO2 := hide (HO.out.drewN nq)
          have hb2 := below_drewN hb nq
          clear HO hb hc1 hc2 hg2 hwr hp0 hp2
          generalize wr.drewN nq = w9 at *
          go_wp2_with fail
          refine (delete2_any w.heap.size g m c1 i _ w9 HO2.out (by omega)).mono ?_
          rintro e w10 ⟨rfl, ho10, hg10⟩
          rw [HW.out] at ho10
          have HO10 := hide ho10
          have hb10 := hb2.grown hg10 hb2.size (fun j hj => by injection hj with hj; omega)
          clear ho10 hg10 hb2 HO2
          go_wp2
          go_roundw
          case rel => exact ⟨m - 2, i, (i : Int) - 1, rfl, rfl, hin, by omega, by omega, .inl rfl, HO10.out, hb10⟩
          case measure => first | (simp [intOf]; done) | (simp [intOf]; omega)
        · have hbe : (x == -y) = false := by simpa using hxy
          have HN : Hid (OwnI wr w.heap.size (some ⟨g, 0, none⟩) m c1 (shK xs i)) := by
            rw [HCN.out, cns_cons, if_neg hxy]
            exact HO.out
          clear hxy HO
          go_wp2_with fail
          go_quiet (fail)
          have HN2 := hide (HN.out.drewN nq)
          have hb2 := below_drewN hb nq
          clear HN hb hc1 hc2 hg2 hwr hp0 hp2
          generalize wr.drewN nq = w9 at *
          go_wp2
          go_roundw
          case rel => exact ⟨m, i, (i : Int) - 1, rfl, rfl, hin, by omega, by omega, .inl rfl, HN2.out, hb2⟩
          case measure => first | (simp [intOf]; done) | (simp [intOf]; omega)
end Go.Proofs.Ytoaiblhlpdaeoaa
/- timbref1.Core: the cyclically reduced part. -/
namespace Go.Proofs.Ytoaiblhlpdaeoaa
set_option linter.unusedVariables false
set_option linter.unusedSimpArgs false
open Go.RowKit

theorem IL.mid {w : World} {ad : Addr} {n k m : Nat} {xs : List Int} (h : IL w (some ad) n xs) (hk : k + m ≤ n) : IL w (some (ad.add k)) m ((xs.drop k).take m) := by
  have hl := h.len
  refine ⟨by simp; omega, by have := h.small; omega, fun h0 => ?_⟩
  obtain ⟨ad', e, hlt, hc⟩ := h.mem (by omega)
  injection e with e
  subst e
  refine ⟨ad.add k, rfl, by rw [block_of_add]; exact hlt, fun j hj => ?_⟩
  rw [add_of_add, hc (k + j) (by omega)]
  simp [List.getD, List.getElem?_take, List.getElem?_drop, hj]
end Go.Proofs.Ytoaiblhlpdaeoaa
/- slices.Grow of nil; slices.Concat. -/
namespace Go.Proofs.Ytoaiblhlpdaeoaa
set_option linter.unusedVariables false
set_option linter.unusedSimpArgs false
open Go.RowKit

theorem run_append_zeros (w : World) (ty : TypeId) (n : Nat) (h0 : 0 < n) (hn : n ≤ 1000000) :
    (Builtin.append_ #[22, 3] ty #[.slice none 0 0, .int .i64 n]).run Try.prog w =
      .ok (.slice (some ⟨w.heap.size, 0, none⟩) n (grownCap w n 0 3)) (w.drew.alloc (.cells (Builtin.zeroCells #[.int .i64 0] n ++ Builtin.zeroCells #[.int .i64 0] (grownCap w n 0 3 - n)) 3)) := by
  obtain ⟨i0, hi0, hz0, hz1, hz2⟩ := info_parts int_info
  have hn' : n ≠ 0 := by omega
  have hwr : IntKind.i64.wrap (n : Int) = n := by rw [IntKind.wrap_i64]; omega
  have h63' : ¬ (9223372036854775807 < (n : Int)) := by omega
  have hneg : ¬ ((n : Int) < 0) := by omega
  have h48b : ¬ (281474976710656 < (n : Int) * 8) := by omega
  have hint : ∀ w : World, (asInt (.int .i64 (n : Int))).run Try.prog w = .ok (n : Int) w := fun w => rfl
  have h48' : ¬ (281474976710656 < Builtin.nextslicecap n 0 * 8) := by rw [nextslicecap_zero h0]; omega
  have hnp : ¬ ((n : Int) ≤ 0) := by omega
  simp [Builtin.append_, run_underlying Try.underlying22, run_underlying Try.underlying3, sizeOf, typeInfo, zeroValue, hi0, hz0, hz1, hz2, hint, hwr, hneg, h48b, hn', h63', h48', Question.forced, run_firstCells_none, newRow, grownCap, Value.cells]

theorem wpList_append_zeros {ops : Array Oper} {rest : List Oper} {o : Oper} {a : Act} {w : World} {Q : Exit → Act → World → Prop} (hgd : o.guard = none) (s x : Operand)
    (ho : o.op = .call { callee := .builtin .append, args := #[s, x], argTypes := #[22, 3] }) (n : Nat) (h0 : 0 < n) (hn : n ≤ 1000000) (hs : a.eval s = .slice none 0 0) (hx : a.eval x = .int .i64 n)
    (h : wpList Try.prog ops Q rest (a.put o.dst (.slice (some ⟨w.heap.size, 0, none⟩) n (grownCap w n 0 3))) (w.drew.alloc (.cells (Builtin.zeroCells #[.int .i64 0] n ++ Builtin.zeroCells #[.int .i64 0] (grownCap w n 0 3 - n)) 3))) : wpList Try.prog ops Q (o :: rest) a w :=
  wpList_plain hgd fun _ hK => by
    unfold Oper.wp execOp
    simp only [ho, resolve, invoke, builtin, Sem.run_bind, Sem.run_pure, Result.andThen_ok, List.map_toArray, List.map_cons, List.map_nil, hs, hx, run_append_zeros w o.type n h0 hn]
    exact hK _ _ h
theorem zeroCells_size (n : Nat) : (Builtin.zeroCells #[.int .i64 0] n).size = n := by simp [Builtin.zeroCells]
set_option maxHeartbeats 1000000 in
theorem grow_any (n : Nat) (w : World) (hn : n ≤ 1000000) :
    Calls Try.prog 69 #[.slice none 0 0, .int .i64 n] w (GivesOwn w []) := by
  rcases Nat.eq_zero_or_pos n with h0 | h0
  · subst h0
    go_enter Try.func69, Try.ntmps69
    go_wp2
    go_ret
    exact ⟨none, 0, 0, rfl, OwnI.nil_ _ _, Below.refl _ _⟩
  · go_enter Try.func69, Try.ntmps69
    go_wp2_with (at_builtin; refine wpList_append_zeros rfl (.tmp 20) (.tmp 21) rfl n h0 hn rfl rfl ?_)
    go_ret
    have hge := grownCap_ge w n 0 3
    have hle := grownCap_le_maxLen w n 0 3 (by unfold maxLen; omega)
    refine ⟨some ⟨w.heap.size, 0, none⟩, 0, grownCap w n 0 3, rfl, ⟨⟨rfl, .inr ⟨w.heap.size, _, _, rfl, Nat.le_refl _, heap_alloc_new w.drew _, by omega, hle, ?_, ?_⟩⟩, by omega⟩, ((Below.refl _ _).drew).alloc (Nat.le_refl _) _⟩
    · simp only [Array.size_append, zeroCells_size]
      omega
    · simp

set_option maxRecDepth 100000 in
set_option maxHeartbeats 1000000 in
theorem concat_any (A : Option Addr) (l c : Nat) (xss : List (List Int)) (w : World) (ha : ILL w A l xss) (hs : xss.flatten.length ≤ 1000000) :
    Calls Try.prog 29 #[.slice A l c] w (GivesOwn w xss.flatten) := by
  have hl := ha.len
  have hls := ha.small
  have HA := hide ha
  have HL := hide hl
  have HFL := hide (flatten_take_le xss)
  obtain ⟨i0, hi0, hz0, hz1, hz2⟩ := info_parts int_info
  have HI0 := hide hi0
  have HZ0 := hide hz0
  have HZ1 := hide hz1
  have HZ2 := hide hz2
  clear ha hl hi0 hz0 hz1 hz2
  go_enter Try.func29, Try.ntmps29
  go_wp2_with fail
  go_loop [3, 11] (fun sv iv => ∃ k s : Nat, k ≤ l ∧ iv = .int .i64 k ∧ sv = .int .i64 s ∧ s ≤ 1000000 ∧ Hid (s = (xss.take k).flatten.length)) (fun _ iv => l - (intOf iv).toNat)
  case atStart => exact ⟨0, 0, Nat.zero_le _, rfl, rfl, by omega, by rw [List.take_zero]; exact rfl⟩
  case round =>
    obtain ⟨k, s, hk, rfl, rfl, hs1, HS⟩ := hrel
    by_cases hlt : k < l
    · obtain ⟨ad, B, m, d, rfl, hcl, hil⟩ := HA.out.at_ hlt
      have hkx : k < xss.length := by rw [HL.out]; exact hlt
      have hm := hil.len
      have h2 := HFL.out (k + 1)
      have h3 := congrArg List.length (sum_take hkx)
      rw [List.length_append, hm, ← HS.out] at h3
      rw [h3] at h2
      have hsm : s + m ≤ 1000000 := by omega
      have HN : Hid (s + m = (xss.take (k + 1)).flatten.length) := hide h3.symm
      clear hil hm h2 h3
      go_wp2
      go_round
      case rel => exact ⟨k + 1, s + m, by omega, by go_num, by go_num, hsm, HN.out⟩
      case measure => simp [intOf]; omega
    · have HE : Hid (s = xss.flatten.length) := hide (by rw [HS.out, List.take_of_length_le (by rw [HL.out]; omega)])
      clear HS
      go_wp2_with fail
      refine (grow_any s w hs1).mono ?_
      rintro e w1 ⟨A1, n1, c1, rfl, ho1, hb1⟩
      have hn1 : n1 = 0 := by have := ho1.len; simpa using this.symm
      subst hn1
      go_wp2_with fail
      go_loopw [6, 27] (fun ov iv wr => ∃ (k m c2 : Nat) (A2 : Option Addr), k ≤ l ∧ iv = .int .i64 k ∧ ov = .slice A2 m c2 ∧ OwnI wr w.heap.size A2 m c2 (xss.take k).flatten ∧ Below w.heap.size w wr) (fun _ iv _ => l - (intOf iv).toNat)
      case atStart => exact ⟨0, 0, c1, A1, Nat.zero_le _, rfl, rfl, by rw [List.take_zero]; exact ho1, hb1⟩
      case round =>
        clear ho1 hb1
        obtain ⟨k, m, c2, A2, hk, rfl, rfl, ho, hb⟩ := hrel
        by_cases hlt : k < l
        · obtain ⟨ad, B, m2, d, rfl, hcl, hil⟩ := (HA.out.below hb).at_ hlt
          have hkx : k < xss.length := by rw [HL.out]; exact hlt
          have hm := hil.len
          have hml := ho.len
          have h2 := HFL.out (k + 1)
          have h3 := congrArg List.length (sum_take hkx)
          rw [List.length_append, hm, hml] at h3
          rw [h3] at h2
          have hsm : m + m2 ≤ 1000000 := by omega
          have HT := hide (sum_take hkx)
          have HIL := hide hil
          have HO := hide ho
          have HB := hide hb
          clear hil hm hml h2 h3 ho hb
          go_wp2_with (at_builtin; refine wpList_append_int _ rfl (.tmp 31) (.tmp 32) 22 rfl w.heap.size i0 Try.underlying22 HI0.out HZ0.out HZ1.out HZ2.out A2 m c2 _ rfl HO.out B m2 d _ rfl HIL.out (by omega) HB.out.size ?_; intro A8 c8 w8 hap)
          have hN := hap.own
          rw [← HT.out] at hN
          have hb8 := HB.out.grown hap.grown HB.out.size (fun j hj => (HO.out.lt j (by rw [ownBlock_len A2 m (m + m2) c2 c2]; exact hj)).1)
          clear hap
          go_roundw
          case rel => exact ⟨k + 1, m + m2, c8, A8, by omega, by go_num, rfl, hN, hb8⟩
          case measure => simp [intOf]; omega
        · have HO : Hid (OwnI wr w.heap.size A2 m c2 xss.flatten) := by
            rw [List.take_of_length_le (by rw [HL.out]; omega)] at ho
            exact ho
          go_wp2
          go_ret
          exact ⟨A2, m, c2, rfl, HO.out, hb⟩
end Go.Proofs.Ytoaiblhlpdaeoaa
