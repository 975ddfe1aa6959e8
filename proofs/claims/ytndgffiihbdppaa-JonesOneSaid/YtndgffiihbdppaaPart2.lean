/- Several texts in one. -/
import Derived.Test.YtndgffiihbdppaaPart1
import Derived.Test.YtndgffiihbdppaaBase1
import Derived.Deep.DeepCutAuto
import Derived.Handy
import Derived.Laws.EntriesVeiled
import Derived.Laws.Bits64b
import Derived.Laws.BitsAllLaws
import Derived.Laws.Bits128
import Derived.WalkKit
import Derived.Below
import Derived.Shelf.Bits.Mul64
import Derived.Ground.Names2Prog
import Derived.Test.YtndgffiihbdppaaProg
/- Burau matrices: letters as row operations, the relations of the braid group, row sums, the row 1, t, t^2, .. . -/
namespace Go.Proofs.Ytndgffiihbdppaa
set_option linter.unusedVariables false
set_option linter.unusedSimpArgs false
set_option linter.unusedSectionVars false
open CR

section
variable {R : Type} [CR R]
theorem sumN_two {f : Nat → R} {n a b : Nat} (ha : a < n) (hb : b < n) (hab : a ≠ b) (h : ∀ i, i < n → i ≠ a → i ≠ b → f i = 0) : sumN n f = f a + f b := by
  have e : sumN n f = sumN n (fun i => (if i = a then f a else 0) + (if i = b then f b else 0)) := sumN_congr fun i hi => by
    by_cases h1 : i = a
    · subst h1; rw [if_pos rfl, if_neg hab, add_zero]
    · by_cases h2 : i = b
      · subst h2; rw [if_pos rfl, if_neg h1, zero_add]
      · rw [if_neg h1, if_neg h2, h i hi h1 h2, add_zero]
  rw [e, sumN_add, sumN_single (k := a) ha (fun i _ hne => if_neg hne), sumN_single (k := b) hb (fun i _ hne => if_neg hne), if_pos rfl, if_pos rfl]
theorem mulM_assoc (n : Nat) (A B C : Mtx R) : mulM n (mulM n A B) C = mulM n A (mulM n B C) := by
  funext i j
  show sumN n (fun k => (sumN n fun l => A i l * B l k) * C k j) = sumN n fun l => A i l * sumN n fun k => B l k * C k j
  have e1 : ∀ k, (sumN n fun l => A i l * B l k) * C k j = sumN n fun l => A i l * (B l k * C k j) := fun k => by
    rw [mul_comm, ← sumN_mul]
    exact sumN_congr fun l _ => by ac_rfl
  rw [sumN_congr fun k _ => e1 k, sumN_swap]
  exact sumN_congr fun l _ => sumN_mul _ _ _
/-- Equal within n rows and columns. -/
def EqM (n : Nat) (A B : Mtx R) : Prop := ∀ i, i < n → ∀ j, j < n → A i j = B i j
theorem EqM.refl (n : Nat) (A : Mtx R) : EqM n A A := fun _ _ _ _ => rfl
theorem EqM.symm {n : Nat} {A B : Mtx R} (h : EqM n A B) : EqM n B A := fun i hi j hj => (h i hi j hj).symm
theorem EqM.trans {n : Nat} {A B C : Mtx R} (h : EqM n A B) (k : EqM n B C) : EqM n A C := fun i hi j hj => (h i hi j hj).trans (k i hi j hj)
theorem EqM.mul {n : Nat} {A A' B B' : Mtx R} (h : EqM n A A') (k : EqM n B B') : EqM n (mulM n A B) (mulM n A' B') := fun i hi j hj =>
  sumN_congr fun l hl => by rw [h i hi l hl, k l hl j hj]
theorem EqM.one_mul (n : Nat) (A : Mtx R) : EqM n (mulM n oneM A) A := fun i hi j hj => by
  show sumN n (fun k => oneM i k * A k j) = A i j
  rw [sumN_single (k := i) hi (fun k _ hne => by rw [show (oneM : Mtx R) i k = 0 from if_neg (Ne.symm hne), zero_mul]), show (oneM : Mtx R) i i = 1 from if_pos rfl, CR.one_mul]
theorem EqM.mul_one (n : Nat) (A : Mtx R) : EqM n (mulM n A oneM) A := fun i hi j hj => by
  show sumN n (fun k => A i k * oneM k j) = A i j
  rw [sumN_single (k := j) hj (fun k _ hne => by rw [show (oneM : Mtx R) k j = 0 from if_neg hne, mul_zero]), show (oneM : Mtx R) j j = 1 from if_pos rfl, CR.mul_one]

/-- What a positive letter does to rows a - 1 and a. -/
def opP (t : R) (a : Nat) (A : Mtx R) : Mtx R := fun r c => if r + 1 = a then (1 + -t) * A r c + t * A (r + 1) c else if r = a then A (r - 1) c else A r c
def opN (t : R) (a : Nat) (A : Mtx R) : Mtx R := fun r c => if r + 1 = a then A (r + 1) c else if r = a then t * A (r - 1) c + (1 + -t) * A r c else A r c
theorem EqM.opP {n : Nat} {A B : Mtx R} (t : R) {a : Nat} (ha : a < n) (h : EqM n A B) : EqM n (Proofs.Ytndgffiihbdppaa.opP t a A) (Proofs.Ytndgffiihbdppaa.opP t a B) := fun r hr c hc => by
  unfold Proofs.Ytndgffiihbdppaa.opP
  by_cases h1 : r + 1 = a
  · rw [if_pos h1, if_pos h1, h r hr c hc, h (r + 1) (by omega) c hc]
  · rw [if_neg h1, if_neg h1]
    split
    · exact h _ (by omega) c hc
    · exact h r hr c hc
theorem EqM.opN {n : Nat} {A B : Mtx R} (t : R) {a : Nat} (ha : a < n) (h : EqM n A B) : EqM n (Proofs.Ytndgffiihbdppaa.opN t a A) (Proofs.Ytndgffiihbdppaa.opN t a B) := fun r hr c hc => by
  unfold Proofs.Ytndgffiihbdppaa.opN
  by_cases h1 : r + 1 = a
  · rw [if_pos h1, if_pos h1, h (r + 1) (by omega) c hc]
  · rw [if_neg h1, if_neg h1]
    split
    · rw [h r hr c hc, h _ (by omega) c hc]
    · exact h r hr c hc
end

def tT : LP := LP.term 1 1
def tI : LP := LP.term (-1) 1
/-- The matrix of a letter. -/
def bl (x : Int) : Mtx LP := fun r c =>
  if r + 1 = x.natAbs then (if 0 < x then (if c = r then 1 + -tT else if c = r + 1 then tT else 0) else (if c = r + 1 then 1 else 0))
  else if r = x.natAbs then (if 0 < x then (if c + 1 = r then 1 else 0) else (if c + 1 = r then tI else if c = r then 1 + -tI else 0))
  else if r = c then 1 else 0
/-- The Burau matrix of a word. -/
def bu (n : Nat) : List Int → Mtx LP
  | [] => oneM
  | x :: w => mulM n (bl x) (bu n w)
def opL (x : Int) (A : Mtx LP) : Mtx LP := if 0 < x then opP tT x.natAbs A else opN tI x.natAbs A
theorem bl_mul {n : Nat} {x : Int} (h1 : x ≠ 0) (h2 : x.natAbs < n) (A : Mtx LP) : EqM n (mulM n (bl x) A) (opL x A) := fun r hr c hc => by
  show sumN n (fun k => bl x r k * A k c) = _
  obtain ⟨a, ha⟩ : ∃ a, x.natAbs = a := ⟨_, rfl⟩
  have ha1 : 1 ≤ a := by omega
  unfold opL bl
  rw [ha] at h2 ⊢
  by_cases hx : 0 < x
  · simp only [if_pos hx]
    unfold opP
    by_cases h3 : r + 1 = a
    · simp only [if_pos h3]
      rw [sumN_two (a := r) (b := r + 1) hr (by omega) (by omega) (fun i _ h4 h5 => by rw [if_neg h4, if_neg h5, zero_mul]), if_pos rfl, if_neg (by omega), if_pos rfl]
    · simp only [if_neg h3]
      by_cases h4 : r = a
      · simp only [if_pos h4]
        rw [sumN_single (k := r - 1) (by omega) (fun i _ h5 => by rw [if_neg (by omega), zero_mul]), if_pos (by omega), CR.one_mul]
      · simp only [if_neg h4]
        rw [sumN_single (k := r) hr (fun i _ h5 => by rw [if_neg (fun e => h5 e.symm), zero_mul]), if_pos rfl, CR.one_mul]
  · simp only [if_neg hx]
    unfold opN
    by_cases h3 : r + 1 = a
    · simp only [if_pos h3]
      rw [sumN_single (k := r + 1) (by omega) (fun i _ h5 => by rw [if_neg h5, zero_mul]), if_pos rfl, CR.one_mul]
    · simp only [if_neg h3]
      by_cases h4 : r = a
      · simp only [if_pos h4]
        rw [sumN_two (a := r - 1) (b := r) (by omega) hr (by omega) (fun i _ h5 h6 => by rw [if_neg (by omega), if_neg h6, zero_mul]), if_pos (by omega), if_neg (by omega), if_pos rfl]
      · simp only [if_neg h4]
        rw [sumN_single (k := r) hr (fun i _ h5 => by rw [if_neg (fun e => h5 e.symm), zero_mul]), if_pos rfl, CR.one_mul]
theorem bu_append (n : Nat) : ∀ u v : List Int, EqM n (bu n (u ++ v)) (mulM n (bu n u) (bu n v))
  | [], v => (EqM.one_mul n _).symm
  | x :: u, v => by
    show EqM n (mulM n (bl x) (bu n (u ++ v))) (mulM n (mulM n (bl x) (bu n u)) (bu n v))
    rw [mulM_assoc]
    exact (EqM.refl n _).mul (bu_append n u v)
/-- Letters of a braid word on n strands. -/
def okB (n : Nat) (w : List Int) : Prop := ∀ x ∈ w, x ≠ 0 ∧ x.natAbs < n
theorem EqM.opL {n : Nat} {A B : Mtx LP} {x : Int} (hx : x.natAbs < n) (h : EqM n A B) : EqM n (Proofs.Ytndgffiihbdppaa.opL x A) (Proofs.Ytndgffiihbdppaa.opL x B) := by
  unfold Proofs.Ytndgffiihbdppaa.opL
  split
  · exact h.opP _ hx
  · exact h.opN _ hx
def opW : List Int → Mtx LP → Mtx LP
  | [], A => A
  | x :: w, A => opL x (opW w A)
theorem bu_op {n : Nat} : ∀ {w : List Int}, okB n w → EqM n (bu n w) (opW w oneM)
  | [], _ => EqM.refl _ _
  | x :: w, h => (bl_mul (h x (by simp)).1 (h x (by simp)).2 _).trans ((bu_op fun y hy => h y (by simp [hy])).opL (h x (by simp)).2)
/-- Words that are equal by a relation: what they do to all matrices is equal. -/
def RelB (a b : List Int) : Prop := ∀ A : Mtx LP, opW a A = opW b A
theorem RelB.bu {n : Nat} {a b : List Int} (h : RelB a b) (ha : okB n a) (hb : okB n b) (u v : List Int) : EqM n (bu n (u ++ a ++ v)) (bu n (u ++ b ++ v)) := by
  have e : EqM n (Proofs.Ytndgffiihbdppaa.bu n a) (Proofs.Ytndgffiihbdppaa.bu n b) := (bu_op ha).trans (by rw [h oneM]; exact (bu_op hb).symm)
  refine (bu_append n _ _).trans (EqM.trans ?_ (bu_append n _ _).symm)
  refine EqM.mul ?_ (EqM.refl _ _)
  exact (bu_append n _ _).trans (((EqM.refl n _).mul e).trans (bu_append n _ _).symm)
theorem RelB.symm {a b : List Int} (h : RelB a b) : RelB b a := fun A => (h A).symm
end Go.Proofs.Ytndgffiihbdppaa
/- Braid words: what is wrong with one, where its strands end. -/
namespace Go.Proofs.Ytndgffiihbdppaa
set_option linter.unusedVariables false
set_option linter.unusedSimpArgs false

def okX (n x : Int) : Bool := decide (x ≠ 0 ∧ x < n ∧ -n < x)
def bfault (n : Int) (w : List Int) : Int := if n < 1 ∨ 6 < n then 1 else if 30 < w.length then 2 else if w.all (okX n) then 0 else 3
theorem bfault_zero {n : Int} {w : List Int} (h : bfault n w = 0) : 1 ≤ n ∧ n ≤ 6 ∧ w.length ≤ 30 ∧ ∀ x ∈ w, x ≠ 0 ∧ x < n ∧ -n < x := by
  unfold bfault at h
  split at h
  · omega
  · next h1 =>
    split at h
    · omega
    · next h2 =>
      split at h
      · next h3 => exact ⟨by omega, by omega, by omega, fun x hx => by simpa [okX] using List.all_eq_true.1 h3 x hx⟩
      · omega
theorem bfault_ok {n : Int} {w : List Int} (h1 : 1 ≤ n) (h6 : n ≤ 6) (h : w.length ≤ 30) (hw : ∀ x ∈ w, x ≠ 0 ∧ x < n ∧ -n < x) : bfault n w = 0 := by
  unfold bfault
  rw [if_neg (by omega), if_neg (by omega), if_pos (List.all_eq_true.2 fun x hx => by simpa [okX] using hw x hx)]
/-- Where a strand goes at a letter. -/
def stepE (at_ : Nat) (x : Int) : Nat := if at_ + 1 = x.natAbs then at_ + 1 else if at_ = x.natAbs then at_ - 1 else at_
def endE (w : List Int) (s : Nat) : Nat := w.foldl stepE s
def endsL (n : Nat) (w : List Int) : List Nat := (List.range n).map (endE w)
theorem endsL_length (n : Nat) (w : List Int) : (endsL n w).length = n := by simp [endsL]
theorem stepE_lt {n at_ : Nat} {x : Int} (hx : x ≠ 0) (h1 : x.natAbs < n) (h : at_ < n) : stepE at_ x < n := by
  unfold stepE
  split
  · omega
  · split <;> omega
theorem endE_lt {n : Nat} : ∀ {w : List Int}, okB n w → ∀ {s : Nat}, s < n → endE w s < n
  | [], _, s, h => h
  | x :: w, hw, s, h => by
    show endE w (stepE s x) < n
    exact endE_lt (fun y hy => hw y (by simp [hy])) (stepE_lt (hw x (by simp)).1 (hw x (by simp)).2 h)
theorem endE_append (u v : List Int) (s : Nat) : endE (u ++ v) s = endE v (endE u s) := by unfold endE; rw [List.foldl_append]
theorem endE_snoc (w : List Int) (x : Int) (s : Nat) : endE (w ++ [x]) s = stepE (endE w s) x := by rw [endE_append]; rfl
/-- Words that act alike on all strands. -/
def RelE (a b : List Int) : Prop := ∀ s, endE a s = endE b s
theorem RelE.ends {a b : List Int} (h : RelE a b) (n : Nat) (u v : List Int) : endsL n (u ++ a ++ v) = endsL n (u ++ b ++ v) := by
  unfold endsL
  refine List.map_congr_left fun s _ => ?_
  rw [endE_append, endE_append, endE_append, endE_append, h]
theorem stepE_neg (s : Nat) (x : Int) : stepE s (-x) = stepE s x := by unfold stepE; rw [Int.natAbs_neg]
theorem stepE_twice {x : Int} (h : x ≠ 0) (s : Nat) : stepE (stepE s x) x = s := by
  unfold stepE
  by_cases h1 : s + 1 = x.natAbs
  · rw [if_pos h1, if_neg (by omega), if_pos (by omega)]; omega
  · rw [if_neg h1]
    by_cases h2 : s = x.natAbs
    · rw [if_pos h2, if_pos (by omega)]; omega
    · rw [if_neg h2, if_neg h1, if_neg h2]
theorem relE_x {x : Int} (h : x ≠ 0) : RelE [x, -x] [] := fun s => by
  show stepE (stepE s x) (-x) = s
  rw [stepE_neg, stepE_twice h]
theorem endE_inv : ∀ (w : List Int), (∀ x ∈ w, x ≠ 0) → ∀ s, endE (w ++ invw w) s = s
  | [], _, _ => rfl
  | x :: w, h, s => by
    have e : invw (x :: w) = invw w ++ [-x] := by simp [invw]
    rw [e, show x :: w ++ (invw w ++ [-x]) = [x] ++ ((w ++ invw w) ++ [-x]) by simp, endE_append, endE_append, endE_inv w (fun y hy => h y (by simp [hy])), ← endE_append]
    exact relE_x (h x (by simp)) s
end Go.Proofs.Ytndgffiihbdppaa
/- The Artin representation: the product of all generators is fixed; images are conjugates of generators. -/
namespace Go.Proofs.Ytndgffiihbdppaa
set_option linter.unusedVariables false
set_option linter.unusedSimpArgs false

/-- The generators in their order. -/
def gens (n : Nat) : List Int := (List.range n).map fun (i : Nat) => ((i : Nat) : Int) + 1
end Go.Proofs.Ytndgffiihbdppaa
/- Colors from letter to letter (mathematics of stage 15). -/
namespace Go.Proofs.Ytndgffiihbdppaa
set_option linter.unusedVariables false
set_option linter.unusedSimpArgs false

/-- The colors behind a letter. -/
def cSt (m x : Int) (c : List Int) : List Int :=
  if 0 < x then (c.set (x.natAbs - 1) ((2 * c.getD (x.natAbs - 1) 0 - c.getD x.natAbs 0) % m)).set x.natAbs (c.getD (x.natAbs - 1) 0)
  else (c.set (x.natAbs - 1) (c.getD x.natAbs 0)).set x.natAbs ((2 * c.getD x.natAbs 0 - c.getD (x.natAbs - 1) 0) % m)
/-- The colors behind a word. -/
def cCol (m : Int) (w : List Int) (c : List Int) : List Int := w.foldl (fun c x => cSt m x c) c
/-- Colors for n positions. -/
structure IsC (m : Int) (n : Nat) (c : List Int) : Prop where
  len : c.length = n
  col : ∀ j, j < n → 0 ≤ c.getD j 0 ∧ c.getD j 0 < m
theorem cSt_length (m x : Int) (c : List Int) : (cSt m x c).length = c.length := by unfold cSt; split <;> simp
theorem cSt_getD {m x : Int} {c : List Int} {n : Nat} (hl : c.length = n) (h0 : x ≠ 0) (h1 : x.natAbs < n) {j : Nat} (hj : j < n) :
    (cSt m x c).getD j 0 = if j + 1 = x.natAbs then (if 0 < x then (2 * c.getD j 0 - c.getD (j + 1) 0) % m else c.getD (j + 1) 0)
      else if j = x.natAbs then (if 0 < x then c.getD (j - 1) 0 else (2 * c.getD j 0 - c.getD (j - 1) 0) % m) else c.getD j 0 := by
  unfold cSt
  obtain ⟨i, hi⟩ : ∃ i, x.natAbs = i + 1 := ⟨x.natAbs - 1, by omega⟩
  rw [hi] at h1 ⊢
  rw [Nat.add_sub_cancel]
  have hs : ∀ (l : List Int) (k : Nat) (v : Int), k < l.length → (l.set k v).getD j 0 = if k = j then v else l.getD j 0 := fun l k v hk => by
    simp only [List.getD, List.getElem?_set]
    by_cases e : k = j
    · subst e; simp [hk]
    · simp [e]
  by_cases hx : 0 < x
  · rw [if_pos hx, hs _ _ _ (by simp; omega), hs _ _ _ (by omega)]
    by_cases e1 : j = i
    · subst e1; simp [hx]
    · by_cases e2 : j = i + 1
      · subst e2; simp [hx]
      · rw [if_neg (by omega), if_neg (by omega), if_neg (by omega), if_neg (by omega)]
  · rw [if_neg hx, hs _ _ _ (by simp; omega), hs _ _ _ (by omega)]
    by_cases e1 : j = i
    · subst e1; simp [hx]
    · by_cases e2 : j = i + 1
      · subst e2; simp [hx]
      · rw [if_neg (by omega), if_neg (by omega), if_neg (by omega), if_neg (by omega)]
theorem IsC.step {m x : Int} {c : List Int} {n : Nat} (h : IsC m n c) (h0 : x ≠ 0) (h1 : x.natAbs < n) : IsC m n (cSt m x c) := by
  refine ⟨by rw [cSt_length]; exact h.len, fun j hj => ?_⟩
  have hm : 0 < m := by have := h.col j hj; omega
  rw [cSt_getD h.len h0 h1 hj]
  have e : ∀ z : Int, 0 ≤ z % m ∧ z % m < m := fun z => ⟨Int.emod_nonneg _ (by omega), Int.emod_lt_of_pos _ hm⟩
  by_cases e1 : j + 1 = x.natAbs
  · rw [if_pos e1]
    split
    · exact e _
    · exact h.col _ (by omega)
  · rw [if_neg e1]
    by_cases e2 : j = x.natAbs
    · rw [if_pos e2]
      split
      · exact h.col _ (by omega)
      · exact e _
    · rw [if_neg e2]; exact h.col j hj
theorem IsC.word {m : Int} {n : Nat} : ∀ {w c : List Int}, (∀ x ∈ w, x ≠ 0 ∧ x.natAbs < n) → IsC m n c → IsC m n (cCol m w c)
  | [], c, _, h => h
  | x :: w, c, hw, h => IsC.word (w := w) (fun y hy => hw y (by simp [hy])) (h.step (hw x (by simp)).1 (hw x (by simp)).2)
/-- The digits of a number. -/
def digs (m n i : Nat) : List Int := (List.range n).map fun j => ((i / m ^ j % m : Nat) : Int)
theorem digs_isC {m n : Nat} (hm : 1 ≤ m) (i : Nat) : IsC m n (digs m n i) :=
  ⟨by simp [digs], fun j hj => by
    have e : (digs m n i).getD j 0 = ((i / m ^ j % m : Nat) : Int) := by simp [digs, List.getD, hj]
    rw [e]
    have := Nat.mod_lt (i / m ^ j) (show m > 0 by omega)
    omega⟩
/-- The number of colorings. -/
def cntC (n m : Nat) (w : List Int) : Nat := (List.range (m ^ n)).countP fun i => decide (cCol m w (digs m n i) = digs m n i)
end Go.Proofs.Ytndgffiihbdppaa
/- timbref1.MatrixFault: which lists of rows are matrices. -/
namespace Go.Proofs.Ytndgffiihbdppaa
set_option linter.unusedVariables false
set_option linter.unusedSimpArgs false
open Go.RowKit

def okE (x : Int) : Bool := decide (x ≤ 100 ∧ -100 ≤ x)
end Go.Proofs.Ytndgffiihbdppaa
/- Closures that visit lists of numbers; timbref1.Permutations. -/
namespace Go.Proofs.Ytndgffiihbdppaa
set_option linter.unusedVariables false
set_option linter.unusedSimpArgs false
open Go.RowKit

theorem IL.kept {w w' : World} {A : Option Addr} {n : Nat} {xs : List Int} (h : IL w A n xs) {g : Nat} (hg : w.grownBy w' (some g)) (hne : ∀ ad, A = some ad → ad.block ≠ g) : IL w' A n xs :=
  ⟨h.len, h.small, fun hn => by
    obtain ⟨ad, e, hl, hc⟩ := h.mem hn
    refine ⟨ad, e, Nat.lt_of_lt_of_le hl hg.size, fun j hj => ?_⟩
    rw [hg.cell_far (ad.add j) (by rw [block_of_add]; exact hl) (by rw [block_of_add]; exact fun e' => hne ad e (by injection e'))]
    exact hc j hj⟩
theorem Blk.kept {w w' : World} {g k : Nat} {t : TypeId} {cs : Array Value} (h : Blk w k t cs) (hg : w.grownBy w' (some g)) (hne : k ≠ g) : Blk w' k t cs := h.grown hg (fun e => hne (by injection e))
section
variable {fid : FuncId} {caps : List Value} {g : Nat} {σ : Type} {J : σ → World → Prop} {step : σ → List Nat → σ} {n : Nat}
end
end Go.Proofs.Ytndgffiihbdppaa
/- timbref1.Determinant. -/
namespace Go.Proofs.Ytndgffiihbdppaa
set_option linter.unusedVariables false
set_option linter.unusedSimpArgs false
open Go.RowKit

/-- The entries of a matrix. -/
def matF (xss : List (List Int)) : Mtx Int := fun i j => (xss.getD i []).getD j 0
end Go.Proofs.Ytndgffiihbdppaa
/- What package intmatrix's functions are to answer. -/
namespace Go.Proofs.Ytndgffiihbdppaa
set_option linter.unusedVariables false
set_option linter.unusedSimpArgs false
open Go.RowKit

/-- The digit i of t in base q. -/
def digI (q t i : Nat) : Int := ((t / q ^ i % q : Nat) : Int)
/-! ### the matrix [2 0] [0 3] -/
end Go.Proofs.Ytndgffiihbdppaa
/- Solutions modulo two numbers without common divisors are counted together. -/
namespace Go.Proofs.Ytndgffiihbdppaa
set_option linter.unusedVariables false
set_option linter.unusedSimpArgs false
open Go.RowKit

def sN : Nat → (Nat → Nat) → Nat
  | 0, _ => 0
  | k + 1, f => sN k f + f k
theorem sN_congr {k : Nat} {f g : Nat → Nat} (h : ∀ i, i < k → f i = g i) : sN k f = sN k g := by
  induction k with
  | zero => rfl
  | succ k ih => show sN k f + f k = sN k g + g k; rw [ih fun i hi => h i (by omega), h k (by omega)]
theorem countP_split (a : Nat) (p : Nat → Bool) : ∀ b, (List.range (a * b)).countP p = sN b fun x => (List.range a).countP fun s => p (x * a + s)
  | 0 => rfl
  | b + 1 => by
    show _ = sN b _ + _
    rw [← countP_split a p b, Nat.mul_add, Nat.mul_one, List.range_add, List.countP_append, List.countP_map]
    congr 1
    refine List.countP_congr fun s _ => ?_
    rw [Nat.mul_comm]
    rfl

/-- The solutions of k columns with c on the left. -/
def cntS (xss : List (List Int)) (q : Nat) : Nat → (Nat → Int) → Nat
  | 0, c => if ∀ i, i < xss.length → c i % (q : Int) = 0 then 1 else 0
  | k + 1, c => sN q fun x => cntS xss q k fun i => c i + (x : Int) * matF xss i k

theorem digI_low {q k x s j : Nat} (hq : 0 < q) (hj : j < k) : digI q (x * q ^ k + s) j = digI q s j := by
  unfold digI
  obtain ⟨d, rfl⟩ : ∃ d, k = j + (d + 1) := ⟨k - j - 1, by omega⟩
  rw [show x * q ^ (j + (d + 1)) + s = s + q ^ j * (x * q ^ d * q) by rw [Nat.pow_add, Nat.pow_succ, Nat.add_comm]; congr 1; grind]
  rw [Nat.add_mul_div_left _ _ (Nat.pow_pos hq), Nat.add_mul_mod_self_right]
theorem digI_top {q k x s : Nat} (hq : 0 < q) (hx : x < q) (hs : s < q ^ k) : digI q (x * q ^ k + s) k = x := by
  unfold digI
  rw [show x * q ^ k + s = s + q ^ k * x by rw [Nat.add_comm, Nat.mul_comm], Nat.add_mul_div_left _ _ (Nat.pow_pos hq), Nat.div_eq_of_lt hs, Nat.zero_add, Nat.mod_eq_of_lt hx]
end Go.Proofs.Ytndgffiihbdppaa
/- How many solutions modulo q a matrix has, out of its Smith form. -/
namespace Go.Proofs.Ytndgffiihbdppaa
set_option linter.unusedVariables false
set_option linter.unusedSimpArgs false
open Go.RowKit

theorem sN_add (f g : Nat → Nat) : ∀ n, sN n (fun i => f i + g i) = sN n f + sN n g
  | 0 => rfl
  | n + 1 => by show sN n _ + _ = _; rw [sN_add f g n]; show sN n f + sN n g + (f n + g n) = (sN n f + f n) + (sN n g + g n); omega
theorem sN_mul (c : Nat) (f : Nat → Nat) : ∀ n, sN n (fun i => f i * c) = sN n f * c
  | 0 => by show 0 = 0 * c; rw [Nat.zero_mul]
  | n + 1 => by show sN n _ + _ = _; rw [sN_mul c f n]; show _ = (sN n f + f n) * c; rw [Nat.add_mul]
theorem sN_zero0 : ∀ n, sN n (fun _ => 0) = 0
  | 0 => rfl
  | n + 1 => by show sN n _ + 0 = 0; rw [sN_zero0 n]
/-! ### a diagonal matrix -/
theorem sN_one : ∀ n, sN n (fun _ => 1) = n
  | 0 => rfl
  | n + 1 => by show sN n _ + 1 = n + 1; rw [sN_one n]
end Go.Proofs.Ytndgffiihbdppaa
/- Numbers of colorings: multiples of the modulus; one equation and one color less (mathematics of stage 16). -/
namespace Go.Proofs.Ytndgffiihbdppaa
set_option linter.unusedVariables false
set_option linter.unusedSimpArgs false
open CR

theorem sN_const (q c : Nat) : sN q (fun _ => c) = q * c := by
  have h := sN_mul c (fun _ => 1) q
  rw [sN_one] at h
  rw [← h]
  exact sN_congr fun i _ => (Nat.one_mul c).symm
/-! ### colorings -/
end Go.Proofs.Ytndgffiihbdppaa
/- Components of a closed braid, and colorings modulo 2 (mathematics of stage 16). -/
namespace Go.Proofs.Ytndgffiihbdppaa
set_option linter.unusedVariables false
set_option linter.unusedSimpArgs false

/-- The strands of each component, in increasing order; the components by their smallest strands. -/
def prtL (a : List Nat) : List (List Nat) := ((List.range a.length).filter fun i => isMin a i).map fun i => (List.range a.length).filter fun j => decide (j ∈ cyc a i)
/-- The smallest strand of a component. -/
def repS (a : List Nat) (s : Nat) : Nat := srch (fun p => isMin a p && decide (p ∈ cyc a s)) a.length 0
theorem isMin_iff {a : List Nat} {i : Nat} : isMin a i = true ↔ ∀ x ∈ cyc a i, i ≤ x := by unfold isMin; exact decide_eq_true_iff
theorem repS_spec {a : List Nat} (h : isP a) {s : Nat} (hs : s < a.length) : repS a s < a.length ∧ repS a s ∈ cyc a s ∧ isMin a (repS a s) = true := by
  obtain ⟨m, h1, h2, h3⟩ := min_ex h hs
  obtain ⟨k1, k2, k3, _⟩ := srch_spec (fun p => isMin a p && decide (p ∈ cyc a s)) a.length 0 ⟨m, Nat.zero_le _, by omega, by rw [h3, decide_eq_true h2]; rfl⟩
  rw [Bool.and_eq_true, decide_eq_true_iff] at k3
  exact ⟨by unfold repS; omega, k3.2, k3.1⟩
theorem repS_le {a : List Nat} (h : isP a) {s : Nat} (hs : s < a.length) : repS a s ≤ s := by
  obtain ⟨h1, h2, h3⟩ := repS_spec h hs
  exact isMin_iff.1 h3 s (cyc_symm h hs h2)
theorem repS_min {a : List Nat} (h : isP a) {s : Nat} (hs : s < a.length) : repS a s = s ↔ isMin a s = true := by
  obtain ⟨h1, h2, h3⟩ := repS_spec h hs
  refine ⟨fun e => by rw [e] at h3; exact h3, fun hm => ?_⟩
  have := isMin_iff.1 hm _ h2
  have := repS_le h hs
  omega
/-- Vectors that are constant on the components, counted by their digits. -/
def cntK (q : Nat) (rep : Nat → Nat) (k : Nat) : Nat := (List.range (q ^ k)).countP fun t => decide (∀ i, i < k → digI q t i = digI q t (rep i))
theorem sN_hit (q d : Nat) (hd : d < q) (c : Nat) : sN q (fun x => if x = d then c else 0) = c := by
  have e : ∀ k, sN k (fun x => if x = d then c else 0) = if d < k then c else 0 := fun k => by
    induction k with
    | zero => rfl
    | succ k ih =>
      have h : ∀ f : Nat → Nat, sN (k + 1) f = sN k f + f k := fun f => by first | rfl | (unfold sN; omega)
      rw [h, ih]
      by_cases e1 : k = d
      · rw [if_pos e1, if_neg (by omega), if_pos (by omega), Nat.zero_add]
      · rw [if_neg e1]
        by_cases e2 : d < k
        · rw [if_pos e2, if_pos (by omega), Nat.add_zero]
        · rw [if_neg e2, if_neg (by omega)]
  rw [e, if_pos hd]
theorem countP_and (l : List Nat) (p : Nat → Bool) (g : Nat → Nat) (q : Nat) (hg : ∀ s, g s < q) : sN q (fun x => l.countP fun s => p s && decide (x = g s)) = l.countP p := by
  induction l with
  | nil => simp only [List.countP_nil]; exact sN_zero0 q
  | cons s l ih =>
    have e : (fun x => (s :: l).countP fun s => p s && decide (x = g s)) = fun x => (l.countP fun s => p s && decide (x = g s)) + if x = g s then (if p s = true then 1 else 0) else 0 := by
      funext x
      rw [List.countP_cons]
      congr 1
      by_cases e1 : x = g s
      · rw [if_pos e1, decide_eq_true e1, Bool.and_true]
      · rw [if_neg e1, decide_eq_false e1, Bool.and_false, if_neg (by simp)]
    rw [e, sN_add, ih, sN_hit q (g s) (hg s), List.countP_cons]
theorem cntK_eq {q : Nat} (hq : 0 < q) {rep : Nat → Nat} (hle : ∀ i, rep i ≤ i) : ∀ k, cntK q rep k = q ^ (List.range k).countP fun i => decide (rep i = i)
  | 0 => by simp [cntK]
  | k + 1 => by
    have ih := cntK_eq hq hle k
    have e : cntK q rep (k + 1) = sN q fun x => (List.range (q ^ k)).countP fun s => decide (∀ i, i < k → digI q s i = digI q s (rep i)) && decide (if rep k = k then True else (x : Nat) = (digI q s (rep k)).toNat) := by
      unfold cntK
      rw [Nat.pow_succ, countP_split]
      refine sN_congr fun x hx => List.countP_congr fun s hs => ?_
      have hs' := List.mem_range.1 hs
      have low : ∀ i, i < k → digI q (x * q ^ k + s) i = digI q s i := fun i hi => digI_low hq hi
      have top : digI q (x * q ^ k + s) k = x := digI_top hq hx hs'
      rw [decide_eq_true_iff, Bool.and_eq_true, decide_eq_true_iff, decide_eq_true_iff]
      constructor
      · intro h
        refine ⟨fun i hi => ?_, ?_⟩
        · have := h i (by omega)
          rwa [low i hi, low (rep i) (by have := hle i; omega)] at this
        · by_cases e1 : rep k = k
          · rw [if_pos e1]; trivial
          · rw [if_neg e1]
            have := h k (by omega)
            rw [top, low (rep k) (by have := hle k; omega)] at this
            omega
      · rintro ⟨h1, h2⟩ i hi
        by_cases e1 : i = k
        · subst e1
          by_cases e2 : rep i = i
          · rw [e2]
          · rw [if_neg e2] at h2
            rw [top, low (rep i) (by have := hle i; omega)]
            have : 0 ≤ digI q s (rep i) := by unfold digI; omega
            omega
        · rw [low i (by omega), low (rep i) (by have := hle i; omega)]
          exact h1 i (by omega)
    rw [e, List.range_succ, List.countP_append]
    by_cases e1 : rep k = k
    · simp only [if_pos e1, List.countP_singleton, decide_eq_true e1, if_true]
      have e2 : (fun x : Nat => (List.range (q ^ k)).countP fun s => decide (∀ i, i < k → digI q s i = digI q s (rep i)) && decide True) = fun _ => cntK q rep k := by
        funext x
        unfold cntK
        simp
      rw [e2, sN_const, ih, Nat.pow_succ, Nat.mul_comm]
    · simp only [if_neg e1, List.countP_singleton, decide_eq_false e1]
      rw [countP_and _ _ (fun s => (digI q s (rep k)).toNat) q (fun s => by
        unfold digI
        rw [Int.toNat_natCast]
        exact Nat.mod_lt _ hq)]
      exact ih.trans (by simp)

/-! ### colors modulo 2 -/
theorem cSt_two {x : Int} {c : List Int} {n : Nat} (h : IsC 2 n c) (h0 : x ≠ 0) (h1 : x.natAbs < n) {j : Nat} (hj : j < n) : (cSt 2 x c).getD j 0 = c.getD (stepE j x) 0 := by
  rw [cSt_getD h.len h0 h1 hj]
  unfold stepE
  by_cases e1 : j + 1 = x.natAbs
  · rw [if_pos e1, if_pos e1]
    have h2 := h.col (j + 1) (by omega)
    split
    · omega
    · rfl
  · rw [if_neg e1, if_neg e1]
    by_cases e2 : j = x.natAbs
    · rw [if_pos e2, if_pos e2]
      have h2 := h.col (j - 1) (by omega)
      split
      · rfl
      · omega
    · rw [if_neg e2, if_neg e2]
theorem cCol_two {n : Nat} : ∀ {w c : List Int}, (∀ x ∈ w, x ≠ 0 ∧ x.natAbs < n) → IsC 2 n c → ∀ s, s < n → (cCol 2 w c).getD (endE w s) 0 = c.getD s 0
  | [], c, _, _, s, _ => rfl
  | x :: w, c, hw, h, s, hs => by
    have hx := hw x (by simp)
    have hlt := stepE_lt hx.1 hx.2 hs
    show (cCol 2 w (cSt 2 x c)).getD (endE w (stepE s x)) 0 = _
    rw [cCol_two (fun y hy => hw y (by simp [hy])) (h.step hx.1 hx.2) _ hlt, cSt_two h hx.1 hx.2 hlt, stepE_twice hx.1]
theorem fix_two {n : Nat} {w c : List Int} (hw : ∀ x ∈ w, x ≠ 0 ∧ x.natAbs < n) (h : IsC 2 n c) (hp : isP (endsL n w)) : cCol 2 w c = c ↔ ∀ i, i < n → c.getD i 0 = c.getD (repS (endsL n w) i) 0 := by
  have hl := endsL_length n w
  have hg : ∀ s, s < n → (endsL n w).getD s 0 = endE w s := fun s hs => by unfold endsL; simp [List.getD, hs]
  have step : cCol 2 w c = c → ∀ s, s < n → c.getD (endE w s) 0 = c.getD s 0 := fun e s hs => by
    have := cCol_two hw h s hs
    rwa [e] at this
  constructor
  · intro e i hi
    obtain ⟨r1, r2, _⟩ := repS_spec hp (s := i) (by rw [hl]; exact hi)
    obtain ⟨t, ht⟩ := (mem_cyc hp (by rw [hl]; exact hi)).1 r2
    rw [ht]
    have go : ∀ t, c.getD (it (endsL n w) t i) 0 = c.getD i 0 := fun t => by
      induction t with
      | zero => rfl
      | succ t ih =>
        have hlt := it_lt hp (s := i) (by rw [hl]; exact hi) t
        rw [hl] at hlt
        have e2 : it (endsL n w) (t + 1) i = endE w (it (endsL n w) t i) := by
          rw [← hg _ hlt]
          first | rfl | (rw [Nat.add_comm, it_add]; rfl)
        rw [e2, step e _ hlt, ih]
    exact (go t).symm
  · intro hr
    have hf := h.word hw
    have hc : ∀ s, s < n → c.getD (endE w s) 0 = c.getD s 0 := fun s hs => by
      have hes : endE w s < n := by have := hp.lt (j := s) (by rw [hl]; exact hs); rwa [hg s hs, hl] at this
      have e1 : repS (endsL n w) (endE w s) = repS (endsL n w) s := by
        obtain ⟨a1, a2, a3⟩ := repS_spec hp (s := s) (by rw [hl]; exact hs)
        obtain ⟨b1, b2, b3⟩ := repS_spec hp (s := endE w s) (by rw [hl]; exact hes)
        have m1 : endE w s ∈ cyc (endsL n w) s := (mem_cyc hp (by rw [hl]; exact hs)).2 ⟨1, by rw [← hg s hs]; rfl⟩
        have m2 : s ∈ cyc (endsL n w) (endE w s) := cyc_symm hp (by rw [hl]; exact hs) m1
        have c1 : repS (endsL n w) (endE w s) ∈ cyc (endsL n w) s := cyc_trans hp (by rw [hl]; exact hs) m1 b2
        have c2 : repS (endsL n w) s ∈ cyc (endsL n w) (endE w s) := cyc_trans hp (by rw [hl]; exact hes) m2 a2
        have d1 := isMin_iff.1 a3 (repS (endsL n w) (endE w s)) (cyc_trans hp a1 (cyc_symm hp (by rw [hl]; exact hs) a2) c1)
        have d2 := isMin_iff.1 b3 (repS (endsL n w) s) (cyc_trans hp b1 (cyc_symm hp (by rw [hl]; exact hes) b2) c2)
        omega
      rw [hr _ hes, e1, ← hr s hs]
    refine list_extI (by rw [hf.len, h.len]) fun j hj => ?_
    rw [hf.len] at hj
    obtain ⟨s, hs, e⟩ := hp.surj (i := j) (by rw [hl]; exact hj)
    rw [hl] at hs
    rw [hg s hs] at e
    rw [← e, cCol_two hw h s hs, hc s hs]
/-- Modulo 2, each component has a color of its own. -/
theorem cntC_two {n : Nat} {w : List Int} (hw : ∀ x ∈ w, x ≠ 0 ∧ x.natAbs < n) (hp : isP (endsL n w)) : cntC n 2 w = 2 ^ (prtL (endsL n w)).length := by
  have hl := endsL_length n w
  have h1 : cntC n 2 w = cntK 2 (fun i => if i < n then repS (endsL n w) i else i) n := by
    unfold cntC cntK
    refine List.countP_congr fun t _ => ?_
    rw [decide_eq_true_iff, decide_eq_true_iff]
    have hc := digs_isC (n := n) (m := 2) (by omega) t
    have hd : ∀ k, k < n → (digs 2 n t).getD k 0 = digI 2 t k := fun k hk => by simp [digs, digI, List.getD, hk]
    rw [show ((2 : Nat) : Int) = 2 from rfl] at hc
    show cCol 2 w (digs 2 n t) = digs 2 n t ↔ _
    rw [fix_two hw hc hp]
    refine forall_congr' fun i => imp_congr_right fun hi => ?_
    have hr : repS (endsL n w) i < n := by have := (repS_spec hp (s := i) (by rw [hl]; exact hi)).1; rwa [hl] at this
    rw [hd i hi, hd _ hr]
    show _ ↔ digI 2 t i = digI 2 t (if i < n then repS (endsL n w) i else i)
    rw [if_pos hi]
  rw [h1, cntK_eq (by omega) (fun i => by
    split
    · exact repS_le hp (by rw [hl]; assumption)
    · exact Nat.le_refl _)]
  congr 1
  unfold prtL
  rw [List.length_map, hl, ← List.countP_eq_length_filter]
  refine List.countP_congr fun i hi => ?_
  have hi' := List.mem_range.1 hi
  rw [decide_eq_true_iff]
  show (if i < n then repS (endsL n w) i else i) = i ↔ _
  rw [if_pos hi', repS_min hp (by rw [hl]; exact hi')]
end Go.Proofs.Ytndgffiihbdppaa
/- math/bits.Mul at this program, by the library's contract for it. -/
namespace Go.Proofs.Ytndgffiihbdppaa
set_option linter.unusedVariables false
set_option linter.unusedSimpArgs false
open Go.Shelf
def lays212_ren : Go.Shelf.Ren := ⟨fun | 212 => 122 | 263 => 123 | 264 => 124 | n => n, fun | 46 => 123 | 51 => 126 | 146 => 127 | 53 => 129 | 148 => 130 | n => n, fun | n => n⟩
theorem lays212 : Go.Proofs.Lays.n212 Try.prog lays212_ren := {
  mixed := by kernel_rfl
  f212 := Try.func122.trans (congrArg some (by kernel_rfl))
  f263 := Try.func123.trans (congrArg some (by kernel_rfl))
  f264 := Try.func124.trans (congrArg some (by kernel_rfl))
  t46 := Try.underlying123
  a46 := Try.isAgg123
  z46 := Try.sizeOf123
  v46 := Try.zeroValue123
  t51 := Try.underlying126
  a51 := Try.isAgg126
  z51 := Try.sizeOf126
  v51 := Try.zeroValue126
  t53 := Try.underlying129
  a53 := Try.isAgg129
  z53 := Try.sizeOf129
  v53 := Try.zeroValue129
  t146 := Try.underlying127
  a146 := Try.isAgg127
  z146 := Try.sizeOf127
  v146 := Try.zeroValue127
  t148 := Try.underlying130
  a148 := Try.isAgg130
  z148 := Try.sizeOf130
  v148 := Try.zeroValue130 }
open Go.RowKit Go.Lib in
/-- math/bits.Mul: "Mul returns the full-width product of x and y": on a machine of 64 bits: Mul64's. (LAID: no walk: one application.) -/
theorem bits_Mul (x y : Nat) (hx : x < 18446744073709551616) (hy : y < 18446744073709551616) (w : World) :
    Calls Try.prog 122 #[.int .u64 x, .int .u64 y] w fun e w' => e = .returned (.tuple #[.int .u64 ((x * y / 18446744073709551616 : Nat) : Int), .int .u64 ((x * y % 18446744073709551616 : Nat) : Int)]) ∧ w' = w := Any.bits_Mul lays212 x y hx hy w
end Go.Proofs.Ytndgffiihbdppaa
