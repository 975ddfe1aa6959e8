/- Several texts in one. -/
import Derived.Test.YtndgffiihbdppaaDoorPart1
import Derived.Test.YtndgffiihbdppaaDoorBase1
import Derived.Shelf.Bits.Mul64
import Derived.Ground.Names2Prog
import Derived.Test.YtndgffiihbdppaaDoorProg
import Derived.Laws.CopyOwn
import Derived.Deep.OwnRows
import Derived.Deep.DeepCutAuto
import Derived.Deep.LoopGhost
/- Laurent polynomials as short sums of terms: exponents within E, absolute values of coefficients that add up to at most V. -/
namespace Go.Proofs.YtndgffiihbdppaaDoor
set_option linter.unusedVariables false
set_option linter.unusedSimpArgs false
namespace LP

def sumA : List Tm → Nat
  | [] => 0
  | p :: l => p.2.natAbs + sumA l
theorem sumA_append : ∀ a b : List Tm, sumA (a ++ b) = sumA a + sumA b
  | [], b => by simp [sumA]
  | p :: a, b => by
    show p.2.natAbs + sumA (a ++ b) = p.2.natAbs + sumA a + sumA b
    rw [sumA_append a b, Nat.add_assoc]
theorem sumA_scale (e c : Int) : ∀ l : List Tm, sumA (scaleT e c l) = c.natAbs * sumA l
  | [] => rfl
  | p :: l => by
    show (c * p.2).natAbs + sumA (scaleT e c l) = c.natAbs * (p.2.natAbs + sumA l)
    rw [sumA_scale e c l, Nat.mul_add, Int.natAbs_mul]
theorem sumA_mul (b : List Tm) : ∀ a : List Tm, sumA (mulT a b) = sumA a * sumA b
  | [] => by
    show 0 = 0 * sumA b
    rw [Nat.zero_mul]
  | p :: a => by
    rw [mulT_cons, sumA_append, sumA_scale, sumA_mul b a]
    show _ = (p.2.natAbs + sumA a) * sumA b
    rw [Nat.add_mul]
theorem coefT_sumA (k : Int) : ∀ l : List Tm, (coefT l k).natAbs ≤ sumA l
  | [] => Nat.le_refl _
  | p :: l => by
    have h := coefT_sumA k l
    show ((if p.1 = k then p.2 else 0) + coefT l k).natAbs ≤ p.2.natAbs + sumA l
    split <;> omega

/-- A short sum of terms. -/
def N1 (x : LP) (E V : Nat) : Prop := ∃ l : List Tm, mk l = x ∧ (∀ p ∈ l, p.1.natAbs ≤ E) ∧ sumA l ≤ V
theorem N1.mono {x : LP} {E V E' V' : Nat} (h : N1 x E V) (h1 : E ≤ E') (h2 : V ≤ V') : N1 x E' V' := by
  obtain ⟨l, e, hk, hv⟩ := h
  exact ⟨l, e, fun p hp => Nat.le_trans (hk p hp) h1, Nat.le_trans hv h2⟩
theorem N1.zero : N1 0 0 0 := ⟨[], rfl, fun p hp => by simp at hp, Nat.le_refl _⟩
theorem N1.term (e c : Int) : N1 (LP.term e c) e.natAbs c.natAbs := ⟨[(e, c)], rfl, fun p hp => by simp at hp; subst hp; exact Nat.le_refl _, by simp [sumA]⟩
theorem N1.one : N1 1 0 1 := N1.term 0 1
theorem N1.add {x y : LP} {E V V' : Nat} (hx : N1 x E V) (hy : N1 y E V') : N1 (x + y) E (V + V') := by
  obtain ⟨a, rfl, h1, h2⟩ := hx
  obtain ⟨b, rfl, h3, h4⟩ := hy
  refine ⟨a ++ b, rfl, fun p hp => ?_, by rw [sumA_append]; omega⟩
  rcases List.mem_append.1 hp with h | h
  · exact h1 p h
  · exact h3 p h
theorem N1.neg {x : LP} {E V : Nat} (hx : N1 x E V) : N1 (-x) E V := by
  obtain ⟨a, rfl, h1, h2⟩ := hx
  refine ⟨scaleT 0 (-1) a, rfl, fun p hp => ?_, by rw [sumA_scale, show (-1 : Int).natAbs = 1 from rfl]; omega⟩
  obtain ⟨q, hq, rfl⟩ := List.mem_map.1 hp
  have := h1 q hq
  show (0 + q.1).natAbs ≤ E
  rw [Int.zero_add]; exact this
theorem N1.mul {x y : LP} {E V E' V' : Nat} (hx : N1 x E V) (hy : N1 y E' V') : N1 (x * y) (E + E') (V * V') := by
  obtain ⟨a, rfl, h1, h2⟩ := hx
  obtain ⟨b, rfl, h3, h4⟩ := hy
  refine ⟨mulT a b, rfl, fun p hp => ?_, by rw [sumA_mul]; exact Nat.mul_le_mul h2 h4⟩
  obtain ⟨q, hq, hp⟩ := List.mem_flatMap.1 hp
  obtain ⟨r, hr, rfl⟩ := List.mem_map.1 hp
  have := h1 q hq
  have := h3 r hr
  show (q.1 + r.1).natAbs ≤ E + E'
  omega
theorem N1.co {x : LP} {E V : Nat} (h : N1 x E V) (k : Int) : (LP.co x k).natAbs ≤ V := by
  obtain ⟨l, rfl, _, hv⟩ := h
  exact Nat.le_trans (coefT_sumA k l) hv
theorem N1.supp {x : LP} {E V : Nat} (h : N1 x E V) {k : Int} (hk : LP.co x k ≠ 0) : k.natAbs ≤ E := by
  obtain ⟨l, rfl, h1, _⟩ := h
  by_cases hm : ∀ p ∈ l, p.1 ≠ k
  · exact absurd (sumT_out k l hm) hk
  · obtain ⟨p, hp⟩ := Classical.not_forall.1 hm
    obtain ⟨hp, e⟩ := Classical.not_imp.1 hp
    have := h1 p hp
    rw [Classical.not_not.1 e] at this
    exact this
theorem N1.sm {x : LP} {E V : Nat} (h : N1 x E V) : Sm x (-(E : Int)) E V := ⟨fun k hk => by have := h.supp hk; omega, h.co⟩
theorem N1.rt {x : LP} {E V : Nat} (h : N1 x E V) (h1 : E ≤ 99) (h2 : V ≤ 100000000) : Rt x := h.sm.pfl (by omega) (by omega) (by omega) h2
theorem N1.sumN {f : Nat → LP} {E V : Nat} : ∀ {n : Nat}, (∀ i, i < n → N1 (f i) E V) → N1 (CR.sumN n f) E (n * V)
  | 0, _ => N1.zero.mono (Nat.zero_le _) (Nat.zero_le _)
  | n + 1, h => by
    rw [CR.sumN_succ, Nat.succ_mul]
    exact (N1.sumN fun i hi => h i (by omega)).add (h n (by omega))
theorem N1.sgR (j : Nat) : N1 (CR.sgR LP j) 0 1 := by
  unfold CR.sgR
  split
  · exact N1.one
  · exact N1.one.neg
def fctP : Nat → Nat
  | 0 => 1
  | n + 1 => (n + 1) * fctP n
theorem N1.detR {E V : Nat} : ∀ {n : Nat} {M : Mtx LP}, (∀ i, i < n → ∀ j, j < n → N1 (M i j) E V) → N1 (Proofs.YtndgffiihbdppaaDoor.detR n M) (n * E) (fctP n * V ^ n)
  | 0, M, _ => by
    show N1 1 (0 * E) (1 * V ^ 0)
    rw [Nat.zero_mul, Nat.pow_zero]
    exact N1.one
  | n + 1, M, h => by
    have h1 : ∀ j, j < n + 1 → N1 (CR.sgR LP j * (M 0 j * Proofs.YtndgffiihbdppaaDoor.detR n fun a b => M (a + 1) (CR.skip j b))) ((n + 1) * E) (V * (fctP n * V ^ n)) := fun j hj => by
      have h2 := (N1.sgR j).mul ((h 0 (by omega) j hj).mul (N1.detR (M := fun a b => M (a + 1) (CR.skip j b)) fun i hi k hk => h (i + 1) (by omega) _ (skip_lt hk)))
      refine h2.mono ?_ ?_
      · rw [Nat.succ_mul]; omega
      · rw [Nat.one_mul]; exact Nat.le_refl _
    have h3 := N1.sumN h1
    refine N1.mono (x := CR.sumN (n + 1) _) h3 (Nat.le_refl _) (Nat.le_of_eq ?_)
    show (n + 1) * (V * (fctP n * V ^ n)) = (n + 1) * fctP n * V ^ (n + 1)
    rw [Nat.pow_succ]
    ac_rfl
end LP
end Go.Proofs.YtndgffiihbdppaaDoor
/- Burau matrices: letters as row operations, the relations of the braid group, row sums, the row 1, t, t^2, .. . -/
namespace Go.Proofs.YtndgffiihbdppaaDoor
set_option linter.unusedVariables false
set_option linter.unusedSimpArgs false
set_option linter.unusedSectionVars false
open CR

section
variable {R : Type} [CR R]
theorem sumN_two {f : Nat → R} {n a b : Nat} (ha : a < n) (hb : b < n) (hab : a ≠ b) (h : ∀ i, i < n → i ≠ a → i ≠ b → f i = 0) : sumN n f = f a + f b := by
  have e : sumN n f = sumN n (fun i => (if i = a then f a else 0) + (if i = b then f b else 0)) := sumN_congr fun i hi => by
    by_cases h1 : i = a
    · subst h1; rw [if_pos rfl, if_neg hab, add_zero]
    · by_cases h2 : i = b
      · subst h2; rw [if_pos rfl, if_neg h1, zero_add]
      · rw [if_neg h1, if_neg h2, h i hi h1 h2, add_zero]
  rw [e, sumN_add, sumN_single (k := a) ha (fun i _ hne => if_neg hne), sumN_single (k := b) hb (fun i _ hne => if_neg hne), if_pos rfl, if_pos rfl]
theorem mulM_assoc (n : Nat) (A B C : Mtx R) : mulM n (mulM n A B) C = mulM n A (mulM n B C) := by
  funext i j
  show sumN n (fun k => (sumN n fun l => A i l * B l k) * C k j) = sumN n fun l => A i l * sumN n fun k => B l k * C k j
  have e1 : ∀ k, (sumN n fun l => A i l * B l k) * C k j = sumN n fun l => A i l * (B l k * C k j) := fun k => by
    rw [mul_comm, ← sumN_mul]
    exact sumN_congr fun l _ => by ac_rfl
  rw [sumN_congr fun k _ => e1 k, sumN_swap]
  exact sumN_congr fun l _ => sumN_mul _ _ _
/-- Equal within n rows and columns. -/
def EqM (n : Nat) (A B : Mtx R) : Prop := ∀ i, i < n → ∀ j, j < n → A i j = B i j
theorem EqM.refl (n : Nat) (A : Mtx R) : EqM n A A := fun _ _ _ _ => rfl
theorem EqM.symm {n : Nat} {A B : Mtx R} (h : EqM n A B) : EqM n B A := fun i hi j hj => (h i hi j hj).symm
theorem EqM.trans {n : Nat} {A B C : Mtx R} (h : EqM n A B) (k : EqM n B C) : EqM n A C := fun i hi j hj => (h i hi j hj).trans (k i hi j hj)
theorem EqM.mul {n : Nat} {A A' B B' : Mtx R} (h : EqM n A A') (k : EqM n B B') : EqM n (mulM n A B) (mulM n A' B') := fun i hi j hj =>
  sumN_congr fun l hl => by rw [h i hi l hl, k l hl j hj]
theorem EqM.one_mul (n : Nat) (A : Mtx R) : EqM n (mulM n oneM A) A := fun i hi j hj => by
  show sumN n (fun k => oneM i k * A k j) = A i j
  rw [sumN_single (k := i) hi (fun k _ hne => by rw [show (oneM : Mtx R) i k = 0 from if_neg (Ne.symm hne), zero_mul]), show (oneM : Mtx R) i i = 1 from if_pos rfl, CR.one_mul]
theorem EqM.mul_one (n : Nat) (A : Mtx R) : EqM n (mulM n A oneM) A := fun i hi j hj => by
  show sumN n (fun k => A i k * oneM k j) = A i j
  rw [sumN_single (k := j) hj (fun k _ hne => by rw [show (oneM : Mtx R) k j = 0 from if_neg hne, mul_zero]), show (oneM : Mtx R) j j = 1 from if_pos rfl, CR.mul_one]

/-- What a positive letter does to rows a - 1 and a. -/
def opP (t : R) (a : Nat) (A : Mtx R) : Mtx R := fun r c => if r + 1 = a then (1 + -t) * A r c + t * A (r + 1) c else if r = a then A (r - 1) c else A r c
def opN (t : R) (a : Nat) (A : Mtx R) : Mtx R := fun r c => if r + 1 = a then A (r + 1) c else if r = a then t * A (r - 1) c + (1 + -t) * A r c else A r c
theorem EqM.opP {n : Nat} {A B : Mtx R} (t : R) {a : Nat} (ha : a < n) (h : EqM n A B) : EqM n (Proofs.YtndgffiihbdppaaDoor.opP t a A) (Proofs.YtndgffiihbdppaaDoor.opP t a B) := fun r hr c hc => by
  unfold Proofs.YtndgffiihbdppaaDoor.opP
  by_cases h1 : r + 1 = a
  · rw [if_pos h1, if_pos h1, h r hr c hc, h (r + 1) (by omega) c hc]
  · rw [if_neg h1, if_neg h1]
    split
    · exact h _ (by omega) c hc
    · exact h r hr c hc
theorem EqM.opN {n : Nat} {A B : Mtx R} (t : R) {a : Nat} (ha : a < n) (h : EqM n A B) : EqM n (Proofs.YtndgffiihbdppaaDoor.opN t a A) (Proofs.YtndgffiihbdppaaDoor.opN t a B) := fun r hr c hc => by
  unfold Proofs.YtndgffiihbdppaaDoor.opN
  by_cases h1 : r + 1 = a
  · rw [if_pos h1, if_pos h1, h (r + 1) (by omega) c hc]
  · rw [if_neg h1, if_neg h1]
    split
    · rw [h r hr c hc, h _ (by omega) c hc]
    · exact h r hr c hc
end

def tT : LP := LP.term 1 1
def tI : LP := LP.term (-1) 1
/-- The matrix of a letter. -/
def bl (x : Int) : Mtx LP := fun r c =>
  if r + 1 = x.natAbs then (if 0 < x then (if c = r then 1 + -tT else if c = r + 1 then tT else 0) else (if c = r + 1 then 1 else 0))
  else if r = x.natAbs then (if 0 < x then (if c + 1 = r then 1 else 0) else (if c + 1 = r then tI else if c = r then 1 + -tI else 0))
  else if r = c then 1 else 0
/-- The Burau matrix of a word. -/
def bu (n : Nat) : List Int → Mtx LP
  | [] => oneM
  | x :: w => mulM n (bl x) (bu n w)
def opL (x : Int) (A : Mtx LP) : Mtx LP := if 0 < x then opP tT x.natAbs A else opN tI x.natAbs A
theorem bl_mul {n : Nat} {x : Int} (h1 : x ≠ 0) (h2 : x.natAbs < n) (A : Mtx LP) : EqM n (mulM n (bl x) A) (opL x A) := fun r hr c hc => by
  show sumN n (fun k => bl x r k * A k c) = _
  obtain ⟨a, ha⟩ : ∃ a, x.natAbs = a := ⟨_, rfl⟩
  have ha1 : 1 ≤ a := by omega
  unfold opL bl
  rw [ha] at h2 ⊢
  by_cases hx : 0 < x
  · simp only [if_pos hx]
    unfold opP
    by_cases h3 : r + 1 = a
    · simp only [if_pos h3]
      rw [sumN_two (a := r) (b := r + 1) hr (by omega) (by omega) (fun i _ h4 h5 => by rw [if_neg h4, if_neg h5, zero_mul]), if_pos rfl, if_neg (by omega), if_pos rfl]
    · simp only [if_neg h3]
      by_cases h4 : r = a
      · simp only [if_pos h4]
        rw [sumN_single (k := r - 1) (by omega) (fun i _ h5 => by rw [if_neg (by omega), zero_mul]), if_pos (by omega), CR.one_mul]
      · simp only [if_neg h4]
        rw [sumN_single (k := r) hr (fun i _ h5 => by rw [if_neg (fun e => h5 e.symm), zero_mul]), if_pos rfl, CR.one_mul]
  · simp only [if_neg hx]
    unfold opN
    by_cases h3 : r + 1 = a
    · simp only [if_pos h3]
      rw [sumN_single (k := r + 1) (by omega) (fun i _ h5 => by rw [if_neg h5, zero_mul]), if_pos rfl, CR.one_mul]
    · simp only [if_neg h3]
      by_cases h4 : r = a
      · simp only [if_pos h4]
        rw [sumN_two (a := r - 1) (b := r) (by omega) hr (by omega) (fun i _ h5 h6 => by rw [if_neg (by omega), if_neg h6, zero_mul]), if_pos (by omega), if_neg (by omega), if_pos rfl]
      · simp only [if_neg h4]
        rw [sumN_single (k := r) hr (fun i _ h5 => by rw [if_neg (fun e => h5 e.symm), zero_mul]), if_pos rfl, CR.one_mul]
theorem bu_append (n : Nat) : ∀ u v : List Int, EqM n (bu n (u ++ v)) (mulM n (bu n u) (bu n v))
  | [], v => (EqM.one_mul n _).symm
  | x :: u, v => by
    show EqM n (mulM n (bl x) (bu n (u ++ v))) (mulM n (mulM n (bl x) (bu n u)) (bu n v))
    rw [mulM_assoc]
    exact (EqM.refl n _).mul (bu_append n u v)
/-- Letters of a braid word on n strands. -/
def okB (n : Nat) (w : List Int) : Prop := ∀ x ∈ w, x ≠ 0 ∧ x.natAbs < n
theorem EqM.opL {n : Nat} {A B : Mtx LP} {x : Int} (hx : x.natAbs < n) (h : EqM n A B) : EqM n (Proofs.YtndgffiihbdppaaDoor.opL x A) (Proofs.YtndgffiihbdppaaDoor.opL x B) := by
  unfold Proofs.YtndgffiihbdppaaDoor.opL
  split
  · exact h.opP _ hx
  · exact h.opN _ hx
def opW : List Int → Mtx LP → Mtx LP
  | [], A => A
  | x :: w, A => opL x (opW w A)
theorem bu_op {n : Nat} : ∀ {w : List Int}, okB n w → EqM n (bu n w) (opW w oneM)
  | [], _ => EqM.refl _ _
  | x :: w, h => (bl_mul (h x (by simp)).1 (h x (by simp)).2 _).trans ((bu_op fun y hy => h y (by simp [hy])).opL (h x (by simp)).2)
/-- Words that are equal by a relation: what they do to all matrices is equal. -/
def RelB (a b : List Int) : Prop := ∀ A : Mtx LP, opW a A = opW b A
theorem RelB.bu {n : Nat} {a b : List Int} (h : RelB a b) (ha : okB n a) (hb : okB n b) (u v : List Int) : EqM n (bu n (u ++ a ++ v)) (bu n (u ++ b ++ v)) := by
  have e : EqM n (Proofs.YtndgffiihbdppaaDoor.bu n a) (Proofs.YtndgffiihbdppaaDoor.bu n b) := (bu_op ha).trans (by rw [h oneM]; exact (bu_op hb).symm)
  refine (bu_append n _ _).trans (EqM.trans ?_ (bu_append n _ _).symm)
  refine EqM.mul ?_ (EqM.refl _ _)
  exact (bu_append n _ _).trans (((EqM.refl n _).mul e).trans (bu_append n _ _).symm)
theorem RelB.symm {a b : List Int} (h : RelB a b) : RelB b a := fun A => (h A).symm
end Go.Proofs.YtndgffiihbdppaaDoor
/- Braid words: what is wrong with one, where its strands end. -/
namespace Go.Proofs.YtndgffiihbdppaaDoor
set_option linter.unusedVariables false
set_option linter.unusedSimpArgs false

def okX (n x : Int) : Bool := decide (x ≠ 0 ∧ x < n ∧ -n < x)
def bfault (n : Int) (w : List Int) : Int := if n < 1 ∨ 6 < n then 1 else if 30 < w.length then 2 else if w.all (okX n) then 0 else 3
theorem bfault_zero {n : Int} {w : List Int} (h : bfault n w = 0) : 1 ≤ n ∧ n ≤ 6 ∧ w.length ≤ 30 ∧ ∀ x ∈ w, x ≠ 0 ∧ x < n ∧ -n < x := by
  unfold bfault at h
  split at h
  · omega
  · next h1 =>
    split at h
    · omega
    · next h2 =>
      split at h
      · next h3 => exact ⟨by omega, by omega, by omega, fun x hx => by simpa [okX] using List.all_eq_true.1 h3 x hx⟩
      · omega
theorem bfault_ok {n : Int} {w : List Int} (h1 : 1 ≤ n) (h6 : n ≤ 6) (h : w.length ≤ 30) (hw : ∀ x ∈ w, x ≠ 0 ∧ x < n ∧ -n < x) : bfault n w = 0 := by
  unfold bfault
  rw [if_neg (by omega), if_neg (by omega), if_pos (List.all_eq_true.2 fun x hx => by simpa [okX] using hw x hx)]
/-- Where a strand goes at a letter. -/
def stepE (at_ : Nat) (x : Int) : Nat := if at_ + 1 = x.natAbs then at_ + 1 else if at_ = x.natAbs then at_ - 1 else at_
def endE (w : List Int) (s : Nat) : Nat := w.foldl stepE s
def endsL (n : Nat) (w : List Int) : List Nat := (List.range n).map (endE w)
theorem endsL_length (n : Nat) (w : List Int) : (endsL n w).length = n := by simp [endsL]
theorem stepE_lt {n at_ : Nat} {x : Int} (hx : x ≠ 0) (h1 : x.natAbs < n) (h : at_ < n) : stepE at_ x < n := by
  unfold stepE
  split
  · omega
  · split <;> omega
theorem endE_lt {n : Nat} : ∀ {w : List Int}, okB n w → ∀ {s : Nat}, s < n → endE w s < n
  | [], _, s, h => h
  | x :: w, hw, s, h => by
    show endE w (stepE s x) < n
    exact endE_lt (fun y hy => hw y (by simp [hy])) (stepE_lt (hw x (by simp)).1 (hw x (by simp)).2 h)
theorem endE_append (u v : List Int) (s : Nat) : endE (u ++ v) s = endE v (endE u s) := by unfold endE; rw [List.foldl_append]
theorem endE_snoc (w : List Int) (x : Int) (s : Nat) : endE (w ++ [x]) s = stepE (endE w s) x := by rw [endE_append]; rfl
/-- Words that act alike on all strands. -/
def RelE (a b : List Int) : Prop := ∀ s, endE a s = endE b s
theorem stepE_neg (s : Nat) (x : Int) : stepE s (-x) = stepE s x := by unfold stepE; rw [Int.natAbs_neg]
theorem stepE_twice {x : Int} (h : x ≠ 0) (s : Nat) : stepE (stepE s x) x = s := by
  unfold stepE
  by_cases h1 : s + 1 = x.natAbs
  · rw [if_pos h1, if_neg (by omega), if_pos (by omega)]; omega
  · rw [if_neg h1]
    by_cases h2 : s = x.natAbs
    · rw [if_pos h2, if_pos (by omega)]; omega
    · rw [if_neg h2, if_neg h1, if_neg h2]
theorem relE_x {x : Int} (h : x ≠ 0) : RelE [x, -x] [] := fun s => by
  show stepE (stepE s x) (-x) = s
  rw [stepE_neg, stepE_twice h]
theorem endE_inv : ∀ (w : List Int), (∀ x ∈ w, x ≠ 0) → ∀ s, endE (w ++ invw w) s = s
  | [], _, _ => rfl
  | x :: w, h, s => by
    have e : invw (x :: w) = invw w ++ [-x] := by simp [invw]
    rw [e, show x :: w ++ (invw w ++ [-x]) = [x] ++ ((w ++ invw w) ++ [-x]) by simp, endE_append, endE_append, endE_inv w (fun y hy => h y (by simp [hy])), ← endE_append]
    exact relE_x (h x (by simp)) s
end Go.Proofs.YtndgffiihbdppaaDoor
/- Colors from letter to letter (mathematics of stage 15). -/
namespace Go.Proofs.YtndgffiihbdppaaDoor
set_option linter.unusedVariables false
set_option linter.unusedSimpArgs false

/-- The colors behind a letter. -/
def cSt (m x : Int) (c : List Int) : List Int :=
  if 0 < x then (c.set (x.natAbs - 1) ((2 * c.getD (x.natAbs - 1) 0 - c.getD x.natAbs 0) % m)).set x.natAbs (c.getD (x.natAbs - 1) 0)
  else (c.set (x.natAbs - 1) (c.getD x.natAbs 0)).set x.natAbs ((2 * c.getD x.natAbs 0 - c.getD (x.natAbs - 1) 0) % m)
/-- The colors behind a word. -/
def cCol (m : Int) (w : List Int) (c : List Int) : List Int := w.foldl (fun c x => cSt m x c) c
/-- Colors for n positions. -/
structure IsC (m : Int) (n : Nat) (c : List Int) : Prop where
  len : c.length = n
  col : ∀ j, j < n → 0 ≤ c.getD j 0 ∧ c.getD j 0 < m
theorem cSt_length (m x : Int) (c : List Int) : (cSt m x c).length = c.length := by unfold cSt; split <;> simp
theorem cSt_getD {m x : Int} {c : List Int} {n : Nat} (hl : c.length = n) (h0 : x ≠ 0) (h1 : x.natAbs < n) {j : Nat} (hj : j < n) :
    (cSt m x c).getD j 0 = if j + 1 = x.natAbs then (if 0 < x then (2 * c.getD j 0 - c.getD (j + 1) 0) % m else c.getD (j + 1) 0)
      else if j = x.natAbs then (if 0 < x then c.getD (j - 1) 0 else (2 * c.getD j 0 - c.getD (j - 1) 0) % m) else c.getD j 0 := by
  unfold cSt
  obtain ⟨i, hi⟩ : ∃ i, x.natAbs = i + 1 := ⟨x.natAbs - 1, by omega⟩
  rw [hi] at h1 ⊢
  rw [Nat.add_sub_cancel]
  have hs : ∀ (l : List Int) (k : Nat) (v : Int), k < l.length → (l.set k v).getD j 0 = if k = j then v else l.getD j 0 := fun l k v hk => by
    simp only [List.getD, List.getElem?_set]
    by_cases e : k = j
    · subst e; simp [hk]
    · simp [e]
  by_cases hx : 0 < x
  · rw [if_pos hx, hs _ _ _ (by simp; omega), hs _ _ _ (by omega)]
    by_cases e1 : j = i
    · subst e1; simp [hx]
    · by_cases e2 : j = i + 1
      · subst e2; simp [hx]
      · rw [if_neg (by omega), if_neg (by omega), if_neg (by omega), if_neg (by omega)]
  · rw [if_neg hx, hs _ _ _ (by simp; omega), hs _ _ _ (by omega)]
    by_cases e1 : j = i
    · subst e1; simp [hx]
    · by_cases e2 : j = i + 1
      · subst e2; simp [hx]
      · rw [if_neg (by omega), if_neg (by omega), if_neg (by omega), if_neg (by omega)]
theorem IsC.step {m x : Int} {c : List Int} {n : Nat} (h : IsC m n c) (h0 : x ≠ 0) (h1 : x.natAbs < n) : IsC m n (cSt m x c) := by
  refine ⟨by rw [cSt_length]; exact h.len, fun j hj => ?_⟩
  have hm : 0 < m := by have := h.col j hj; omega
  rw [cSt_getD h.len h0 h1 hj]
  have e : ∀ z : Int, 0 ≤ z % m ∧ z % m < m := fun z => ⟨Int.emod_nonneg _ (by omega), Int.emod_lt_of_pos _ hm⟩
  by_cases e1 : j + 1 = x.natAbs
  · rw [if_pos e1]
    split
    · exact e _
    · exact h.col _ (by omega)
  · rw [if_neg e1]
    by_cases e2 : j = x.natAbs
    · rw [if_pos e2]
      split
      · exact h.col _ (by omega)
      · exact e _
    · rw [if_neg e2]; exact h.col j hj
theorem cCol_append (m : Int) (u v c : List Int) : cCol m (u ++ v) c = cCol m v (cCol m u c) := by unfold cCol; rw [List.foldl_append]
theorem IsC.word {m : Int} {n : Nat} : ∀ {w c : List Int}, (∀ x ∈ w, x ≠ 0 ∧ x.natAbs < n) → IsC m n c → IsC m n (cCol m w c)
  | [], c, _, h => h
  | x :: w, c, hw, h => IsC.word (w := w) (fun y hy => hw y (by simp [hy])) (h.step (hw x (by simp)).1 (hw x (by simp)).2)
/-- One color for all positions stays. -/
theorem cCol_one {m a : Int} {n : Nat} (ha : 0 ≤ a ∧ a < m) : ∀ {w : List Int}, (∀ x ∈ w, x ≠ 0 ∧ x.natAbs < n) → cCol m w (List.replicate n a) = List.replicate n a
  | [], _ => rfl
  | x :: w, hw => by
    have hx := hw x (by simp)
    have e : cSt m x (List.replicate n a) = List.replicate n a := by
      refine list_extI (cSt_length _ _ _) fun j hj => ?_
      rw [cSt_length, List.length_replicate] at hj
      have hr : ∀ k, k < n → (List.replicate n a).getD k 0 = a := fun k hk => by simp [List.getD, hk]
      have hm : (2 * a - a) % m = a := by rw [show 2 * a - a = a by omega]; exact Int.emod_eq_of_lt ha.1 ha.2
      rw [cSt_getD (List.length_replicate ..) hx.1 hx.2 hj]
      by_cases e1 : j + 1 = x.natAbs
      · rw [if_pos e1, hr j hj, hr (j + 1) (by omega), hm]; split <;> rfl
      · rw [if_neg e1]
        by_cases e2 : j = x.natAbs
        · rw [if_pos e2, hr j hj, hr (j - 1) (by omega), hm]; split <;> rfl
        · rw [if_neg e2]
    show cCol m w (cSt m x _) = _
    rw [e, cCol_one ha fun y hy => hw y (by simp [hy])]
/-- The digits of a number. -/
def digs (m n i : Nat) : List Int := (List.range n).map fun j => ((i / m ^ j % m : Nat) : Int)
theorem digs_isC {m n : Nat} (hm : 1 ≤ m) (i : Nat) : IsC m n (digs m n i) :=
  ⟨by simp [digs], fun j hj => by
    have e : (digs m n i).getD j 0 = ((i / m ^ j % m : Nat) : Int) := by simp [digs, List.getD, hj]
    rw [e]
    have := Nat.mod_lt (i / m ^ j) (show m > 0 by omega)
    omega⟩
/-- The number of colorings. -/
def cntC (n m : Nat) (w : List Int) : Nat := (List.range (m ^ n)).countP fun i => decide (cCol m w (digs m n i) = digs m n i)
end Go.Proofs.YtndgffiihbdppaaDoor
/- math/bits.Mul at this program, by the library's contract for it. -/
namespace Go.Proofs.YtndgffiihbdppaaDoor
set_option linter.unusedVariables false
set_option linter.unusedSimpArgs false
open Go.Shelf
def lays212_ren : Go.Shelf.Ren := ⟨fun | 212 => 22 | 263 => 33 | 264 => 34 | n => n, fun | 46 => 45 | 51 => 60 | 146 => 61 | 53 => 63 | 148 => 64 | n => n, fun | n => n⟩
theorem lays212 : Go.Proofs.Lays.n212 Tryd.prog lays212_ren := {
  mixed := by kernel_rfl
  f212 := Tryd.func22.trans (congrArg some (by kernel_rfl))
  f263 := Tryd.func33.trans (congrArg some (by kernel_rfl))
  f264 := Tryd.func34.trans (congrArg some (by kernel_rfl))
  t46 := Tryd.underlying45
  a46 := Tryd.isAgg45
  z46 := Tryd.sizeOf45
  v46 := Tryd.zeroValue45
  t51 := Tryd.underlying60
  a51 := Tryd.isAgg60
  z51 := Tryd.sizeOf60
  v51 := Tryd.zeroValue60
  t53 := Tryd.underlying63
  a53 := Tryd.isAgg63
  z53 := Tryd.sizeOf63
  v53 := Tryd.zeroValue63
  t146 := Tryd.underlying61
  a146 := Tryd.isAgg61
  z146 := Tryd.sizeOf61
  v146 := Tryd.zeroValue61
  t148 := Tryd.underlying64
  a148 := Tryd.isAgg64
  z148 := Tryd.sizeOf64
  v148 := Tryd.zeroValue64 }
open Go.RowKit Go.Lib in
/-- math/bits.Mul: "Mul returns the full-width product of x and y": on a machine of 64 bits: Mul64's. (LAID: no walk: one application.) -/
theorem bits_Mul (x y : Nat) (hx : x < 18446744073709551616) (hy : y < 18446744073709551616) (w : World) :
    Calls Tryd.prog 22 #[.int .u64 x, .int .u64 y] w fun e w' => e = .returned (.tuple #[.int .u64 ((x * y / 18446744073709551616 : Nat) : Int), .int .u64 ((x * y % 18446744073709551616 : Nat) : Int)]) ∧ w' = w := Any.bits_Mul lays212 x y hx hy w
end Go.Proofs.YtndgffiihbdppaaDoor
/- slices.Repeat. -/
namespace Go.Proofs.YtndgffiihbdppaaDoor
set_option linter.unusedVariables false
set_option linter.unusedSimpArgs false
open Go.RowKit

theorem splice_map {f : Int → Value} (L : List Int) (off : Nat) (cs : List Int) : splice (L.map f) off (cs.map f) = (splice L off cs).map f := by
  simp [splice, List.map_take, List.map_drop]
/-- n elements of the repeated list, then zeros. -/
def repZ (xs : List Int) (k n : Nat) : List Int := (rep xs k).take n ++ List.replicate ((rep xs k).length - n) 0
theorem repZ_length (xs : List Int) (k n : Nat) (h : n ≤ (rep xs k).length) : (repZ xs k n).length = (rep xs k).length := by
  simp [repZ]; omega
theorem repZ_zero (xs : List Int) (k : Nat) : repZ xs k 0 = List.replicate (rep xs k).length 0 := by simp [repZ]
theorem repZ_end (xs : List Int) (k : Nat) : repZ xs k (rep xs k).length = rep xs k := by simp [repZ]
theorem repZ_first (xs : List Int) (k : Nat) (hk : 0 < k) : splice (repZ xs k 0) 0 xs = repZ xs k xs.length := by
  obtain ⟨k, rfl⟩ : ∃ j, k = j + 1 := ⟨k - 1, by omega⟩
  simp [splice, repZ, rep_succ]
theorem repZ_step (xs : List Int) (k q m : Nat) (hq : q ≤ k) (hm : q * xs.length + m ≤ (rep xs k).length) (hmq : m ≤ q * xs.length) :
    splice (repZ xs k (q * xs.length)) (q * xs.length) ((rep xs k).take m) = repZ xs k (q * xs.length + m) := by
  have hl := rep_length xs k
  have hlq := rep_length xs q
  have e0 : rep xs k = rep xs q ++ rep xs (k - q) := by rw [← rep_add]; congr 1; omega
  have e0' : rep xs k = rep xs (k - q) ++ rep xs q := by rw [← rep_add]; congr 1; omega
  have hl2 := rep_length xs (k - q)
  have e1 : (rep xs k).take (q * xs.length) = rep xs q := by rw [e0, List.take_append_of_le_length (by omega), List.take_of_length_le (by omega)]
  have hlen : (rep xs k).length = (rep xs q).length + (rep xs (k - q)).length := by
    conv => lhs; rw [e0]
    exact List.length_append
  have e2 : (rep xs k).take (q * xs.length + m) = rep xs q ++ (rep xs k).take m := by
    conv => lhs; rw [e0]
    rw [List.take_append, List.take_of_length_le (by omega)]
    congr 1
    rw [e0', List.take_append_of_le_length (by omega)]
    congr 1
    omega
  unfold repZ
  rw [e1, e2]
  unfold splice
  rw [List.take_append_of_le_length (by omega), List.take_of_length_le (by omega), List.append_assoc]
  congr 1
  congr 1
  rw [List.drop_append, List.drop_of_length_le (by omega), List.nil_append, List.drop_replicate]
  congr 1
  simp only [List.length_take]
  omega
theorem OwnI.ofRow {w : World} {base g n : Nat} {xs : List Int} (hb : base ≤ g) (h : w.heap[g]? = some (.cells (xs.map (Value.int .i64)).toArray 3 (0, 0))) (hn : xs.length = n) (hs : n ≤ 17592186044416) : OwnI w base (some ⟨g, 0, none⟩) n n xs := by
  refine ⟨⟨by simpa using hn, .inr ⟨g, n, _, rfl, hb, h, Nat.le_refl _, by unfold maxLen; omega, ?_, ?_⟩⟩, hs⟩
  · simp [hn]
  · rw [← hn]; exact List.take_of_length_le (by simp)
theorem il_ofRow {w : World} {g : Nat} {xs : List Int} (h : w.heap[g]? = some (.cells (xs.map (Value.int .i64)).toArray 3 (0, 0))) (j : Nat) (v : Value) (m : Nat) (hv : ((xs.take m).map (Value.int .i64))[j]? = some v) : w.cell? ((⟨g, 0, none⟩ : Addr).add j) = some v := by
  rw [add_zero_block, cell_of_row w g j _ _ _ h]
  have hj := (List.getElem?_eq_some_iff.1 hv).1
  simp only [List.length_map, List.length_take] at hj
  rw [← hv]
  simp [List.getElem?_map, List.getElem?_take, show j < m by omega]
theorem ints_one (xs : List Int) : ∀ v ∈ xs.map (Value.int .i64), v.oneCell' = true := by
  intro v hv
  obtain ⟨x, _, rfl⟩ := List.mem_map.1 hv
  rfl

theorem made_zeros (N : Nat) : madeCells #[.int .i64 0] N = ((List.replicate N (0 : Int)).map (Value.int .i64)).toArray := by
  apply Array.ext
  · simp [size_madeCells]
  · intro i h1 h2
    simp [madeCells, Nat.mod_one]
theorem made_row (w : World) (xs : List Int) (k N : Nat) (h : (rep xs k).length = N) : (w.alloc (.cells (madeCells #[.int .i64 0] N) 3)).heap[w.heap.size]? = some (.cells ((repZ xs k 0).map (Value.int .i64)).toArray 3 (0, 0)) := by
  rw [repZ_zero, h, made_zeros]
  exact heap_alloc_new w _
theorem IL.cells_ {w : World} {A : Option Addr} {n : Nat} {xs : List Int} (h : IL w A n xs) (h0 : 0 < n) : ∃ ad, A = some ad ∧ ∀ j v, (xs.map (Value.int .i64))[j]? = some v → w.cell? (ad.add j) = some v := by
  obtain ⟨ad, e, _, hc⟩ := h.mem h0
  refine ⟨ad, e, fun j v hv => ?_⟩
  have hj := (List.getElem?_eq_some_iff.1 hv).1
  have hl := h.len
  simp only [List.length_map] at hj
  rw [hc j (by omega), ← hv, List.getElem?_map, List.getElem?_eq_getElem hj]
  simp [List.getD, List.getElem?_eq_getElem hj]

set_option maxRecDepth 100000 in
set_option maxHeartbeats 2000000 in
theorem repeat_any (A : Option Addr) (l c k : Nat) (xs : List Int) (w : World) (ha : IL w A l xs) (hlp : 0 < l) (hk : 0 < k) (hs : k * l ≤ 1000000) :
    Calls Tryd.prog 10 #[.slice A l c, .int .i64 k] w (GivesOwn w (rep xs k)) := by
  obtain ⟨N, hN⟩ : ∃ N, k * l = N := ⟨_, rfl⟩
  have hl := ha.len
  have hNl := rep_length xs k
  rw [hl, hN] at hNl
  have hlN : l ≤ N := by rw [← hN]; exact Nat.le_mul_of_pos_left l hk
  have hkN : k ≤ N := by rw [← hN]; exact Nat.le_mul_of_pos_right k hlp
  rw [hN] at hs
  have HN := hide hN
  have HNL := hide hNl
  have HL := hide hl
  have HA := hide ha
  have HM : Hid (∀ w, Calls Tryd.prog 22 #[.int .u64 l, .int .u64 k] w fun e w' => e = .returned (.tuple #[.int .u64 0, .int .u64 N]) ∧ w = w') := fun w => by
    refine (bits_Mul l k (by omega) (by omega) w).mono ?_
    rintro e w' ⟨rfl, rfl⟩
    have e1 : l * k = N := by rw [Nat.mul_comm]; exact HN.out
    rw [e1, show N / 18446744073709551616 = 0 by omega, show N % 18446744073709551616 = N by omega]
    exact ⟨rfl, rfl⟩
  obtain ⟨i0, hi0, hz0, hz1, hz2⟩ := info_parts int_info
  have h48 : i0.bytes * N ≤ 281474976710656 := by rw [hz2]; omega
  have HI0 := hide hi0
  have HZ0 := hide hz0
  have HZ1 := hide hz1
  have H48 := hide h48
  clear ha hl hNl hN hi0 hz0 hz1 hz2 h48
  go_enter Tryd.func10, Tryd.ntmps10
  have hd1 : decide ((k : Int) < 0) = false := by simp
  have hd2 : decide ((9223372036854775807 : Int) < (N : Int)) = false := decide_eq_false (by omega)
  have HMR := hide (made_row w xs k N HNL.out)
  have HAL := hide (HA.out.alloc (.cells (madeCells #[.int .i64 0] N) 3))
  have HRF : Hid (splice ((repZ xs k 0).map (Value.int .i64)) 0 (xs.map (Value.int .i64)) = (repZ xs k l).map (Value.int .i64)) := by
    rw [splice_map, repZ_first xs k hk, HL.out]
    exact rfl
  have HI3 : Hid ((Tryd.prog.info? 3).map (·.size) = some 1) := by
    rw [HI0.out]
    exact congrArg some HZ1.out
  have HB0 := hide ((Below.refl w.heap.size w).alloc (Nat.le_refl _) (.cells (madeCells #[.int .i64 0] N) 3))
  have HRL : ∀ n, n ≤ N → Hid (((repZ xs k n).map (Value.int .i64)).length = N) := fun n hn => by
    rw [List.length_map, repZ_length xs k n (by rw [HNL.out]; exact hn)]
    exact HNL.out
  have HXL : Hid ((xs.map (Value.int .i64)).length = l) := by rw [List.length_map]; exact HL.out
  go_wp2_with (first | (go_at_call 22; refine (HM.out _).mono ?_; rintro e w' ⟨rfl, rfl⟩) | (at_make; refine wpList_make_row _ rfl _ _ 22 rfl 3 i0 (.int .i64 0) Tryd.underlying22 HI0.out HZ0.out HZ1.out rfl .i64 .i64 N rfl rfl H48.out (by omega) ?_) | ((with_reducible show wpList _ _ _ (Oper.mk _ (.call { callee := .builtin .copy, args := _, argTypes := _ }) _ _ _ _ :: _) _ _); go_loud (refine wpList_copy_splice rfl (.tmp 31) (.tmp 32) 22 22 rfl 3 Tryd.underlying22 HI3.out (some ⟨w.heap.size, 0, none⟩) A N N l c rfl rfl w.heap.size 0 ((repZ xs k 0).map (Value.int .i64)) 3 HMR.out (xs.map (Value.int .i64)) (by rw [HXL.out]; exact (Nat.min_eq_left hlN).symm) (fun _ => ⟨rfl, HAL.out.cells_ hlp⟩) (by rw [HXL.out, (HRL 0 (Nat.zero_le _)).out]; omega) (ints_one _) w.heap.size w HB0.out (Nat.le_refl _) ?_; intro w2 hg2 hb2; rw [HRF.out] at hg2; rw [HXL.out])))
  clear HMR HAL HB0 HRF
  go_loopw [8] (fun nv wr => ∃ q n : Nat, Hid (n < N → n = q * l ∧ q ≤ k) ∧ 0 < n ∧ n ≤ N ∧ nv = .int .i64 n ∧ Hid (wr.heap[w.heap.size]? = some (.cells ((repZ xs k n).map (Value.int .i64)).toArray 3 (0, 0))) ∧ Below w.heap.size w wr) (fun nv _ => N - (intOf nv).toNat)
  case atStart => exact ⟨1, l, fun _ => ⟨(Nat.one_mul l).symm, hk⟩, hlp, hlN, rfl, hg2, hb2⟩
  case round =>
    clear hg2 hb2
    obtain ⟨q, n, HQ, hn0, hnN, rfl, HG, hb⟩ := hrel
    by_cases hlt : n < N
    · obtain ⟨m, hm⟩ : ∃ m, min n (N - n) = m := ⟨_, rfl⟩
      have hm1 : 0 < m := by omega
      have hm2 : m ≤ n := by omega
      have hm3 : n + m ≤ N := by omega
      have HN2 : Hid (n + m < N → n + m = (q + q) * l ∧ q + q ≤ k) := fun h => by
        have e : m = n := by omega
        obtain ⟨e1, e2⟩ := HQ.out hlt
        subst e
        refine ⟨by rw [Nat.add_mul, ← e1], ?_⟩
        have h3 : (q + q) * l < k * l := by rw [Nat.add_mul, ← e1, HN.out]; exact h
        exact Nat.le_of_lt (Nat.lt_of_mul_lt_mul_right h3)
      have HS : Hid (splice ((repZ xs k n).map (Value.int .i64)) n (((rep xs k).take m).map (Value.int .i64)) = (repZ xs k (n + m)).map (Value.int .i64)) := by
        obtain ⟨e1, e2⟩ := HQ.out hlt
        have h2 := repZ_step xs k q m e2 (by rw [HL.out, HNL.out, ← e1]; exact hm3) (by rw [HL.out, ← e1]; exact hm2)
        rw [HL.out, ← e1] at h2
        rw [splice_map, h2]
        exact rfl
      have HCL : Hid ((((rep xs k).take m).map (Value.int .i64)).length = m) := by
        rw [List.length_map, List.length_take, HNL.out]
        exact Nat.min_eq_left (by omega)
      have HSRC : Hid (∀ j v, (((rep xs k).take m).map (Value.int .i64))[j]? = some v → wr.cell? ((⟨w.heap.size, 0, none⟩ : Addr).add j) = some v) := by
        intro j v hv
        refine il_ofRow HG.out j v m ?_
        rw [← hv]
        congr 1
        congr 1
        unfold repZ
        rw [List.take_append_of_le_length (by rw [List.length_take, HNL.out]; omega), List.take_take]
        congr 1
        omega
      have HB := hide hb
      have HMM : Hid (m = Nat.min n (N - n)) := hide hm.symm
      have hne : ¬ N = n := by omega
      have hnN2 : (n : Int) ≤ (N : Int) := by omega
      clear hb hm HQ
      go_wp2_with fail
      go_region_law (refine step_copy_splice rfl (.tmp 41) (.tmp 44) 22 22 rfl 3 Tryd.underlying22 HI3.out (some ⟨w.heap.size, n, none⟩) (some ⟨w.heap.size, 0, none⟩) (N - n) (N - n) n N (by simp [Act.eval, Act.put, hne]) (by simp [Act.eval, Act.put]) w.heap.size n ((repZ xs k n).map (Value.int .i64)) 3 HG.out (((rep xs k).take m).map (Value.int .i64)) (by rw [HCL.out]; exact HMM.out) (fun _ => ⟨rfl, _, rfl, HSRC.out⟩) (by rw [HCL.out, (HRL n hnN).out]; omega) (ints_one _) w.heap.size w HB.out.drew (Nat.le_refl _) ?_; intro w2 hg2 hb2; rw [HS.out] at hg2; rw [HCL.out])
      show Exit.inBlock 1 _ Exit.normal (Act.put (Act.put _ (some 46) _) (some 8) _) _
      simp only [Act.put, List.setIfInBounds_toArray, List.set_cons_zero, List.set_cons_succ]
      go_roundw
      case rel =>
        have hnum : Value.int .i64 (IntKind.i64.wrap ((n : Int) + (m : Int))) = .int .i64 ((n + m : Nat) : Int) := by
          rw [show IntKind.i64.wrap ((n : Int) + (m : Int)) = ((n + m : Nat) : Int) by rw [IntKind.wrap_i64]; omega]
        exact ⟨_, _, _, _, _, _, _, _, _, _, _, _, _, _, ⟨q + q, n + m, HN2.out, by omega, hm3, hnum, hg2, hb2⟩, rfl⟩
      case measure => simp [intOf, IntKind.wrap_i64]; omega
    · have HE : Hid (OwnI wr w.heap.size (some ⟨w.heap.size, 0, none⟩) N N (rep xs k)) := by
        have e : n = N := by omega
        have h2 := HG.out
        rw [e, ← HNL.out, repZ_end] at h2
        exact OwnI.ofRow (Nat.le_refl _) h2 HNL.out (by omega)
      have HB := hide hb
      clear hb HG HQ
      go_wp2_with fail
      go_ret
      exact ⟨_, _, _, rfl, HE.out, HB.out⟩
end Go.Proofs.YtndgffiihbdppaaDoor
/- timbmake.Letter, timbmake.Word. -/
namespace Go.Proofs.YtndgffiihbdppaaDoor
set_option linter.unusedVariables false
set_option linter.unusedSimpArgs false
open Go.RowKit

theorem letter_any (x : Int) (k : Nat) (w : World) (h0 : 0 < k) (hk : k ≤ 1000) :
    Calls Tryd.prog 17 #[.int .i64 x, .int .i64 k] w fun e w' => ∃ y : Int, e = .returned (.int .i64 y) ∧ y ≠ 0 ∧ -(k : Int) ≤ y ∧ y ≤ k ∧ w = w' := by
  have HM := hide (mbelow_any x (2 * k) w (by omega) (by omega))
  have h1 := Int.emod_nonneg x (show ((2 * k : Nat) : Int) ≠ 0 by omega)
  have h2 := Int.emod_lt_of_pos x (show (0 : Int) < ((2 * k : Nat) : Int) by omega)
  obtain ⟨z, hz⟩ : ∃ z, x % ((2 * k : Nat) : Int) = z := ⟨_, rfl⟩
  rw [hz] at HM h1 h2
  have e2 : ((2 * k : Nat) : Int) = 2 * (k : Int) := by omega
  rw [e2] at HM h2
  clear hz e2
  go_enter Tryd.func17, Tryd.ntmps17
  go_wp2_with fail
  refine HM.out.mono ?_
  rintro e w' ⟨rfl, rfl⟩
  by_cases hlt : z < k
  · go_wp2
    go_ret
    exact ⟨z + 1, rfl, by omega, by omega, by omega, rfl⟩
  · go_wp2
    go_ret
    exact ⟨_, rfl, by omega, by omega, by omega, rfl⟩

/-- The letters so far. -/
structure WoSt (w wr : World) (k : Nat) (A : Option Addr) (n c : Nat) (us : List Int) : Prop where
  own : OwnI wr w.heap.size A n c us
  ok : ∀ x ∈ us, x ≠ 0 ∧ x ≤ k ∧ -(k : Int) ≤ x
  below : Below w.heap.size w wr
set_option maxRecDepth 100000 in
set_option maxHeartbeats 2000000 in
theorem word_any (A : Option Addr) (k l c L : Nat) (xs : List Int) (w : World) (hx : IL w A l xs) (hc : l ≤ c) (h0 : 0 < k) (hk : k ≤ 1000) (hL : L ≤ 1000) :
    Calls Tryd.prog 7 #[.int .i64 k, .slice A l c, .int .i64 L] w fun e w' => ∃ us B m d, e = .returned (.slice B m d) ∧ OwnI w' w.heap.size B m d us ∧ (∀ x ∈ us, x ≠ 0 ∧ x ≤ k ∧ -(k : Int) ≤ x) ∧ m ≤ L ∧ Below w.heap.size w w' := by
  obtain ⟨i0, hi0, hz0, hz1, hz2⟩ := info_parts int_info
  have HX := hide hx
  have hsm := hx.small
  clear hx
  obtain ⟨K, hK⟩ : ∃ K, K = min l L := ⟨_, rfl⟩
  have hKl : K ≤ l := by omega
  have HP := hide (HX.out.pre hKl)
  have hK10 : K ≤ L := by omega
  go_enter Tryd.func7, Tryd.ntmps7
  go_upto_region 3 with fail
  all_goals
    first | (have e : K = L := by omega) | (have e : K = l := by omega)
    subst e
    clear hK
    go_loopw [7, 17] (fun ov iv wr => ∃ (i c7 : Nat) (A7 : Option Addr) (us : List Int), ov = .slice A7 i c7 ∧ iv = .int .i64 i ∧ i ≤ K ∧ WoSt w wr k A7 i c7 us) (fun _ iv _ => K - (intOf iv).toNat)
    case atStart => exact ⟨0, 0, none, [], rfl, rfl, by omega, ⟨OwnI.nil_ _ _, fun x hx => by simp at hx, Below.refl _ _⟩⟩
    case round =>
      obtain ⟨i, c7, A7, us, rfl, rfl, hi, hst⟩ := hrel
      by_cases hlt : i < K
      · obtain ⟨ad, rfl, hcl⟩ := (HP.out.below hst.below).at_ hlt
        generalize (xs.take K).getD i 0 = x at *
        go_wp2_with fail
        refine (letter_any x k wr h0 hk).mono ?_
        rintro e w2 ⟨y, rfl, hy0, hy1, hy2, rfl⟩
        have HST := hide hst
        have hs := hst.below.size
        clear hst hcl
        go_wp2_with (at_builtin; refine wpList_append_int _ rfl _ _ 22 rfl w.heap.size i0 Tryd.underlying22 hi0 hz0 hz1 hz2 A7 i c7 us rfl (HST.out.own.alloc _) (some ⟨_, 0, none⟩) 1 1 [y] rfl (IL.lit _ [y] (by simp) rfl rfl) (by omega) (by simp; omega) ?_; intro A8 c8 w8 hap)
        have hN : WoSt w w8 k A8 (i + 1) c8 (us ++ [y]) := by
          refine ⟨hap.own, fun z hz => ?_, (HST.out.below.alloc hs _).grown hap.grown (by simp; omega) (fun j hj => (HST.out.own.lt j (by rw [ownBlock_len A7 i (i + 1) c7 c7]; exact hj)).1)⟩
          rcases List.mem_append.1 hz with hz | hz
          · exact HST.out.ok z hz
          · obtain rfl : z = y := by simpa using hz
            exact ⟨hy0, hy2, hy1⟩
        clear hap
        go_roundw
        case rel => exact ⟨i + 1, c8, A8, _, by go_num, by go_num, by omega, hN⟩
        case measure => simp [intOf]; omega
      · go_wp2
        go_ret
        exact ⟨us, A7, i, c7, rfl, hst.own, hst.ok, by omega, hst.below⟩
end Go.Proofs.YtndgffiihbdppaaDoor
/- What package freegroup's functions are to answer (words alone), and what follows for the facts free and reduced that the laws begin with. -/
namespace Go.Proofs.YtndgffiihbdppaaDoor
set_option linter.unusedVariables false
set_option linter.unusedSimpArgs false
open Go.RowKit

/-- A slice and an error. -/
def GivesLE (w : World) (err : Int) (xs : List Int) (e : Ending) (w' : World) : Prop :=
  ∃ A n c, e = .returned (.tuple #[.slice A n c, .int .i64 err]) ∧ SL w' A n c xs ∧ Below w.heap.size w w'

/-- The same, the slice in memory that was not there before. -/
def GivesLEn (w : World) (err : Int) (xs : List Int) (e : Ending) (w' : World) : Prop :=
  ∃ A n c, e = .returned (.tuple #[.slice A n c, .int .i64 err]) ∧ SL w' A n c xs ∧ (0 < n → ∀ ad, A = some ad → w.heap.size ≤ ad.block) ∧ Below w.heap.size w w'
theorem GivesLEn.le {w : World} {err : Int} {xs : List Int} {e : Ending} {w' : World} (h : GivesLEn w err xs e w') : GivesLE w err xs e w' := by
  obtain ⟨A, n, c, h1, h2, _, h3⟩ := h
  exact ⟨A, n, c, h1, h2, h3⟩

end Go.Proofs.YtndgffiihbdppaaDoor
