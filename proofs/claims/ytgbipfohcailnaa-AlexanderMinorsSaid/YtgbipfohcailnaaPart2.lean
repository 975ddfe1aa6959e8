/- Several texts in one. -/
import Derived.Test.YtgbipfohcailnaaPart1
import Derived.Test.YtgbipfohcailnaaBase1
import Derived.Deep.DeepCutAuto
import Derived.Laws.CopyOwn
import Derived.Deep.OwnRows
import Derived.Deep.LoopGhost
/- Burau matrices: letters as row operations, the relations of the braid group, row sums, the row 1, t, t^2, .. . -/
namespace Go.Proofs.Ytgbipfohcailnaa
set_option linter.unusedVariables false
set_option linter.unusedSimpArgs false
set_option linter.unusedSectionVars false
open CR

section
variable {R : Type} [CR R]
theorem sumN_two {f : Nat → R} {n a b : Nat} (ha : a < n) (hb : b < n) (hab : a ≠ b) (h : ∀ i, i < n → i ≠ a → i ≠ b → f i = 0) : sumN n f = f a + f b := by
  have e : sumN n f = sumN n (fun i => (if i = a then f a else 0) + (if i = b then f b else 0)) := sumN_congr fun i hi => by
    by_cases h1 : i = a
    · subst h1; rw [if_pos rfl, if_neg hab, add_zero]
    · by_cases h2 : i = b
      · subst h2; rw [if_pos rfl, if_neg h1, zero_add]
      · rw [if_neg h1, if_neg h2, h i hi h1 h2, add_zero]
  rw [e, sumN_add, sumN_single (k := a) ha (fun i _ hne => if_neg hne), sumN_single (k := b) hb (fun i _ hne => if_neg hne), if_pos rfl, if_pos rfl]
theorem mulM_assoc (n : Nat) (A B C : Mtx R) : mulM n (mulM n A B) C = mulM n A (mulM n B C) := by
  funext i j
  show sumN n (fun k => (sumN n fun l => A i l * B l k) * C k j) = sumN n fun l => A i l * sumN n fun k => B l k * C k j
  have e1 : ∀ k, (sumN n fun l => A i l * B l k) * C k j = sumN n fun l => A i l * (B l k * C k j) := fun k => by
    rw [mul_comm, ← sumN_mul]
    exact sumN_congr fun l _ => by ac_rfl
  rw [sumN_congr fun k _ => e1 k, sumN_swap]
  exact sumN_congr fun l _ => sumN_mul _ _ _
/-- Equal within n rows and columns. -/
def EqM (n : Nat) (A B : Mtx R) : Prop := ∀ i, i < n → ∀ j, j < n → A i j = B i j
theorem EqM.refl (n : Nat) (A : Mtx R) : EqM n A A := fun _ _ _ _ => rfl
theorem EqM.symm {n : Nat} {A B : Mtx R} (h : EqM n A B) : EqM n B A := fun i hi j hj => (h i hi j hj).symm
theorem EqM.trans {n : Nat} {A B C : Mtx R} (h : EqM n A B) (k : EqM n B C) : EqM n A C := fun i hi j hj => (h i hi j hj).trans (k i hi j hj)
theorem EqM.mul {n : Nat} {A A' B B' : Mtx R} (h : EqM n A A') (k : EqM n B B') : EqM n (mulM n A B) (mulM n A' B') := fun i hi j hj =>
  sumN_congr fun l hl => by rw [h i hi l hl, k l hl j hj]
theorem EqM.one_mul (n : Nat) (A : Mtx R) : EqM n (mulM n oneM A) A := fun i hi j hj => by
  show sumN n (fun k => oneM i k * A k j) = A i j
  rw [sumN_single (k := i) hi (fun k _ hne => by rw [show (oneM : Mtx R) i k = 0 from if_neg (Ne.symm hne), zero_mul]), show (oneM : Mtx R) i i = 1 from if_pos rfl, CR.one_mul]
theorem EqM.mul_one (n : Nat) (A : Mtx R) : EqM n (mulM n A oneM) A := fun i hi j hj => by
  show sumN n (fun k => A i k * oneM k j) = A i j
  rw [sumN_single (k := j) hj (fun k _ hne => by rw [show (oneM : Mtx R) k j = 0 from if_neg hne, mul_zero]), show (oneM : Mtx R) j j = 1 from if_pos rfl, CR.mul_one]

/-- What a positive letter does to rows a - 1 and a. -/
def opP (t : R) (a : Nat) (A : Mtx R) : Mtx R := fun r c => if r + 1 = a then (1 + -t) * A r c + t * A (r + 1) c else if r = a then A (r - 1) c else A r c
def opN (t : R) (a : Nat) (A : Mtx R) : Mtx R := fun r c => if r + 1 = a then A (r + 1) c else if r = a then t * A (r - 1) c + (1 + -t) * A r c else A r c
theorem EqM.opP {n : Nat} {A B : Mtx R} (t : R) {a : Nat} (ha : a < n) (h : EqM n A B) : EqM n (Proofs.Ytgbipfohcailnaa.opP t a A) (Proofs.Ytgbipfohcailnaa.opP t a B) := fun r hr c hc => by
  unfold Proofs.Ytgbipfohcailnaa.opP
  by_cases h1 : r + 1 = a
  · rw [if_pos h1, if_pos h1, h r hr c hc, h (r + 1) (by omega) c hc]
  · rw [if_neg h1, if_neg h1]
    split
    · exact h _ (by omega) c hc
    · exact h r hr c hc
theorem EqM.opN {n : Nat} {A B : Mtx R} (t : R) {a : Nat} (ha : a < n) (h : EqM n A B) : EqM n (Proofs.Ytgbipfohcailnaa.opN t a A) (Proofs.Ytgbipfohcailnaa.opN t a B) := fun r hr c hc => by
  unfold Proofs.Ytgbipfohcailnaa.opN
  by_cases h1 : r + 1 = a
  · rw [if_pos h1, if_pos h1, h (r + 1) (by omega) c hc]
  · rw [if_neg h1, if_neg h1]
    split
    · rw [h r hr c hc, h _ (by omega) c hc]
    · exact h r hr c hc
end

def tT : LP := LP.term 1 1
def tI : LP := LP.term (-1) 1
/-- The matrix of a letter. -/
def bl (x : Int) : Mtx LP := fun r c =>
  if r + 1 = x.natAbs then (if 0 < x then (if c = r then 1 + -tT else if c = r + 1 then tT else 0) else (if c = r + 1 then 1 else 0))
  else if r = x.natAbs then (if 0 < x then (if c + 1 = r then 1 else 0) else (if c + 1 = r then tI else if c = r then 1 + -tI else 0))
  else if r = c then 1 else 0
/-- The Burau matrix of a word. -/
def bu (n : Nat) : List Int → Mtx LP
  | [] => oneM
  | x :: w => mulM n (bl x) (bu n w)
def opL (x : Int) (A : Mtx LP) : Mtx LP := if 0 < x then opP tT x.natAbs A else opN tI x.natAbs A
theorem bl_mul {n : Nat} {x : Int} (h1 : x ≠ 0) (h2 : x.natAbs < n) (A : Mtx LP) : EqM n (mulM n (bl x) A) (opL x A) := fun r hr c hc => by
  show sumN n (fun k => bl x r k * A k c) = _
  obtain ⟨a, ha⟩ : ∃ a, x.natAbs = a := ⟨_, rfl⟩
  have ha1 : 1 ≤ a := by omega
  unfold opL bl
  rw [ha] at h2 ⊢
  by_cases hx : 0 < x
  · simp only [if_pos hx]
    unfold opP
    by_cases h3 : r + 1 = a
    · simp only [if_pos h3]
      rw [sumN_two (a := r) (b := r + 1) hr (by omega) (by omega) (fun i _ h4 h5 => by rw [if_neg h4, if_neg h5, zero_mul]), if_pos rfl, if_neg (by omega), if_pos rfl]
    · simp only [if_neg h3]
      by_cases h4 : r = a
      · simp only [if_pos h4]
        rw [sumN_single (k := r - 1) (by omega) (fun i _ h5 => by rw [if_neg (by omega), zero_mul]), if_pos (by omega), CR.one_mul]
      · simp only [if_neg h4]
        rw [sumN_single (k := r) hr (fun i _ h5 => by rw [if_neg (fun e => h5 e.symm), zero_mul]), if_pos rfl, CR.one_mul]
  · simp only [if_neg hx]
    unfold opN
    by_cases h3 : r + 1 = a
    · simp only [if_pos h3]
      rw [sumN_single (k := r + 1) (by omega) (fun i _ h5 => by rw [if_neg h5, zero_mul]), if_pos rfl, CR.one_mul]
    · simp only [if_neg h3]
      by_cases h4 : r = a
      · simp only [if_pos h4]
        rw [sumN_two (a := r - 1) (b := r) (by omega) hr (by omega) (fun i _ h5 h6 => by rw [if_neg (by omega), if_neg h6, zero_mul]), if_pos (by omega), if_neg (by omega), if_pos rfl]
      · simp only [if_neg h4]
        rw [sumN_single (k := r) hr (fun i _ h5 => by rw [if_neg (fun e => h5 e.symm), zero_mul]), if_pos rfl, CR.one_mul]
theorem bu_append (n : Nat) : ∀ u v : List Int, EqM n (bu n (u ++ v)) (mulM n (bu n u) (bu n v))
  | [], v => (EqM.one_mul n _).symm
  | x :: u, v => by
    show EqM n (mulM n (bl x) (bu n (u ++ v))) (mulM n (mulM n (bl x) (bu n u)) (bu n v))
    rw [mulM_assoc]
    exact (EqM.refl n _).mul (bu_append n u v)
/-- Letters of a braid word on n strands. -/
def okB (n : Nat) (w : List Int) : Prop := ∀ x ∈ w, x ≠ 0 ∧ x.natAbs < n
theorem EqM.opL {n : Nat} {A B : Mtx LP} {x : Int} (hx : x.natAbs < n) (h : EqM n A B) : EqM n (Proofs.Ytgbipfohcailnaa.opL x A) (Proofs.Ytgbipfohcailnaa.opL x B) := by
  unfold Proofs.Ytgbipfohcailnaa.opL
  split
  · exact h.opP _ hx
  · exact h.opN _ hx
def opW : List Int → Mtx LP → Mtx LP
  | [], A => A
  | x :: w, A => opL x (opW w A)
theorem bu_op {n : Nat} : ∀ {w : List Int}, okB n w → EqM n (bu n w) (opW w oneM)
  | [], _ => EqM.refl _ _
  | x :: w, h => (bl_mul (h x (by simp)).1 (h x (by simp)).2 _).trans ((bu_op fun y hy => h y (by simp [hy])).opL (h x (by simp)).2)
/-- Words that are equal by a relation: what they do to all matrices is equal. -/
def RelB (a b : List Int) : Prop := ∀ A : Mtx LP, opW a A = opW b A
theorem RelB.bu {n : Nat} {a b : List Int} (h : RelB a b) (ha : okB n a) (hb : okB n b) (u v : List Int) : EqM n (bu n (u ++ a ++ v)) (bu n (u ++ b ++ v)) := by
  have e : EqM n (Proofs.Ytgbipfohcailnaa.bu n a) (Proofs.Ytgbipfohcailnaa.bu n b) := (bu_op ha).trans (by rw [h oneM]; exact (bu_op hb).symm)
  refine (bu_append n _ _).trans (EqM.trans ?_ (bu_append n _ _).symm)
  refine EqM.mul ?_ (EqM.refl _ _)
  exact (bu_append n _ _).trans (((EqM.refl n _).mul e).trans (bu_append n _ _).symm)
theorem RelB.symm {a b : List Int} (h : RelB a b) : RelB b a := fun A => (h A).symm
theorem opW_append : ∀ (u v : List Int) (A : Mtx LP), opW (u ++ v) A = opW u (opW v A)
  | [], _, _ => rfl
  | x :: u, v, A => by
    show opL x (opW (u ++ v) A) = opL x (opW u (opW v A))
    rw [opW_append u v A]
end Go.Proofs.Ytgbipfohcailnaa
/- Sums, and matrices whose rows are short sums of terms. (Split off XBuP: it needs no function of the program.) -/
namespace Go.Proofs.Ytgbipfohcailnaa
set_option linter.unusedVariables false
set_option linter.unusedSimpArgs false
open Go.RowKit
def sumK (f : Nat → Nat) : Nat → Nat
  | 0 => 0
  | n + 1 => sumK f n + f n
theorem sumK_le {f g : Nat → Nat} : ∀ {n : Nat}, (∀ i, i < n → f i ≤ g i) → sumK f n ≤ sumK g n
  | 0, _ => Nat.le_refl _
  | n + 1, h => Nat.add_le_add (sumK_le fun i hi => h i (by omega)) (h n (by omega))
theorem sumK_mul (c : Nat) (f : Nat → Nat) : ∀ n, sumK (fun i => c * f i) n = c * sumK f n
  | 0 => rfl
  | n + 1 => by
    show sumK (fun i => c * f i) n + c * f n = c * (sumK f n + f n)
    rw [sumK_mul c f n, Nat.mul_add]
theorem sumK_mulr (c : Nat) (f : Nat → Nat) (n : Nat) : sumK (fun i => f i * c) n = sumK f n * c := by
  rw [Nat.mul_comm, ← sumK_mul]
  congr 1
  funext i
  exact Nat.mul_comm _ _
theorem sumK_add (f g : Nat → Nat) : ∀ n, sumK (fun i => f i + g i) n = sumK f n + sumK g n
  | 0 => rfl
  | n + 1 => by
    show sumK (fun i => f i + g i) n + (f n + g n) = sumK f n + f n + (sumK g n + g n)
    rw [sumK_add f g n]; omega
theorem sumK_zero : ∀ n, sumK (fun _ => 0) n = 0
  | 0 => rfl
  | n + 1 => sumK_zero n
theorem sumK_swap (f : Nat → Nat → Nat) (m : Nat) : ∀ n, sumK (fun i => sumK (fun j => f i j) m) n = sumK (fun j => sumK (fun i => f i j) n) m
  | 0 => by
    show 0 = sumK (fun _ => 0) m
    rw [sumK_zero]
  | n + 1 => by
    show sumK (fun i => sumK (fun j => f i j) m) n + sumK (fun j => f n j) m = sumK (fun j => sumK (fun i => f i j) n + f n j) m
    rw [sumK_swap f m n, sumK_add]
theorem sumK_one {f : Nat → Nat} : ∀ {n i : Nat}, i < n → f i ≤ sumK f n
  | n + 1, i, h => by
    show f i ≤ sumK f n + f n
    by_cases e : i = n
    · subst e; omega
    · have := sumK_one (f := f) (n := n) (i := i) (by omega); omega
theorem sumK_mono_ {f : Nat → Nat} : ∀ {n m : Nat}, m ≤ n → sumK f m ≤ sumK f n
  | 0, m, h => by obtain rfl : m = 0 := by omega
                  exact Nat.le_refl _
  | n + 1, m, h => by
    by_cases e : m = n + 1
    · subst e; exact Nat.le_refl _
    · exact Nat.le_trans (sumK_mono_ (show m ≤ n by omega)) (Nat.le_add_right _ _)
theorem LP.N1.sumK {f : Nat → LP} {g : Nat → Nat} {E : Nat} : ∀ {n : Nat}, (∀ i, i < n → LP.N1 (f i) E (g i)) → LP.N1 (CR.sumN n f) E (Proofs.Ytgbipfohcailnaa.sumK g n)
  | 0, _ => LP.N1.zero.mono (Nat.zero_le _) (Nat.zero_le _)
  | n + 1, h => by
    rw [CR.sumN_succ]
    exact (LP.N1.sumK fun i hi => h i (by omega)).add (h n (by omega))
/-- Each row is a short sum of terms. -/
def RN (n : Nat) (A : Mtx LP) (E V : Nat) : Prop := ∃ v : Nat → Nat → Nat, (∀ i, i < n → ∀ j, j < n → LP.N1 (A i j) E (v i j)) ∧ ∀ i, i < n → sumK (v i) n ≤ V
theorem RN.entry {n E V : Nat} {A : Mtx LP} (h : RN n A E V) {i j : Nat} (hi : i < n) (hj : j < n) : LP.N1 (A i j) E V := by
  obtain ⟨v, h1, h2⟩ := h
  exact (h1 i hi j hj).mono (Nat.le_refl _) (Nat.le_trans (sumK_one hj) (h2 i hi))
theorem RN.part {n E V E' V' : Nat} {A B : Mtx LP} (hA : RN n A E V) (hB : RN n B E' V') {i j m : Nat} (hi : i < n) (hj : j < n) (hm : m ≤ n) : LP.N1 (CR.sumN m fun k => A i k * B k j) (E + E') (V * V') := by
  obtain ⟨v, h1, h2⟩ := hA
  have h3 := LP.N1.sumK (n := m) (f := fun k => A i k * B k j) (g := fun k => v i k * V') (E := E + E') (fun k hk => (h1 i hi k (by omega)).mul (hB.entry (by omega) hj))
  refine h3.mono (Nat.le_refl _) ?_
  rw [sumK_mulr]
  refine Nat.mul_le_mul_right _ (Nat.le_trans ?_ (h2 i hi))
  exact sumK_mono_ hm
theorem RN.mul {n E V E' V' : Nat} {A B : Mtx LP} (hA : RN n A E V) (hB : RN n B E' V') : RN n (mulM n A B) (E + E') (V * V') := by
  obtain ⟨v, h1, h2⟩ := hA
  obtain ⟨u, h3, h4⟩ := hB
  refine ⟨fun i j => sumK (fun k => v i k * u k j) n, fun i hi j hj => LP.N1.sumK fun k hk => (h1 i hi k hk).mul (h3 k hk j hj), fun i hi => ?_⟩
  show sumK (fun j => sumK (fun k => v i k * u k j) n) n ≤ V * V'
  rw [sumK_swap]
  have e : sumK (fun k => sumK (fun j => v i k * u k j) n) n ≤ sumK (fun k => v i k * V') n := sumK_le fun k hk => by
    rw [sumK_mul]
    exact Nat.mul_le_mul_left _ (h4 k hk)
  refine Nat.le_trans e ?_
  rw [sumK_mulr]
  exact Nat.mul_le_mul_right _ (h2 i hi)
theorem RN.congr {n E V : Nat} {A B : Mtx LP} (h : RN n A E V) (e : EqM n A B) : RN n B E V := by
  obtain ⟨v, h1, h2⟩ := h
  exact ⟨v, fun i hi j hj => by rw [← e i hi j hj]; exact h1 i hi j hj, h2⟩
theorem RN.mono {n E V E' V' : Nat} {A : Mtx LP} (h : RN n A E V) (h1 : E ≤ E') (h2 : V ≤ V') : RN n A E' V' := by
  obtain ⟨v, h3, h4⟩ := h
  exact ⟨v, fun i hi j hj => (h3 i hi j hj).mono h1 (Nat.le_refl _), fun i hi => Nat.le_trans (h4 i hi) h2⟩
theorem oneM_rn (n : Nat) : RN n (oneM : Mtx LP) 0 1 := by
  refine ⟨fun i j => if j = i then 1 else 0, fun i _ j _ => ?_, fun i hi => ?_⟩
  · show LP.N1 (if i = j then 1 else 0) 0 (if j = i then 1 else 0)
    by_cases h : i = j
    · rw [if_pos h, if_pos h.symm]; exact LP.N1.one
    · rw [if_neg h, if_neg (fun e => h e.symm)]; exact LP.N1.zero
  · have h : ∀ m, sumK (fun j => if j = i then 1 else 0) m = if i < m then 1 else 0 := fun m => by
      induction m with
      | zero => rfl
      | succ m ih =>
        show sumK _ m + (if m = i then 1 else 0) = _
        rw [ih]
        split <;> split <;> split <;> omega
    rw [h, if_pos hi]
    exact Nat.le_refl _
theorem bl_rn (n : Nat) (x : Int) : RN n (bl x) 1 3 := by
  refine ⟨fun i j => if i + 1 = x.natAbs then (if j = i then 2 else if j = i + 1 then 1 else 0) else if i = x.natAbs then (if j + 1 = i then 1 else if j = i then 2 else 0) else if j = i then 1 else 0, fun i _ j _ => ?_, fun i hi => ?_⟩
  · have h1 : LP.N1 (1 + -tT) 1 2 := (LP.N1.one.mono (Nat.zero_le _) (Nat.le_refl _)).add (LP.N1.term 1 1).neg
    have h2 : LP.N1 (1 + -tI) 1 2 := (LP.N1.one.mono (Nat.zero_le _) (Nat.le_refl _)).add (LP.N1.term (-1) 1).neg
    have h3 : LP.N1 (1 : LP) 1 1 := LP.N1.one.mono (Nat.zero_le _) (Nat.le_refl _)
    have h4 : LP.N1 (0 : LP) 1 0 := LP.N1.zero.mono (Nat.zero_le _) (Nat.le_refl _)
    have h5 : LP.N1 tT 1 1 := LP.N1.term 1 1
    have h6 : LP.N1 tI 1 1 := LP.N1.term (-1) 1
    unfold bl
    by_cases a1 : i + 1 = x.natAbs
    · simp only [if_pos a1]
      by_cases a2 : 0 < x
      · simp only [if_pos a2]
        by_cases a3 : j = i
        · simp only [if_pos a3]; exact h1
        · simp only [if_neg a3]
          by_cases a4 : j = i + 1
          · simp only [if_pos a4]; exact h5
          · simp only [if_neg a4]; exact h4
      · simp only [if_neg a2]
        by_cases a4 : j = i + 1
        · simp only [if_pos a4, if_neg (show ¬ j = i by omega)]; exact h3
        · simp only [if_neg a4]; exact h4.mono (Nat.le_refl _) (Nat.zero_le _)
    · simp only [if_neg a1]
      by_cases b1 : i = x.natAbs
      · simp only [if_pos b1]
        by_cases a2 : 0 < x
        · simp only [if_pos a2]
          by_cases a3 : j + 1 = i
          · simp only [if_pos a3]; exact h3
          · simp only [if_neg a3]; exact h4.mono (Nat.le_refl _) (Nat.zero_le _)
        · simp only [if_neg a2]
          by_cases a3 : j + 1 = i
          · simp only [if_pos a3]; exact h6
          · simp only [if_neg a3]
            by_cases a4 : j = i
            · simp only [if_pos a4]; exact h2
            · simp only [if_neg a4]; exact h4
      · simp only [if_neg b1]
        by_cases a4 : i = j
        · simp only [if_pos a4, if_pos a4.symm]; exact h3
        · simp only [if_neg a4, if_neg (show ¬ j = i from fun e => a4 e.symm)]; exact h4
  · have hone : ∀ (a v : Nat) m, sumK (fun j => if j = a then v else 0) m = if a < m then v else 0 := fun a v m => by
      induction m with
      | zero => rfl
      | succ m ih =>
        show sumK _ m + (if m = a then v else 0) = _
        rw [ih]
        split <;> split <;> split <;> omega
    show sumK (fun j => if i + 1 = x.natAbs then (if j = i then 2 else if j = i + 1 then 1 else 0) else if i = x.natAbs then (if j + 1 = i then 1 else if j = i then 2 else 0) else if j = i then 1 else 0) n ≤ 3
    have hle : sumK (fun j => if i + 1 = x.natAbs then (if j = i then 2 else if j = i + 1 then 1 else 0) else if i = x.natAbs then (if j + 1 = i then 1 else if j = i then 2 else 0) else if j = i then 1 else 0) n ≤ sumK (fun j => (if j = i then 2 else 0) + ((if i + 1 = x.natAbs then (if j = i + 1 then 1 else 0) else (if j = i - 1 then 1 else 0)))) n := sumK_le fun j _ => by
      by_cases a1 : i + 1 = x.natAbs
      · simp only [if_pos a1]; split <;> split <;> omega
      · simp only [if_neg a1]
        by_cases b1 : i = x.natAbs
        · simp only [if_pos b1]; split <;> (try split) <;> split <;> omega
        · simp only [if_neg b1]; split <;> split <;> omega
    refine Nat.le_trans hle ?_
    rw [sumK_add, hone]
    by_cases a1 : i + 1 = x.natAbs
    · simp only [if_pos a1]; rw [hone]; split <;> split <;> omega
    · simp only [if_neg a1]; rw [hone]; split <;> split <;> omega
theorem bu_rn {n : Nat} : ∀ w : List Int, RN n (bu n w) w.length (3 ^ w.length)
  | [] => oneM_rn n
  | x :: w => by
    have h := (bl_rn n x).mul (bu_rn w)
    exact h.mono (by rw [List.length_cons]; omega) (by rw [List.length_cons, Nat.pow_succ, Nat.mul_comm]; exact Nat.le_refl _)
theorem pow3 {k : Nat} (h : k ≤ 16) : 3 ^ k ≤ 43046721 := by
  calc 3 ^ k ≤ 3 ^ 16 := Nat.pow_le_pow_right (by omega) h
    _ = 43046721 := by decide
end Go.Proofs.Ytgbipfohcailnaa
/- Slices of polynomials, and slices of these (words on memory). -/
namespace Go.Proofs.Ytgbipfohcailnaa
set_option linter.unusedVariables false
set_option linter.unusedSimpArgs false
open Go.RowKit

abbrev Po := Int × List Int
/-- A slice of polynomials that reads as ps. -/
structure SPo (w : World) (A : Option Addr) (n c : Nat) (ps : List Po) : Prop where
  len : ps.length = n
  small : n ≤ 17592186044416
  nil : A = none → n = 0 ∧ c = 0
  cap : n ≤ c
  mem : 0 < n → ∃ ad, A = some ad ∧ ad.block < w.heap.size ∧ ∀ j, j < n → ∃ B m d, w.cell? (ad.add (j * 2)) = some (.int .i64 (ps.getD j (0, [])).1) ∧ w.cell? ⟨(ad.add (j * 2)).block, (ad.add (j * 2)).off + 1, none⟩ = some (.slice B m d) ∧ SL w B m d (ps.getD j (0, [])).2 ∧ (Lit.int .i64 (ps.getD j (0, [])).1).wf = true
theorem SPo.below {w w' : World} {A : Option Addr} {n c : Nat} {ps : List Po} (h : SPo w A n c ps) (hb : Below w.heap.size w w') : SPo w' A n c ps :=
  ⟨h.len, h.small, h.nil, h.cap, fun hn => by
    obtain ⟨ad, e, hl, hc⟩ := h.mem hn
    refine ⟨ad, e, Nat.lt_of_lt_of_le hl hb.size, fun j hj => ?_⟩
    obtain ⟨B, m, d, h1, h2, h3, h4⟩ := hc j hj
    exact ⟨B, m, d, (hb.cell (p := ad.add (j * 2)) (by rw [block_of_add]; exact hl)).trans h1, (hb.cell (p := ⟨(ad.add (j * 2)).block, (ad.add (j * 2)).off + 1, none⟩) (by show (ad.add (j * 2)).block < _; rw [block_of_add]; exact hl)).trans h2, h3.below hb, h4⟩⟩
/-- A slice of slices of polynomials. -/
structure SPP (w : World) (A : Option Addr) (n c : Nat) (pss : List (List Po)) : Prop where
  len : pss.length = n
  small : n ≤ 17592186044416
  nil : A = none → n = 0 ∧ c = 0
  cap : n ≤ c
  mem : 0 < n → ∃ ad, A = some ad ∧ ad.block < w.heap.size ∧ ∀ j, j < n → ∃ B m d, w.cell? (ad.add j) = some (.slice B m d) ∧ SPo w B m d (pss.getD j [])
theorem SPP.below {w w' : World} {A : Option Addr} {n c : Nat} {pss : List (List Po)} (h : SPP w A n c pss) (hb : Below w.heap.size w w') : SPP w' A n c pss :=
  ⟨h.len, h.small, h.nil, h.cap, fun hn => by
    obtain ⟨ad, e, hl, hc⟩ := h.mem hn
    refine ⟨ad, e, Nat.lt_of_lt_of_le hl hb.size, fun j hj => ?_⟩
    obtain ⟨B, m, d, h1, h2⟩ := hc j hj
    exact ⟨B, m, d, (hb.cell (p := ad.add j) (by rw [block_of_add]; exact hl)).trans h1, h2.below hb⟩⟩
theorem SPP.at_ {w : World} {A : Option Addr} {n c k : Nat} {pss : List (List Po)} (h : SPP w A n c pss) (hk : k < n) : ∃ ad B m d, A = some ad ∧ w.cell? (ad.add k) = some (.slice B m d) ∧ SPo w B m d (pss.getD k []) := by
  obtain ⟨ad, e, _, hc⟩ := h.mem (by omega)
  obtain ⟨B, m, d, h1, h2⟩ := hc k hk
  exact ⟨ad, B, m, d, e, h1, h2⟩
theorem SPo.at_ {w : World} {A : Option Addr} {n c k : Nat} {ps : List Po} (h : SPo w A n c ps) (hk : k < n) : ∃ ad B m d, A = some ad ∧ w.cell? (ad.add (k * 2)) = some (.int .i64 (ps.getD k (0, [])).1) ∧ w.cell? ⟨(ad.add (k * 2)).block, (ad.add (k * 2)).off + 1, none⟩ = some (.slice B m d) ∧ SL w B m d (ps.getD k (0, [])).2 ∧ (Lit.int .i64 (ps.getD k (0, [])).1).wf = true := by
  obtain ⟨ad, e, _, hc⟩ := h.mem (by omega)
  obtain ⟨B, m, d, h1, h2, h3, h4⟩ := hc k hk
  exact ⟨ad, B, m, d, e, h1, h2, h3, h4⟩
end Go.Proofs.Ytgbipfohcailnaa
/- timbref1.PolyFault and Fits. -/
namespace Go.Proofs.Ytgbipfohcailnaa
set_option linter.unusedVariables false
set_option linter.unusedSimpArgs false
open Go.RowKit

theorem LP.pfl_big {lo : Int} {xs : List Int} (h : 200 < xs.length ∨ 1000 < lo ∨ lo < -1000) : LP.pfl lo xs = 2 := by unfold LP.pfl; rw [if_pos h]
theorem LP.pfl_bad {lo : Int} {xs : List Int} (h : ¬ (200 < xs.length ∨ 1000 < lo ∨ lo < -1000)) (h2 : (xs.length = 0 ∧ lo ≠ 0) ∨ (0 < xs.length ∧ (xs.getD 0 0 = 0 ∨ xs.getD (xs.length - 1) 0 = 0))) : LP.pfl lo xs = 3 := by unfold LP.pfl; rw [if_neg h, if_pos h2]
theorem LP.pfl_loop {lo : Int} {xs : List Int} (h : ¬ (200 < xs.length ∨ 1000 < lo ∨ lo < -1000)) (h2 : ¬ ((xs.length = 0 ∧ lo ≠ 0) ∨ (0 < xs.length ∧ (xs.getD 0 0 = 0 ∨ xs.getD (xs.length - 1) 0 = 0)))) : LP.pfl lo xs = if xs.all LP.okC then 0 else 1 := by unfold LP.pfl; rw [if_neg h, if_neg h2]
/-- The results of a function that returns a polynomial out of a block and an error. -/
theorem results_pe {fn : Func} {t u : Tmp} {b : Nat} {v0 v1 e : Value} {w : World} (h : fn.results = #[.cell t 24, .tmp u]) (tmps : Array Value) (ht : tmps.getD t undef = .pointer (some ⟨b, 0, none⟩)) (hu : tmps.getD u undef = e) (hb : Blk w b 24 #[v0, v1]) :
    (results fn tmps).run Try.prog w = .ok (.tuple #[.agg #[v0, v1], e]) w := by
  have h0 := hb.cell 0
  have h1 := hb.cell 1
  simp at h0 h1
  have ht2 : tmps[t]?.getD undef = .pointer (some ⟨b, 0, none⟩) := by simpa using ht
  have hu2 : tmps[u]?.getD undef = e := by simpa using hu
  simp [results, h, ht2, hu2, go_sem, h0, h1, Result.andThen]
/-- What Fits makes of a polynomial. -/
def LP.fitL (lo : Int) (cs : List Int) : PR := if pfl lo cs = 0 then (0, lo, cs) else (2, 0, [])
end Go.Proofs.Ytgbipfohcailnaa
/- What package polymatrix's functions are to answer; determinants of polynomials. -/
namespace Go.Proofs.Ytgbipfohcailnaa
set_option linter.unusedVariables false
set_option linter.unusedSimpArgs false
open Go.RowKit

/-- The entries as polynomials. -/
def mP (pss : List (List Po)) : Mtx LP := fun i j => LP.of ((pss.getD i []).getD j (0, [])).1 ((pss.getD i []).getD j (0, [])).2
theorem getD_of_lt {α : Type} {l : List α} {i : Nat} (d : α) (h : i < l.length) : l.getD i d = l[i] := by simp [List.getD, List.getElem?_eq_getElem h]
end Go.Proofs.Ytgbipfohcailnaa
/- The matrices of timbkeep1.PolyDetRows: entries, determinants of triangular matrices. -/
namespace Go.Proofs.Ytgbipfohcailnaa
set_option linter.unusedVariables false
set_option linter.unusedSimpArgs false

section
open CR
variable {R : Type} [CR R]
end

noncomputable def cP (x : LP) : Po := ((LP.canon x).1, (LP.canon x).2)
theorem of_cP (x : LP) : LP.of (cP x).1 (cP x).2 = x := LP.of_canon x
end Go.Proofs.Ytgbipfohcailnaa
/- Braid words: what is wrong with one, where its strands end. -/
namespace Go.Proofs.Ytgbipfohcailnaa
set_option linter.unusedVariables false
set_option linter.unusedSimpArgs false

def okX (n x : Int) : Bool := decide (x ≠ 0 ∧ x < n ∧ -n < x)
def bfault (n : Int) (w : List Int) : Int := if n < 1 ∨ 6 < n then 1 else if 30 < w.length then 2 else if w.all (okX n) then 0 else 3
theorem bfault_zero {n : Int} {w : List Int} (h : bfault n w = 0) : 1 ≤ n ∧ n ≤ 6 ∧ w.length ≤ 30 ∧ ∀ x ∈ w, x ≠ 0 ∧ x < n ∧ -n < x := by
  unfold bfault at h
  split at h
  · omega
  · next h1 =>
    split at h
    · omega
    · next h2 =>
      split at h
      · next h3 => exact ⟨by omega, by omega, by omega, fun x hx => by simpa [okX] using List.all_eq_true.1 h3 x hx⟩
      · omega
theorem bfault_ok {n : Int} {w : List Int} (h1 : 1 ≤ n) (h6 : n ≤ 6) (h : w.length ≤ 30) (hw : ∀ x ∈ w, x ≠ 0 ∧ x < n ∧ -n < x) : bfault n w = 0 := by
  unfold bfault
  rw [if_neg (by omega), if_neg (by omega), if_pos (List.all_eq_true.2 fun x hx => by simpa [okX] using hw x hx)]
/-- Where a strand goes at a letter. -/
def stepE (at_ : Nat) (x : Int) : Nat := if at_ + 1 = x.natAbs then at_ + 1 else if at_ = x.natAbs then at_ - 1 else at_
def endE (w : List Int) (s : Nat) : Nat := w.foldl stepE s
theorem stepE_lt {n at_ : Nat} {x : Int} (hx : x ≠ 0) (h1 : x.natAbs < n) (h : at_ < n) : stepE at_ x < n := by
  unfold stepE
  split
  · omega
  · split <;> omega
theorem endE_append (u v : List Int) (s : Nat) : endE (u ++ v) s = endE v (endE u s) := by unfold endE; rw [List.foldl_append]
theorem endE_snoc (w : List Int) (x : Int) (s : Nat) : endE (w ++ [x]) s = stepE (endE w s) x := by rw [endE_append]; rfl
theorem stepE_twice {x : Int} (h : x ≠ 0) (s : Nat) : stepE (stepE s x) x = s := by
  unfold stepE
  by_cases h1 : s + 1 = x.natAbs
  · rw [if_pos h1, if_neg (by omega), if_pos (by omega)]; omega
  · rw [if_neg h1]
    by_cases h2 : s = x.natAbs
    · rw [if_pos h2, if_pos (by omega)]; omega
    · rw [if_neg h2, if_neg h1, if_neg h2]
end Go.Proofs.Ytgbipfohcailnaa
/- What package freegroup's functions are to answer (words alone), and what follows for the facts free and reduced that the laws begin with. -/
namespace Go.Proofs.Ytgbipfohcailnaa
set_option linter.unusedVariables false
set_option linter.unusedSimpArgs false
open Go.RowKit

/-- A slice and an error. -/
def GivesLE (w : World) (err : Int) (xs : List Int) (e : Ending) (w' : World) : Prop :=
  ∃ A n c, e = .returned (.tuple #[.slice A n c, .int .i64 err]) ∧ SL w' A n c xs ∧ Below w.heap.size w w'

/-- The same, the slice in memory that was not there before. -/
def GivesLEn (w : World) (err : Int) (xs : List Int) (e : Ending) (w' : World) : Prop :=
  ∃ A n c, e = .returned (.tuple #[.slice A n c, .int .i64 err]) ∧ SL w' A n c xs ∧ (0 < n → ∀ ad, A = some ad → w.heap.size ≤ ad.block) ∧ Below w.heap.size w w'
theorem GivesLEn.le {w : World} {err : Int} {xs : List Int} {e : Ending} {w' : World} (h : GivesLEn w err xs e w') : GivesLE w err xs e w' := by
  obtain ⟨A, n, c, h1, h2, _, h3⟩ := h
  exact ⟨A, n, c, h1, h2, h3⟩

end Go.Proofs.Ytgbipfohcailnaa
/- What package braid's functions are to answer. -/
namespace Go.Proofs.Ytgbipfohcailnaa
set_option linter.unusedVariables false
set_option linter.unusedSimpArgs false
open Go.RowKit

def burE (n : Int) (w : List Int) : Int := if bfault n w = 0 then (if 16 < w.length then 2 else 0) else bfault n w
noncomputable def buL (n : Nat) (w : List Int) : List (List Po) := (List.range n).map fun i => (List.range n).map fun j => cP (bu n w i j)
noncomputable def burL (n : Int) (w : List Int) : List (List Po) := if burE n w = 0 then buL n.toNat w else []
/-- A matrix and an error. -/
def GivesMP (w : World) (err : Int) (pss : List (List Po)) (e : Ending) (w' : World) : Prop :=
  ∃ A n c, e = .returned (.tuple #[.slice A n c, .int .i64 err]) ∧ SPP w' A n c pss ∧ Below w.heap.size w w'
/-- Package braid, as the document asks. -/
structure BraidC : Prop where
  check : ∀ (m : Int) (A : Option Addr) (n c : Nat) (xs : List Int) (w : World), SL w A n c xs → (Lit.int .i64 m).wf = true → Calls Try.prog 11 #[.int .i64 m, .slice A n c] w fun e w' => e = .returned (.int .i64 (bfault m xs)) ∧ Below w.heap.size w w'
  burau : ∀ (m : Int) (A : Option Addr) (n c : Nat) (xs : List Int) (w : World), SL w A n c xs → (Lit.int .i64 m).wf = true → Calls Try.prog 33 #[.int .i64 m, .slice A n c] w (GivesMP w (burE m xs) (burL m xs))

end Go.Proofs.Ytgbipfohcailnaa
/- Determinants of Burau matrices: bounds of their elements, by a check in the kernel. -/
namespace Go.Proofs.Ytgbipfohcailnaa
set_option linter.unusedVariables false
set_option linter.unusedSimpArgs false
open LP CR

def insT (e c : Int) : List Tm → List Tm
  | [] => [(e, c)]
  | p :: l => if e = p.1 then (p.1, p.2 + c) :: l else p :: insT e c l
def addT : List Tm → List Tm → List Tm
  | [], b => b
  | p :: a, b => insT p.1 p.2 (addT a b)
theorem coef_ins (e c k : Int) : ∀ l : List Tm, coefT (insT e c l) k = (if e = k then c else 0) + coefT l k
  | [] => rfl
  | p :: l => by
    unfold insT
    by_cases h : e = p.1
    · rw [if_pos h]
      show (if p.1 = k then p.2 + c else 0) + coefT l k = (if e = k then c else 0) + ((if p.1 = k then p.2 else 0) + coefT l k)
      rw [h]
      split <;> omega
    · rw [if_neg h]
      show (if p.1 = k then p.2 else 0) + coefT (insT e c l) k = (if e = k then c else 0) + ((if p.1 = k then p.2 else 0) + coefT l k)
      rw [coef_ins e c k l]
      omega
theorem coef_addT (k : Int) : ∀ a b : List Tm, coefT (addT a b) k = coefT a k + coefT b k
  | [], b => by show coefT b k = 0 + coefT b k; omega
  | p :: a, b => by
    show coefT (insT p.1 p.2 (addT a b)) k = ((if p.1 = k then p.2 else 0) + coefT a k) + coefT b k
    rw [coef_ins, coef_addT k a b]
    omega
theorem mk_addT (a b : List Tm) : LP.mk (addT a b) = LP.mk a + LP.mk b := LP.ext fun k => by
  rw [LP.co_add, LP.co_mk, LP.co_mk, LP.co_mk, coef_addT]
theorem mk_scaleT (e c : Int) (l : List Tm) : LP.mk (scaleT e c l) = LP.term e c * LP.mk l := LP.ext fun k => by
  rw [LP.co_term_mul, LP.co_mk, LP.co_mk, coefT_scale]
def stepL (x : Int) (col : List (List Tm)) : List (List Tm) :=
  (List.range col.length).map fun r =>
    if r + 1 = x.natAbs then (if 0 < x then addT (addT (col.getD r []) (scaleT 1 (-1) (col.getD r []))) (scaleT 1 1 (col.getD (r + 1) [])) else col.getD (r + 1) [])
    else if r = x.natAbs then (if 0 < x then col.getD (r - 1) [] else addT (scaleT (-1) 1 (col.getD (r - 1) [])) (addT (col.getD r []) (scaleT (-1) (-1) (col.getD r []))))
    else col.getD r []
def unitC (n c : Nat) : List (List Tm) := (List.range n).map fun r => if r = c then [(0, 1)] else []
theorem stepL_length (x : Int) (col : List (List Tm)) : (stepL x col).length = col.length := by simp [stepL]
theorem foldr_length (col : List (List Tm)) : ∀ u : List Int, (u.foldr stepL col).length = col.length
  | [] => rfl
  | x :: u => by rw [List.foldr_cons, stepL_length, foldr_length col u]
theorem neg_term (e c : Int) (x : LP) : LP.term e (-c) * x = -(LP.term e c * x) := LP.ext fun k => by
  rw [LP.co_neg, LP.co_term_mul, LP.co_term_mul, Int.neg_mul]
theorem stepL_at {x : Int} {col : List (List Tm)} {A : Mtx LP} {n c : Nat} (hl : col.length = n) (hx : x ≠ 0) (hn : x.natAbs < n) (h : ∀ r, r < n → A r c = LP.mk (col.getD r [])) {r : Nat} (hr : r < n) :
    opL x A r c = LP.mk ((stepL x col).getD r []) := by
  have e : (stepL x col).getD r [] = if r + 1 = x.natAbs then (if 0 < x then addT (addT (col.getD r []) (scaleT 1 (-1) (col.getD r []))) (scaleT 1 1 (col.getD (r + 1) [])) else col.getD (r + 1) [])
    else if r = x.natAbs then (if 0 < x then col.getD (r - 1) [] else addT (scaleT (-1) 1 (col.getD (r - 1) [])) (addT (col.getD r []) (scaleT (-1) (-1) (col.getD r []))))
    else col.getD r [] := by
    have hr2 : r < col.length := by omega
    simp only [stepL, List.getD, List.getElem?_map, List.getElem?_range hr2, Option.map_some, Option.getD_some]
  rw [e]
  unfold opL
  by_cases h0 : 0 < x
  · rw [if_pos h0, if_pos h0, if_pos h0]
    unfold opP
    by_cases h1 : r + 1 = x.natAbs
    · rw [if_pos h1, if_pos h1, mk_addT, mk_addT, mk_scaleT, mk_scaleT, ← h r hr, ← h (r + 1) (by omega), neg_term, CR.add_mul, CR.one_mul, CR.neg_mul]
      rfl
    · rw [if_neg h1, if_neg h1]
      by_cases h2 : r = x.natAbs
      · rw [if_pos h2, if_pos h2, h (r - 1) (by omega)]
      · rw [if_neg h2, if_neg h2, h r hr]
  · rw [if_neg h0, if_neg h0, if_neg h0]
    unfold opN
    by_cases h1 : r + 1 = x.natAbs
    · rw [if_pos h1, if_pos h1, h (r + 1) (by omega)]
    · rw [if_neg h1, if_neg h1]
      by_cases h2 : r = x.natAbs
      · rw [if_pos h2, if_pos h2, mk_addT, mk_addT, mk_scaleT, mk_scaleT, ← h r hr, ← h (r - 1) (by omega), neg_term, CR.add_mul, CR.one_mul, CR.neg_mul]
        rfl
      · rw [if_neg h2, if_neg h2, h r hr]
theorem bu_col {n c : Nat} (hc : c < n) : ∀ {u : List Int}, okB n u → ∀ r, r < n → opW u oneM r c = LP.mk ((u.foldr stepL (unitC n c)).getD r [])
  | [], _, r, hr => by
    show (oneM : Mtx LP) r c = LP.mk ((unitC n c).getD r [])
    simp only [unitC, List.getD, List.getElem?_map, List.getElem?_range hr, Option.map_some, Option.getD_some]
    unfold oneM
    split <;> rfl
  | x :: u, h, r, hr => by
    have hx := h x (by simp)
    exact stepL_at (x := x) (by rw [foldr_length]; simp [unitC]) hx.1 hx.2 (fun r hr => bu_col hc (fun y hy => h y (by simp [hy])) r hr) hr
def okCol (E V W : Nat) (col : List (List Tm)) : Bool := decide (sumK (fun r => sumA (col.getD r [])) col.length ≤ V) && col.all fun l => decide (sumA l ≤ W) && l.all fun p => decide (p.1.natAbs ≤ E)
def chkD (n E V W : Nat) : Nat → List (List Tm) → Bool
  | 0, col => okCol E V W col
  | d + 1, col => okCol E V W col && (List.range n).all fun a => decide (a = 0) || (chkD n E V W d (stepL (a : Int) col) && chkD n E V W d (stepL (-(a : Int)) col))
theorem chkD_ok {n E V W : Nat} : ∀ {d : Nat} {col : List (List Tm)}, chkD n E V W d col = true → okCol E V W col = true
  | 0, _, h => h
  | d + 1, _, h => by
    unfold chkD at h
    exact (Bool.and_eq_true_iff.1 h).1
theorem chkD_sound {n E V W : Nat} : ∀ (d : Nat) (col : List (List Tm)), chkD n E V W d col = true → ∀ u, okB n u → u.length ≤ d → okCol E V W (u.foldr stepL col) = true
  | d, col, h, u, hu, hl => by
    rcases List.eq_nil_or_concat u with e | ⟨v, y, e⟩
    · subst e
      exact chkD_ok h
    · have e2 : u = v ++ [y] := by simpa using e
      subst e2
      obtain ⟨d', rfl⟩ : ∃ d', d = d' + 1 := ⟨d - 1, by simp at hl; omega⟩
      obtain ⟨hy0, hyn⟩ := hu y (by simp)
      unfold chkD at h
      have h2 := List.all_eq_true.1 (Bool.and_eq_true_iff.1 h).2 y.natAbs (List.mem_range.2 hyn)
      rw [decide_eq_false (by omega), Bool.false_or] at h2
      obtain ⟨h3, h4⟩ := Bool.and_eq_true_iff.1 h2
      rw [List.foldr_append]
      have h5 : chkD n E V W d' (stepL y col) = true := by
        by_cases hp : 0 < y
        · rwa [show ((y.natAbs : Nat) : Int) = y by omega] at h3
        · rwa [show -((y.natAbs : Nat) : Int) = y by omega] at h4
      exact chkD_sound d' (stepL y col) h5 v (fun z hz => hu z (by simp [hz])) (by simp at hl; omega)
termination_by d => d
def smallB (E V W d : Nat) : Bool := (List.range 5).all fun n => decide (n < 2) || (List.range n).all fun c => chkD n E V W d (unitC n c)
theorem small4 : smallB 4 23 12 4 = true := by decide +kernel
theorem small1 : smallB 1 3 2 1 = true := by decide +kernel
theorem small_col {E V W d : Nat} (hs : smallB E V W d = true) {n : Nat} (h2 : 2 ≤ n) (h4 : n ≤ 4) {u : List Int} (hu : okB n u) (hl : u.length ≤ d) {c : Nat} (hc : c < n) : okCol E V W (u.foldr stepL (unitC n c)) = true := by
  have h := List.all_eq_true.1 hs n (List.mem_range.2 (by omega))
  rw [decide_eq_false (by omega), Bool.false_or] at h
  exact chkD_sound d _ (List.all_eq_true.1 h c (List.mem_range.2 hc)) u hu hl
theorem col_n1 {E V W d : Nat} (hs : smallB E V W d = true) {n : Nat} (h2 : 2 ≤ n) (h4 : n ≤ 4) {u : List Int} (hu : okB n u) (hl : u.length ≤ d) :
    ∃ v : Nat → Nat → Nat, (∀ i, i < n → ∀ j, j < n → LP.N1 (bu n u j i) E (v i j) ∧ LP.N1 (bu n u j i) E W) ∧ ∀ i, i < n → sumK (v i) n ≤ V := by
  refine ⟨fun i j => sumA ((u.foldr stepL (unitC n i)).getD j []), fun i hi j hj => ?_, fun i hi => ?_⟩
  · have h := small_col hs h2 h4 hu hl hi
    unfold okCol at h
    have hln : (u.foldr stepL (unitC n i)).length = n := by rw [foldr_length]; simp [unitC]
    have hm : (u.foldr stepL (unitC n i)).getD j [] ∈ u.foldr stepL (unitC n i) := by
      rw [getD_of_lt [] (by omega)]
      exact List.getElem_mem _
    have h3 := List.all_eq_true.1 (Bool.and_eq_true_iff.1 h).2 _ hm
    obtain ⟨h5, h6⟩ := Bool.and_eq_true_iff.1 h3
    have e : LP.mk ((u.foldr stepL (unitC n i)).getD j []) = bu n u j i := by rw [bu_op hu j hj i hi, bu_col hi hu j hj]
    have hE : ∀ p ∈ (u.foldr stepL (unitC n i)).getD j [], p.1.natAbs ≤ E := fun p hp => of_decide_eq_true (List.all_eq_true.1 h6 p hp)
    exact ⟨⟨_, e, hE, Nat.le_refl _⟩, ⟨_, e, hE, of_decide_eq_true h5⟩⟩
  · have h := small_col hs h2 h4 hu hl hi
    unfold okCol at h
    have hln : (u.foldr stepL (unitC n i)).length = n := by rw [foldr_length]; simp [unitC]
    have := of_decide_eq_true (Bool.and_eq_true_iff.1 h).1
    rwa [hln] at this
theorem col_RN {E V W d : Nat} (hs : smallB E V W d = true) {n : Nat} (h2 : 2 ≤ n) (h4 : n ≤ 4) {u : List Int} (hu : okB n u) (hl : u.length ≤ d) : RN n (fun i j => bu n u j i) E V := by
  obtain ⟨v, h1, h3⟩ := col_n1 hs h2 h4 hu hl
  exact ⟨v, fun i hi j hj => (h1 i hi j hj).1, h3⟩
/-- The elements of the Burau matrix of a word of 9 letters on at most 4 strands are small. -/
theorem bu_small {n : Nat} (h2 : 2 ≤ n) (h4 : n ≤ 4) {w : List Int} (hw : okB n w) (hl : w.length ≤ 9) {i j : Nat} (hi : i < n) (hj : j < n) : LP.N1 (bu n w i j) 9 828 := by
  have e : w = w.take 4 ++ ((w.drop 4).take 4 ++ w.drop 8) := by
    have e1 := (List.take_append_drop 4 (w.drop 4)).symm
    rw [List.drop_drop] at e1
    rw [← e1, List.take_append_drop]
  have o1 : okB n (w.take 4) := fun x hx => hw x (List.mem_of_mem_take hx)
  have o2 : okB n ((w.drop 4).take 4) := fun x hx => hw x (List.mem_of_mem_drop (List.mem_of_mem_take hx))
  have o3 : okB n (w.drop 8) := fun x hx => hw x (List.mem_of_mem_drop hx)
  obtain ⟨va, ha, _⟩ := col_n1 small4 h2 h4 o1 (by simp; omega)
  have hb := col_RN small4 h2 h4 o2 (by simp; omega)
  have hc := col_RN small1 h2 h4 o3 (by simp; omega)
  obtain ⟨v, h5, h6⟩ := hc.mul hb
  rw [e, bu_append n _ _ i hi j hj]
  show LP.N1 (sumN n fun k => bu n (w.take 4) i k * bu n ((w.drop 4).take 4 ++ w.drop 8) k j) 9 828
  have h7 : ∀ k, k < n → bu n ((w.drop 4).take 4 ++ w.drop 8) k j = mulM n (fun a b => bu n (w.drop 8) b a) (fun a b => bu n ((w.drop 4).take 4) b a) j k := fun k hk => by
    rw [bu_append n _ _ k hk j hj]
    exact sumN_congr fun l _ => CR.mul_comm _ _
  refine (LP.N1.sumK (E := 9) (g := fun k => 12 * v j k) fun k hk => ?_).mono (Nat.le_refl _) ?_
  · rw [h7 k hk]
    exact ((ha k hk i hi).2.mul (h5 j hj k hk)).mono (by omega) (Nat.le_refl _)
  · rw [sumK_mul]
    have := h6 j hj
    omega
theorem canon_room {x : LP} {E : Nat} {V : Nat} (h : LP.N1 x E V) : (LP.canon x).2.length ≤ 2 * E + 1 ∧ (LP.canon x).1.natAbs ≤ E ∧ ∀ c ∈ (LP.canon x).2, c.natAbs ≤ V := by
  have hc := LP.canon_cano x
  have ho := LP.of_canon x
  refine ⟨?_, ?_, fun c hcm => ?_⟩
  · by_cases hn : (LP.canon x).2 = []
    · rw [hn]; simp
    · have h1 := hc.low hn
      have h2 := hc.high hn
      rw [ho] at h1 h2
      have h3 := h.supp h1
      have h4 := h.supp h2
      omega
  · by_cases hn : (LP.canon x).2 = []
    · rcases hc with h1 | h1
      · rw [h1.2]; simp
      · exact absurd hn h1.1
    · have h1 := hc.low hn
      rw [ho] at h1
      exact h.supp h1
  · obtain ⟨k, hk, e⟩ := List.mem_iff_getElem.1 hcm
    have h1 := h.co ((LP.canon x).1 + k)
    have e3 := LP.co_of_at (lo := (LP.canon x).1) hk
    rw [ho] at e3
    rw [e3, getD_of_lt 0 hk, e] at h1
    exact h1
end Go.Proofs.Ytgbipfohcailnaa
