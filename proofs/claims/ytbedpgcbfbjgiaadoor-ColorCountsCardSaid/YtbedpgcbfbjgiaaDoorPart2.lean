/- Several texts in one. -/
import Derived.Test.YtbedpgcbfbjgiaaDoorPart1
import Derived.Test.YtbedpgcbfbjgiaaDoorBase1
import Derived.BigRegion
import Derived.Laws.CopyOwn
import Derived.Deep.OwnRows
import Derived.Great.BuildSlice
import Derived.Deep.DeepCutAuto
import Derived.Deep.LoopGhost
/- Burau matrices: letters as row operations, the relations of the braid group, row sums, the row 1, t, t^2, .. . -/
namespace Go.Proofs.YtbedpgcbfbjgiaaDoor
set_option linter.unusedVariables false
set_option linter.unusedSimpArgs false
set_option linter.unusedSectionVars false
open CR

section
variable {R : Type} [CR R]
theorem sumN_two {f : Nat → R} {n a b : Nat} (ha : a < n) (hb : b < n) (hab : a ≠ b) (h : ∀ i, i < n → i ≠ a → i ≠ b → f i = 0) : sumN n f = f a + f b := by
  have e : sumN n f = sumN n (fun i => (if i = a then f a else 0) + (if i = b then f b else 0)) := sumN_congr fun i hi => by
    by_cases h1 : i = a
    · subst h1; rw [if_pos rfl, if_neg hab, add_zero]
    · by_cases h2 : i = b
      · subst h2; rw [if_pos rfl, if_neg h1, zero_add]
      · rw [if_neg h1, if_neg h2, h i hi h1 h2, add_zero]
  rw [e, sumN_add, sumN_single (k := a) ha (fun i _ hne => if_neg hne), sumN_single (k := b) hb (fun i _ hne => if_neg hne), if_pos rfl, if_pos rfl]
theorem mulM_assoc (n : Nat) (A B C : Mtx R) : mulM n (mulM n A B) C = mulM n A (mulM n B C) := by
  funext i j
  show sumN n (fun k => (sumN n fun l => A i l * B l k) * C k j) = sumN n fun l => A i l * sumN n fun k => B l k * C k j
  have e1 : ∀ k, (sumN n fun l => A i l * B l k) * C k j = sumN n fun l => A i l * (B l k * C k j) := fun k => by
    rw [mul_comm, ← sumN_mul]
    exact sumN_congr fun l _ => by ac_rfl
  rw [sumN_congr fun k _ => e1 k, sumN_swap]
  exact sumN_congr fun l _ => sumN_mul _ _ _
/-- Equal within n rows and columns. -/
def EqM (n : Nat) (A B : Mtx R) : Prop := ∀ i, i < n → ∀ j, j < n → A i j = B i j
theorem EqM.refl (n : Nat) (A : Mtx R) : EqM n A A := fun _ _ _ _ => rfl
theorem EqM.symm {n : Nat} {A B : Mtx R} (h : EqM n A B) : EqM n B A := fun i hi j hj => (h i hi j hj).symm
theorem EqM.trans {n : Nat} {A B C : Mtx R} (h : EqM n A B) (k : EqM n B C) : EqM n A C := fun i hi j hj => (h i hi j hj).trans (k i hi j hj)
theorem EqM.mul {n : Nat} {A A' B B' : Mtx R} (h : EqM n A A') (k : EqM n B B') : EqM n (mulM n A B) (mulM n A' B') := fun i hi j hj =>
  sumN_congr fun l hl => by rw [h i hi l hl, k l hl j hj]
theorem EqM.one_mul (n : Nat) (A : Mtx R) : EqM n (mulM n oneM A) A := fun i hi j hj => by
  show sumN n (fun k => oneM i k * A k j) = A i j
  rw [sumN_single (k := i) hi (fun k _ hne => by rw [show (oneM : Mtx R) i k = 0 from if_neg (Ne.symm hne), zero_mul]), show (oneM : Mtx R) i i = 1 from if_pos rfl, CR.one_mul]
theorem EqM.mul_one (n : Nat) (A : Mtx R) : EqM n (mulM n A oneM) A := fun i hi j hj => by
  show sumN n (fun k => A i k * oneM k j) = A i j
  rw [sumN_single (k := j) hj (fun k _ hne => by rw [show (oneM : Mtx R) k j = 0 from if_neg hne, mul_zero]), show (oneM : Mtx R) j j = 1 from if_pos rfl, CR.mul_one]

/-- What a positive letter does to rows a - 1 and a. -/
def opP (t : R) (a : Nat) (A : Mtx R) : Mtx R := fun r c => if r + 1 = a then (1 + -t) * A r c + t * A (r + 1) c else if r = a then A (r - 1) c else A r c
def opN (t : R) (a : Nat) (A : Mtx R) : Mtx R := fun r c => if r + 1 = a then A (r + 1) c else if r = a then t * A (r - 1) c + (1 + -t) * A r c else A r c
theorem EqM.opP {n : Nat} {A B : Mtx R} (t : R) {a : Nat} (ha : a < n) (h : EqM n A B) : EqM n (Proofs.YtbedpgcbfbjgiaaDoor.opP t a A) (Proofs.YtbedpgcbfbjgiaaDoor.opP t a B) := fun r hr c hc => by
  unfold Proofs.YtbedpgcbfbjgiaaDoor.opP
  by_cases h1 : r + 1 = a
  · rw [if_pos h1, if_pos h1, h r hr c hc, h (r + 1) (by omega) c hc]
  · rw [if_neg h1, if_neg h1]
    split
    · exact h _ (by omega) c hc
    · exact h r hr c hc
theorem EqM.opN {n : Nat} {A B : Mtx R} (t : R) {a : Nat} (ha : a < n) (h : EqM n A B) : EqM n (Proofs.YtbedpgcbfbjgiaaDoor.opN t a A) (Proofs.YtbedpgcbfbjgiaaDoor.opN t a B) := fun r hr c hc => by
  unfold Proofs.YtbedpgcbfbjgiaaDoor.opN
  by_cases h1 : r + 1 = a
  · rw [if_pos h1, if_pos h1, h (r + 1) (by omega) c hc]
  · rw [if_neg h1, if_neg h1]
    split
    · rw [h r hr c hc, h _ (by omega) c hc]
    · exact h r hr c hc
end

def tT : LP := LP.term 1 1
def tI : LP := LP.term (-1) 1
/-- The matrix of a letter. -/
def bl (x : Int) : Mtx LP := fun r c =>
  if r + 1 = x.natAbs then (if 0 < x then (if c = r then 1 + -tT else if c = r + 1 then tT else 0) else (if c = r + 1 then 1 else 0))
  else if r = x.natAbs then (if 0 < x then (if c + 1 = r then 1 else 0) else (if c + 1 = r then tI else if c = r then 1 + -tI else 0))
  else if r = c then 1 else 0
/-- The Burau matrix of a word. -/
def bu (n : Nat) : List Int → Mtx LP
  | [] => oneM
  | x :: w => mulM n (bl x) (bu n w)
def opL (x : Int) (A : Mtx LP) : Mtx LP := if 0 < x then opP tT x.natAbs A else opN tI x.natAbs A
theorem bl_mul {n : Nat} {x : Int} (h1 : x ≠ 0) (h2 : x.natAbs < n) (A : Mtx LP) : EqM n (mulM n (bl x) A) (opL x A) := fun r hr c hc => by
  show sumN n (fun k => bl x r k * A k c) = _
  obtain ⟨a, ha⟩ : ∃ a, x.natAbs = a := ⟨_, rfl⟩
  have ha1 : 1 ≤ a := by omega
  unfold opL bl
  rw [ha] at h2 ⊢
  by_cases hx : 0 < x
  · simp only [if_pos hx]
    unfold opP
    by_cases h3 : r + 1 = a
    · simp only [if_pos h3]
      rw [sumN_two (a := r) (b := r + 1) hr (by omega) (by omega) (fun i _ h4 h5 => by rw [if_neg h4, if_neg h5, zero_mul]), if_pos rfl, if_neg (by omega), if_pos rfl]
    · simp only [if_neg h3]
      by_cases h4 : r = a
      · simp only [if_pos h4]
        rw [sumN_single (k := r - 1) (by omega) (fun i _ h5 => by rw [if_neg (by omega), zero_mul]), if_pos (by omega), CR.one_mul]
      · simp only [if_neg h4]
        rw [sumN_single (k := r) hr (fun i _ h5 => by rw [if_neg (fun e => h5 e.symm), zero_mul]), if_pos rfl, CR.one_mul]
  · simp only [if_neg hx]
    unfold opN
    by_cases h3 : r + 1 = a
    · simp only [if_pos h3]
      rw [sumN_single (k := r + 1) (by omega) (fun i _ h5 => by rw [if_neg h5, zero_mul]), if_pos rfl, CR.one_mul]
    · simp only [if_neg h3]
      by_cases h4 : r = a
      · simp only [if_pos h4]
        rw [sumN_two (a := r - 1) (b := r) (by omega) hr (by omega) (fun i _ h5 h6 => by rw [if_neg (by omega), if_neg h6, zero_mul]), if_pos (by omega), if_neg (by omega), if_pos rfl]
      · simp only [if_neg h4]
        rw [sumN_single (k := r) hr (fun i _ h5 => by rw [if_neg (fun e => h5 e.symm), zero_mul]), if_pos rfl, CR.one_mul]
theorem bu_append (n : Nat) : ∀ u v : List Int, EqM n (bu n (u ++ v)) (mulM n (bu n u) (bu n v))
  | [], v => (EqM.one_mul n _).symm
  | x :: u, v => by
    show EqM n (mulM n (bl x) (bu n (u ++ v))) (mulM n (mulM n (bl x) (bu n u)) (bu n v))
    rw [mulM_assoc]
    exact (EqM.refl n _).mul (bu_append n u v)
/-- Letters of a braid word on n strands. -/
def okB (n : Nat) (w : List Int) : Prop := ∀ x ∈ w, x ≠ 0 ∧ x.natAbs < n
theorem EqM.opL {n : Nat} {A B : Mtx LP} {x : Int} (hx : x.natAbs < n) (h : EqM n A B) : EqM n (Proofs.YtbedpgcbfbjgiaaDoor.opL x A) (Proofs.YtbedpgcbfbjgiaaDoor.opL x B) := by
  unfold Proofs.YtbedpgcbfbjgiaaDoor.opL
  split
  · exact h.opP _ hx
  · exact h.opN _ hx
def opW : List Int → Mtx LP → Mtx LP
  | [], A => A
  | x :: w, A => opL x (opW w A)
theorem bu_op {n : Nat} : ∀ {w : List Int}, okB n w → EqM n (bu n w) (opW w oneM)
  | [], _ => EqM.refl _ _
  | x :: w, h => (bl_mul (h x (by simp)).1 (h x (by simp)).2 _).trans ((bu_op fun y hy => h y (by simp [hy])).opL (h x (by simp)).2)
/-- Words that are equal by a relation: what they do to all matrices is equal. -/
def RelB (a b : List Int) : Prop := ∀ A : Mtx LP, opW a A = opW b A
theorem RelB.bu {n : Nat} {a b : List Int} (h : RelB a b) (ha : okB n a) (hb : okB n b) (u v : List Int) : EqM n (bu n (u ++ a ++ v)) (bu n (u ++ b ++ v)) := by
  have e : EqM n (Proofs.YtbedpgcbfbjgiaaDoor.bu n a) (Proofs.YtbedpgcbfbjgiaaDoor.bu n b) := (bu_op ha).trans (by rw [h oneM]; exact (bu_op hb).symm)
  refine (bu_append n _ _).trans (EqM.trans ?_ (bu_append n _ _).symm)
  refine EqM.mul ?_ (EqM.refl _ _)
  exact (bu_append n _ _).trans (((EqM.refl n _).mul e).trans (bu_append n _ _).symm)
theorem RelB.symm {a b : List Int} (h : RelB a b) : RelB b a := fun A => (h A).symm
end Go.Proofs.YtbedpgcbfbjgiaaDoor
/- Braid words: what is wrong with one, where its strands end. -/
namespace Go.Proofs.YtbedpgcbfbjgiaaDoor
set_option linter.unusedVariables false
set_option linter.unusedSimpArgs false

def okX (n x : Int) : Bool := decide (x ≠ 0 ∧ x < n ∧ -n < x)
def bfault (n : Int) (w : List Int) : Int := if n < 1 ∨ 6 < n then 1 else if 30 < w.length then 2 else if w.all (okX n) then 0 else 3
theorem bfault_zero {n : Int} {w : List Int} (h : bfault n w = 0) : 1 ≤ n ∧ n ≤ 6 ∧ w.length ≤ 30 ∧ ∀ x ∈ w, x ≠ 0 ∧ x < n ∧ -n < x := by
  unfold bfault at h
  split at h
  · omega
  · next h1 =>
    split at h
    · omega
    · next h2 =>
      split at h
      · next h3 => exact ⟨by omega, by omega, by omega, fun x hx => by simpa [okX] using List.all_eq_true.1 h3 x hx⟩
      · omega
/-- Where a strand goes at a letter. -/
def stepE (at_ : Nat) (x : Int) : Nat := if at_ + 1 = x.natAbs then at_ + 1 else if at_ = x.natAbs then at_ - 1 else at_
def endE (w : List Int) (s : Nat) : Nat := w.foldl stepE s
theorem stepE_lt {n at_ : Nat} {x : Int} (hx : x ≠ 0) (h1 : x.natAbs < n) (h : at_ < n) : stepE at_ x < n := by
  unfold stepE
  split
  · omega
  · split <;> omega
theorem endE_append (u v : List Int) (s : Nat) : endE (u ++ v) s = endE v (endE u s) := by unfold endE; rw [List.foldl_append]
theorem endE_snoc (w : List Int) (x : Int) (s : Nat) : endE (w ++ [x]) s = stepE (endE w s) x := by rw [endE_append]; rfl
theorem stepE_twice {x : Int} (h : x ≠ 0) (s : Nat) : stepE (stepE s x) x = s := by
  unfold stepE
  by_cases h1 : s + 1 = x.natAbs
  · rw [if_pos h1, if_neg (by omega), if_pos (by omega)]; omega
  · rw [if_neg h1]
    by_cases h2 : s = x.natAbs
    · rw [if_pos h2, if_pos (by omega)]; omega
    · rw [if_neg h2, if_neg h1, if_neg h2]
end Go.Proofs.YtbedpgcbfbjgiaaDoor
/- Colors from letter to letter (mathematics of stage 15). -/
namespace Go.Proofs.YtbedpgcbfbjgiaaDoor
set_option linter.unusedVariables false
set_option linter.unusedSimpArgs false

/-- The colors behind a letter. -/
def cSt (m x : Int) (c : List Int) : List Int :=
  if 0 < x then (c.set (x.natAbs - 1) ((2 * c.getD (x.natAbs - 1) 0 - c.getD x.natAbs 0) % m)).set x.natAbs (c.getD (x.natAbs - 1) 0)
  else (c.set (x.natAbs - 1) (c.getD x.natAbs 0)).set x.natAbs ((2 * c.getD x.natAbs 0 - c.getD (x.natAbs - 1) 0) % m)
/-- The colors behind a word. -/
def cCol (m : Int) (w : List Int) (c : List Int) : List Int := w.foldl (fun c x => cSt m x c) c
/-- Colors for n positions. -/
structure IsC (m : Int) (n : Nat) (c : List Int) : Prop where
  len : c.length = n
  col : ∀ j, j < n → 0 ≤ c.getD j 0 ∧ c.getD j 0 < m
theorem cSt_length (m x : Int) (c : List Int) : (cSt m x c).length = c.length := by unfold cSt; split <;> simp
theorem cSt_getD {m x : Int} {c : List Int} {n : Nat} (hl : c.length = n) (h0 : x ≠ 0) (h1 : x.natAbs < n) {j : Nat} (hj : j < n) :
    (cSt m x c).getD j 0 = if j + 1 = x.natAbs then (if 0 < x then (2 * c.getD j 0 - c.getD (j + 1) 0) % m else c.getD (j + 1) 0)
      else if j = x.natAbs then (if 0 < x then c.getD (j - 1) 0 else (2 * c.getD j 0 - c.getD (j - 1) 0) % m) else c.getD j 0 := by
  unfold cSt
  obtain ⟨i, hi⟩ : ∃ i, x.natAbs = i + 1 := ⟨x.natAbs - 1, by omega⟩
  rw [hi] at h1 ⊢
  rw [Nat.add_sub_cancel]
  have hs : ∀ (l : List Int) (k : Nat) (v : Int), k < l.length → (l.set k v).getD j 0 = if k = j then v else l.getD j 0 := fun l k v hk => by
    simp only [List.getD, List.getElem?_set]
    by_cases e : k = j
    · subst e; simp [hk]
    · simp [e]
  by_cases hx : 0 < x
  · rw [if_pos hx, hs _ _ _ (by simp; omega), hs _ _ _ (by omega)]
    by_cases e1 : j = i
    · subst e1; simp [hx]
    · by_cases e2 : j = i + 1
      · subst e2; simp [hx]
      · rw [if_neg (by omega), if_neg (by omega), if_neg (by omega), if_neg (by omega)]
  · rw [if_neg hx, hs _ _ _ (by simp; omega), hs _ _ _ (by omega)]
    by_cases e1 : j = i
    · subst e1; simp [hx]
    · by_cases e2 : j = i + 1
      · subst e2; simp [hx]
      · rw [if_neg (by omega), if_neg (by omega), if_neg (by omega), if_neg (by omega)]
theorem IsC.step {m x : Int} {c : List Int} {n : Nat} (h : IsC m n c) (h0 : x ≠ 0) (h1 : x.natAbs < n) : IsC m n (cSt m x c) := by
  refine ⟨by rw [cSt_length]; exact h.len, fun j hj => ?_⟩
  have hm : 0 < m := by have := h.col j hj; omega
  rw [cSt_getD h.len h0 h1 hj]
  have e : ∀ z : Int, 0 ≤ z % m ∧ z % m < m := fun z => ⟨Int.emod_nonneg _ (by omega), Int.emod_lt_of_pos _ hm⟩
  by_cases e1 : j + 1 = x.natAbs
  · rw [if_pos e1]
    split
    · exact e _
    · exact h.col _ (by omega)
  · rw [if_neg e1]
    by_cases e2 : j = x.natAbs
    · rw [if_pos e2]
      split
      · exact h.col _ (by omega)
      · exact e _
    · rw [if_neg e2]; exact h.col j hj
theorem cCol_append (m : Int) (u v c : List Int) : cCol m (u ++ v) c = cCol m v (cCol m u c) := by unfold cCol; rw [List.foldl_append]
theorem IsC.word {m : Int} {n : Nat} : ∀ {w c : List Int}, (∀ x ∈ w, x ≠ 0 ∧ x.natAbs < n) → IsC m n c → IsC m n (cCol m w c)
  | [], c, _, h => h
  | x :: w, c, hw, h => IsC.word (w := w) (fun y hy => hw y (by simp [hy])) (h.step (hw x (by simp)).1 (hw x (by simp)).2)
/-- The digits of a number. -/
def digs (m n i : Nat) : List Int := (List.range n).map fun j => ((i / m ^ j % m : Nat) : Int)
theorem digs_isC {m n : Nat} (hm : 1 ≤ m) (i : Nat) : IsC m n (digs m n i) :=
  ⟨by simp [digs], fun j hj => by
    have e : (digs m n i).getD j 0 = ((i / m ^ j % m : Nat) : Int) := by simp [digs, List.getD, hj]
    rw [e]
    have := Nat.mod_lt (i / m ^ j) (show m > 0 by omega)
    omega⟩
/-- The number of colorings. -/
def cntC (n m : Nat) (w : List Int) : Nat := (List.range (m ^ n)).countP fun i => decide (cCol m w (digs m n i) = digs m n i)
end Go.Proofs.YtbedpgcbfbjgiaaDoor
/- timbref1.BraidFault, Index, Ends. -/
namespace Go.Proofs.YtbedpgcbfbjgiaaDoor
set_option linter.unusedVariables false
set_option linter.unusedSimpArgs false
open Go.RowKit

set_option maxHeartbeats 2000000 in
theorem braidFault_any (m : Int) (A : Option Addr) (n c : Nat) (xs : List Int) (w : World) (ha : IL w A n xs) (hm : (Lit.int .i64 m).wf = true) :
    Calls Tryd.prog 7 #[.int .i64 m, .slice A n c] w fun e w' => e = .returned (.int .i64 (bfault m xs)) ∧ w = w' := by
  have hl := ha.len
  have hns := ha.small
  have HA := hide ha
  have HL := hide hl
  have HM := hide hm
  clear ha hl hm
  by_cases h1 : m < 1
  · have HF : Hid (bfault m xs = 1) := hide (by unfold bfault; rw [if_pos (.inl h1)])
    go_enter Tryd.func7, Tryd.ntmps7
    go_wp2
    go_ret
    rw [HF.out]
    exact ⟨rfl, rfl⟩
  by_cases h6 : 6 < m
  · have HF : Hid (bfault m xs = 1) := hide (by unfold bfault; rw [if_pos (.inr h6)])
    go_enter Tryd.func7, Tryd.ntmps7
    go_wp2
    go_ret
    rw [HF.out]
    exact ⟨rfl, rfl⟩
  by_cases h30 : 30 < n
  · have HF : Hid (bfault m xs = 2) := hide (by unfold bfault; rw [if_neg (by omega), if_pos (by rw [HL.out]; exact h30)])
    go_enter Tryd.func7, Tryd.ntmps7
    go_wp2
    go_ret
    rw [HF.out]
    exact ⟨rfl, rfl⟩
  · have HF : Hid (bfault m xs = if xs.all (okX m) then 0 else 3) := hide (by unfold bfault; rw [if_neg (by omega), if_neg (by rw [HL.out]; exact h30)])
    have hwm : IntKind.i64.wrap (-m) = -m := by rw [IntKind.wrap_i64]; omega
    go_enter Tryd.func7, Tryd.ntmps7
    go_wp2
    go_loop [18] (fun iv => ∃ k : Nat, k ≤ n ∧ iv = .int .i64 k ∧ Hid ((xs.take k).all (okX m) = true)) (fun iv => n - (intOf iv).toNat)
    case atStart => exact ⟨0, Nat.zero_le _, rfl, by rw [List.take_zero]; exact rfl⟩
    case round =>
      obtain ⟨k, hk, rfl, HK⟩ := hrel
      by_cases hlt : k < n
      · obtain ⟨ad, rfl, hcl⟩ := HA.out.at_ hlt
        have hkl : k < xs.length := by rw [HL.out]; exact hlt
        have hget : xs.getD k 0 = xs[k] := by simp [List.getD, List.getElem?_eq_getElem hkl]
        have HT : Hid ((xs.take (k + 1)).all (okX m) = ((xs.take k).all (okX m) && okX m (xs.getD k 0))) := hide (by rw [List.take_succ_eq_append_getElem hkl, List.all_append, hget]; simp)
        have HM : Hid (xs.getD k 0 ∈ xs) := hide (by rw [hget]; exact List.getElem_mem _)
        clear hkl hget
        generalize xs.getD k 0 = x at *
        by_cases hok : x ≠ 0 ∧ x < m ∧ -m < x
        · have HN : Hid ((xs.take (k + 1)).all (okX m) = true) := hide (by rw [HT.out, HK.out]; simp [okX, hok])
          obtain ⟨h0, h2, h3⟩ := hok
          have hb : (x == 0) = false := by simpa using h0
          clear h0
          go_wp2
          go_round
          case rel => exact ⟨k + 1, by omega, by go_num, HN.out⟩
          case measure => simp [intOf]; omega
        · have HN : Hid (xs.all (okX m) = false) := hide (by
            rw [Bool.eq_false_iff]
            intro h
            have := List.all_eq_true.1 h x HM.out
            exact hok (by simpa [okX] using this))
          rw [HN.out] at HF
          by_cases h0 : x = 0
          · subst h0
            clear hok
            go_wp2
            go_ret
            rw [HF.out]
            exact ⟨rfl, rfl⟩
          · have hb : (x == 0) = false := by simpa using h0
            by_cases h2 : m ≤ x
            · clear hok h0
              go_wp2
              go_ret
              rw [HF.out]
              exact ⟨rfl, rfl⟩
            · have h3 : x ≤ -m := by
                rcases Int.lt_or_le (-m) x with h | h
                · exact absurd ⟨h0, by omega, h⟩ hok
                · exact h
              clear hok h0
              go_wp2
              go_ret
              rw [HF.out]
              exact ⟨rfl, rfl⟩
      · have HE : Hid (xs.all (okX m) = true) := hide (by
          have := HK.out
          rwa [List.take_of_length_le (by rw [HL.out]; omega)] at this)
        rw [HE.out] at HF
        go_wp2
        go_ret
        rw [HF.out]
        exact ⟨rfl, rfl⟩

set_option maxHeartbeats 1000000 in
theorem index_any_ (x : Int) (w : World) (hx : x.natAbs ≤ 1000000) : Calls Tryd.prog 24 #[.int .i64 x] w fun e w' => e = .returned (.int .i64 (x.natAbs : Int)) ∧ w = w' := by
  have hw : IntKind.i64.wrap (-x) = -x := by rw [IntKind.wrap_i64]; omega
  by_cases h : 0 ≤ x
  · obtain ⟨a, rfl⟩ : ∃ a : Nat, x = (a : Int) := ⟨x.natAbs, by omega⟩
    rw [Int.natAbs_natCast]
    have hm : max (a : Int) (-(a : Int)) = (a : Int) := by omega
    go_enter Tryd.func24, Tryd.ntmps24
    go_wp2
    all_goals first | (exfalso; omega) | (go_ret; exact ⟨rfl, rfl⟩)
  · obtain ⟨a, rfl⟩ : ∃ a : Nat, x = -(a : Int) := ⟨x.natAbs, by omega⟩
    rw [Int.natAbs_neg, Int.natAbs_natCast, Int.neg_neg] at *
    have hm : max (-(a : Int)) (a : Int) = (a : Int) := by omega
    go_enter Tryd.func24, Tryd.ntmps24
    go_wp2
    all_goals first | (exfalso; omega) | (go_ret; exact ⟨rfl, rfl⟩)

end Go.Proofs.YtbedpgcbfbjgiaaDoor
/- timbref1.Colored. -/
namespace Go.Proofs.YtbedpgcbfbjgiaaDoor
set_option linter.unusedVariables false
set_option linter.unusedSimpArgs false
open Go.RowKit

theorem tmod_up {z : Int} {k : Nat} (hk : 1 ≤ k) : (z.tmod (k : Int) + k).tmod (k : Int) = z % (k : Int) ∧ -(k : Int) < z.tmod k ∧ z.tmod k < k := by
  have h1 := Int.tmod_lt_of_pos z (b := (k : Int)) (by omega)
  have h2 := Int.lt_tmod_of_pos z (b := (k : Int)) (by omega)
  refine ⟨?_, h2, h1⟩
  rw [Int.tmod_eq_emod_of_nonneg (by omega)]
  have e : z.tmod k = z - k * z.tdiv k := by have := Int.mul_tdiv_add_tmod z k; omega
  rw [e, Int.add_emod_right, Int.sub_mul_emod_self_left]
theorem cCol_snoc (m : Int) (w : List Int) (x : Int) (c : List Int) : cCol m (w ++ [x]) c = cSt m x (cCol m w c) := by
  rw [cCol_append]; rfl

set_option maxRecDepth 100000 in
set_option maxHeartbeats 4000000 in
theorem colored_r (A : Option Addr) (n c : Nat) (xs : List Int) (B : Option Addr) (m d : Nat) (ys : List Int) (k N : Nat) (w : World) (ha : SL w A n c xs) (hb : SL w B m d ys) (hc : IsC (k : Int) N ys) (hx : ∀ x ∈ xs, x ≠ 0 ∧ x.natAbs < N) (hk : k ≤ 13) (hN1 : 1 ≤ N) (hN : N ≤ 6) :
    Calls Tryd.prog 10 #[.slice A n c, .slice B m d, .int .i64 (k : Int)] w (GivesOwn w (cCol k xs ys)) := by
  have hk1 : 1 ≤ k := by have := hc.col 0 (by omega); omega
  have HC := hide hc
  have HA := hide ha
  have HX := hide hx
  have hmN : m = N := by have := hb.il.len; have := hc.len; omega
  subst hmN
  have HCL := hide (clone_any B m d ys w hb.il hb.nil)
  have hsm := ha.il.small
  clear hc ha hx hb
  go_enter Tryd.func10, Tryd.ntmps10
  go_wp2_with fail
  refine HCL.out.mono ?_
  rintro e w1 ⟨D, dn, dc, rfl, ho, hb1⟩
  have hdn : dn = m := by have := ho.len; have := HC.out.len; omega
  subst hdn
  obtain ⟨g, rfl, hg1, hg2⟩ := ho.form (by omega)
  have HO1 : Hid (OwnI w1 w.heap.size (some ⟨g, 0, none⟩) dn dc (cCol k (xs.take 0) ys)) := hide (by rw [List.take_zero]; exact ho)
  have HB1 := hide hb1
  clear ho hb1 hg2 HCL
  go_wp2_with fail
  go_loopw [16] (fun iv wr => ∃ j : Nat, j ≤ n ∧ iv = .int .i64 j ∧ Hid (OwnI wr w.heap.size (some ⟨g, 0, none⟩) dn dc (cCol k (xs.take j) ys)) ∧ Hid (Below w.heap.size w wr)) (fun iv _ => n - (intOf iv).toNat)
  case atStart => exact ⟨0, Nat.zero_le _, rfl, HO1, HB1⟩
  case round =>
    clear HO1 HB1
    obtain ⟨j, hj, rfl, HO, HB⟩ := hrel
    by_cases hlt : j < n
    · obtain ⟨ad, rfl, hcl⟩ := (HA.out.below HB.out).il.at_ hlt
      have hjl : j < xs.length := by rw [HA.out.il.len]; exact hlt
      have hmem := HX.out (xs.getD j 0) (by rw [show xs.getD j 0 = xs[j] by simp [List.getD, List.getElem?_eq_getElem hjl]]; exact List.getElem_mem _)
      have HTK : Hid (cCol k (xs.take (j + 1)) ys = cSt k (xs.getD j 0) (cCol k (xs.take j) ys)) := hide (by
        rw [List.take_succ_eq_append_getElem hjl, cCol_snoc]; simp [List.getD, List.getElem?_eq_getElem hjl])
      have HCC : Hid (IsC (k : Int) dn (cCol k (xs.take j) ys)) := hide (HC.out.word fun y hy => HX.out y (List.mem_of_mem_take hy))
      obtain ⟨hx0, hx1⟩ := hmem
      clear hjl
      generalize xs.getD j 0 = x at *
      generalize cCol k (xs.take j) ys = cur at *
      have HG := hide (index_any_ x wr (by omega))
      obtain ⟨i, hi⟩ : ∃ i, x.natAbs = i + 1 := ⟨x.natAbs - 1, by omega⟩
      rw [hi] at HG
      have hi1 : i + 1 < dn := by omega
      have hca := HCC.out.col i (by omega)
      have hcb := HCC.out.col (i + 1) hi1
      have hc0 := HO.out.cell (j := i) (by omega)
      have hc1 := HO.out.cell (j := i + 1) (by omega)
      have hf0 := HO.out.frozen i
      have hf1 := HO.out.frozen (i + 1)
      have hS : cSt (k : Int) x cur = if 0 < x then (cur.set i ((2 * cur.getD i 0 - cur.getD (i + 1) 0) % k)).set (i + 1) (cur.getD i 0) else (cur.set i (cur.getD (i + 1) 0)).set (i + 1) ((2 * cur.getD (i + 1) 0 - cur.getD i 0) % k) := by
        unfold cSt
        rw [hi, Nat.add_sub_cancel]
      obtain ⟨a, hae⟩ : ∃ a, cur.getD i 0 = a := ⟨_, rfl⟩
      obtain ⟨b, hbe⟩ : ∃ b, cur.getD (i + 1) 0 = b := ⟨_, rfl⟩
      rw [hae] at hca hc0 hS
      rw [hbe] at hcb hc1 hS
      clear hae hbe
      have hBB := HB.out
      have hwi : IntKind.i64.wrap (i : Int) = (i : Int) := by rw [IntKind.wrap_i64]; omega
      have hwi1 : IntKind.i64.wrap ((i : Int) + 1) = (i : Int) + 1 := by rw [IntKind.wrap_i64]; omega
      by_cases hxp : 0 < x
      · rw [if_pos hxp] at hS
        obtain ⟨h1, h2, h3⟩ := tmod_up (z := 2 * a - b) hk1
        have hw1 : IntKind.i64.wrap (2 * a) = 2 * a := by rw [IntKind.wrap_i64]; omega
        have hw2 : IntKind.i64.wrap (2 * a - b) = 2 * a - b := by rw [IntKind.wrap_i64]; omega
        have HN := hide ((HO.out.set_ i ((2 * a - b) % (k : Int))).set_ (i + 1) a)
        rw [← hS, ← HTK.out] at HN
        have HBN := hide ((hBB.setCell (p := ⟨g, i, none⟩) hg1 (.int .i64 ((2 * a - b) % (k : Int)))).setCell (p := ⟨g, i + 1, none⟩) hg1 (.int .i64 a))
        obtain ⟨t, ht⟩ : ∃ t, (2 * a - b).tmod (k : Int) = t := ⟨_, rfl⟩
        rw [ht] at h1 h2 h3
        have hw3 : IntKind.i64.wrap (t + (k : Int)) = t + (k : Int) := by rw [IntKind.wrap_i64]; omega
        obtain ⟨r, hr⟩ : ∃ r, (2 * a - b) % (k : Int) = r := ⟨_, rfl⟩
        rw [hr] at h1 HN HBN
        have hkz : ((k : Int) == 0) = false := by simp; omega
        clear hS hBB HO HB hr hi hca hcb
        go_wp2_with fail
        refine HG.out.mono ?_
        rintro e w3 ⟨rfl, hww⟩
        subst hww
        go_upto_region 6 with fail
        go_region
        go_upto_region 8 with fail
        go_wp2_with fail
        go_roundw
        case rel => exact ⟨j + 1, by omega, by go_num, hide HN.out.drew, hide HBN.out.drew⟩
        case measure => simp [intOf]; omega
      · rw [if_neg hxp] at hS
        obtain ⟨h1, h2, h3⟩ := tmod_up (z := 2 * b - a) hk1
        have hw1 : IntKind.i64.wrap (2 * b) = 2 * b := by rw [IntKind.wrap_i64]; omega
        have hw2 : IntKind.i64.wrap (2 * b - a) = 2 * b - a := by rw [IntKind.wrap_i64]; omega
        have HN := hide ((HO.out.set_ i b).set_ (i + 1) ((2 * b - a) % (k : Int)))
        rw [← hS, ← HTK.out] at HN
        have HBN := hide ((hBB.setCell (p := ⟨g, i, none⟩) hg1 (.int .i64 b)).setCell (p := ⟨g, i + 1, none⟩) hg1 (.int .i64 ((2 * b - a) % (k : Int))))
        obtain ⟨t, ht⟩ : ∃ t, (2 * b - a).tmod (k : Int) = t := ⟨_, rfl⟩
        rw [ht] at h1 h2 h3
        have hw3 : IntKind.i64.wrap (t + (k : Int)) = t + (k : Int) := by rw [IntKind.wrap_i64]; omega
        obtain ⟨r, hr⟩ : ∃ r, (2 * b - a) % (k : Int) = r := ⟨_, rfl⟩
        rw [hr] at h1 HN HBN
        have hkz : ((k : Int) == 0) = false := by simp; omega
        clear hS hBB HO HB hr hi hca hcb
        go_wp2_with fail
        refine HG.out.mono ?_
        rintro e w3 ⟨rfl, hww⟩
        subst hww
        go_upto_region 6 with fail
        go_region
        go_upto_region 9 with fail
        go_region
        go_wp2_with fail
        go_roundw
        case rel => exact ⟨j + 1, by omega, by go_num, hide HN.out.drew.drew, hide HBN.out.drew.drew⟩
        case measure => simp [intOf]; omega
    · have hjn : j = n := by omega
      subst hjn
      rw [List.take_of_length_le (by rw [HA.out.il.len]; exact Nat.le_refl _)] at HO
      clear hlt hj
      go_wp2_with fail
      go_ret
      exact ⟨_, _, _, rfl, HO.out, HB.out⟩
end Go.Proofs.YtbedpgcbfbjgiaaDoor
/- What package freegroup's functions are to answer (words alone), and what follows for the facts free and reduced that the laws begin with. -/
namespace Go.Proofs.YtbedpgcbfbjgiaaDoor
set_option linter.unusedVariables false
set_option linter.unusedSimpArgs false
open Go.RowKit

/-- A slice and an error. -/
def GivesLE (w : World) (err : Int) (xs : List Int) (e : Ending) (w' : World) : Prop :=
  ∃ A n c, e = .returned (.tuple #[.slice A n c, .int .i64 err]) ∧ SL w' A n c xs ∧ Below w.heap.size w w'

/-- The same, the slice in memory that was not there before. -/
def GivesLEn (w : World) (err : Int) (xs : List Int) (e : Ending) (w' : World) : Prop :=
  ∃ A n c, e = .returned (.tuple #[.slice A n c, .int .i64 err]) ∧ SL w' A n c xs ∧ (0 < n → ∀ ad, A = some ad → w.heap.size ≤ ad.block) ∧ Below w.heap.size w w'
theorem GivesLEn.le {w : World} {err : Int} {xs : List Int} {e : Ending} {w' : World} (h : GivesLEn w err xs e w') : GivesLE w err xs e w' := by
  obtain ⟨A, n, c, h1, h2, _, h3⟩ := h
  exact ⟨A, n, c, h1, h2, h3⟩

end Go.Proofs.YtbedpgcbfbjgiaaDoor
/- Slices of polynomials, and slices of these (words on memory). -/
namespace Go.Proofs.YtbedpgcbfbjgiaaDoor
set_option linter.unusedVariables false
set_option linter.unusedSimpArgs false
open Go.RowKit

abbrev Po := Int × List Int
/-- A slice of polynomials that reads as ps. -/
structure SPo (w : World) (A : Option Addr) (n c : Nat) (ps : List Po) : Prop where
  len : ps.length = n
  small : n ≤ 17592186044416
  nil : A = none → n = 0 ∧ c = 0
  cap : n ≤ c
  mem : 0 < n → ∃ ad, A = some ad ∧ ad.block < w.heap.size ∧ ∀ j, j < n → ∃ B m d, w.cell? (ad.add (j * 2)) = some (.int .i64 (ps.getD j (0, [])).1) ∧ w.cell? ⟨(ad.add (j * 2)).block, (ad.add (j * 2)).off + 1, none⟩ = some (.slice B m d) ∧ SL w B m d (ps.getD j (0, [])).2 ∧ (Lit.int .i64 (ps.getD j (0, [])).1).wf = true
theorem SPo.below {w w' : World} {A : Option Addr} {n c : Nat} {ps : List Po} (h : SPo w A n c ps) (hb : Below w.heap.size w w') : SPo w' A n c ps :=
  ⟨h.len, h.small, h.nil, h.cap, fun hn => by
    obtain ⟨ad, e, hl, hc⟩ := h.mem hn
    refine ⟨ad, e, Nat.lt_of_lt_of_le hl hb.size, fun j hj => ?_⟩
    obtain ⟨B, m, d, h1, h2, h3, h4⟩ := hc j hj
    exact ⟨B, m, d, (hb.cell (p := ad.add (j * 2)) (by rw [block_of_add]; exact hl)).trans h1, (hb.cell (p := ⟨(ad.add (j * 2)).block, (ad.add (j * 2)).off + 1, none⟩) (by show (ad.add (j * 2)).block < _; rw [block_of_add]; exact hl)).trans h2, h3.below hb, h4⟩⟩
/-- A slice of slices of polynomials. -/
structure SPP (w : World) (A : Option Addr) (n c : Nat) (pss : List (List Po)) : Prop where
  len : pss.length = n
  small : n ≤ 17592186044416
  nil : A = none → n = 0 ∧ c = 0
  cap : n ≤ c
  mem : 0 < n → ∃ ad, A = some ad ∧ ad.block < w.heap.size ∧ ∀ j, j < n → ∃ B m d, w.cell? (ad.add j) = some (.slice B m d) ∧ SPo w B m d (pss.getD j [])
theorem SPP.below {w w' : World} {A : Option Addr} {n c : Nat} {pss : List (List Po)} (h : SPP w A n c pss) (hb : Below w.heap.size w w') : SPP w' A n c pss :=
  ⟨h.len, h.small, h.nil, h.cap, fun hn => by
    obtain ⟨ad, e, hl, hc⟩ := h.mem hn
    refine ⟨ad, e, Nat.lt_of_lt_of_le hl hb.size, fun j hj => ?_⟩
    obtain ⟨B, m, d, h1, h2⟩ := hc j hj
    exact ⟨B, m, d, (hb.cell (p := ad.add j) (by rw [block_of_add]; exact hl)).trans h1, h2.below hb⟩⟩
theorem SPP.at_ {w : World} {A : Option Addr} {n c k : Nat} {pss : List (List Po)} (h : SPP w A n c pss) (hk : k < n) : ∃ ad B m d, A = some ad ∧ w.cell? (ad.add k) = some (.slice B m d) ∧ SPo w B m d (pss.getD k []) := by
  obtain ⟨ad, e, _, hc⟩ := h.mem (by omega)
  obtain ⟨B, m, d, h1, h2⟩ := hc k hk
  exact ⟨ad, B, m, d, e, h1, h2⟩
theorem SPo.at_ {w : World} {A : Option Addr} {n c k : Nat} {ps : List Po} (h : SPo w A n c ps) (hk : k < n) : ∃ ad B m d, A = some ad ∧ w.cell? (ad.add (k * 2)) = some (.int .i64 (ps.getD k (0, [])).1) ∧ w.cell? ⟨(ad.add (k * 2)).block, (ad.add (k * 2)).off + 1, none⟩ = some (.slice B m d) ∧ SL w B m d (ps.getD k (0, [])).2 ∧ (Lit.int .i64 (ps.getD k (0, [])).1).wf = true := by
  obtain ⟨ad, e, _, hc⟩ := h.mem (by omega)
  obtain ⟨B, m, d, h1, h2, h3, h4⟩ := hc k hk
  exact ⟨ad, B, m, d, e, h1, h2, h3, h4⟩
end Go.Proofs.YtbedpgcbfbjgiaaDoor
/- What package braid's functions are to answer. -/
namespace Go.Proofs.YtbedpgcbfbjgiaaDoor
set_option linter.unusedVariables false
set_option linter.unusedSimpArgs false
open Go.RowKit

def invB (n : Int) (w : List Int) : List Int := if bfault n w = 0 then invw w else []
/-- Package braid, as the document asks. -/
structure BraidC : Prop where
  check : ∀ (m : Int) (A : Option Addr) (n c : Nat) (xs : List Int) (w : World), SL w A n c xs → (Lit.int .i64 m).wf = true → Calls Tryd.prog 27 #[.int .i64 m, .slice A n c] w fun e w' => e = .returned (.int .i64 (bfault m xs)) ∧ Below w.heap.size w w'
  inverse : ∀ (m : Int) (A : Option Addr) (n c : Nat) (xs : List Int) (w : World), SL w A n c xs → (Lit.int .i64 m).wf = true → Calls Tryd.prog 16 #[.int .i64 m, .slice A n c] w (GivesLE w (bfault m xs) (invB m xs))

end Go.Proofs.YtbedpgcbfbjgiaaDoor
/- What package coloring is to answer. -/
namespace Go.Proofs.YtbedpgcbfbjgiaaDoor
set_option linter.unusedVariables false
set_option linter.unusedSimpArgs false
open Go.RowKit

def colE (n : Int) (xs : List Int) (k : Int) : Int := if bfault n xs ≠ 0 then bfault n xs else if k < 1 ∨ 13 < k then 1 else 0
def badC (k : Int) (ys : List Int) : Bool := ys.any fun z => decide (z < 0) || decide (k ≤ z)
def proE (n : Int) (xs ys : List Int) (k : Int) : Int := if colE n xs k ≠ 0 then colE n xs k else if (ys.length : Int) ≠ n then 3 else if badC k ys then 1 else 0
def proV (n : Int) (xs ys : List Int) (k : Int) : List Int := if proE n xs ys k = 0 then cCol k xs ys else []
def colV (n : Int) (xs : List Int) (k : Int) : Int := if colE n xs k = 0 then (cntC n.toNat k.toNat xs : Int) else 0
/-- Package coloring, as the document asks. -/
structure ColC : Prop where
  prop : ∀ (m : Int) (A : Option Addr) (n c : Nat) (xs : List Int) (B : Option Addr) (l d : Nat) (ys : List Int) (k : Int) (w : World), SL w A n c xs → SL w B l d ys → (Lit.int .i64 m).wf = true → (Lit.int .i64 k).wf = true → Calls Tryd.prog 6 #[.int .i64 m, .slice A n c, .slice B l d, .int .i64 k] w (GivesLE w (proE m xs ys k) (proV m xs ys k)) -- 6
  count : ∀ (m : Int) (A : Option Addr) (n c : Nat) (xs : List Int) (k : Int) (w : World), SL w A n c xs → TabW w → (Lit.int .i64 m).wf = true → (Lit.int .i64 k).wf = true → Calls Tryd.prog 5 #[.int .i64 m, .slice A n c, .int .i64 k] w fun e w' => e = .returned (.tuple #[.int .i64 (colV m xs k), .int .i64 (colE m xs k)]) ∧ Below w.heap.size w w'
theorem isC_badC {n : Nat} {k : Int} {ys : List Int} (hl : ys.length = n) (h : badC k ys = false) : IsC k n ys := by
  refine ⟨hl, fun j hj => ?_⟩
  unfold badC at h
  rw [List.any_eq_false] at h
  have hj2 : j < ys.length := by omega
  have := h ys[j] (List.getElem_mem _)
  rw [show ys.getD j 0 = ys[j] by simp [List.getD, hj2]]
  simp at this
  omega
theorem col_111 : colE 2 [1, 1, 1] 3 = 0 ∧ colV 2 [1, 1, 1] 3 = 9 := by decide +kernel
end Go.Proofs.YtbedpgcbfbjgiaaDoor
/- Package braid: Check, generator, ExponentSum, Inverse. -/
namespace Go.Proofs.YtbedpgcbfbjgiaaDoor
set_option linter.unusedVariables false
set_option linter.unusedSimpArgs false
open Go.RowKit

theorem bfault_bad {m : Int} {xs : List Int} (h1 : 1 ≤ m) (h6 : m ≤ 6) (h : xs.length ≤ 30) {k : Nat} (hk : k < xs.length) (hb : okX m (xs.getD k 0) = false) : bfault m xs = 3 := by
  unfold bfault
  rw [if_neg (by omega), if_neg (by omega), if_neg]
  intro h2
  have h3 := List.all_eq_true.1 h2 _ (List.getElem_mem hk)
  rw [show xs.getD k 0 = xs[k] by simp [List.getD, hk]] at hb
  rw [hb] at h3
  cases h3
theorem bfault_all {m : Int} {xs : List Int} (h1 : 1 ≤ m) (h6 : m ≤ 6) (h : xs.length ≤ 30) (hb : ∀ k, k < xs.length → okX m (xs.getD k 0) = true) : bfault m xs = 0 := by
  unfold bfault
  rw [if_neg (by omega), if_neg (by omega), if_pos]
  rw [List.all_eq_true]
  intro x hx
  obtain ⟨k, hk, rfl⟩ := List.getElem_of_mem hx
  have := hb k hk
  rwa [show xs.getD k 0 = xs[k] by simp [List.getD, hk]] at this

set_option maxRecDepth 100000 in
set_option maxHeartbeats 4000000 in
theorem bcheck_any (m : Int) (A : Option Addr) (n c : Nat) (xs : List Int) (w : World) (ha : SL w A n c xs) (hm : (Lit.int .i64 m).wf = true) :
    Calls Tryd.prog 27 #[.int .i64 m, .slice A n c] w fun e w' => e = .returned (.int .i64 (bfault m xs)) ∧ w = w' := by
  have HL := hide ha.il.len
  have HA := hide ha.il
  have hns := ha.il.small
  clear ha
  by_cases h1 : m < 1
  · have HE : Hid (bfault m xs = 1) := hide (by unfold bfault; rw [if_pos (by omega)])
    go_enter Tryd.func27, Tryd.ntmps27
    go_wp2_with fail
    go_ret
    exact ⟨by rw [HE.out]; rfl, rfl⟩
  by_cases h6 : 6 < m
  · have HE : Hid (bfault m xs = 1) := hide (by unfold bfault; rw [if_pos (by omega)])
    go_enter Tryd.func27, Tryd.ntmps27
    go_wp2_with fail
    go_ret
    exact ⟨by rw [HE.out]; rfl, rfl⟩
  by_cases h30 : 30 < n
  · have HE : Hid (bfault m xs = 2) := hide (by unfold bfault; rw [if_neg (by omega), if_pos (by rw [HL.out]; exact h30)])
    go_enter Tryd.func27, Tryd.ntmps27
    go_wp2_with fail
    go_ret
    exact ⟨by rw [HE.out]; rfl, rfl⟩
  have HB : Hid (∀ k, k < n → okX m (xs.getD k 0) = false → bfault m xs = 3) := hide (fun k hk hb => bfault_bad (by omega) (by omega) (by rw [HL.out]; omega) (by rw [HL.out]; exact hk) hb)
  have HG : Hid ((∀ k, k < n → okX m (xs.getD k 0) = true) → bfault m xs = 0) := hide (fun hb => bfault_all (by omega) (by omega) (by rw [HL.out]; omega) (fun k hk => hb k (by rw [← HL.out]; exact hk)))
  have hwm : IntKind.i64.wrap (-m) = -m := by rw [IntKind.wrap_i64]; omega
  go_enter Tryd.func27, Tryd.ntmps27
  go_wp2_with fail
  go_loop [18] (fun iv => ∃ k : Nat, k ≤ n ∧ iv = .int .i64 k ∧ Hid (∀ j, j < k → okX m (xs.getD j 0) = true)) (fun iv => n - (intOf iv).toNat)
  case atStart => exact ⟨0, Nat.zero_le _, rfl, hide (fun j hj => absurd hj (by omega))⟩
  case round =>
    obtain ⟨k, hk, rfl, HP⟩ := hrel
    by_cases hlt : k < n
    · obtain ⟨ad, rfl, hx⟩ := HA.out.at_ hlt
      have HBK := hide (HB.out k hlt)
      have HN : Hid (okX m (xs.getD k 0) = true → ∀ j, j < k + 1 → okX m (xs.getD j 0) = true) := hide (fun h j hj => by
        rcases Nat.lt_or_ge j k with h2 | h2
        · exact HP.out j h2
        · rw [show j = k by omega]; exact h)
      clear HB HP
      generalize xs.getD k 0 = x at *
      by_cases hx0 : x = 0
      · have HV := hide (HBK.out (by subst hx0; unfold okX; simp))
        clear HN HBK
        subst hx0
        go_wp2_with fail
        go_ret
        exact ⟨by rw [HV.out]; rfl, rfl⟩
      by_cases hx1 : x ≤ -m
      · have HV := hide (HBK.out (by unfold okX; rw [decide_eq_false]; omega))
        have e0 : (x == 0) = false := by simpa using hx0
        clear HN HBK
        go_wp2_with fail
        go_ret
        exact ⟨by rw [HV.out]; rfl, rfl⟩
      by_cases hx2 : m ≤ x
      · have HV := hide (HBK.out (by unfold okX; rw [decide_eq_false]; omega))
        have e0 : (x == 0) = false := by simpa using hx0
        clear HN HBK
        go_wp2_with fail
        go_ret
        exact ⟨by rw [HV.out]; rfl, rfl⟩
      have HV := hide (HN.out (by unfold okX; rw [decide_eq_true]; omega))
      have e0 : (x == 0) = false := by simpa using hx0
      clear HN HBK
      go_wp2_with fail
      go_round
      case rel => exact ⟨k + 1, by omega, by go_num, HV⟩
      case measure => simp [intOf]; omega
    · have hkn : k = n := by omega
      subst hkn
      have HV := hide (HG.out HP.out)
      clear HP HG HB
      go_wp2_with fail
      go_ret
      exact ⟨by rw [HV.out]; rfl, rfl⟩

theorem invw_step {xs : List Int} {k n : Nat} (hl : xs.length = n) (hk : k < n) : (List.replicate (n - k) 0 ++ invw (xs.take k)).set (n - 1 - k) (-(xs.getD k 0)) = List.replicate (n - (k + 1)) 0 ++ invw (xs.take (k + 1)) := by
  have hlx : k < xs.length := by omega
  have e1 : invw (xs.take (k + 1)) = -(xs.getD k 0) :: invw (xs.take k) := by
    rw [List.take_succ_eq_append_getElem hlx, show xs.getD k 0 = xs[k] by simp [List.getD, hlx]]
    unfold invw
    rw [List.map_append, List.reverse_append]
    rfl
  rw [e1, show n - k = (n - (k + 1)) + 1 by omega, List.replicate_succ', List.append_assoc, List.set_append_right _ _ (by simp; omega), List.length_replicate, show n - 1 - k - (n - (k + 1)) = 0 by omega]
  rfl

set_option maxRecDepth 100000 in
set_option maxHeartbeats 2000000 in
theorem binv_any (m : Int) (A : Option Addr) (n c : Nat) (xs : List Int) (w : World) (ha : SL w A n c xs) (hm : (Lit.int .i64 m).wf = true) :
    Calls Tryd.prog 16 #[.int .i64 m, .slice A n c] w (GivesLE w (bfault m xs) (invB m xs)) := by
  have HC := hide (bcheck_any m A n c xs w ha hm)
  have HL := hide ha.il.len
  have HA := hide ha.il
  have hns := ha.il.small
  clear ha
  obtain ⟨f, hf⟩ : ∃ f, bfault m xs = f := ⟨_, rfl⟩
  have HF := hide hf
  rw [hf] at HC ⊢
  clear hf
  by_cases h0 : f = 0
  case neg =>
    have HV : Hid (invB m xs = []) := hide (by unfold invB; rw [HF.out, if_neg h0])
    have hne : (f != 0) = true := by simpa using h0
    clear h0
    go_enter Tryd.func16, Tryd.ntmps16
    go_wp2_with fail
    refine HC.out.mono ?_
    rintro e w1 ⟨rfl, hww⟩
    subst hww
    go_wp2_with fail
    go_ret2
    exact ⟨none, 0, 0, rfl, by rw [HV.out]; exact SL.nil_ _, Below.refl _ _⟩
  subst h0
  have HV : Hid (invB m xs = invw xs) := hide (by unfold invB; rw [HF.out, if_pos rfl])
  have hz := bfault_zero HF.out
  have hn30 : n ≤ 30 := by have := hz.2.2.1; rw [HL.out] at this; exact this
  have HX : Hid (∀ k, k < n → -6 < xs.getD k 0 ∧ xs.getD k 0 < 6) := hide (fun k hk => by
    have hlx : k < xs.length := by rw [HL.out]; exact hk
    have := hz.2.2.2 (xs.getD k 0) (by rw [show xs.getD k 0 = xs[k] by simp [List.getD, hlx]]; exact List.getElem_mem _)
    omega)
  clear hz
  obtain ⟨i0, hi0, hz0, hz1, hz2⟩ := info_parts int_info
  go_enter Tryd.func16, Tryd.ntmps16
  go_wp2_with fail
  refine HC.out.mono ?_
  rintro e w1 ⟨rfl, hww⟩
  subst hww
  go_wp2_with (at_make; refine wpList_make_full _ rfl _ _ 22 rfl w.heap.size 3 i0 (.int .i64 0) 1 Tryd.underlying22 hi0 hz0 hz1 .i64 .i64 _ _ n rfl rfl rfl rfl (by rw [hz2]; omega) (by unfold maxLen; omega) (Nat.le_refl _) ?_; intro w2 hown2 hg2)
  have hB2 : Below w.heap.size w w2 := (Below.refl _ _).grown hg2 (Nat.le_refl _) (by intro k hk; cases hk)
  have hw2 := OwnI.zero (z := #[]) hown2 (by omega)
  have HO2 : Hid (OwnI w2 w.heap.size (some ⟨w.heap.size, 0, none⟩) n n (List.replicate (n - 0) 0 ++ invw (xs.take 0))) := hide (by
    rw [List.take_zero, Nat.sub_zero, show invw ([] : List Int) = [] from rfl, List.append_nil]; exact hw2)
  have HB2 := hide hB2
  clear hown2 hg2 hw2 hB2
  go_loopw [21] (fun i wr => ∃ k : Nat, k ≤ n ∧ i = .int .i64 k ∧ Hid (OwnI wr w.heap.size (some ⟨w.heap.size, 0, none⟩) n n (List.replicate (n - k) 0 ++ invw (xs.take k))) ∧ Hid (Below w.heap.size w wr)) (fun i _ => n - (intOf i).toNat)
  case atStart => exact ⟨0, Nat.zero_le _, rfl, HO2, HB2⟩
  case round =>
    clear HO2 HB2
    obtain ⟨k, hk, rfl, HO, HB⟩ := hrel
    by_cases hlt : k < n
    · obtain ⟨ad, rfl, hx⟩ := (HA.out.below HB.out).at_ hlt
      have hxx := HX.out k hlt
      have HS := hide (invw_step HL.out hlt)
      have hcell := HO.out.cell (j := n - 1 - k) (by omega)
      have hfr := HO.out.frozen (n - 1 - k)
      have HN := hide (HO.out.set_ (n - 1 - k) (-(xs.getD k 0)))
      rw [HS.out] at HN
      generalize xs.getD k 0 = x at *
      generalize (List.replicate (n - k) 0 ++ invw (xs.take k)).getD (n - 1 - k) 0 = z at *
      have hwx : IntKind.i64.wrap (-x) = -x := by rw [IntKind.wrap_i64]; omega
      obtain ⟨q, hq⟩ : ∃ q : Nat, n - 1 - k = q := ⟨_, rfl⟩
      rw [hq] at hcell hfr HN
      have hq2 : (n : Int) - 1 - (k : Int) = (q : Int) := by omega
      have HQ := hide hq2
      have hqn : q < n := by omega
      clear hq hq2 HS
      go_wp2_with (simp only [HQ.out])
      go_roundw
      case rel => exact ⟨k + 1, by omega, by go_num, HN, hide (HB.out.setCell (Nat.le_refl _) _)⟩
      case measure => simp [intOf]; omega
    · have hkn : k = n := by omega
      have HE : Hid (OwnI wr w.heap.size (some ⟨w.heap.size, 0, none⟩) n n (invw xs)) := hide (by
        have h := HO.out
        rw [hkn, Nat.sub_self, List.replicate_zero, List.nil_append, List.take_of_length_le (by rw [HL.out]; omega)] at h
        exact h)
      clear hkn HO
      go_wp2_with fail
      go_ret2
      exact ⟨_, _, _, rfl, by rw [HV.out]; exact HE.out.sl, HB.out⟩
end Go.Proofs.YtbedpgcbfbjgiaaDoor
