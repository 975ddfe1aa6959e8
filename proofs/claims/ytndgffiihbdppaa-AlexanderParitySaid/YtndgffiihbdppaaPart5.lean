/- Several texts in one. -/
import Derived.Test.YtndgffiihbdppaaPart4
import Derived.Test.YtndgffiihbdppaaPart2
import Derived.Test.YtndgffiihbdppaaBase1
import Derived.Test.YtndgffiihbdppaaPart1
import Derived.Laws.Bits64b
import Derived.Laws.BitsAllLaws
import Derived.Laws.Bits128
import Derived.WalkKit
import Derived.Below
import Derived.Maps.RangeWalk
import Derived.Maps.Keyed
import Derived.Test.YtndgffiihbdppaaPart3
import Derived.Deep.DeepCutAuto
/- ALEXANDER: the polynomial of a closed braid is symmetric (mathematics of stage 16). -/
namespace Go.Proofs.Ytndgffiihbdppaa
set_option linter.unusedVariables false
set_option linter.unusedSimpArgs false
open CR

section
variable {R : Type} [CR R]
/-- Multiples of the last row are subtracted from the others. -/
theorem det_clear {N : Nat} (T : Mtx R) (c : Nat → R) : ∀ k, k ≤ N → detR (N + 1) (fun i j => if i < k then T i j + c i * T N j else T i j) = detR (N + 1) T
  | 0, _ => detR_congr fun i _ j _ => by rw [if_neg (by omega)]
  | k + 1, hk => by
    rw [← det_clear T c k (by omega)]
    have h := (detR_alt (N + 1)).addRow (fun i j => if i < k then T i j + c i * T N j else T i j) (r := k) (s := N) (c k) (by omega) (by omega) (by omega)
    rw [← h]
    refine detR_congr fun i hi j hj => ?_
    by_cases e : i = k
    · subst e
      rw [updR_same]
      simp only [if_neg (show ¬ i < i by omega), if_neg (show ¬ N < i by omega), if_pos (show i < i + 1 by omega)]
    · rw [updR_ne _ _ e]
      show (if i < k + 1 then T i j + c i * T N j else T i j) = if i < k then T i j + c i * T N j else T i j
      by_cases h1 : i < k
      · rw [if_pos (by omega), if_pos h1]
      · rw [if_neg (by omega), if_neg h1]
/-- A row is replaced by a sum of rows in which it has the coefficient c r. -/
theorem det_rowSum {n r : Nat} (T : Mtx R) (c : Nat → R) (hr : r < n) : detR n (updR T r fun j => sumN n fun l => c l * T l j) = c r * detR n T := by
  rw [(detR_alt n).rowSum T hr c T n, sumN_single (k := r) hr (fun l hl hne => by
    rw [(detR_alt n).alt' (updR T r (T l)) hr hl (Ne.symm hne) (fun j _ => by rw [updR_same, updR_ne _ _ hne]), mul_zero]), updR_self]
/-- A matrix with a last row that ends in g and has nothing else. -/
theorem det_border {N : Nat} (M : Mtx R) (u : Nat → R) (g : R) : detR (N + 1) (fun i j => if i < N then (if j < N then M i j else u i) else (if j = N then g else 0)) = g * detR N M := by
  have h0 : ∀ M : Mtx R, detR (N + 1) (fun i j => if i < N then (if j < N then M i j else 0) else (if j = N then (1 : R) else 0)) = detR N M := fun M => by
    have hA : Alt N fun M : Mtx R => detR (N + 1) (fun i j => if i < N then (if j < N then M i j else 0) else (if j = N then (1 : R) else 0)) := by
      have hup : ∀ (M : Mtx R) (r : Nat) (v : Nat → R), r < N → (fun i j => if i < N then (if j < N then updR M r v i j else 0) else (if j = N then (1 : R) else 0)) = updR (fun i j => if i < N then (if j < N then M i j else 0) else (if j = N then (1 : R) else 0)) r (fun j => if j < N then v j else 0) := fun M r v hr => by
        funext i j
        by_cases e : i = r
        · subst e; rw [updR_same, if_pos hr, updR_same]
        · rw [updR_ne (fun i j => if i < N then (if j < N then M i j else 0) else (if j = N then (1 : R) else 0)) _ e, updR_ne M v e]
      refine ⟨fun A B h => detR_congr fun i hi j hj => ?_, fun M r u v hr => ?_, fun M r c u hr => ?_, fun M r s hrs hs h => ?_⟩
      · by_cases h1 : i < N
        · rw [if_pos h1, if_pos h1]
          by_cases h2 : j < N
          · rw [if_pos h2, if_pos h2, h i h1 j h2]
          · rw [if_neg h2, if_neg h2]
        · rw [if_neg h1, if_neg h1]
      · show detR (N + 1) _ = detR (N + 1) _ + detR (N + 1) _
        rw [hup M r _ hr, hup M r u hr, hup M r v hr, ← (detR_alt (N + 1)).add _ r _ _ (by omega)]
        congr 2
        funext j
        split
        · rfl
        · rw [add_zero]
      · show detR (N + 1) _ = c * detR (N + 1) _
        rw [hup M r _ hr, hup M r u hr, ← (detR_alt (N + 1)).smul _ r c _ (by omega)]
        congr 2
        funext j
        split
        · rfl
        · rw [mul_zero]
      · exact (detR_alt (N + 1)).alt _ r s hrs (by omega) fun j hj => by
          show (if r < N then (if j < N then M r j else 0) else _) = if s < N then (if j < N then M s j else 0) else _
          rw [if_pos (by omega), if_pos hs]
          by_cases h2 : j < N
          · rw [if_pos h2, if_pos h2, h j h2]
          · rw [if_neg h2, if_neg h2]
    have e := hA.eq M
    have e1 : detR (N + 1) (fun i j => if i < N then (if j < N then (oneM : Mtx R) i j else 0) else (if j = N then (1 : R) else 0)) = 1 := by
      refine Eq.trans (detR_congr fun i hi j hj => ?_) (detR_one (R := R) (N + 1))
      unfold oneM
      by_cases h1 : i < N
      · rw [if_pos h1]
        by_cases h2 : j < N
        · rw [if_pos h2]
        · rw [if_neg h2, if_neg (by omega)]
      · rw [if_neg h1]
        by_cases h2 : j = N
        · rw [if_pos h2, if_pos (by omega)]
        · rw [if_neg h2, if_neg (by omega)]
    exact Eq.trans e (by rw [e1, CR.mul_one])
  have e2 : detR (N + 1) (fun i j => if i < N then (if j < N then M i j else u i) else (if j = N then g else 0)) = g * detR (N + 1) (fun i j => if i < N then (if j < N then M i j else u i) else (if j = N then (1 : R) else 0)) := by
    have hs := (detR_alt (N + 1)).smul (fun i j => if i < N then (if j < N then M i j else u i) else (if j = N then (1 : R) else 0)) N g (fun j => if j = N then (1 : R) else 0) (by omega)
    refine Eq.trans (detR_congr fun i hi j hj => ?_) (hs.trans (congrArg (fun x => g * x) (detR_congr fun i hi j hj => ?_)))
    · by_cases e : i = N
      · subst e
        rw [updR_same, if_neg (show ¬ i < i by omega)]
        split
        · rw [CR.mul_one]
        · rw [mul_zero]
      · rw [updR_ne _ _ e, if_pos (show i < N by omega), if_pos (show i < N by omega)]
    · by_cases e : i = N
      · subst e
        rw [updR_same, if_neg (show ¬ i < i by omega)]
      · rw [updR_ne _ _ e]
  have h3 := det_clear (N := N) (fun i j => if i < N then (if j < N then M i j else 0) else (if j = N then (1 : R) else 0)) u N (Nat.le_refl _)
  rw [e2, ← h0 M, ← h3]
  congr 1
  refine detR_congr fun i hi j hj => ?_
  by_cases h1 : i < N
  · simp only [if_pos h1, if_neg (show ¬ N < N by omega)]
    by_cases h2 : j < N
    · rw [if_pos h2, if_pos h2, if_neg (by omega), mul_zero, add_zero]
    · rw [if_neg h2, if_neg h2, if_pos (by omega), CR.mul_one, CR.zero_add]
  · simp only [if_neg h1]
end
/-- 1 + t + .. -/
def qn (n : Nat) : LP := sumN n tK
/-- The identity less the Burau matrix, and z times the row 1, t, t^2, .. in each row. -/
def xM (n : Nat) (z : LP) (w : List Int) : Mtx LP := fun i j => (oneM i j + -(bu n w i j)) + z * tK j
theorem one_rowSum {n r : Nat} (hr : r < n) : (sumN n fun k => (oneM : Mtx LP) r k) = 1 := by
  have e := sumN_single (f := fun k => (oneM : Mtx LP) r k) (k := r) hr (fun k _ hne => if_neg (Ne.symm hne))
  exact e.trans (if_pos rfl)
theorem xM_rowSum {n : Nat} {w : List Int} (hw : okB n w) (z : LP) {i : Nat} (hi : i < n) : (sumN n fun k => xM n z w i k) = z * qn n := by
  show (sumN n fun k => (oneM i k + -(bu n w i k)) + z * tK k) = z * sumN n tK
  rw [sumN_add, sumN_add, sumN_neg, sumN_mul, one_rowSum hi, bu_rowSum hw i hi, add_neg, CR.zero_add]
theorem tau_col {n : Nat} {w : List Int} (hw : okB n w) {j : Nat} (hj : j < n) : (sumN n fun l => tK l * (oneM l j + -(bu n w l j))) = 0 := by
  have e : (sumN n fun l => tK l * (oneM l j + -(bu n w l j))) = sumN n fun l => tK l * oneM l j + -(tK l * bu n w l j) := sumN_congr fun l _ => by rw [mul_add, mul_neg]
  rw [e, sumN_add, sumN_neg, bu_row hw j hj, sumN_single (k := j) hj (fun l _ hne => by rw [show (oneM : Mtx LP) l j = 0 from if_neg hne, mul_zero]), show (oneM : Mtx LP) j j = 1 from if_pos rfl, CR.mul_one, add_neg]
/-- The determinant with the rows 1, t, t^2, .. added. -/
theorem det_xM {N : Nat} {w : List Int} (hw : okB (N + 1) w) (z : LP) : tK N * detR (N + 1) (xM (N + 1) z w) = z * (qn (N + 1) * qn (N + 1)) * adet (N + 1) w := by
  -- the last column becomes the sum of all columns
  have h1 := det_rowSum (n := N + 1) (r := N) (turnM (xM (N + 1) z w)) (fun _ => 1) (by omega)
  rw [CR.one_mul, detR_turn] at h1
  have h2 : detR (N + 1) (updR (turnM (xM (N + 1) z w)) N fun j => sumN (N + 1) fun l => 1 * turnM (xM (N + 1) z w) l j) = (z * qn (N + 1)) * detR (N + 1) (updR (turnM (xM (N + 1) z w)) N fun _ => 1) := by
    rw [← (detR_alt (N + 1)).smul _ N _ _ (by omega)]
    refine detR_congr fun i hi j hj => ?_
    by_cases e : i = N
    · subst e
      rw [updR_same, updR_same, CR.mul_one, ← xM_rowSum hw z hj]
      exact sumN_congr fun l _ => CR.one_mul _
    · rw [updR_ne _ _ e, updR_ne _ _ e]
  -- the other columns lose their multiples of it
  have h3 := det_clear (N := N) (updR (turnM (xM (N + 1) z w)) N fun _ => 1) (fun l => -(z * tK l)) N (Nat.le_refl _)
  have h4 : detR (N + 1) (fun i j => if i < N then updR (turnM (xM (N + 1) z w)) N (fun _ => 1) i j + -(z * tK i) * updR (turnM (xM (N + 1) z w)) N (fun _ => 1) N j else updR (turnM (xM (N + 1) z w)) N (fun _ => 1) i j) = detR (N + 1) (turnM fun i j => if j < N then oneM i j + -(bu (N + 1) w i j) else 1) := detR_congr fun i hi j hj => by
    show _ = if i < N then oneM j i + -(bu (N + 1) w j i) else 1
    by_cases h : i < N
    · rw [if_pos h, if_pos h, updR_ne _ _ (by omega), updR_same, CR.mul_one]
      show ((oneM j i + -(bu (N + 1) w j i)) + z * tK i) + -(z * tK i) = _
      rw [add_assoc, add_neg, add_zero]
    · have e : i = N := by omega
      subst e
      rw [if_neg h, if_neg h, updR_same]
  -- the last row becomes the sum of all rows with their powers of t
  have h5 := det_rowSum (n := N + 1) (r := N) (fun i j => if j < N then oneM i j + -(bu (N + 1) w i j) else (1 : LP)) tK (by omega)
  have h6 : detR (N + 1) (updR (fun i j => if j < N then oneM i j + -(bu (N + 1) w i j) else (1 : LP)) N fun j => sumN (N + 1) fun l => tK l * (if j < N then oneM l j + -(bu (N + 1) w l j) else 1)) = qn (N + 1) * adet (N + 1) w := by
    have e := det_border (N := N) (fun i j => oneM i j + -(bu (N + 1) w i j)) (fun _ => (1 : LP)) (qn (N + 1))
    refine Eq.trans (detR_congr fun i hi j hj => ?_) e
    by_cases h : i < N
    · rw [updR_ne _ _ (by omega), if_pos h]
    · have e : i = N := by omega
      subst e
      rw [updR_same, if_neg h]
      by_cases hj2 : j < i
      · rw [if_neg (by omega)]
        refine Eq.trans (sumN_congr fun l _ => by rw [if_pos hj2]) (tau_col hw (by omega))
      · rw [if_pos (by omega)]
        exact sumN_congr fun l _ => by rw [if_neg hj2, CR.mul_one]
  have h5' : qn (N + 1) * adet (N + 1) w = tK N * detR (N + 1) (fun i j => if j < N then oneM i j + -(bu (N + 1) w i j) else (1 : LP)) := h6.symm.trans h5
  rw [← h1, h2, ← h3, h4, detR_turn]
  have : z * (qn (N + 1) * qn (N + 1)) * adet (N + 1) w = (z * qn (N + 1)) * (qn (N + 1) * adet (N + 1) w) := by ac_rfl
  rw [this, h5']
  ac_rfl
end Go.Proofs.Ytndgffiihbdppaa
/- ALEXANDER: conjugates and inverses (mathematics of stage 16). -/
namespace Go.Proofs.Ytndgffiihbdppaa
set_option linter.unusedVariables false
set_option linter.unusedSimpArgs false
open CR

theorem lp_mul_ne {x y : LP} (hx : x ≠ 0) (hy : y ≠ 0) : x * y ≠ 0 := fun h => by
  have hne : ∀ z : LP, z ≠ 0 → (LP.canon z).2 ≠ [] := fun z hz e => hz (by rw [← LP.of_canon z, e]; rfl)
  have h1 := LP.canon_mul (LP.canon_cano x) (LP.canon_cano y) (hne x hx) (hne y hy)
  rw [LP.of_canon, LP.of_canon, h] at h1
  have l1 := List.length_pos_iff.2 (hne x hx)
  have l2 := List.length_pos_iff.2 (hne y hy)
  have h2 : (LP.canon (0 : LP)).2 = [] := by
    have := LP.canon_of (lo := 0) (cs := []) (.inl ⟨rfl, rfl⟩)
    rw [show LP.of 0 [] = (0 : LP) from rfl] at this
    rw [this]
  rw [h2] at h1
  have := h1.2
  simp at this
  omega
theorem lp_cancel {q x y : LP} (hq : q ≠ 0) (h : q * x = q * y) : x = y := by
  have h1 : q * (x + -y) = 0 := by rw [mul_add, mul_neg, h, add_neg]
  have h2 : x + -y = 0 := Classical.byContradiction fun hn => lp_mul_ne hq hn h1
  have h3 : x + -y + y = 0 + y := by rw [h2]
  rwa [add_assoc, neg_add, add_zero, CR.zero_add] at h3
theorem ev_tK (k : Nat) : LP.ev false (tK k) = 1 := by
  unfold tK LP.ev
  rw [LP.lin_term]
  unfold LP.pw
  simp
theorem qn_ne {n : Nat} (h : 1 ≤ n) : qn n ≠ 0 := fun e => by
  have h1 : LP.ev false (qn n) = (n : Int) := by
    unfold qn
    rw [ev_sumN, sumN_congr fun i _ => ev_tK i]
    clear h e
    induction n with
    | zero => rfl
    | succ n ih => rw [sumN_succ, ih]; rfl
  rw [e, ev_zero] at h1
  omega
/-- 1 or -1 times a power of t. -/
def UnT (u : LP) : Prop := ∃ e s : Int, (s = 1 ∨ s = -1) ∧ u = LP.term e s
theorem UnT.mul {u v : LP} (hu : UnT u) (hv : UnT v) : UnT (u * v) := by
  obtain ⟨e, s, hs, rfl⟩ := hu
  obtain ⟨f, r, hr, rfl⟩ := hv
  exact ⟨e + f, s * r, by rcases hs with rfl | rfl <;> rcases hr with rfl | rfl <;> decide, by rw [LP.term_mul]⟩
theorem UnT.neg {u : LP} (hu : UnT u) : UnT (-u) := by
  obtain ⟨e, s, hs, rfl⟩ := hu
  refine ⟨e, -s, by rcases hs with rfl | rfl <;> decide, LP.ext fun k => ?_⟩
  rw [LP.co_neg, LP.co_term, LP.co_term]
  split <;> rfl
theorem UnT.one : UnT 1 := ⟨0, 1, .inl rfl, rfl⟩
theorem UnT.tK (k : Nat) : UnT (tK k) := ⟨k, 1, .inl rfl, rfl⟩
theorem UnT.inv {u : LP} (hu : UnT u) : ∃ v, UnT v ∧ u * v = 1 ∧ v * u = 1 := by
  obtain ⟨e, s, hs, rfl⟩ := hu
  refine ⟨LP.term (-e) s, ⟨_, s, hs, rfl⟩, ?_, ?_⟩
  · rw [LP.term_mul, show e + -e = 0 by omega]; rcases hs with rfl | rfl <;> rfl
  · rw [LP.term_mul, show -e + e = 0 by omega]; rcases hs with rfl | rfl <;> rfl
theorem UnT.solve {u v x y : LP} (hu : UnT u) (hv : UnT v) (h : u * x = v * y) : ∃ r, UnT r ∧ x = r * y := by
  obtain ⟨i, hi, _, h2⟩ := hu.inv
  refine ⟨i * v, hi.mul hv, ?_⟩
  have : i * (u * x) = i * (v * y) := by rw [h]
  rwa [← CR.mul_assoc, h2, CR.one_mul, ← CR.mul_assoc] at this
/-! ### determinants of words -/
theorem dN_range {n : Nat} (h : n ≤ 100) (A : Mtx LP) : dN n (List.range n) A = detR n A := detR_congr fun i hi j hj => by
  unfold matQ stkR
  have e : (List.range n).getD i 0 = i := by simp [List.getD, hi]
  rw [e, if_pos (by omega)]
theorem det_opL {n : Nat} (hn : n ≤ 6) {x : Int} (h0 : x ≠ 0) (hx : x.natAbs < n) (A : Mtx LP) : ∃ u, UnT u ∧ detR n (opL x A) = u * detR n A := by
  rw [← dN_range (by omega) (opL x A), ← dN_range (by omega) A]
  obtain ⟨p, hp⟩ : ∃ p, x.natAbs = p + 1 := ⟨x.natAbs - 1, by omega⟩
  have g : ∀ i, i < n → (List.range n).getD i 0 = i := fun i hi => by simp [List.getD, hi]
  unfold opL
  rw [hp] at hx ⊢
  by_cases hpos : 0 < x
  · rw [if_pos hpos]
    refine ⟨-tT, UnT.neg ⟨1, 1, .inl rfl, rfl⟩, ?_⟩
    refine dN_two (r := p) (s := p + 1) (by omega) (by omega) (by omega) (fun i hi h1 h2 => ?_) (1 + -tT) tT ?_ ?_
    · rw [g i hi]; exact stk_opP_ne _ _ (by omega) (by omega)
    · rw [g p (by omega), g (p + 1) (by omega)]; exact stk_opP_lo (a := p + 1) _ (by omega) (by omega) _
    · rw [g p (by omega), g (p + 1) (by omega)]; exact stk_opP_hi (a := p + 1) _ (by omega) (by omega) _
  · rw [if_neg hpos]
    refine ⟨-tI, UnT.neg ⟨-1, 1, .inl rfl, rfl⟩, ?_⟩
    refine dN_two (r := p + 1) (s := p) (by omega) (by omega) (by omega) (fun i hi h1 h2 => ?_) (1 + -tI) tI ?_ ?_
    · rw [g i hi]; exact stk_opN_ne _ _ (by omega) (by omega)
    · rw [g p (by omega), g (p + 1) (by omega)]; exact stk_opN_hi (a := p + 1) _ (by omega) (by omega) _
    · rw [g p (by omega), g (p + 1) (by omega)]; exact stk_opN_lo (a := p + 1) _ (by omega) (by omega) _
theorem det_opW {n : Nat} (hn : n ≤ 6) : ∀ {w : List Int}, okB n w → ∀ A : Mtx LP, ∃ u, UnT u ∧ detR n (opW w A) = u * detR n A
  | [], _, A => ⟨1, UnT.one, by rw [CR.one_mul]; rfl⟩
  | x :: w, h, A => by
    obtain ⟨u, hu, e⟩ := det_opW hn (w := w) (fun y hy => h y (by simp [hy])) A
    obtain ⟨v, hv, e2⟩ := det_opL hn (h x (by simp)).1 (h x (by simp)).2 (opW w A)
    exact ⟨v * u, hv.mul hu, by show detR n (opL x (opW w A)) = _; rw [e2, e, CR.mul_assoc]⟩
theorem det_buU {n : Nat} (hn : n ≤ 6) {w : List Int} (h : okB n w) : UnT (detR n (bu n w)) := by
  obtain ⟨u, hu, e⟩ := det_opW hn h oneM
  rw [detR_one, CR.mul_one] at e
  rw [detR_congr fun i hi j hj => bu_op h i hi j hj, e]
  exact hu
theorem det_minus (n : Nat) (M : Mtx LP) : ∃ u, UnT u ∧ detR n (fun i j => -(M i j)) = u * detR n M := by
  refine ⟨detR n (fun i j => if i = j then (-1 : LP) else 0), ?_, ?_⟩
  · rw [detR_tri n _ (fun i j _ h => if_neg (by omega))]
    induction n with
    | zero => exact UnT.one
    | succ n ih =>
      show UnT (diagP _ n * (if n = n then (-1 : LP) else 0))
      rw [if_pos rfl]
      exact ih.mul UnT.one.neg
  · rw [← detR_mul]
    refine detR_congr fun i hi j hj => ?_
    show -(M i j) = sumN n fun k => (if i = k then (-1 : LP) else 0) * M k j
    rw [sumN_single (k := i) hi (fun k _ hne => by rw [if_neg (Ne.symm hne), zero_mul]), if_pos rfl, CR.neg_mul, CR.one_mul]
/-! ### the inverse -/
theorem bu_invw {n : Nat} {w : List Int} (h : okB n w) (h' : okB n (invw w)) : EqM n (mulM n (bu n w) (bu n (invw w))) oneM := by
  have ha : okB n (w ++ invw w) := fun x hx => by
    rcases List.mem_append.1 hx with hx | hx
    · exact h x hx
    · exact h' x hx
  refine ((bu_append n w (invw w)).symm.trans (bu_op ha)).trans ?_
  rw [opW_inv w (fun x hx => (h x hx).1)]
  exact EqM.refl _ _
theorem adet_inv {N : Nat} (hN : N ≤ 5) {w : List Int} (h : okB (N + 1) w) (h' : okB (N + 1) (invw w)) : ∃ r, UnT r ∧ adet (N + 1) (invw w) = r * adet (N + 1) w := by
  have hm : EqM (N + 1) (mulM (N + 1) (bu (N + 1) w) (xM (N + 1) 1 (invw w))) fun i j => -(xM (N + 1) (-1) w i j) := fun i hi j hj => by
    show (sumN (N + 1) fun k => bu (N + 1) w i k * ((oneM k j + -(bu (N + 1) (invw w) k j)) + 1 * tK j)) = -((oneM i j + -(bu (N + 1) w i j)) + -1 * tK j)
    have e : (sumN (N + 1) fun k => bu (N + 1) w i k * ((oneM k j + -(bu (N + 1) (invw w) k j)) + 1 * tK j)) = sumN (N + 1) fun k => (bu (N + 1) w i k * oneM k j + -(bu (N + 1) w i k * bu (N + 1) (invw w) k j)) + tK j * bu (N + 1) w i k := sumN_congr fun k _ => by
      rw [mul_add, mul_add, mul_neg, CR.one_mul, CR.mul_comm (tK j)]
    have e1 := EqM.mul_one (N + 1) (bu (N + 1) w) i hi j hj
    have e2 := bu_invw h h' i hi j hj
    have e3 := bu_rowSum h i hi
    rw [e, sumN_add, sumN_add, sumN_neg, sumN_mul, e3, CR.mul_one]
    rw [show (sumN (N + 1) fun k => bu (N + 1) w i k * oneM k j) = bu (N + 1) w i j from e1, show (sumN (N + 1) fun k => bu (N + 1) w i k * bu (N + 1) (invw w) k j) = oneM i j from e2]
    rw [CR.neg_mul, CR.one_mul]
    refine LP.ext fun k => ?_
    simp only [LP.co_add, LP.co_neg]
    omega
  have hd : detR (N + 1) (bu (N + 1) w) * detR (N + 1) (xM (N + 1) 1 (invw w)) = detR (N + 1) fun i j => -(xM (N + 1) (-1) w i j) := by
    rw [← detR_mul]
    exact detR_congr fun i hi j hj => hm i hi j hj
  obtain ⟨u, hu, eu⟩ := det_minus (N + 1) (xM (N + 1) (-1) w)
  rw [eu] at hd
  have d1 := det_xM h' (N := N) 1
  have d2 := det_xM h (N := N) (-1)
  have hB := det_buU (show N + 1 ≤ 6 by omega) h
  generalize detR (N + 1) (bu (N + 1) w) = b at *
  generalize detR (N + 1) (xM (N + 1) 1 (invw w)) = x1 at *
  generalize detR (N + 1) (xM (N + 1) (-1) w) = x2 at *
  generalize adet (N + 1) (invw w) = c1 at *
  generalize adet (N + 1) w = c2 at *
  have hq := qn_ne (n := N + 1) (by omega)
  generalize qn (N + 1) = q at *
  generalize tK N = t at *
  have hqq : q * q ≠ 0 := lp_mul_ne hq hq
  have e1 : (q * q) * (b * c1) = (q * q) * (-u * c2) := by
    have f1 : b * (t * x1) = u * (t * x2) := by
      rw [show b * (t * x1) = t * (b * x1) by ac_rfl, hd]; ac_rfl
    rw [d1, d2, CR.one_mul] at f1
    rw [show (q * q) * (b * c1) = b * ((q * q) * c1) by ac_rfl, f1, CR.neg_mul, CR.one_mul, CR.neg_mul, CR.neg_mul, mul_neg, mul_neg]
    congr 1
    ac_rfl
  exact hB.solve hu.neg (lp_cancel hqq e1)
end Go.Proofs.Ytndgffiihbdppaa
/- ALEXANDER: the conjugate (mathematics of stage 16). -/
namespace Go.Proofs.Ytndgffiihbdppaa
set_option linter.unusedVariables false
set_option linter.unusedSimpArgs false
open CR

theorem cj_term (e s : Int) : LP.conj (LP.term e s) = LP.term (-e) s := LP.ext fun k => by rw [LP.co_conj, LP.co_term, LP.co_term]; grind
end Go.Proofs.Ytndgffiihbdppaa
/- Where strands end: permutations of braid words (mathematics). -/
namespace Go.Proofs.Ytndgffiihbdppaa
set_option linter.unusedVariables false
set_option linter.unusedSimpArgs false

theorem endsL_getD {n j : Nat} (w : List Int) (hj : j < n) : (endsL n w).getD j 0 = endE w j := by
  simp [endsL, List.getD, hj]
theorem endE_inj {w : List Int} (h : ∀ x ∈ w, x ≠ 0) {s t : Nat} (e : endE w s = endE w t) : s = t := by
  have h1 := endE_inv w h s
  have h2 := endE_inv w h t
  rw [endE_append] at h1 h2
  rw [← h1, e, h2]
theorem ends_isP {n : Nat} {w : List Int} (h : okB n w) : isP (endsL n w) := by
  refine ⟨fun x hx => ?_, ?_⟩
  · rw [endsL_length]
    obtain ⟨s, hs, rfl⟩ := List.mem_map.1 hx
    exact endE_lt h (List.mem_range.1 hs)
  · unfold endsL
    rw [List.nodup_iff_pairwise_ne, List.pairwise_map]
    exact List.nodup_range.imp fun hne e => hne (endE_inj (fun x hx => (h x hx).1) e)
theorem okB_invw {n : Nat} {x : List Int} (hx : okB n x) : okB n (invw x) := fun y hy => by
  have h : y ∈ (x.map fun z => -z).reverse ∨ y ∈ x.reverse.map fun z => -z := by
    first | (left; simpa [invw] using hy) | (right; simpa [invw] using hy)
  have h2 : ∃ z ∈ x, -z = y := by
    rcases h with h | h
    · simpa using h
    · simpa using h
  obtain ⟨z, hz, rfl⟩ := h2
  have := hx z hz
  omega
end Go.Proofs.Ytndgffiihbdppaa
/- Components of a closed braid, and colorings modulo 2 (mathematics of stage 16). -/
namespace Go.Proofs.Ytndgffiihbdppaa
set_option linter.unusedVariables false
set_option linter.unusedSimpArgs false

/-- The strands of each component, in increasing order; the components by their smallest strands. -/
def prtL (a : List Nat) : List (List Nat) := ((List.range a.length).filter fun i => isMin a i).map fun i => (List.range a.length).filter fun j => decide (j ∈ cyc a i)
/-- The smallest strand of a component. -/
def repS (a : List Nat) (s : Nat) : Nat := srch (fun p => isMin a p && decide (p ∈ cyc a s)) a.length 0
theorem isMin_iff {a : List Nat} {i : Nat} : isMin a i = true ↔ ∀ x ∈ cyc a i, i ≤ x := by unfold isMin; exact decide_eq_true_iff
theorem repS_spec {a : List Nat} (h : isP a) {s : Nat} (hs : s < a.length) : repS a s < a.length ∧ repS a s ∈ cyc a s ∧ isMin a (repS a s) = true := by
  obtain ⟨m, h1, h2, h3⟩ := min_ex h hs
  obtain ⟨k1, k2, k3, _⟩ := srch_spec (fun p => isMin a p && decide (p ∈ cyc a s)) a.length 0 ⟨m, Nat.zero_le _, by omega, by rw [h3, decide_eq_true h2]; rfl⟩
  rw [Bool.and_eq_true, decide_eq_true_iff] at k3
  exact ⟨by unfold repS; omega, k3.2, k3.1⟩
theorem repS_le {a : List Nat} (h : isP a) {s : Nat} (hs : s < a.length) : repS a s ≤ s := by
  obtain ⟨h1, h2, h3⟩ := repS_spec h hs
  exact isMin_iff.1 h3 s (cyc_symm h hs h2)
theorem repS_min {a : List Nat} (h : isP a) {s : Nat} (hs : s < a.length) : repS a s = s ↔ isMin a s = true := by
  obtain ⟨h1, h2, h3⟩ := repS_spec h hs
  refine ⟨fun e => by rw [e] at h3; exact h3, fun hm => ?_⟩
  have := isMin_iff.1 hm _ h2
  have := repS_le h hs
  omega
/-! ### colors modulo 2 -/
end Go.Proofs.Ytndgffiihbdppaa
/- The value of the Alexander determinant at 1 (mathematics of stage 16). -/
namespace Go.Proofs.Ytndgffiihbdppaa
set_option linter.unusedVariables false
set_option linter.unusedSimpArgs false
open CR

theorem pw_false (e : Int) : LP.pw false e = 1 := by unfold LP.pw; simp
theorem ev1_term (e s : Int) : LP.ev false (LP.term e s) = s := by
  unfold LP.ev
  rw [LP.lin_term, pw_false, Int.mul_one]
theorem ev1_opW {n : Nat} : ∀ {w : List Int}, okB n w → ∀ i j, i < n → LP.ev false (opW w oneM i j) = if endE w i = j then 1 else 0
  | [], _, i, j, _ => by
    show LP.ev false ((oneM : Mtx LP) i j) = if i = j then 1 else 0
    unfold oneM
    split
    · exact ev_one _
    · rfl
  | x :: w, h, i, j, hi => by
    obtain ⟨h0, h1⟩ := h x (by simp)
    have ih := fun i j hi => ev1_opW (w := w) (fun y hy => h y (by simp [hy])) i j hi
    have hs := stepE_lt h0 h1 hi
    show LP.ev false (opL x (opW w oneM) i j) = if endE w (stepE i x) = j then 1 else 0
    rw [← ih (stepE i x) j hs]
    have eT : LP.ev false tT = 1 := ev1_term 1 1
    have eI : LP.ev false tI = 1 := ev1_term (-1) 1
    unfold opL stepE
    by_cases hp : 0 < x
    · rw [if_pos hp]
      unfold opP
      by_cases e1 : i + 1 = x.natAbs
      · rw [if_pos e1, if_pos e1, LP.ev_add, LP.ev_mul, LP.ev_mul, LP.ev_add, ev_neg, ev_one, eT]
        omega
      · rw [if_neg e1, if_neg e1]
        by_cases e2 : i = x.natAbs
        · rw [if_pos e2, if_pos e2]
        · rw [if_neg e2, if_neg e2]
    · rw [if_neg hp]
      unfold opN
      by_cases e1 : i + 1 = x.natAbs
      · rw [if_pos e1, if_pos e1]
      · rw [if_neg e1, if_neg e1]
        by_cases e2 : i = x.natAbs
        · rw [if_pos e2, if_pos e2, LP.ev_add, LP.ev_mul, LP.ev_mul, LP.ev_add, ev_neg, ev_one, eI]
          omega
        · rw [if_neg e2, if_neg e2]
/-- Determinants of matrices with many zeros. -/
def detZ : Nat → Mtx Int → Int
  | 0, _ => 1
  | n + 1, M => sumN (n + 1) fun j => if M 0 j = 0 then 0 else sgR Int j * (M 0 j * detZ n fun a b => M (a + 1) (skip j b))
theorem detZ_eq : ∀ (n : Nat) (M : Mtx Int), detZ n M = detR n M
  | 0, _ => rfl
  | n + 1, M => sumN_congr fun j _ => by
    by_cases h : M 0 j = 0
    · rw [if_pos h, h]
      show (0 : Int) = sgR Int j * (0 * _)
      rw [Int.zero_mul, Int.mul_zero]
    · rw [if_neg h, detZ_eq n]
def pM (a : List Nat) : Mtx Int := fun i j => (if i = j then 1 else 0) + -(if a.getD i 0 = j then 1 else 0)
def knotP (n : Nat) (a : List Nat) : Bool := decide (detZ (n - 1) (pM a) = if (prtL a).length = 1 then 1 else 0)
theorem knot2 : allP 2 (knotP 2) 2 [] = true := by decide +kernel
theorem knot3 : allP 3 (knotP 3) 3 [] = true := by decide +kernel
theorem knot4 : allP 4 (knotP 4) 4 [] = true := by decide +kernel
theorem knot5 : allP 5 (knotP 5) 5 [] = true := by decide +kernel
theorem knot6 : allP 6 (knotP 6) 6 [] = true := by decide +kernel
theorem knot_all {n : Nat} (h2 : 2 ≤ n) (h6 : n ≤ 6) {a : List Nat} (ha : isP a) (hl : a.length = n) : knotP n a = true := by
  have key : allP n (knotP n) n [] = true := by
    have : n = 2 ∨ n = 3 ∨ n = 4 ∨ n = 5 ∨ n = 6 := by omega
    rcases this with rfl | rfl | rfl | rfl | rfl
    · exact knot2
    · exact knot3
    · exact knot4
    · exact knot5
    · exact knot6
  exact allP_spec n [] a key hl (by simpa using ha.2) fun b hb => by have := ha.1 b hb; omega
/-- At 1, a knot has the value 1, any other link 0. -/
theorem adet_ev1 {N : Nat} (h1 : 1 ≤ N) (hN : N ≤ 5) {w : List Int} (h : okB (N + 1) w) : LP.ev false (adet (N + 1) w) = if (prtL (endsL (N + 1) w)).length = 1 then 1 else 0 := by
  have hk := of_decide_eq_true (knot_all (n := N + 1) (by omega) (by omega) (ends_isP h) (endsL_length (N + 1) w))
  rw [← hk, detZ_eq]
  unfold adet
  rw [ev_detR]
  refine detR_congr fun i hi j hj => ?_
  rw [LP.ev_add, ev_neg, bu_op h i (by omega) j (by omega), ev1_opW h i j (by omega)]
  unfold pM
  rw [endsL_getD w (show i < N + 1 by omega)]
  congr 1
  unfold oneM
  split
  · exact ev_one _
  · rfl
end Go.Proofs.Ytndgffiihbdppaa
/- The Alexander polynomial as it is returned (mathematics of stage 16). -/
namespace Go.Proofs.Ytndgffiihbdppaa
set_option linter.unusedVariables false
set_option linter.unusedSimpArgs false
open CR

theorem CE.conj {x : LP} {E V : Nat} (h : CE x E V) : CE (LP.conj x) E V :=
  ⟨fun k hk => by rw [LP.co_conj] at hk; have := h.ex _ hk; omega, fun k => by rw [LP.co_conj]; exact h.cf _⟩
theorem UnT.conj {u : LP} (h : UnT u) : UnT (LP.conj u) := by
  obtain ⟨e, s, hs, rfl⟩ := h
  exact ⟨-e, s, hs, cj_term e s⟩
theorem UnT.ev {u : LP} (h : UnT u) (b : Bool) : LP.ev b u = 1 ∨ LP.ev b u = -1 := by
  obtain ⟨e, s, hs, rfl⟩ := h
  unfold LP.ev
  rw [LP.lin_term]
  rcases LP.pw_cases b e with h | h <;> rcases hs with rfl | rfl <;> rw [h] <;> simp
theorem sum_par {f g : Nat → Int} : ∀ {n : Nat}, (∀ i, i < n → (f i - g i) % 2 = 0) → (sumN n f - sumN n g) % 2 = 0
  | 0, _ => rfl
  | n + 1, h => by
    have h1 := sum_par (f := f) (g := g) (n := n) fun i hi => h i (by omega)
    have h2 := h n (by omega)
    rw [sumN_succ, sumN_succ]
    show ((sumN n f : Int) + f n - ((sumN n g : Int) + g n)) % 2 = 0
    omega
/-- The values at 1 and -1 are both odd or both even. -/
theorem ev_par (x : LP) : (LP.ev true x - LP.ev false x) % 2 = 0 := by
  rw [← LP.of_canon x]
  unfold LP.ev
  rw [LP.lin_of, LP.lin_of]
  refine sum_par fun i hi => ?_
  rcases LP.pw_cases true ((LP.canon x).1 + i) with e | e <;> rcases LP.pw_cases false ((LP.canon x).1 + i) with e2 | e2 <;> rw [e, e2] <;> omega
/-- What the law on the parity needs. -/
theorem alex_par {N : Nat} (h1 : 1 ≤ N) (hN : N ≤ 5) {w : List Int} (h : okB (N + 1) w) (h' : okB (N + 1) (invw w)) (hl : w.length ≤ 16) (hb : bfault ((N + 1 : Nat) : Int) w = 0) (hb' : bfault ((N + 1 : Nat) : Int) (invw w) = 0) :
    alD ((N + 1 : Nat) : Int) (invw w) = alD ((N + 1 : Nat) : Int) w ∧ 0 ≤ alD ((N + 1 : Nat) : Int) w ∧ alD ((N + 1 : Nat) : Int) w % 2 = if (prtL (endsL (N + 1) w)).length = 1 then 1 else 0 := by
  have hD : ∀ v : List Int, bfault ((N + 1 : Nat) : Int) v = 0 → v.length ≤ 16 → alD ((N + 1 : Nat) : Int) v = ((LP.ev true (adet (N + 1) v)).natAbs : Int) := fun v hv hvl => by
    unfold alD alP
    rw [if_pos (alE_ok hv (by omega)), ev_norm, Int.toNat_natCast]
  have hli : (invw w).length ≤ 16 := by simp only [invw, List.length_reverse, List.length_map]; exact hl
  obtain ⟨r, hr, hi⟩ := adet_inv hN h h'
  refine ⟨?_, ?_, ?_⟩
  · rw [hD _ hb' hli, hD _ hb hl, hi, LP.ev_mul, Int.natAbs_mul]
    rcases hr.ev true with e | e <;> rw [e] <;> simp
  · rw [hD _ hb hl]; omega
  · rw [hD _ hb hl]
    have hv := adet_ev1 h1 hN h
    have hp := ev_par (adet (N + 1) w)
    rw [hv] at hp
    split at hp
    · rename_i e; rw [if_pos e]; omega
    · rename_i e; rw [if_neg e]; omega
end Go.Proofs.Ytndgffiihbdppaa
/- timbmake.Strands for any greatest number; slices.Concat of two slices. -/
namespace Go.Proofs.Ytndgffiihbdppaa
set_option linter.unusedVariables false
set_option linter.unusedSimpArgs false
open Go.RowKit

set_option maxRecDepth 100000 in
theorem strands_gen (n : Int) (K : Nat) (kz : Int) (hkz : kz = (K : Int) + 1) (h1 : 1 ≤ K) (hK : K ≤ 10) (w : World) : Calls Try.prog 15 #[.int .i64 n, .int .i64 kz] w fun e w' => ∃ T : Nat, 1 ≤ T ∧ T ≤ K ∧ e = .returned (.int .i64 ((T : Int) + 1)) ∧ w = w' := by
  subst hkz
  obtain ⟨p, hp⟩ : ∃ p : Nat, n % (K : Int) = (p : Int) := ⟨(n % (K : Int)).toNat, by have := Int.emod_nonneg n (show (K : Int) ≠ 0 by omega); omega⟩
  have hp5 : p < K := by have := Int.emod_lt_of_pos n (show (0 : Int) < (K : Int) by omega); omega
  have HP := hide hp
  have hadd : IntKind.i64.wrap (2 + (p : Int)) = ((p + 1 : Nat) : Int) + 1 := by rw [IntKind.wrap_i64]; omega
  have HA := hide hadd
  have hs1 : (K : Int) + 1 - 1 = (K : Int) := by omega
  have hs2 : IntKind.i64.wrap (K : Int) = (K : Int) := by rw [IntKind.wrap_i64]; omega
  clear hp hadd
  go_enter Try.func15, Try.ntmps15
  go_wp2_with fail
  refine (mbelow_any n K _ h1 (by omega)).mono ?_
  rintro e w1 ⟨rfl, hww⟩
  subst hww
  rw [HP.out]
  go_wp2_with ((with_reducible show wpList _ _ _ (Oper.mk _ (.binOp .add _ _ _) _ _ _ _ :: _) _ _); refine wpList_gives rfl (gives_add rfl rfl rfl HA.out) ?_)
  go_ret
  exact ⟨p + 1, by omega, by omega, by
    have e : IntKind.i64.wrap (2 + (p : Int)) = ((p + 1 : Nat) : Int) + 1 := HA.out
    first | rfl | (simp; omega) | (simp [e]; omega), rfl⟩
end Go.Proofs.Ytndgffiihbdppaa
/- Maps from integers to integers as lists of terms; a range over one, whatever its order. -/
namespace Go.Proofs.Ytndgffiihbdppaa
set_option linter.unusedVariables false
set_option linter.unusedSimpArgs false
open Go.RowKit Go.Maps

theorem keyI : Keyed Try.prog 3 := int_keyed Try.underlying3
theorem keyI_mk {x : Int} (h : (Lit.int .i64 x).wf = true) : keyOf Try.prog 3 (.int .i64 x) = some (.int .i64 x) := keyOf_int_mk Try.underlying3 h
theorem wfI {x : Int} (h : x.natAbs ≤ 4000000000000000000) : (Lit.int .i64 x).wf = true := by
  have h1 : IntKind.i64.min = -9223372036854775808 := by decide
  simp [Lit.wf, h1]
  omega
/-- The element at a key. -/
def lookT : List Tm → Int → Option Int
  | [], _ => none
  | (e, c) :: l, x => if e = x then some c else lookT l x
def lookV (o : List Tm) : Value → Option Value
  | .int .i64 x => (lookT o x).map (Value.int .i64)
  | _ => none
theorem lookT_of_mem : ∀ {o : List Tm} {x c : Int}, (o.map (·.1)).Nodup → (x, c) ∈ o → lookT o x = some c
  | (e, d) :: l, x, c, hn, h => by
    have hn' := List.nodup_cons.1 hn
    unfold lookT
    rcases List.mem_cons.1 h with h | h
    · injection h with h1 h2
      subst h1; subst h2
      rw [if_pos rfl]
    · have : e ≠ x := fun e' => hn'.1 (by rw [e']; exact List.mem_map.2 ⟨(x, c), h, rfl⟩)
      rw [if_neg this]
      exact lookT_of_mem hn'.2 h
theorem coefT_not {o : List Tm} {x : Int} (h : ∀ p ∈ o, p.1 ≠ x) : coefT o x = 0 := by
  induction o with
  | nil => rfl
  | cons p l ih =>
    show (if p.1 = x then p.2 else 0) + coefT l x = 0
    rw [if_neg (h p (by simp)), ih fun q hq => h q (by simp [hq])]
    rfl
theorem coefT_look : ∀ {o : List Tm} {x : Int}, (o.map (·.1)).Nodup → coefT o x = (lookT o x).getD 0
  | [], x, _ => rfl
  | (e, d) :: l, x, hn => by
    have hn' := List.nodup_cons.1 hn
    show (if e = x then d else 0) + coefT l x = _
    unfold lookT
    by_cases h : e = x
    · rw [if_pos h, if_pos h, coefT_not fun p hp e' => hn'.1 (by rw [h, ← e']; exact List.mem_map.2 ⟨p, hp, rfl⟩)]
      show d + 0 = d
      omega
    · rw [if_neg h, if_neg h, coefT_look hn'.2, Int.zero_add]
/-- v is put at x. -/
def putT : List Tm → Int → Int → List Tm
  | [], x, v => [(x, v)]
  | (e, c) :: l, x, v => if e = x then (x, v) :: l else (e, c) :: putT l x v
theorem putT_keys : ∀ (o : List Tm) (x v : Int), ∀ p ∈ putT o x v, p ∈ o ∨ p = (x, v)
  | [], x, v, p, h => .inr (by simpa [putT] using h)
  | (e, c) :: l, x, v, p, h => by
    unfold putT at h
    by_cases he : e = x
    · rw [if_pos he] at h
      rcases List.mem_cons.1 h with h | h
      · exact .inr h
      · exact .inl (List.mem_cons_of_mem _ h)
    · rw [if_neg he] at h
      rcases List.mem_cons.1 h with h | h
      · exact .inl (by rw [h]; exact List.mem_cons_self)
      · rcases putT_keys l x v p h with h | h
        · exact .inl (List.mem_cons_of_mem _ h)
        · exact .inr h
theorem putT_look : ∀ (o : List Tm) (x v y : Int), lookT (putT o x v) y = if y = x then some v else lookT o y
  | [], x, v, y => by
    show (if x = y then some v else none) = if y = x then some v else none
    by_cases h : x = y
    · rw [if_pos h, if_pos h.symm]
    · rw [if_neg h, if_neg fun e => h e.symm]
  | (e, c) :: l, x, v, y => by
    unfold putT
    by_cases he : e = x
    · rw [if_pos he]
      show (if x = y then some v else lookT l y) = if y = x then some v else if e = y then some c else lookT l y
      by_cases h : x = y
      · rw [if_pos h, if_pos h.symm]
      · rw [if_neg h, if_neg fun e' => h e'.symm, if_neg (by omega)]
    · rw [if_neg he]
      show (if e = y then some c else lookT (putT l x v) y) = if y = x then some v else if e = y then some c else lookT l y
      rw [putT_look l x v y]
      by_cases h : e = y
      · rw [if_pos h, if_pos h, if_neg (by omega)]
      · rw [if_neg h, if_neg h]
theorem putT_nodup : ∀ (o : List Tm) (x v : Int), (o.map (·.1)).Nodup → ((putT o x v).map (·.1)).Nodup
  | [], x, v, _ => by simp [putT]
  | (e, c) :: l, x, v, h => by
    have h' := List.nodup_cons.1 h
    unfold putT
    by_cases he : e = x
    · rw [if_pos he]
      subst he
      exact h
    · rw [if_neg he]
      refine List.nodup_cons.2 ⟨fun hm => ?_, putT_nodup l x v h'.2⟩
      obtain ⟨p, hp, e1⟩ := List.mem_map.1 hm
      rcases putT_keys l x v p hp with h1 | h1
      · exact h'.1 (by rw [← show p.1 = e from e1]; exact List.mem_map.2 ⟨p, h1, rfl⟩)
      · rw [h1] at e1
        exact he e1.symm
theorem putT_length : ∀ (o : List Tm) (x v : Int), (putT o x v).length = if (lookT o x).isSome then o.length else o.length + 1
  | [], x, v => rfl
  | (e, c) :: l, x, v => by
    unfold putT lookT
    by_cases he : e = x
    · rw [if_pos he, if_pos he]; rfl
    · rw [if_neg he, if_neg he]
      show (putT l x v).length + 1 = _
      rw [putT_length l x v]
      split <;> rfl
/-- Block b is a map with just the entries o. -/
structure MapI (w : World) (b : Nat) (o : List Tm) : Prop where
  dict : Dict Try.prog 3 w b o.length (lookV o)
  nodup : (o.map (·.1)).Nodup
section
variable {w w' : World} {b : Nat} {o : List Tm}
theorem MapI.lt (h : MapI w b o) : b < w.heap.size := h.dict.lt
theorem MapI.below (h : MapI w b o) (hb : Below w.heap.size w w') : MapI w' b o := ⟨h.dict.below hb, h.nodup⟩
theorem MapI.kept {row : Option Nat} (h : MapI w b o) (hg : w.grownBy w' row) (hne : some b ≠ row) : MapI w' b o := ⟨h.dict.kept hg hne, h.nodup⟩
theorem MapI.made (w : World) : MapI (w.alloc (.map #[] 0)) w.heap.size [] := ⟨(Dict.made w _ _).congr rfl fun key kl _ => by unfold lookV; split <;> rfl, List.nodup_nil⟩
theorem MapI.store (h : MapI w b o) {t : TypeId} (ht : Try.prog.underlying t = some (.map 3 3)) {x v : Int} (hx : (Lit.int .i64 x).wf = true) (hn : o.length < 1000000) :
    ∃ w', (Instr.mapUpdate t (.map (some b)) (.int .i64 x) (.int .i64 v)).run Try.prog w = .ok () w' ∧ MapI w' b (putT o x v) ∧ w.grownBy w' (some b) ∧ w'.heap.size = w.heap.size := by
  obtain ⟨w', h1, h2, h3, h4⟩ := h.dict.store keyI ht (by unfold maxLen; omega) (keyI_mk hx) (.int .i64 v) (f' := lookV (putT o x v)) (by
    show ((lookT (putT o x v) x).map _) = _
    rw [putT_look, if_pos rfl]; rfl) (fun y l hy hne => by
    obtain ⟨z, rfl, _, _⟩ := keyOf_int_inv Try.underlying3 hy
    show ((lookT (putT o x v) z).map _) = (lookT o z).map _
    rw [putT_look, if_neg fun e => hne (by rw [e])])
  refine ⟨w', h1, ⟨h2.congr ?_ fun _ _ _ => rfl, putT_nodup o x v h.nodup⟩, h3, h4⟩
  rw [putT_length]
  show (if ((lookT o x).map (Value.int .i64)).isSome = true then _ else _) = _
  rw [Option.isSome_map]
end

/-! ### a range -/
/-- A range over the map with entries T: done and rem(aining). -/
structure RangeI (w : World) (b r : Nat) (T done rem : List Tm) (cnt : Nat) : Prop where
  nodup : (T.map (·.1)).Nodup
  perm : (done ++ rem).Perm T
  run : ∃ (n : Nat) (D : DataW Value) (left : Lit → Bool), w.ranges Try.prog 3 HR b r n D left cnt ∧ (∀ p ∈ T, ∀ z, D.atKey (.int .i64 p.1) z = .held (.int .i64 p.2)) ∧ (∀ x : Int, (Lit.int .i64 x).wf = true → (left (.int .i64 x) = true ↔ ∃ c, (x, c) ∈ rem)) ∧ ∀ p ∈ T, (Lit.int .i64 p.1).wf = true
section
variable {w w' : World} {b r cnt : Nat} {T done rem : List Tm}
theorem RangeI.kept {row : Option Nat} (h : RangeI w b r T done rem cnt) (hg : w.grownBy w' row) (hb : some b ≠ row) (hr : some r ≠ row) : RangeI w' b r T done rem cnt := by
  obtain ⟨n, D, left, h1, h2⟩ := h.run
  exact ⟨h.nodup, h.perm, n, D, left, h1.kept hg hb hr, h2⟩
theorem RangeI.lt (h : RangeI w b r T done rem cnt) : r < w.heap.size := by
  obtain ⟨n, D, left, h1, _⟩ := h.run
  exact h1.lt
theorem RangeI.mem (h : RangeI w b r T done rem cnt) : ∀ p ∈ done, p ∈ T := fun p hp => h.perm.subset (List.mem_append_left _ hp)
end
section
variable (w : World) {ops : Array Oper} {rest : List Oper} {o : Oper} {a : Act} {Q : Exit → Act → World → Prop}
end
end Go.Proofs.Ytndgffiihbdppaa
/- timbkeep1.jonesed, timbkeep1.JonesMirror, for packages that answer as they should. -/
namespace Go.Proofs.Ytndgffiihbdppaa
set_option linter.unusedVariables false
set_option linter.unusedSimpArgs false
open Go.RowKit

theorem keep_lit (la : Int) (xs : List Int) (w : World) (A : Option Addr) (n c : Nat) (B : Option Addr) (m d : Nat) (ha : SL w A n c xs) (hb : SL w B m d xs) :
    Calls Try.prog 24 #[PV la A n c, PV la B m d] w fun e w' => e = .returned (.bool true) ∧ Below w.heap.size w w' := by
  have h := same_k la A n c xs la B m d xs w ha hb
  rw [show (decide (la = la) && eqB xs xs) = true by rw [eqB_true rfl]; simp] at h
  exact h

end Go.Proofs.Ytndgffiihbdppaa
/- timbkeep1.alexandered. -/
namespace Go.Proofs.Ytndgffiihbdppaa
set_option linter.unusedVariables false
set_option linter.unusedSimpArgs false
open Go.RowKit

set_option maxRecDepth 100000 in
set_option maxHeartbeats 4000000 in
theorem alexandered_k (F : AlexC) (w : World) : Calls Try.prog 23 #[] w fun e w' => e = .returned (.bool true) ∧ Below w.heap.size w w' := by
  have HF := hide F
  have HW := hide ((Below.refl w.heap.size w).alloc (Nat.le_refl _) (.cells #[.int .i64 1, .int .i64 1, .int .i64 1] 3))
  have HS := hide (SL.lit w [1, 1, 1] (by decide) rfl rfl)
  clear F
  go_enter Try.func23, Try.ntmps23
  go_wp2_with fail
  refine (HF.out.poly 2 _ 3 3 [1, 1, 1] _ HS.out (by decide) alF_2).mono ?_
  rintro e w1 ⟨P, pn, pc, rfl, hs, hn, hb⟩
  dsimp only at hs ⊢
  rw [al_111.1]
  rw [al_111.2.1] at hs
  replace HW := hide (HW.out.trans (hb.mono HW.out.size))
  have SP := hide hs
  clear hs hn hb HS
  go_upto_region 2 with fail
  have hb : Below w1.heap.size w1 (w1.alloc (.cells #[.int .i64 0, .slice P pn pc] 36)) := (Below.refl _ _).alloc (Nat.le_refl _) _
  have BP := hide (Blk.new w1 36 #[.int .i64 0, .slice P pn pc])
  replace HW := hide (HW.out.trans (hb.mono HW.out.size))
  replace SP := hide (SP.out.below hb)
  obtain ⟨bp, hq⟩ : ∃ q, w1.heap.size = q := ⟨_, rfl⟩
  obtain ⟨w2, hw⟩ : ∃ x, w1.alloc (.cells #[.int .i64 0, .slice P pn pc] 36) = x := ⟨_, rfl⟩
  rw [hw] at BP HW SP ⊢
  rw [hq] at BP ⊢
  clear hb hq hw
  have hb : Below w2.heap.size w2 (w2.alloc (.cells #[.int .i64 1, .int .i64 1, .int .i64 1] 3)) := (Below.refl _ _).alloc (Nat.le_refl _) _
  have HS := hide (SL.lit w2 [1, 1, 1] (by decide) rfl rfl)
  replace HW := hide (HW.out.trans (hb.mono HW.out.size))
  replace SP := hide (SP.out.below hb)
  replace BP := hide (BP.out.below hb BP.out.lt)
  clear hb
  go_wp2_with fail
  refine (HF.out.det 2 _ 3 3 [1, 1, 1] _ HS.out (by decide) alF_2).mono ?_
  rintro e w3 ⟨rfl, hb⟩
  rw [al_111.1, al_111.2.2]
  replace HW := hide (HW.out.trans (hb.mono HW.out.size))
  replace SP := hide (SP.out.below hb)
  replace BP := hide (BP.out.below hb BP.out.lt)
  clear hb HS
  have hb : Below w3.heap.size w3 (w3.alloc (.cells #[.int .i64 1, .int .i64 (-1), .int .i64 1] 3)) := (Below.refl _ _).alloc (Nat.le_refl _) _
  have HS := hide (SL.lit w3 [1, -1, 1] (by decide) rfl rfl)
  have hp0 := BP.out.cell 0
  have hp1 := BP.out.cell 1
  simp at hp0 hp1
  replace HW := hide (HW.out.trans (hb.mono HW.out.size))
  replace SP := hide (SP.out.below hb)
  clear hb BP
  go_wp2_with fail
  refine (keep_lit 0 [1, -1, 1] _ P pn pc _ 3 3 SP.out HS.out).mono ?_
  rintro e w4 ⟨rfl, hb⟩
  replace HW := hide (HW.out.trans (hb.mono HW.out.size))
  clear hb HS SP hp0 hp1
  go_wp2_with fail
  go_ret
  exact ⟨rfl, HW.out⟩
end Go.Proofs.Ytndgffiihbdppaa
