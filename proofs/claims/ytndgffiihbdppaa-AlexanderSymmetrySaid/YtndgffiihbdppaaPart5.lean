/- Several texts in one. -/
import Derived.Test.YtndgffiihbdppaaPart4
import Derived.Test.YtndgffiihbdppaaPart2
import Derived.Test.YtndgffiihbdppaaBase1
import Derived.Test.YtndgffiihbdppaaPart1
import Derived.Laws.Bits64b
import Derived.Laws.BitsAllLaws
import Derived.Laws.Bits128
import Derived.WalkKit
import Derived.Below
/- ALEXANDER: the polynomial of a closed braid is symmetric (mathematics of stage 16). -/
namespace Go.Proofs.Ytndgffiihbdppaa
set_option linter.unusedVariables false
set_option linter.unusedSimpArgs false
open CR

section
variable {R : Type} [CR R]
/-- Multiples of the last row are subtracted from the others. -/
theorem det_clear {N : Nat} (T : Mtx R) (c : Nat → R) : ∀ k, k ≤ N → detR (N + 1) (fun i j => if i < k then T i j + c i * T N j else T i j) = detR (N + 1) T
  | 0, _ => detR_congr fun i _ j _ => by rw [if_neg (by omega)]
  | k + 1, hk => by
    rw [← det_clear T c k (by omega)]
    have h := (detR_alt (N + 1)).addRow (fun i j => if i < k then T i j + c i * T N j else T i j) (r := k) (s := N) (c k) (by omega) (by omega) (by omega)
    rw [← h]
    refine detR_congr fun i hi j hj => ?_
    by_cases e : i = k
    · subst e
      rw [updR_same]
      simp only [if_neg (show ¬ i < i by omega), if_neg (show ¬ N < i by omega), if_pos (show i < i + 1 by omega)]
    · rw [updR_ne _ _ e]
      show (if i < k + 1 then T i j + c i * T N j else T i j) = if i < k then T i j + c i * T N j else T i j
      by_cases h1 : i < k
      · rw [if_pos (by omega), if_pos h1]
      · rw [if_neg (by omega), if_neg h1]
/-- A row is replaced by a sum of rows in which it has the coefficient c r. -/
theorem det_rowSum {n r : Nat} (T : Mtx R) (c : Nat → R) (hr : r < n) : detR n (updR T r fun j => sumN n fun l => c l * T l j) = c r * detR n T := by
  rw [(detR_alt n).rowSum T hr c T n, sumN_single (k := r) hr (fun l hl hne => by
    rw [(detR_alt n).alt' (updR T r (T l)) hr hl (Ne.symm hne) (fun j _ => by rw [updR_same, updR_ne _ _ hne]), mul_zero]), updR_self]
/-- A matrix with a last row that ends in g and has nothing else. -/
theorem det_border {N : Nat} (M : Mtx R) (u : Nat → R) (g : R) : detR (N + 1) (fun i j => if i < N then (if j < N then M i j else u i) else (if j = N then g else 0)) = g * detR N M := by
  have h0 : ∀ M : Mtx R, detR (N + 1) (fun i j => if i < N then (if j < N then M i j else 0) else (if j = N then (1 : R) else 0)) = detR N M := fun M => by
    have hA : Alt N fun M : Mtx R => detR (N + 1) (fun i j => if i < N then (if j < N then M i j else 0) else (if j = N then (1 : R) else 0)) := by
      have hup : ∀ (M : Mtx R) (r : Nat) (v : Nat → R), r < N → (fun i j => if i < N then (if j < N then updR M r v i j else 0) else (if j = N then (1 : R) else 0)) = updR (fun i j => if i < N then (if j < N then M i j else 0) else (if j = N then (1 : R) else 0)) r (fun j => if j < N then v j else 0) := fun M r v hr => by
        funext i j
        by_cases e : i = r
        · subst e; rw [updR_same, if_pos hr, updR_same]
        · rw [updR_ne (fun i j => if i < N then (if j < N then M i j else 0) else (if j = N then (1 : R) else 0)) _ e, updR_ne M v e]
      refine ⟨fun A B h => detR_congr fun i hi j hj => ?_, fun M r u v hr => ?_, fun M r c u hr => ?_, fun M r s hrs hs h => ?_⟩
      · by_cases h1 : i < N
        · rw [if_pos h1, if_pos h1]
          by_cases h2 : j < N
          · rw [if_pos h2, if_pos h2, h i h1 j h2]
          · rw [if_neg h2, if_neg h2]
        · rw [if_neg h1, if_neg h1]
      · show detR (N + 1) _ = detR (N + 1) _ + detR (N + 1) _
        rw [hup M r _ hr, hup M r u hr, hup M r v hr, ← (detR_alt (N + 1)).add _ r _ _ (by omega)]
        congr 2
        funext j
        split
        · rfl
        · rw [add_zero]
      · show detR (N + 1) _ = c * detR (N + 1) _
        rw [hup M r _ hr, hup M r u hr, ← (detR_alt (N + 1)).smul _ r c _ (by omega)]
        congr 2
        funext j
        split
        · rfl
        · rw [mul_zero]
      · exact (detR_alt (N + 1)).alt _ r s hrs (by omega) fun j hj => by
          show (if r < N then (if j < N then M r j else 0) else _) = if s < N then (if j < N then M s j else 0) else _
          rw [if_pos (by omega), if_pos hs]
          by_cases h2 : j < N
          · rw [if_pos h2, if_pos h2, h j h2]
          · rw [if_neg h2, if_neg h2]
    have e := hA.eq M
    have e1 : detR (N + 1) (fun i j => if i < N then (if j < N then (oneM : Mtx R) i j else 0) else (if j = N then (1 : R) else 0)) = 1 := by
      refine Eq.trans (detR_congr fun i hi j hj => ?_) (detR_one (R := R) (N + 1))
      unfold oneM
      by_cases h1 : i < N
      · rw [if_pos h1]
        by_cases h2 : j < N
        · rw [if_pos h2]
        · rw [if_neg h2, if_neg (by omega)]
      · rw [if_neg h1]
        by_cases h2 : j = N
        · rw [if_pos h2, if_pos (by omega)]
        · rw [if_neg h2, if_neg (by omega)]
    exact Eq.trans e (by rw [e1, CR.mul_one])
  have e2 : detR (N + 1) (fun i j => if i < N then (if j < N then M i j else u i) else (if j = N then g else 0)) = g * detR (N + 1) (fun i j => if i < N then (if j < N then M i j else u i) else (if j = N then (1 : R) else 0)) := by
    have hs := (detR_alt (N + 1)).smul (fun i j => if i < N then (if j < N then M i j else u i) else (if j = N then (1 : R) else 0)) N g (fun j => if j = N then (1 : R) else 0) (by omega)
    refine Eq.trans (detR_congr fun i hi j hj => ?_) (hs.trans (congrArg (fun x => g * x) (detR_congr fun i hi j hj => ?_)))
    · by_cases e : i = N
      · subst e
        rw [updR_same, if_neg (show ¬ i < i by omega)]
        split
        · rw [CR.mul_one]
        · rw [mul_zero]
      · rw [updR_ne _ _ e, if_pos (show i < N by omega), if_pos (show i < N by omega)]
    · by_cases e : i = N
      · subst e
        rw [updR_same, if_neg (show ¬ i < i by omega)]
      · rw [updR_ne _ _ e]
  have h3 := det_clear (N := N) (fun i j => if i < N then (if j < N then M i j else 0) else (if j = N then (1 : R) else 0)) u N (Nat.le_refl _)
  rw [e2, ← h0 M, ← h3]
  congr 1
  refine detR_congr fun i hi j hj => ?_
  by_cases h1 : i < N
  · simp only [if_pos h1, if_neg (show ¬ N < N by omega)]
    by_cases h2 : j < N
    · rw [if_pos h2, if_pos h2, if_neg (by omega), mul_zero, add_zero]
    · rw [if_neg h2, if_neg h2, if_pos (by omega), CR.mul_one, CR.zero_add]
  · simp only [if_neg h1]
end
/-- 1 + t + .. -/
def qn (n : Nat) : LP := sumN n tK
/-- The identity less the Burau matrix, and z times the row 1, t, t^2, .. in each row. -/
def xM (n : Nat) (z : LP) (w : List Int) : Mtx LP := fun i j => (oneM i j + -(bu n w i j)) + z * tK j
theorem one_rowSum {n r : Nat} (hr : r < n) : (sumN n fun k => (oneM : Mtx LP) r k) = 1 := by
  have e := sumN_single (f := fun k => (oneM : Mtx LP) r k) (k := r) hr (fun k _ hne => if_neg (Ne.symm hne))
  exact e.trans (if_pos rfl)
theorem xM_rowSum {n : Nat} {w : List Int} (hw : okB n w) (z : LP) {i : Nat} (hi : i < n) : (sumN n fun k => xM n z w i k) = z * qn n := by
  show (sumN n fun k => (oneM i k + -(bu n w i k)) + z * tK k) = z * sumN n tK
  rw [sumN_add, sumN_add, sumN_neg, sumN_mul, one_rowSum hi, bu_rowSum hw i hi, add_neg, CR.zero_add]
theorem tau_col {n : Nat} {w : List Int} (hw : okB n w) {j : Nat} (hj : j < n) : (sumN n fun l => tK l * (oneM l j + -(bu n w l j))) = 0 := by
  have e : (sumN n fun l => tK l * (oneM l j + -(bu n w l j))) = sumN n fun l => tK l * oneM l j + -(tK l * bu n w l j) := sumN_congr fun l _ => by rw [mul_add, mul_neg]
  rw [e, sumN_add, sumN_neg, bu_row hw j hj, sumN_single (k := j) hj (fun l _ hne => by rw [show (oneM : Mtx LP) l j = 0 from if_neg hne, mul_zero]), show (oneM : Mtx LP) j j = 1 from if_pos rfl, CR.mul_one, add_neg]
/-- The determinant with the rows 1, t, t^2, .. added. -/
theorem det_xM {N : Nat} {w : List Int} (hw : okB (N + 1) w) (z : LP) : tK N * detR (N + 1) (xM (N + 1) z w) = z * (qn (N + 1) * qn (N + 1)) * adet (N + 1) w := by
  -- the last column becomes the sum of all columns
  have h1 := det_rowSum (n := N + 1) (r := N) (turnM (xM (N + 1) z w)) (fun _ => 1) (by omega)
  rw [CR.one_mul, detR_turn] at h1
  have h2 : detR (N + 1) (updR (turnM (xM (N + 1) z w)) N fun j => sumN (N + 1) fun l => 1 * turnM (xM (N + 1) z w) l j) = (z * qn (N + 1)) * detR (N + 1) (updR (turnM (xM (N + 1) z w)) N fun _ => 1) := by
    rw [← (detR_alt (N + 1)).smul _ N _ _ (by omega)]
    refine detR_congr fun i hi j hj => ?_
    by_cases e : i = N
    · subst e
      rw [updR_same, updR_same, CR.mul_one, ← xM_rowSum hw z hj]
      exact sumN_congr fun l _ => CR.one_mul _
    · rw [updR_ne _ _ e, updR_ne _ _ e]
  -- the other columns lose their multiples of it
  have h3 := det_clear (N := N) (updR (turnM (xM (N + 1) z w)) N fun _ => 1) (fun l => -(z * tK l)) N (Nat.le_refl _)
  have h4 : detR (N + 1) (fun i j => if i < N then updR (turnM (xM (N + 1) z w)) N (fun _ => 1) i j + -(z * tK i) * updR (turnM (xM (N + 1) z w)) N (fun _ => 1) N j else updR (turnM (xM (N + 1) z w)) N (fun _ => 1) i j) = detR (N + 1) (turnM fun i j => if j < N then oneM i j + -(bu (N + 1) w i j) else 1) := detR_congr fun i hi j hj => by
    show _ = if i < N then oneM j i + -(bu (N + 1) w j i) else 1
    by_cases h : i < N
    · rw [if_pos h, if_pos h, updR_ne _ _ (by omega), updR_same, CR.mul_one]
      show ((oneM j i + -(bu (N + 1) w j i)) + z * tK i) + -(z * tK i) = _
      rw [add_assoc, add_neg, add_zero]
    · have e : i = N := by omega
      subst e
      rw [if_neg h, if_neg h, updR_same]
  -- the last row becomes the sum of all rows with their powers of t
  have h5 := det_rowSum (n := N + 1) (r := N) (fun i j => if j < N then oneM i j + -(bu (N + 1) w i j) else (1 : LP)) tK (by omega)
  have h6 : detR (N + 1) (updR (fun i j => if j < N then oneM i j + -(bu (N + 1) w i j) else (1 : LP)) N fun j => sumN (N + 1) fun l => tK l * (if j < N then oneM l j + -(bu (N + 1) w l j) else 1)) = qn (N + 1) * adet (N + 1) w := by
    have e := det_border (N := N) (fun i j => oneM i j + -(bu (N + 1) w i j)) (fun _ => (1 : LP)) (qn (N + 1))
    refine Eq.trans (detR_congr fun i hi j hj => ?_) e
    by_cases h : i < N
    · rw [updR_ne _ _ (by omega), if_pos h]
    · have e : i = N := by omega
      subst e
      rw [updR_same, if_neg h]
      by_cases hj2 : j < i
      · rw [if_neg (by omega)]
        refine Eq.trans (sumN_congr fun l _ => by rw [if_pos hj2]) (tau_col hw (by omega))
      · rw [if_pos (by omega)]
        exact sumN_congr fun l _ => by rw [if_neg hj2, CR.mul_one]
  have h5' : qn (N + 1) * adet (N + 1) w = tK N * detR (N + 1) (fun i j => if j < N then oneM i j + -(bu (N + 1) w i j) else (1 : LP)) := h6.symm.trans h5
  rw [← h1, h2, ← h3, h4, detR_turn]
  have : z * (qn (N + 1) * qn (N + 1)) * adet (N + 1) w = (z * qn (N + 1)) * (qn (N + 1) * adet (N + 1) w) := by ac_rfl
  rw [this, h5']
  ac_rfl
end Go.Proofs.Ytndgffiihbdppaa
/- ALEXANDER: conjugates and inverses (mathematics of stage 16). -/
namespace Go.Proofs.Ytndgffiihbdppaa
set_option linter.unusedVariables false
set_option linter.unusedSimpArgs false
open CR

theorem lp_mul_ne {x y : LP} (hx : x ≠ 0) (hy : y ≠ 0) : x * y ≠ 0 := fun h => by
  have hne : ∀ z : LP, z ≠ 0 → (LP.canon z).2 ≠ [] := fun z hz e => hz (by rw [← LP.of_canon z, e]; rfl)
  have h1 := LP.canon_mul (LP.canon_cano x) (LP.canon_cano y) (hne x hx) (hne y hy)
  rw [LP.of_canon, LP.of_canon, h] at h1
  have l1 := List.length_pos_iff.2 (hne x hx)
  have l2 := List.length_pos_iff.2 (hne y hy)
  have h2 : (LP.canon (0 : LP)).2 = [] := by
    have := LP.canon_of (lo := 0) (cs := []) (.inl ⟨rfl, rfl⟩)
    rw [show LP.of 0 [] = (0 : LP) from rfl] at this
    rw [this]
  rw [h2] at h1
  have := h1.2
  simp at this
  omega
theorem lp_cancel {q x y : LP} (hq : q ≠ 0) (h : q * x = q * y) : x = y := by
  have h1 : q * (x + -y) = 0 := by rw [mul_add, mul_neg, h, add_neg]
  have h2 : x + -y = 0 := Classical.byContradiction fun hn => lp_mul_ne hq hn h1
  have h3 : x + -y + y = 0 + y := by rw [h2]
  rwa [add_assoc, neg_add, add_zero, CR.zero_add] at h3
theorem ev_tK (k : Nat) : LP.ev false (tK k) = 1 := by
  unfold tK LP.ev
  rw [LP.lin_term]
  unfold LP.pw
  simp
theorem qn_ne {n : Nat} (h : 1 ≤ n) : qn n ≠ 0 := fun e => by
  have h1 : LP.ev false (qn n) = (n : Int) := by
    unfold qn
    rw [ev_sumN, sumN_congr fun i _ => ev_tK i]
    clear h e
    induction n with
    | zero => rfl
    | succ n ih => rw [sumN_succ, ih]; rfl
  rw [e, ev_zero] at h1
  omega
/-- 1 or -1 times a power of t. -/
def UnT (u : LP) : Prop := ∃ e s : Int, (s = 1 ∨ s = -1) ∧ u = LP.term e s
theorem UnT.mul {u v : LP} (hu : UnT u) (hv : UnT v) : UnT (u * v) := by
  obtain ⟨e, s, hs, rfl⟩ := hu
  obtain ⟨f, r, hr, rfl⟩ := hv
  exact ⟨e + f, s * r, by rcases hs with rfl | rfl <;> rcases hr with rfl | rfl <;> decide, by rw [LP.term_mul]⟩
theorem UnT.neg {u : LP} (hu : UnT u) : UnT (-u) := by
  obtain ⟨e, s, hs, rfl⟩ := hu
  refine ⟨e, -s, by rcases hs with rfl | rfl <;> decide, LP.ext fun k => ?_⟩
  rw [LP.co_neg, LP.co_term, LP.co_term]
  split <;> rfl
theorem UnT.one : UnT 1 := ⟨0, 1, .inl rfl, rfl⟩
theorem UnT.tK (k : Nat) : UnT (tK k) := ⟨k, 1, .inl rfl, rfl⟩
theorem UnT.inv {u : LP} (hu : UnT u) : ∃ v, UnT v ∧ u * v = 1 ∧ v * u = 1 := by
  obtain ⟨e, s, hs, rfl⟩ := hu
  refine ⟨LP.term (-e) s, ⟨_, s, hs, rfl⟩, ?_, ?_⟩
  · rw [LP.term_mul, show e + -e = 0 by omega]; rcases hs with rfl | rfl <;> rfl
  · rw [LP.term_mul, show -e + e = 0 by omega]; rcases hs with rfl | rfl <;> rfl
theorem UnT.solve {u v x y : LP} (hu : UnT u) (hv : UnT v) (h : u * x = v * y) : ∃ r, UnT r ∧ x = r * y := by
  obtain ⟨i, hi, _, h2⟩ := hu.inv
  refine ⟨i * v, hi.mul hv, ?_⟩
  have : i * (u * x) = i * (v * y) := by rw [h]
  rwa [← CR.mul_assoc, h2, CR.one_mul, ← CR.mul_assoc] at this
/-! ### determinants of words -/
theorem dN_range {n : Nat} (h : n ≤ 100) (A : Mtx LP) : dN n (List.range n) A = detR n A := detR_congr fun i hi j hj => by
  unfold matQ stkR
  have e : (List.range n).getD i 0 = i := by simp [List.getD, hi]
  rw [e, if_pos (by omega)]
theorem det_opL {n : Nat} (hn : n ≤ 6) {x : Int} (h0 : x ≠ 0) (hx : x.natAbs < n) (A : Mtx LP) : ∃ u, UnT u ∧ detR n (opL x A) = u * detR n A := by
  rw [← dN_range (by omega) (opL x A), ← dN_range (by omega) A]
  obtain ⟨p, hp⟩ : ∃ p, x.natAbs = p + 1 := ⟨x.natAbs - 1, by omega⟩
  have g : ∀ i, i < n → (List.range n).getD i 0 = i := fun i hi => by simp [List.getD, hi]
  unfold opL
  rw [hp] at hx ⊢
  by_cases hpos : 0 < x
  · rw [if_pos hpos]
    refine ⟨-tT, UnT.neg ⟨1, 1, .inl rfl, rfl⟩, ?_⟩
    refine dN_two (r := p) (s := p + 1) (by omega) (by omega) (by omega) (fun i hi h1 h2 => ?_) (1 + -tT) tT ?_ ?_
    · rw [g i hi]; exact stk_opP_ne _ _ (by omega) (by omega)
    · rw [g p (by omega), g (p + 1) (by omega)]; exact stk_opP_lo (a := p + 1) _ (by omega) (by omega) _
    · rw [g p (by omega), g (p + 1) (by omega)]; exact stk_opP_hi (a := p + 1) _ (by omega) (by omega) _
  · rw [if_neg hpos]
    refine ⟨-tI, UnT.neg ⟨-1, 1, .inl rfl, rfl⟩, ?_⟩
    refine dN_two (r := p + 1) (s := p) (by omega) (by omega) (by omega) (fun i hi h1 h2 => ?_) (1 + -tI) tI ?_ ?_
    · rw [g i hi]; exact stk_opN_ne _ _ (by omega) (by omega)
    · rw [g p (by omega), g (p + 1) (by omega)]; exact stk_opN_hi (a := p + 1) _ (by omega) (by omega) _
    · rw [g p (by omega), g (p + 1) (by omega)]; exact stk_opN_lo (a := p + 1) _ (by omega) (by omega) _
theorem det_opW {n : Nat} (hn : n ≤ 6) : ∀ {w : List Int}, okB n w → ∀ A : Mtx LP, ∃ u, UnT u ∧ detR n (opW w A) = u * detR n A
  | [], _, A => ⟨1, UnT.one, by rw [CR.one_mul]; rfl⟩
  | x :: w, h, A => by
    obtain ⟨u, hu, e⟩ := det_opW hn (w := w) (fun y hy => h y (by simp [hy])) A
    obtain ⟨v, hv, e2⟩ := det_opL hn (h x (by simp)).1 (h x (by simp)).2 (opW w A)
    exact ⟨v * u, hv.mul hu, by show detR n (opL x (opW w A)) = _; rw [e2, e, CR.mul_assoc]⟩
theorem det_buU {n : Nat} (hn : n ≤ 6) {w : List Int} (h : okB n w) : UnT (detR n (bu n w)) := by
  obtain ⟨u, hu, e⟩ := det_opW hn h oneM
  rw [detR_one, CR.mul_one] at e
  rw [detR_congr fun i hi j hj => bu_op h i hi j hj, e]
  exact hu
theorem det_minus (n : Nat) (M : Mtx LP) : ∃ u, UnT u ∧ detR n (fun i j => -(M i j)) = u * detR n M := by
  refine ⟨detR n (fun i j => if i = j then (-1 : LP) else 0), ?_, ?_⟩
  · rw [detR_tri n _ (fun i j _ h => if_neg (by omega))]
    induction n with
    | zero => exact UnT.one
    | succ n ih =>
      show UnT (diagP _ n * (if n = n then (-1 : LP) else 0))
      rw [if_pos rfl]
      exact ih.mul UnT.one.neg
  · rw [← detR_mul]
    refine detR_congr fun i hi j hj => ?_
    show -(M i j) = sumN n fun k => (if i = k then (-1 : LP) else 0) * M k j
    rw [sumN_single (k := i) hi (fun k _ hne => by rw [if_neg (Ne.symm hne), zero_mul]), if_pos rfl, CR.neg_mul, CR.one_mul]
/-! ### the inverse -/
end Go.Proofs.Ytndgffiihbdppaa
/- ALEXANDER: the conjugate (mathematics of stage 16). -/
namespace Go.Proofs.Ytndgffiihbdppaa
set_option linter.unusedVariables false
set_option linter.unusedSimpArgs false
open CR

theorem cj_zero : LP.conj (0 : LP) = 0 := LP.ext fun k => by rw [LP.co_conj, LP.co_zero, LP.co_zero]
theorem cj_one : LP.conj (1 : LP) = 1 := LP.ext fun k => by rw [LP.co_conj, LP.co_one, LP.co_one]; grind
theorem cj_neg (x : LP) : LP.conj (-x) = -LP.conj x := LP.ext fun k => by rw [LP.co_conj, LP.co_neg, LP.co_neg, LP.co_conj]
theorem cj_term (e s : Int) : LP.conj (LP.term e s) = LP.term (-e) s := LP.ext fun k => by rw [LP.co_conj, LP.co_term, LP.co_term]; grind
theorem cj_sumN (f : Nat → LP) : ∀ n, LP.conj (sumN n f) = sumN n fun i => LP.conj (f i)
  | 0 => cj_zero
  | n + 1 => by rw [sumN_succ, sumN_succ, LP.conj_add, cj_sumN f n]
theorem cj_sgR (j : Nat) : LP.conj (sgR LP j) = sgR LP j := by
  unfold sgR
  split
  · exact cj_one
  · rw [cj_neg, cj_one]
theorem cj_det : ∀ (n : Nat) (M : Mtx LP), LP.conj (detR n M) = detR n fun i j => LP.conj (M i j)
  | 0, _ => cj_one
  | n + 1, M => by
    show LP.conj (sumN (n + 1) fun j => sgR LP j * (M 0 j * detR n fun a c => M (a + 1) (skip j c))) = sumN (n + 1) fun j => sgR LP j * (LP.conj (M 0 j) * detR n fun a c => LP.conj (M (a + 1) (skip j c)))
    rw [cj_sumN]
    refine sumN_congr fun j hj => ?_
    rw [LP.conj_mul, LP.conj_mul, cj_sgR, cj_det n]
theorem cj_tT : LP.conj tT = tI := cj_term 1 1
theorem cj_tI : LP.conj tI = tT := cj_term (-1) 1
/-- Turned over and conjugated. -/
def tcM (M : Mtx LP) : Mtx LP := fun i j => LP.conj (M j i)
theorem tcM_det (n : Nat) (M : Mtx LP) : detR n (tcM M) = LP.conj (detR n M) := by
  rw [← detR_turn n M, cj_det]
  rfl
theorem tcM_mul (n : Nat) (A B : Mtx LP) : tcM (mulM n A B) = mulM n (tcM B) (tcM A) := by
  funext i j
  show LP.conj (sumN n fun k => A j k * B k i) = sumN n fun k => LP.conj (B k i) * LP.conj (A j k)
  rw [cj_sumN]
  exact sumN_congr fun k _ => by rw [LP.conj_mul, CR.mul_comm]
theorem tcM_congr {n : Nat} {A B : Mtx LP} (h : EqM n A B) : EqM n (tcM A) (tcM B) := fun i hi j hj => by
  show LP.conj (A j i) = LP.conj (B j i)
  rw [h j hj i hi]
theorem tcM_one (n : Nat) : EqM n (tcM oneM) oneM := fun i hi j hj => by
  show LP.conj (oneM j i) = oneM i j
  unfold oneM
  by_cases h : i = j
  · rw [if_pos h, if_pos h.symm, cj_one]
  · rw [if_neg h, if_neg (Ne.symm h), cj_zero]
/-- A column of a letter's matrix. -/
theorem colB {n p : Nat} (hp : p + 1 < n) (f : Nat → LP) (j : Nat) (hj : j < n) :
    (sumN n fun k => f k * bl ((p + 1 : Nat) : Int) k j) = (if j = p then f p * (1 + -tT) + f (p + 1) else if j = p + 1 then f p * tT else f j) ∧
    (sumN n fun k => f k * bl (-((p + 1 : Nat) : Int)) k j) = (if j = p then f (p + 1) * tI else if j = p + 1 then f p + f (p + 1) * (1 + -tI) else f j) := by
  have n1 : (((p + 1 : Nat) : Int)).natAbs = p + 1 := by omega
  have n2 : (-((p + 1 : Nat) : Int)).natAbs = p + 1 := by omega
  have p1 : (0 : Int) < ((p + 1 : Nat) : Int) := by omega
  have p2 : ¬ (0 : Int) < -((p + 1 : Nat) : Int) := by omega
  unfold bl
  rw [n1, n2]
  simp only [if_pos p1, if_neg p2]
  by_cases h1 : j = p
  · subst h1
    rw [if_pos rfl, if_pos rfl]
    constructor
    · rw [sumN_two (a := j) (b := j + 1) hj (by omega) (by omega) (fun i hi e1 e2 => by rw [if_neg (by omega), if_neg (by omega), if_neg (by omega), mul_zero])]
      rw [if_pos rfl, if_pos rfl, if_neg (by omega), if_pos rfl, if_pos rfl, CR.mul_one]
    · rw [sumN_single (k := j + 1) (by omega) (fun i hi e1 => by
        by_cases e2 : i = j
        · subst e2; rw [if_pos rfl, if_neg (by omega), mul_zero]
        · rw [if_neg (by omega), if_neg (by omega), if_neg (by omega), mul_zero])]
      rw [if_neg (by omega), if_pos rfl, if_pos rfl]
  · rw [if_neg h1, if_neg h1]
    by_cases h2 : j = p + 1
    · subst h2
      rw [if_pos rfl, if_pos rfl]
      constructor
      · rw [sumN_single (k := p) (by omega) (fun i hi e1 => by
          by_cases e2 : i = p + 1
          · subst e2; rw [if_neg (by omega), if_pos rfl, if_neg (by omega), mul_zero]
          · rw [if_neg (by omega), if_neg (by omega), if_neg (by omega), mul_zero])]
        rw [if_pos rfl, if_neg (by omega), if_pos rfl]
      · rw [sumN_two (a := p) (b := p + 1) (by omega) hj (by omega) (fun i hi e1 e2 => by rw [if_neg (by omega), if_neg (by omega), if_neg (by omega), mul_zero])]
        rw [if_pos rfl, if_pos rfl, if_neg (by omega), if_pos rfl, if_neg (by omega), if_pos rfl, CR.mul_one]
    · rw [if_neg h2, if_neg h2]
      constructor
      · rw [sumN_single (k := j) hj (fun i hi e1 => by
          by_cases e2 : i = p
          · subst e2; rw [if_pos rfl, if_neg (by omega), if_neg (by omega), mul_zero]
          · by_cases e3 : i = p + 1
            · subst e3; rw [if_neg (by omega), if_pos rfl, if_neg (by omega), mul_zero]
            · rw [if_neg (by omega), if_neg e3, if_neg e1, mul_zero])]
        rw [if_neg (by omega), if_neg h2, if_pos rfl, CR.mul_one]
      · rw [sumN_single (k := j) hj (fun i hi e1 => by
          by_cases e2 : i = p
          · subst e2; rw [if_pos rfl, if_neg (by omega), mul_zero]
          · by_cases e3 : i = p + 1
            · subst e3; rw [if_neg (by omega), if_pos rfl, if_neg (by omega), if_neg (by omega), mul_zero]
            · rw [if_neg (by omega), if_neg e3, if_neg e1, mul_zero])]
        rw [if_neg (by omega), if_neg h2, if_pos rfl, CR.mul_one]
/-- The form that Burau matrices keep. -/
def jM : Mtx LP := fun i j => if i = j then 1 else if i < j then (tT + -1) * tK (j - i - 1) else 0
theorem tK_succ (k : Nat) : tK (k + 1) = tK k * tT := by
  unfold tT
  rw [tK_mul]
  rfl
theorem jM_diag (i : Nat) : jM i i = 1 := if_pos rfl
theorem jM_low {i j : Nat} (h : j < i) : jM i j = 0 := by unfold jM; rw [if_neg (by omega), if_neg (by omega)]
theorem jM_up (i d : Nat) : jM i (i + 1 + d) = (tT + -1) * tK d := by
  unfold jM
  rw [if_neg (by omega), if_pos (by omega), show i + 1 + d - i - 1 = d by omega]
theorem jM_next (i : Nat) : jM i (i + 1) = tT + -1 := by
  have := jM_up i 0
  rw [this]
  show (tT + -1) * tK 0 = _
  rw [show tK 0 = 1 from rfl, CR.mul_one]
theorem jM_col {i p : Nat} (h1 : i ≠ p) (h2 : i ≠ p + 1) : jM i (p + 1) = jM i p * tT := by
  by_cases h : i < p
  · obtain ⟨d, rfl⟩ : ∃ d, p = i + 1 + d := ⟨p - (i + 1), by omega⟩
    rw [show i + 1 + d + 1 = i + 1 + (d + 1) by omega, jM_up, jM_up, tK_succ, CR.mul_assoc]
  · rw [jM_low (by omega), jM_low (by omega), zero_mul]
theorem jM_row {j p : Nat} (h1 : j ≠ p) (h2 : j ≠ p + 1) : jM p j = jM (p + 1) j * tT := by
  by_cases h : p + 1 < j
  · obtain ⟨d, rfl⟩ : ∃ d, j = p + 1 + 1 + d := ⟨j - (p + 2), by omega⟩
    rw [show jM p (p + 1 + 1 + d) = jM p (p + 1 + (d + 1)) by rw [show p + 1 + 1 + d = p + 1 + (d + 1) by omega], jM_up, jM_up, tK_succ, CR.mul_assoc]
  · rw [jM_low (by omega), jM_low (by omega), zero_mul]
theorem jM_col' {i p : Nat} (h1 : i ≠ p) (h2 : i ≠ p + 1) : jM i (p + 1) * tI = jM i p := by rw [jM_col h1 h2, CR.mul_assoc, tT_tI, CR.mul_one]
theorem jM_row' {j p : Nat} (h1 : j ≠ p) (h2 : j ≠ p + 1) : jM p j * tI = jM (p + 1) j := by rw [jM_row h1 h2, CR.mul_assoc, tT_tI, CR.mul_one]
theorem j_letter {n : Nat} {x : Int} (h0 : x ≠ 0) (hx : x.natAbs < n) : EqM n (mulM n jM (bl x)) (mulM n (tcM (bl (-x))) jM) := fun i hi j hj => by
  obtain ⟨p, hp⟩ : ∃ p, x.natAbs = p + 1 := ⟨x.natAbs - 1, by omega⟩
  have hpn : p + 1 < n := by omega
  have hR : ∀ y : Int, mulM n (tcM (bl y)) jM i j = LP.conj (sumN n fun k => LP.conj (jM k j) * bl y k i) := fun y => by
    rw [cj_sumN]
    exact sumN_congr fun k _ => by rw [LP.conj_mul, LP.conj_conj, CR.mul_comm]; rfl
  have c1 := colB hpn (fun k => jM i k) j hj
  have c2 := colB hpn (fun k => LP.conj (jM k j)) i hi
  have one_t : (1 + -tT) + (tT + -1) = 0 := LP.ext fun k => by simp only [LP.co_add, LP.co_neg, LP.co_zero]; omega
  have t_one : (tT + -1) + (1 + -tT) = 0 := LP.ext fun k => by simp only [LP.co_add, LP.co_neg, LP.co_zero]; omega
  have tti : (tT + -1) * tI = 1 + -tI := by rw [CR.add_mul, tT_tI, CR.neg_mul, CR.one_mul]
  rcases Int.lt_or_gt_of_ne h0 with hneg | hpos
  · obtain rfl : x = -((p + 1 : Nat) : Int) := by omega
    rw [Int.neg_neg, hR, c2.1]
    show (sumN n fun k => jM i k * bl (-((p + 1 : Nat) : Int)) k j) = _
    rw [c1.2]
    by_cases i1 : i = p
    · subst i1
      rw [if_pos rfl, LP.conj_add, LP.conj_mul, LP.conj_conj, LP.conj_conj, LP.conj_add, cj_one, cj_neg, cj_tT]
      by_cases j1 : j = i
      · subst j1
        rw [if_pos rfl, jM_next, jM_diag, jM_low (show j < j + 1 by omega), CR.one_mul, add_zero, tti]
      · rw [if_neg j1]
        by_cases j2 : j = i + 1
        · subst j2
          rw [if_pos rfl, jM_diag, jM_diag, CR.add_comm]
        · rw [if_neg j2, mul_add, CR.mul_one, mul_neg, jM_row' j1 j2, add_assoc, neg_add, add_zero]
    · rw [if_neg i1]
      by_cases i2 : i = p + 1
      · subst i2
        rw [if_pos rfl, LP.conj_mul, LP.conj_conj, cj_tT]
        by_cases j1 : j = p
        · subst j1
          rw [if_pos rfl, jM_diag, jM_diag]
        · rw [if_neg j1]
          by_cases j2 : j = p + 1
          · subst j2
            rw [if_pos rfl, jM_low (show p < p + 1 by omega), jM_diag, jM_next, CR.zero_add, CR.one_mul, tti]
          · rw [if_neg j2, jM_row' j1 j2]
      · rw [if_neg i2, LP.conj_conj]
        by_cases j1 : j = p
        · subst j1
          rw [if_pos rfl, jM_col' i1 i2]
        · rw [if_neg j1]
          by_cases j2 : j = p + 1
          · subst j2
            rw [if_pos rfl, mul_add, CR.mul_one, mul_neg, jM_col' i1 i2, CR.add_comm, add_assoc, neg_add, add_zero]
          · rw [if_neg j2]
  · obtain rfl : x = ((p + 1 : Nat) : Int) := by omega
    rw [hR, c2.2]
    show (sumN n fun k => jM i k * bl ((p + 1 : Nat) : Int) k j) = _
    rw [c1.1]
    by_cases i1 : i = p
    · subst i1
      rw [if_pos rfl, LP.conj_mul, LP.conj_conj, cj_tI]
      by_cases j1 : j = i
      · subst j1
        rw [if_pos rfl, jM_next, jM_diag, jM_low (show j < j + 1 by omega), CR.one_mul, zero_mul, one_t]
      · rw [if_neg j1]
        by_cases j2 : j = i + 1
        · subst j2
          rw [if_pos rfl, jM_diag, jM_diag]
        · rw [if_neg j2, jM_row j1 j2]
    · rw [if_neg i1]
      by_cases i2 : i = p + 1
      · subst i2
        rw [if_pos rfl, LP.conj_add, LP.conj_mul, LP.conj_conj, LP.conj_conj, LP.conj_add, cj_one, cj_neg, cj_tI]
        by_cases j1 : j = p
        · subst j1
          rw [if_pos rfl, jM_low (show j < j + 1 by omega), jM_diag, jM_diag, zero_mul, CR.zero_add, add_zero]
        · rw [if_neg j1]
          by_cases j2 : j = p + 1
          · subst j2
            rw [if_pos rfl, jM_low (show p < p + 1 by omega), jM_diag, jM_next, zero_mul, CR.one_mul, t_one]
          · rw [if_neg j2, mul_add, CR.mul_one, mul_neg, jM_row j1 j2, CR.add_comm, add_assoc, neg_add, add_zero]
      · rw [if_neg i2, LP.conj_conj]
        by_cases j1 : j = p
        · subst j1
          rw [if_pos rfl, mul_add, CR.mul_one, mul_neg, jM_col i1 i2, add_assoc, neg_add, add_zero]
        · rw [if_neg j1]
          by_cases j2 : j = p + 1
          · subst j2
            rw [if_pos rfl, jM_col i1 i2]
          · rw [if_neg j2]
theorem bl_undo {n : Nat} {x : Int} (h0 : x ≠ 0) (hx : x.natAbs < n) : EqM n (mulM n (bl (-x)) (bl x)) oneM := by
  have o1 : okB n [-x, x] := fun y hy => by
    simp at hy
    rcases hy with rfl | rfl <;> omega
  have h1 := bu_op o1
  have h2 : opW [-x, x] oneM = (oneM : Mtx LP) := by
    have h := opW_inv [-x] (fun y hy => by simp at hy; omega) (oneM : Mtx LP)
    have e : invw [-x] = [x] := by simp [invw]
    rwa [e] at h
  rw [h2] at h1
  have h3 : EqM n (bu n [-x, x]) (mulM n (bl (-x)) (bl x)) := EqM.mul (EqM.refl n _) (EqM.mul_one n _)
  exact h3.symm.trans h1
/-- Burau matrices keep the form. -/
theorem j_word {n : Nat} : ∀ {w : List Int}, okB n w → EqM n (mulM n (tcM (bu n w)) (mulM n jM (bu n w))) jM
  | [], _ => ((tcM_one n).mul (EqM.mul_one n jM)).trans (EqM.one_mul n jM)
  | x :: w, h => by
    obtain ⟨h0, hx⟩ := h x (by simp)
    have ih := j_word (w := w) fun y hy => h y (by simp [hy])
    show EqM n (mulM n (tcM (mulM n (bl x) (bu n w))) (mulM n jM (mulM n (bl x) (bu n w)))) jM
    rw [tcM_mul, ← mulM_assoc n jM]
    have k1 : EqM n (mulM n (mulM n jM (bl x)) (bu n w)) (mulM n (mulM n (tcM (bl (-x))) jM) (bu n w)) := (j_letter h0 hx).mul (EqM.refl n _)
    refine ((EqM.refl n _).mul k1).trans ?_
    rw [mulM_assoc n (tcM (bu n w)), mulM_assoc n (tcM (bl (-x))), ← mulM_assoc n (tcM (bl x)), ← tcM_mul]
    have k2 : EqM n (tcM (mulM n (bl (-x)) (bl x))) oneM := (tcM_congr (bl_undo h0 hx)).trans (tcM_one n)
    exact (((EqM.refl n _).mul ((k2.mul (EqM.refl n _)).trans (EqM.one_mul n _)))).trans ih
end Go.Proofs.Ytndgffiihbdppaa
/- ALEXANDER: the conjugate of the polynomial (mathematics of stage 16). -/
namespace Go.Proofs.Ytndgffiihbdppaa
set_option linter.unusedVariables false
set_option linter.unusedSimpArgs false
open CR

/-- The columns of the form add up to powers of t. -/
theorem jM_colSum (l : Nat) : ∀ n, (sumN n fun k => jM k l) = if l < n then tK l else tK l + -(tK (l - n))
  | 0 => by
    rw [if_neg (by omega), Nat.sub_zero, add_neg]
    rfl
  | n + 1 => by
    rw [sumN_succ, jM_colSum l n]
    by_cases h : l < n
    · rw [if_pos h, if_pos (by omega), jM_low h, add_zero]
    · rw [if_neg h]
      by_cases e : l = n
      · subst e
        rw [if_pos (by omega), jM_diag, Nat.sub_self, show tK 0 = 1 from rfl, add_assoc, neg_add, add_zero]
      · rw [if_neg (by omega)]
        obtain ⟨d, rfl⟩ : ∃ d, l = n + 1 + d := ⟨l - (n + 1), by omega⟩
        rw [jM_up, show n + 1 + d - n = d + 1 by omega, show n + 1 + d - (n + 1) = d by omega, tK_succ, CR.add_mul, CR.neg_mul, CR.one_mul, CR.mul_comm tT]
        refine LP.ext fun k => ?_
        simp only [LP.co_add, LP.co_neg]
        omega
theorem jM_rowSum (i : Nat) : ∀ n, (sumN n fun k => jM i k) = if i < n then tK (n - 1 - i) else 0
  | 0 => by rw [if_neg (by omega)]; rfl
  | n + 1 => by
    rw [sumN_succ, jM_rowSum i n]
    by_cases h : i < n
    · rw [if_pos h, if_pos (by omega)]
      obtain ⟨d, rfl⟩ : ∃ d, n = i + 1 + d := ⟨n - (i + 1), by omega⟩
      rw [jM_up, show i + 1 + d - 1 - i = d by omega, show i + 1 + d + 1 - 1 - i = d + 1 by omega, tK_succ, CR.add_mul, CR.neg_mul, CR.one_mul, CR.mul_comm tT]
      refine LP.ext fun k => ?_
      simp only [LP.co_add, LP.co_neg]
      omega
    · rw [if_neg h]
      by_cases e : i = n
      · subst e
        rw [if_pos (by omega), jM_diag, CR.zero_add, show i + 1 - 1 - i = 0 by omega]
        rfl
      · rw [if_neg (by omega), jM_low (by omega), add_zero]
theorem jM_det (n : Nat) : detR n jM = 1 := by
  rw [detR_tri n _ (fun i j _ h => jM_low h)]
  induction n with
  | zero => rfl
  | succ n ih => show diagP jM n * jM n n = 1; rw [ih, jM_diag, CR.mul_one]
theorem qn_succ (n : Nat) : qn (n + 1) = 1 + qn n * tT := by
  unfold qn
  rw [sumN_first, CR.mul_comm, ← sumN_mul]
  congr 1
  exact sumN_congr fun i _ => by rw [tK_succ, CR.mul_comm]
theorem cj_tK (k : Nat) : LP.conj (tK k) = LP.term (-(k : Int)) 1 := cj_term k 1
theorem tK_cj (k : Nat) : tK k * LP.conj (tK k) = 1 := by
  rw [cj_tK, tK_mul, show (k : Int) + -(k : Int) = 0 by omega]
  rfl
theorem qn_conj : ∀ N, tK N * LP.conj (qn (N + 1)) = qn (N + 1)
  | 0 => by
    show 1 * LP.conj (0 + tK 0) = 0 + tK 0
    rw [CR.one_mul, CR.zero_add, show tK 0 = 1 from rfl, cj_one]
  | N + 1 => by
    have ih := qn_conj N
    rw [qn_succ (N + 1)]
    have e : LP.conj (1 + qn (N + 1) * tT) = LP.conj (qn (N + 1)) + LP.conj (tK (N + 1)) := by
      rw [← qn_succ, ← LP.conj_add]
      rfl
    rw [e, mul_add, tK_cj, tK_succ, CR.mul_assoc, CR.mul_comm tT, ← CR.mul_assoc, ih, CR.add_comm]
theorem j_tau {n : Nat} {w : List Int} (h : okB n w) {j : Nat} (hj : j < n) : (sumN n fun k => mulM n jM (bu n w) k j) = tK j := by
  show (sumN n fun k => sumN n fun l => jM k l * bu n w l j) = tK j
  rw [sumN_swap, ← bu_row h j hj]
  refine sumN_congr fun l hl => ?_
  rw [show (sumN n fun k => jM k l * bu n w l j) = sumN n fun k => bu n w l j * jM k l from sumN_congr fun k _ => CR.mul_comm _ _, sumN_mul, jM_colSum, if_pos hl, CR.mul_comm]
theorem j_main {N : Nat} {w : List Int} (h : okB (N + 1) w) :
    EqM (N + 1) (mulM (N + 1) (tcM (xM (N + 1) 1 w)) (mulM (N + 1) jM (bu (N + 1) w))) (mulM (N + 1) jM fun i j => -(xM (N + 1) (-(LP.conj (tK N))) w i j)) := fun i hi j hj => by
  have hw := j_word h i hi j hj
  obtain ⟨G, hG⟩ : ∃ G, mulM (N + 1) jM (bu (N + 1) w) = G := ⟨_, rfl⟩
  have ht := j_tau h hj
  have hgij : G i j = sumN (N + 1) fun k => jM i k * bu (N + 1) w k j := by rw [← hG]; rfl
  rw [hG] at hw ht ⊢
  have hone := tcM_one (N + 1)
  have hl : mulM (N + 1) (tcM (xM (N + 1) 1 w)) G i j = (G i j + -(jM i j)) + LP.conj (tK i) * tK j := by
    show (sumN (N + 1) fun k => LP.conj ((oneM k i + -(bu (N + 1) w k i)) + 1 * tK i) * G k j) = _
    have e : (sumN (N + 1) fun k => LP.conj ((oneM k i + -(bu (N + 1) w k i)) + 1 * tK i) * G k j) = sumN (N + 1) fun k => (oneM i k * G k j + -(tcM (bu (N + 1) w) i k * G k j)) + LP.conj (tK i) * G k j := sumN_congr fun k hk => by
      rw [LP.conj_add, LP.conj_add, cj_neg, CR.one_mul, show LP.conj (oneM k i) = oneM i k from hone i hi k hk, CR.add_mul, CR.add_mul, CR.neg_mul]
      rfl
    rw [e, sumN_add, sumN_add, sumN_neg, sumN_mul, ht]
    rw [show (sumN (N + 1) fun k => oneM i k * G k j) = G i j from EqM.one_mul (N + 1) G i hi j hj, show (sumN (N + 1) fun k => tcM (bu (N + 1) w) i k * G k j) = jM i j from hw]
  rw [hl]
  show _ = sumN (N + 1) fun k => jM i k * -((oneM k j + -(bu (N + 1) w k j)) + -(LP.conj (tK N)) * tK j)
  have e : (sumN (N + 1) fun k => jM i k * -((oneM k j + -(bu (N + 1) w k j)) + -(LP.conj (tK N)) * tK j)) = sumN (N + 1) fun k => (-(jM i k * oneM k j) + jM i k * bu (N + 1) w k j) + (LP.conj (tK N) * tK j) * jM i k := sumN_congr fun k _ => by
    rw [mul_neg, mul_add, mul_add, mul_neg, CR.neg_mul, mul_neg, CR.mul_comm (jM i k) (LP.conj (tK N) * tK j)]
    refine LP.ext fun q => ?_
    simp only [LP.co_add, LP.co_neg]
    omega
  rw [e, sumN_add, sumN_add, sumN_neg, sumN_mul, ← hgij, jM_rowSum, if_pos hi]
  rw [show (sumN (N + 1) fun k => jM i k * oneM k j) = jM i j from EqM.mul_one (N + 1) jM i hi j hj]
  have e3 : LP.conj (tK N) * tK j * tK (N + 1 - 1 - i) = LP.conj (tK i) * tK j := by
    rw [cj_tK, cj_tK]
    have : LP.term (-(N : Int)) 1 * tK (N + 1 - 1 - i) = LP.term (-(i : Int)) 1 := by
      unfold tK
      rw [LP.term_mul]
      congr 1
      omega
    rw [← this]
    ac_rfl
  rw [e3, CR.add_comm (G i j)]
/-- The conjugate is the polynomial but for a unit. -/
theorem adet_conj {N : Nat} (hN : N ≤ 5) {w : List Int} (h : okB (N + 1) w) : ∃ r, UnT r ∧ LP.conj (adet (N + 1) w) = r * adet (N + 1) w := by
  have hd : detR (N + 1) (mulM (N + 1) (tcM (xM (N + 1) 1 w)) (mulM (N + 1) jM (bu (N + 1) w))) = detR (N + 1) (mulM (N + 1) jM fun i j => -(xM (N + 1) (-(LP.conj (tK N))) w i j)) := detR_congr fun i hi j hj => j_main h i hi j hj
  rw [detR_mul, detR_mul, detR_mul, jM_det, CR.one_mul, CR.one_mul, tcM_det] at hd
  obtain ⟨u, hu, eu⟩ := det_minus (N + 1) (xM (N + 1) (-(LP.conj (tK N))) w)
  rw [eu] at hd
  have d1 := congrArg LP.conj (det_xM h (N := N) 1)
  rw [LP.conj_mul, LP.conj_mul, CR.one_mul, LP.conj_mul] at d1
  have d2 := det_xM h (N := N) (-(LP.conj (tK N)))
  have hB := det_buU (show N + 1 ≤ 6 by omega) h
  have hqc := qn_conj N
  have htt := tK_cj N
  have hT := UnT.tK N
  have hV : UnT (LP.conj (tK N)) := ⟨_, 1, .inl rfl, cj_tK N⟩
  have hq := qn_ne (n := N + 1) (by omega)
  generalize detR (N + 1) (bu (N + 1) w) = b at *
  generalize LP.conj (detR (N + 1) (xM (N + 1) 1 w)) = x1 at *
  generalize detR (N + 1) (xM (N + 1) (-(LP.conj (tK N))) w) = x2 at *
  generalize LP.conj (adet (N + 1) w) = c1 at *
  generalize adet (N + 1) w = c2 at *
  generalize LP.conj (qn (N + 1)) = qc at *
  generalize qn (N + 1) = q at *
  generalize LP.conj (tK N) = v at *
  generalize tK N = t at *
  have hqq : q * q ≠ 0 := lp_mul_ne hq hq
  -- v x1 = qc qc c1, t x2 = -v q q c2, x1 b = u x2, t v = 1, t qc = q
  have e1 : (q * q) * ((t * b) * c1) = (q * q) * (-(u * (t * v)) * c2) := by
    have f1 : (t * t) * (b * (v * x1)) = (q * q) * (b * c1) := by
      rw [d1, ← hqc]
      ac_rfl
    have f2 : (t * t) * (b * (v * x1)) = (t * v) * (t * (x1 * b)) := by ac_rfl
    rw [hd] at f2
    have f3 : (t * v) * (t * (u * x2)) = (t * v) * (u * (t * x2)) := by ac_rfl
    rw [f3, d2, htt, CR.one_mul] at f2
    have f4 : (q * q) * (b * c1) = u * (-v * (q * q) * c2) := f1.symm.trans f2
    have f5 : (q * q) * ((t * b) * c1) = t * ((q * q) * (b * c1)) := by ac_rfl
    rw [f5, f4, CR.neg_mul, CR.neg_mul, CR.neg_mul, mul_neg, mul_neg, mul_neg]
    congr 1
    ac_rfl
  exact (hT.mul hB).solve (hu.mul (hT.mul hV)).neg (lp_cancel hqq e1)
end Go.Proofs.Ytndgffiihbdppaa
/- Where strands end: permutations of braid words (mathematics). -/
namespace Go.Proofs.Ytndgffiihbdppaa
set_option linter.unusedVariables false
set_option linter.unusedSimpArgs false

theorem endsL_getD {n j : Nat} (w : List Int) (hj : j < n) : (endsL n w).getD j 0 = endE w j := by
  simp [endsL, List.getD, hj]
theorem endE_inj {w : List Int} (h : ∀ x ∈ w, x ≠ 0) {s t : Nat} (e : endE w s = endE w t) : s = t := by
  have h1 := endE_inv w h s
  have h2 := endE_inv w h t
  rw [endE_append] at h1 h2
  rw [← h1, e, h2]
theorem ends_isP {n : Nat} {w : List Int} (h : okB n w) : isP (endsL n w) := by
  refine ⟨fun x hx => ?_, ?_⟩
  · rw [endsL_length]
    obtain ⟨s, hs, rfl⟩ := List.mem_map.1 hx
    exact endE_lt h (List.mem_range.1 hs)
  · unfold endsL
    rw [List.nodup_iff_pairwise_ne, List.pairwise_map]
    exact List.nodup_range.imp fun hne e => hne (endE_inj (fun x hx => (h x hx).1) e)
end Go.Proofs.Ytndgffiihbdppaa
/- Components of a closed braid, and colorings modulo 2 (mathematics of stage 16). -/
namespace Go.Proofs.Ytndgffiihbdppaa
set_option linter.unusedVariables false
set_option linter.unusedSimpArgs false

/-- The strands of each component, in increasing order; the components by their smallest strands. -/
def prtL (a : List Nat) : List (List Nat) := ((List.range a.length).filter fun i => isMin a i).map fun i => (List.range a.length).filter fun j => decide (j ∈ cyc a i)
/-- The smallest strand of a component. -/
def repS (a : List Nat) (s : Nat) : Nat := srch (fun p => isMin a p && decide (p ∈ cyc a s)) a.length 0
theorem isMin_iff {a : List Nat} {i : Nat} : isMin a i = true ↔ ∀ x ∈ cyc a i, i ≤ x := by unfold isMin; exact decide_eq_true_iff
theorem repS_spec {a : List Nat} (h : isP a) {s : Nat} (hs : s < a.length) : repS a s < a.length ∧ repS a s ∈ cyc a s ∧ isMin a (repS a s) = true := by
  obtain ⟨m, h1, h2, h3⟩ := min_ex h hs
  obtain ⟨k1, k2, k3, _⟩ := srch_spec (fun p => isMin a p && decide (p ∈ cyc a s)) a.length 0 ⟨m, Nat.zero_le _, by omega, by rw [h3, decide_eq_true h2]; rfl⟩
  rw [Bool.and_eq_true, decide_eq_true_iff] at k3
  exact ⟨by unfold repS; omega, k3.2, k3.1⟩
theorem repS_le {a : List Nat} (h : isP a) {s : Nat} (hs : s < a.length) : repS a s ≤ s := by
  obtain ⟨h1, h2, h3⟩ := repS_spec h hs
  exact isMin_iff.1 h3 s (cyc_symm h hs h2)
theorem repS_min {a : List Nat} (h : isP a) {s : Nat} (hs : s < a.length) : repS a s = s ↔ isMin a s = true := by
  obtain ⟨h1, h2, h3⟩ := repS_spec h hs
  refine ⟨fun e => by rw [e] at h3; exact h3, fun hm => ?_⟩
  have := isMin_iff.1 hm _ h2
  have := repS_le h hs
  omega
/-! ### colors modulo 2 -/
end Go.Proofs.Ytndgffiihbdppaa
/- The value of the Alexander determinant at 1 (mathematics of stage 16). -/
namespace Go.Proofs.Ytndgffiihbdppaa
set_option linter.unusedVariables false
set_option linter.unusedSimpArgs false
open CR

theorem pw_false (e : Int) : LP.pw false e = 1 := by unfold LP.pw; simp
theorem ev1_term (e s : Int) : LP.ev false (LP.term e s) = s := by
  unfold LP.ev
  rw [LP.lin_term, pw_false, Int.mul_one]
theorem ev1_opW {n : Nat} : ∀ {w : List Int}, okB n w → ∀ i j, i < n → LP.ev false (opW w oneM i j) = if endE w i = j then 1 else 0
  | [], _, i, j, _ => by
    show LP.ev false ((oneM : Mtx LP) i j) = if i = j then 1 else 0
    unfold oneM
    split
    · exact ev_one _
    · rfl
  | x :: w, h, i, j, hi => by
    obtain ⟨h0, h1⟩ := h x (by simp)
    have ih := fun i j hi => ev1_opW (w := w) (fun y hy => h y (by simp [hy])) i j hi
    have hs := stepE_lt h0 h1 hi
    show LP.ev false (opL x (opW w oneM) i j) = if endE w (stepE i x) = j then 1 else 0
    rw [← ih (stepE i x) j hs]
    have eT : LP.ev false tT = 1 := ev1_term 1 1
    have eI : LP.ev false tI = 1 := ev1_term (-1) 1
    unfold opL stepE
    by_cases hp : 0 < x
    · rw [if_pos hp]
      unfold opP
      by_cases e1 : i + 1 = x.natAbs
      · rw [if_pos e1, if_pos e1, LP.ev_add, LP.ev_mul, LP.ev_mul, LP.ev_add, ev_neg, ev_one, eT]
        omega
      · rw [if_neg e1, if_neg e1]
        by_cases e2 : i = x.natAbs
        · rw [if_pos e2, if_pos e2]
        · rw [if_neg e2, if_neg e2]
    · rw [if_neg hp]
      unfold opN
      by_cases e1 : i + 1 = x.natAbs
      · rw [if_pos e1, if_pos e1]
      · rw [if_neg e1, if_neg e1]
        by_cases e2 : i = x.natAbs
        · rw [if_pos e2, if_pos e2, LP.ev_add, LP.ev_mul, LP.ev_mul, LP.ev_add, ev_neg, ev_one, eI]
          omega
        · rw [if_neg e2, if_neg e2]
/-- Determinants of matrices with many zeros. -/
def detZ : Nat → Mtx Int → Int
  | 0, _ => 1
  | n + 1, M => sumN (n + 1) fun j => if M 0 j = 0 then 0 else sgR Int j * (M 0 j * detZ n fun a b => M (a + 1) (skip j b))
theorem detZ_eq : ∀ (n : Nat) (M : Mtx Int), detZ n M = detR n M
  | 0, _ => rfl
  | n + 1, M => sumN_congr fun j _ => by
    by_cases h : M 0 j = 0
    · rw [if_pos h, h]
      show (0 : Int) = sgR Int j * (0 * _)
      rw [Int.zero_mul, Int.mul_zero]
    · rw [if_neg h, detZ_eq n]
def pM (a : List Nat) : Mtx Int := fun i j => (if i = j then 1 else 0) + -(if a.getD i 0 = j then 1 else 0)
def knotP (n : Nat) (a : List Nat) : Bool := decide (detZ (n - 1) (pM a) = if (prtL a).length = 1 then 1 else 0)
theorem knot2 : allP 2 (knotP 2) 2 [] = true := by decide +kernel
theorem knot3 : allP 3 (knotP 3) 3 [] = true := by decide +kernel
theorem knot4 : allP 4 (knotP 4) 4 [] = true := by decide +kernel
theorem knot5 : allP 5 (knotP 5) 5 [] = true := by decide +kernel
theorem knot6 : allP 6 (knotP 6) 6 [] = true := by decide +kernel
theorem knot_all {n : Nat} (h2 : 2 ≤ n) (h6 : n ≤ 6) {a : List Nat} (ha : isP a) (hl : a.length = n) : knotP n a = true := by
  have key : allP n (knotP n) n [] = true := by
    have : n = 2 ∨ n = 3 ∨ n = 4 ∨ n = 5 ∨ n = 6 := by omega
    rcases this with rfl | rfl | rfl | rfl | rfl
    · exact knot2
    · exact knot3
    · exact knot4
    · exact knot5
    · exact knot6
  exact allP_spec n [] a key hl (by simpa using ha.2) fun b hb => by have := ha.1 b hb; omega
/-- At 1, a knot has the value 1, any other link 0. -/
theorem adet_ev1 {N : Nat} (h1 : 1 ≤ N) (hN : N ≤ 5) {w : List Int} (h : okB (N + 1) w) : LP.ev false (adet (N + 1) w) = if (prtL (endsL (N + 1) w)).length = 1 then 1 else 0 := by
  have hk := of_decide_eq_true (knot_all (n := N + 1) (by omega) (by omega) (ends_isP h) (endsL_length (N + 1) w))
  rw [← hk, detZ_eq]
  unfold adet
  rw [ev_detR]
  refine detR_congr fun i hi j hj => ?_
  rw [LP.ev_add, ev_neg, bu_op h i (by omega) j (by omega), ev1_opW h i j (by omega)]
  unfold pM
  rw [endsL_getD w (show i < N + 1 by omega)]
  congr 1
  unfold oneM
  split
  · exact ev_one _
  · rfl
end Go.Proofs.Ytndgffiihbdppaa
