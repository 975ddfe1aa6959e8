/- Several texts in one. -/
import Derived.Test.YtndgffiihbdppaaDoorPart4
import Derived.Test.YtndgffiihbdppaaDoorPart2
/- Determinants of Burau matrices: bounds of their elements, by a check in the kernel. -/
namespace Go.Proofs.YtndgffiihbdppaaDoor
set_option linter.unusedVariables false
set_option linter.unusedSimpArgs false
open LP CR

def insT (e c : Int) : List Tm → List Tm
  | [] => [(e, c)]
  | p :: l => if e = p.1 then (p.1, p.2 + c) :: l else p :: insT e c l
def addT : List Tm → List Tm → List Tm
  | [], b => b
  | p :: a, b => insT p.1 p.2 (addT a b)
theorem coef_ins (e c k : Int) : ∀ l : List Tm, coefT (insT e c l) k = (if e = k then c else 0) + coefT l k
  | [] => rfl
  | p :: l => by
    unfold insT
    by_cases h : e = p.1
    · rw [if_pos h]
      show (if p.1 = k then p.2 + c else 0) + coefT l k = (if e = k then c else 0) + ((if p.1 = k then p.2 else 0) + coefT l k)
      rw [h]
      split <;> omega
    · rw [if_neg h]
      show (if p.1 = k then p.2 else 0) + coefT (insT e c l) k = (if e = k then c else 0) + ((if p.1 = k then p.2 else 0) + coefT l k)
      rw [coef_ins e c k l]
      omega
theorem coef_addT (k : Int) : ∀ a b : List Tm, coefT (addT a b) k = coefT a k + coefT b k
  | [], b => by show coefT b k = 0 + coefT b k; omega
  | p :: a, b => by
    show coefT (insT p.1 p.2 (addT a b)) k = ((if p.1 = k then p.2 else 0) + coefT a k) + coefT b k
    rw [coef_ins, coef_addT k a b]
    omega
theorem mk_addT (a b : List Tm) : LP.mk (addT a b) = LP.mk a + LP.mk b := LP.ext fun k => by
  rw [LP.co_add, LP.co_mk, LP.co_mk, LP.co_mk, coef_addT]
theorem mk_scaleT (e c : Int) (l : List Tm) : LP.mk (scaleT e c l) = LP.term e c * LP.mk l := LP.ext fun k => by
  rw [LP.co_term_mul, LP.co_mk, LP.co_mk, coefT_scale]
def stepL (x : Int) (col : List (List Tm)) : List (List Tm) :=
  (List.range col.length).map fun r =>
    if r + 1 = x.natAbs then (if 0 < x then addT (addT (col.getD r []) (scaleT 1 (-1) (col.getD r []))) (scaleT 1 1 (col.getD (r + 1) [])) else col.getD (r + 1) [])
    else if r = x.natAbs then (if 0 < x then col.getD (r - 1) [] else addT (scaleT (-1) 1 (col.getD (r - 1) [])) (addT (col.getD r []) (scaleT (-1) (-1) (col.getD r []))))
    else col.getD r []
def unitC (n c : Nat) : List (List Tm) := (List.range n).map fun r => if r = c then [(0, 1)] else []
theorem stepL_length (x : Int) (col : List (List Tm)) : (stepL x col).length = col.length := by simp [stepL]
theorem foldr_length (col : List (List Tm)) : ∀ u : List Int, (u.foldr stepL col).length = col.length
  | [] => rfl
  | x :: u => by rw [List.foldr_cons, stepL_length, foldr_length col u]
theorem neg_term (e c : Int) (x : LP) : LP.term e (-c) * x = -(LP.term e c * x) := LP.ext fun k => by
  rw [LP.co_neg, LP.co_term_mul, LP.co_term_mul, Int.neg_mul]
theorem stepL_at {x : Int} {col : List (List Tm)} {A : Mtx LP} {n c : Nat} (hl : col.length = n) (hx : x ≠ 0) (hn : x.natAbs < n) (h : ∀ r, r < n → A r c = LP.mk (col.getD r [])) {r : Nat} (hr : r < n) :
    opL x A r c = LP.mk ((stepL x col).getD r []) := by
  have e : (stepL x col).getD r [] = if r + 1 = x.natAbs then (if 0 < x then addT (addT (col.getD r []) (scaleT 1 (-1) (col.getD r []))) (scaleT 1 1 (col.getD (r + 1) [])) else col.getD (r + 1) [])
    else if r = x.natAbs then (if 0 < x then col.getD (r - 1) [] else addT (scaleT (-1) 1 (col.getD (r - 1) [])) (addT (col.getD r []) (scaleT (-1) (-1) (col.getD r []))))
    else col.getD r [] := by
    have hr2 : r < col.length := by omega
    simp only [stepL, List.getD, List.getElem?_map, List.getElem?_range hr2, Option.map_some, Option.getD_some]
  rw [e]
  unfold opL
  by_cases h0 : 0 < x
  · rw [if_pos h0, if_pos h0, if_pos h0]
    unfold opP
    by_cases h1 : r + 1 = x.natAbs
    · rw [if_pos h1, if_pos h1, mk_addT, mk_addT, mk_scaleT, mk_scaleT, ← h r hr, ← h (r + 1) (by omega), neg_term, CR.add_mul, CR.one_mul, CR.neg_mul]
      rfl
    · rw [if_neg h1, if_neg h1]
      by_cases h2 : r = x.natAbs
      · rw [if_pos h2, if_pos h2, h (r - 1) (by omega)]
      · rw [if_neg h2, if_neg h2, h r hr]
  · rw [if_neg h0, if_neg h0, if_neg h0]
    unfold opN
    by_cases h1 : r + 1 = x.natAbs
    · rw [if_pos h1, if_pos h1, h (r + 1) (by omega)]
    · rw [if_neg h1, if_neg h1]
      by_cases h2 : r = x.natAbs
      · rw [if_pos h2, if_pos h2, mk_addT, mk_addT, mk_scaleT, mk_scaleT, ← h r hr, ← h (r - 1) (by omega), neg_term, CR.add_mul, CR.one_mul, CR.neg_mul]
        rfl
      · rw [if_neg h2, if_neg h2, h r hr]
theorem bu_col {n c : Nat} (hc : c < n) : ∀ {u : List Int}, okB n u → ∀ r, r < n → opW u oneM r c = LP.mk ((u.foldr stepL (unitC n c)).getD r [])
  | [], _, r, hr => by
    show (oneM : Mtx LP) r c = LP.mk ((unitC n c).getD r [])
    simp only [unitC, List.getD, List.getElem?_map, List.getElem?_range hr, Option.map_some, Option.getD_some]
    unfold oneM
    split <;> rfl
  | x :: u, h, r, hr => by
    have hx := h x (by simp)
    exact stepL_at (x := x) (by rw [foldr_length]; simp [unitC]) hx.1 hx.2 (fun r hr => bu_col hc (fun y hy => h y (by simp [hy])) r hr) hr
def okCol (E V W : Nat) (col : List (List Tm)) : Bool := decide (sumK (fun r => sumA (col.getD r [])) col.length ≤ V) && col.all fun l => decide (sumA l ≤ W) && l.all fun p => decide (p.1.natAbs ≤ E)
def chkD (n E V W : Nat) : Nat → List (List Tm) → Bool
  | 0, col => okCol E V W col
  | d + 1, col => okCol E V W col && (List.range n).all fun a => decide (a = 0) || (chkD n E V W d (stepL (a : Int) col) && chkD n E V W d (stepL (-(a : Int)) col))
theorem chkD_ok {n E V W : Nat} : ∀ {d : Nat} {col : List (List Tm)}, chkD n E V W d col = true → okCol E V W col = true
  | 0, _, h => h
  | d + 1, _, h => by
    unfold chkD at h
    exact (Bool.and_eq_true_iff.1 h).1
theorem chkD_sound {n E V W : Nat} : ∀ (d : Nat) (col : List (List Tm)), chkD n E V W d col = true → ∀ u, okB n u → u.length ≤ d → okCol E V W (u.foldr stepL col) = true
  | d, col, h, u, hu, hl => by
    rcases List.eq_nil_or_concat u with e | ⟨v, y, e⟩
    · subst e
      exact chkD_ok h
    · have e2 : u = v ++ [y] := by simpa using e
      subst e2
      obtain ⟨d', rfl⟩ : ∃ d', d = d' + 1 := ⟨d - 1, by simp at hl; omega⟩
      obtain ⟨hy0, hyn⟩ := hu y (by simp)
      unfold chkD at h
      have h2 := List.all_eq_true.1 (Bool.and_eq_true_iff.1 h).2 y.natAbs (List.mem_range.2 hyn)
      rw [decide_eq_false (by omega), Bool.false_or] at h2
      obtain ⟨h3, h4⟩ := Bool.and_eq_true_iff.1 h2
      rw [List.foldr_append]
      have h5 : chkD n E V W d' (stepL y col) = true := by
        by_cases hp : 0 < y
        · rwa [show ((y.natAbs : Nat) : Int) = y by omega] at h3
        · rwa [show -((y.natAbs : Nat) : Int) = y by omega] at h4
      exact chkD_sound d' (stepL y col) h5 v (fun z hz => hu z (by simp [hz])) (by simp at hl; omega)
termination_by d => d
def smallB (E V W d : Nat) : Bool := (List.range 5).all fun n => decide (n < 2) || (List.range n).all fun c => chkD n E V W d (unitC n c)
theorem small4 : smallB 4 23 12 4 = true := by decide +kernel
theorem small1 : smallB 1 3 2 1 = true := by decide +kernel
theorem small_col {E V W d : Nat} (hs : smallB E V W d = true) {n : Nat} (h2 : 2 ≤ n) (h4 : n ≤ 4) {u : List Int} (hu : okB n u) (hl : u.length ≤ d) {c : Nat} (hc : c < n) : okCol E V W (u.foldr stepL (unitC n c)) = true := by
  have h := List.all_eq_true.1 hs n (List.mem_range.2 (by omega))
  rw [decide_eq_false (by omega), Bool.false_or] at h
  exact chkD_sound d _ (List.all_eq_true.1 h c (List.mem_range.2 hc)) u hu hl
theorem col_n1 {E V W d : Nat} (hs : smallB E V W d = true) {n : Nat} (h2 : 2 ≤ n) (h4 : n ≤ 4) {u : List Int} (hu : okB n u) (hl : u.length ≤ d) :
    ∃ v : Nat → Nat → Nat, (∀ i, i < n → ∀ j, j < n → LP.N1 (bu n u j i) E (v i j) ∧ LP.N1 (bu n u j i) E W) ∧ ∀ i, i < n → sumK (v i) n ≤ V := by
  refine ⟨fun i j => sumA ((u.foldr stepL (unitC n i)).getD j []), fun i hi j hj => ?_, fun i hi => ?_⟩
  · have h := small_col hs h2 h4 hu hl hi
    unfold okCol at h
    have hln : (u.foldr stepL (unitC n i)).length = n := by rw [foldr_length]; simp [unitC]
    have hm : (u.foldr stepL (unitC n i)).getD j [] ∈ u.foldr stepL (unitC n i) := by
      rw [getD_of_lt [] (by omega)]
      exact List.getElem_mem _
    have h3 := List.all_eq_true.1 (Bool.and_eq_true_iff.1 h).2 _ hm
    obtain ⟨h5, h6⟩ := Bool.and_eq_true_iff.1 h3
    have e : LP.mk ((u.foldr stepL (unitC n i)).getD j []) = bu n u j i := by rw [bu_op hu j hj i hi, bu_col hi hu j hj]
    have hE : ∀ p ∈ (u.foldr stepL (unitC n i)).getD j [], p.1.natAbs ≤ E := fun p hp => of_decide_eq_true (List.all_eq_true.1 h6 p hp)
    exact ⟨⟨_, e, hE, Nat.le_refl _⟩, ⟨_, e, hE, of_decide_eq_true h5⟩⟩
  · have h := small_col hs h2 h4 hu hl hi
    unfold okCol at h
    have hln : (u.foldr stepL (unitC n i)).length = n := by rw [foldr_length]; simp [unitC]
    have := of_decide_eq_true (Bool.and_eq_true_iff.1 h).1
    rwa [hln] at this
theorem col_RN {E V W d : Nat} (hs : smallB E V W d = true) {n : Nat} (h2 : 2 ≤ n) (h4 : n ≤ 4) {u : List Int} (hu : okB n u) (hl : u.length ≤ d) : RN n (fun i j => bu n u j i) E V := by
  obtain ⟨v, h1, h3⟩ := col_n1 hs h2 h4 hu hl
  exact ⟨v, fun i hi j hj => (h1 i hi j hj).1, h3⟩
/-- The elements of the Burau matrix of a word of 9 letters on at most 4 strands are small. -/
theorem bu_small {n : Nat} (h2 : 2 ≤ n) (h4 : n ≤ 4) {w : List Int} (hw : okB n w) (hl : w.length ≤ 9) {i j : Nat} (hi : i < n) (hj : j < n) : LP.N1 (bu n w i j) 9 828 := by
  have e : w = w.take 4 ++ ((w.drop 4).take 4 ++ w.drop 8) := by
    have e1 := (List.take_append_drop 4 (w.drop 4)).symm
    rw [List.drop_drop] at e1
    rw [← e1, List.take_append_drop]
  have o1 : okB n (w.take 4) := fun x hx => hw x (List.mem_of_mem_take hx)
  have o2 : okB n ((w.drop 4).take 4) := fun x hx => hw x (List.mem_of_mem_drop (List.mem_of_mem_take hx))
  have o3 : okB n (w.drop 8) := fun x hx => hw x (List.mem_of_mem_drop hx)
  obtain ⟨va, ha, _⟩ := col_n1 small4 h2 h4 o1 (by simp; omega)
  have hb := col_RN small4 h2 h4 o2 (by simp; omega)
  have hc := col_RN small1 h2 h4 o3 (by simp; omega)
  obtain ⟨v, h5, h6⟩ := hc.mul hb
  rw [e, bu_append n _ _ i hi j hj]
  show LP.N1 (sumN n fun k => bu n (w.take 4) i k * bu n ((w.drop 4).take 4 ++ w.drop 8) k j) 9 828
  have h7 : ∀ k, k < n → bu n ((w.drop 4).take 4 ++ w.drop 8) k j = mulM n (fun a b => bu n (w.drop 8) b a) (fun a b => bu n ((w.drop 4).take 4) b a) j k := fun k hk => by
    rw [bu_append n _ _ k hk j hj]
    exact sumN_congr fun l _ => CR.mul_comm _ _
  refine (LP.N1.sumK (E := 9) (g := fun k => 12 * v j k) fun k hk => ?_).mono (Nat.le_refl _) ?_
  · rw [h7 k hk]
    exact ((ha k hk i hi).2.mul (h5 j hj k hk)).mono (by omega) (Nat.le_refl _)
  · rw [sumK_mul]
    have := h6 j hj
    omega
theorem canon_room {x : LP} {E : Nat} {V : Nat} (h : LP.N1 x E V) : (LP.canon x).2.length ≤ 2 * E + 1 ∧ (LP.canon x).1.natAbs ≤ E ∧ ∀ c ∈ (LP.canon x).2, c.natAbs ≤ V := by
  have hc := LP.canon_cano x
  have ho := LP.of_canon x
  refine ⟨?_, ?_, fun c hcm => ?_⟩
  · by_cases hn : (LP.canon x).2 = []
    · rw [hn]; simp
    · have h1 := hc.low hn
      have h2 := hc.high hn
      rw [ho] at h1 h2
      have h3 := h.supp h1
      have h4 := h.supp h2
      omega
  · by_cases hn : (LP.canon x).2 = []
    · rcases hc with h1 | h1
      · rw [h1.2]; simp
      · exact absurd hn h1.1
    · have h1 := hc.low hn
      rw [ho] at h1
      exact h.supp h1
  · obtain ⟨k, hk, e⟩ := List.mem_iff_getElem.1 hcm
    have h1 := h.co ((LP.canon x).1 + k)
    have e3 := LP.co_of_at (lo := (LP.canon x).1) hk
    rw [ho] at e3
    rw [e3, getD_of_lt 0 hk, e] at h1
    exact h1
end Go.Proofs.YtndgffiihbdppaaDoor
/- Minors of a Burau matrix, letter by letter (mathematics of stage 14). -/
namespace Go.Proofs.YtndgffiihbdppaaDoor
set_option linter.unusedVariables false
set_option linter.unusedSimpArgs false
open CR

/-- A row of A, or (from 100 on) a unit row. -/
def stkR (A : Mtx LP) (p : Nat) : Nat → LP := fun j => if p < 100 then A p j else oneM (p - 100) j
def matQ (q : List Nat) (A : Mtx LP) : Mtx LP := fun i => stkR A (q.getD i 0)
def dN (N : Nat) (q : List Nat) (A : Mtx LP) : LP := detR N (matQ q A)
theorem getD_set_ne {q : List Nat} {r i p : Nat} (h : i ≠ r) : (q.set r p).getD i 0 = q.getD i 0 := by
  simp only [List.getD, List.getElem?_set]; rw [if_neg (Ne.symm h)]
theorem getD_set_eq {q : List Nat} {r p : Nat} (h : r < q.length) : (q.set r p).getD r 0 = p := by
  simp [List.getD, List.getElem?_set, h]
theorem dN_upd {N r : Nat} {q : List Nat} (hl : q.length = N) (hr : r < N) (A : Mtx LP) (p : Nat) : dN N (q.set r p) A = detR N (updR (matQ q A) r (stkR A p)) :=
  detR_congr fun i hi j hj => by
    unfold matQ
    by_cases h : i = r
    · subst h; rw [getD_set_eq (by omega), updR_same]
    · rw [getD_set_ne h, updR_ne _ _ h]
theorem dN_none {N : Nat} {q : List Nat} {A B : Mtx LP} (h : ∀ i, i < N → stkR B (q.getD i 0) = stkR A (q.getD i 0)) : dN N q B = dN N q A :=
  detR_congr fun i hi j _ => by unfold matQ; rw [h i hi]
theorem dN_one {N r : Nat} {q : List Nat} {A B : Mtx LP} (hl : q.length = N) (hr : r < N) (h : ∀ i, i < N → i ≠ r → stkR B (q.getD i 0) = stkR A (q.getD i 0)) (c d : LP) (u v : Nat)
    (hB : stkR B (q.getD r 0) = fun j => c * stkR A u j + d * stkR A v j) : dN N q B = c * dN N (q.set r u) A + d * dN N (q.set r v) A := by
  have e : dN N q B = detR N (updR (matQ q A) r fun j => c * stkR A u j + d * stkR A v j) := detR_congr fun i hi j _ => by
    by_cases hir : i = r
    · subst hir; rw [updR_same]; show stkR B (q.getD i 0) j = _; rw [hB]
    · rw [updR_ne _ _ hir]; show stkR B (q.getD i 0) j = stkR A (q.getD i 0) j; rw [h i hi hir]
  rw [e, (detR_alt N).add _ r _ _ hr, (detR_alt N).smul _ r c _ hr, (detR_alt N).smul _ r d _ hr, dN_upd hl hr, dN_upd hl hr]
theorem dN_two {N r s : Nat} {q : List Nat} {A B : Mtx LP} (hr : r < N) (hs : s < N) (hne : r ≠ s) (h : ∀ i, i < N → i ≠ r → i ≠ s → stkR B (q.getD i 0) = stkR A (q.getD i 0)) (c d : LP)
    (hBr : stkR B (q.getD r 0) = fun j => c * stkR A (q.getD r 0) j + d * stkR A (q.getD s 0) j) (hBs : stkR B (q.getD s 0) = stkR A (q.getD r 0)) : dN N q B = -d * dN N q A := by
  have e : dN N q B = detR N (updR (updR (matQ q A) s (stkR A (q.getD r 0))) r fun j => c * stkR A (q.getD r 0) j + d * stkR A (q.getD s 0) j) := detR_congr fun i hi j _ => by
    by_cases hir : i = r
    · subst hir; rw [updR_same]; show stkR B (q.getD i 0) j = _; rw [hBr]
    · rw [updR_ne _ _ hir]
      by_cases his : i = s
      · subst his; rw [updR_same]; show stkR B (q.getD i 0) j = _; rw [hBs]
      · rw [updR_ne _ _ his]; show stkR B (q.getD i 0) j = stkR A (q.getD i 0) j; rw [h i hi hir his]
  have e2 : updR (updR (matQ q A) s (stkR A (q.getD r 0))) r (stkR A (q.getD s 0)) = swapR (matQ q A) s r := rfl
  have e3 : detR N (updR (updR (matQ q A) s (stkR A (q.getD r 0))) r (stkR A (q.getD r 0))) = 0 := (detR_alt N).alt' _ hr hs hne fun j _ => by
    rw [updR_same, updR_ne _ _ (Ne.symm hne), updR_same]
  rw [e, (detR_alt N).add _ r _ _ hr, (detR_alt N).smul _ r c _ hr, (detR_alt N).smul _ r d _ hr, e3, CR.mul_zero, CR.zero_add, e2, (detR_alt N).swap _ hs hr (Ne.symm hne), CR.mul_neg, CR.neg_mul]
  rfl
theorem stk_opP_lo (t : LP) {a : Nat} (h1 : 1 ≤ a) (h2 : a < 100) (A : Mtx LP) : stkR (opP t a A) (a - 1) = fun j => (1 + -t) * stkR A (a - 1) j + t * stkR A a j := by
  funext j
  simp only [stkR, opP]
  rw [if_pos (by omega), if_pos (by omega), if_pos (by omega), if_pos (by omega), show a - 1 + 1 = a by omega]
theorem stk_opP_hi (t : LP) {a : Nat} (h1 : 1 ≤ a) (h2 : a < 100) (A : Mtx LP) : stkR (opP t a A) a = stkR A (a - 1) := by
  funext j
  simp only [stkR, opP]
  rw [if_pos (by omega), if_neg (by omega), if_pos trivial, if_pos (by omega)]
theorem stk_opN_lo (t : LP) {a : Nat} (h1 : 1 ≤ a) (h2 : a < 100) (A : Mtx LP) : stkR (opN t a A) (a - 1) = stkR A a := by
  funext j
  simp only [stkR, opN]
  rw [if_pos (by omega), if_pos (by omega), if_pos (by omega), show a - 1 + 1 = a by omega]
theorem stk_opN_hi (t : LP) {a : Nat} (h1 : 1 ≤ a) (h2 : a < 100) (A : Mtx LP) : stkR (opN t a A) a = fun j => (1 + -t) * stkR A a j + t * stkR A (a - 1) j := by
  funext j
  simp only [stkR, opN]
  rw [if_pos (by omega), if_neg (by omega), if_pos trivial, if_pos (by omega), if_pos (by omega), CR.add_comm]
theorem stk_opP_ne (t : LP) {a p : Nat} (A : Mtx LP) (h1 : p + 1 ≠ a) (h2 : p ≠ a) : stkR (opP t a A) p = stkR A p := by
  funext j
  simp only [stkR, opP]
  rw [if_neg h1, if_neg h2]
theorem stk_opN_ne (t : LP) {a p : Nat} (A : Mtx LP) (h1 : p + 1 ≠ a) (h2 : p ≠ a) : stkR (opN t a A) p = stkR A p := by
  funext j
  simp only [stkR, opN]
  rw [if_neg h1, if_neg h2]

/-! ### rows given by sets -/
def onesT (T : Nat) : List Nat := (List.range 6).filter fun b => T.testBit b
def popS (S i : Nat) : Nat := (List.range i).countP fun b => S.testBit b
def qST (N S T : Nat) : List Nat := (List.range N).map fun i => if S.testBit i then (onesT T).getD (popS S i) 0 else 100 + i
def goodB (N S T : Nat) : Bool := decide (T < 2 ^ (N + 1)) && ((onesT T).length == popS S N)
def onlyB (q : List Nat) (p r : Nat) : Bool := decide (r < q.length) && ((q.getD r 0 == p) && (List.range q.length).all fun i => (i == r) || (q.getD i 0 != p))
def noneB (q : List Nat) (p : Nat) : Bool := (List.range q.length).all fun i => q.getD i 0 != p
def selS (N S T a : Nat) : Bool :=
  let q := qST N S T
  if T.testBit (a - 1) then
    (if T.testBit a then onlyB q (a - 1) (q.idxOf (a - 1)) && onlyB q a (q.idxOf a)
     else onlyB q (a - 1) (q.idxOf (a - 1)) && (noneB q a && (goodB N S (T + 2 ^ (a - 1)) && (q.set (q.idxOf (a - 1)) a == qST N S (T + 2 ^ (a - 1))))))
  else (if T.testBit a then noneB q (a - 1) && (onlyB q a (q.idxOf a) && (goodB N S (T - 2 ^ (a - 1)) && (q.set (q.idxOf a) (a - 1) == qST N S (T - 2 ^ (a - 1)))))
     else noneB q (a - 1) && noneB q a)
def selAll : Bool := (List.range 6).all fun N => (List.range (2 ^ N)).all fun S => (List.range (2 ^ (N + 1))).all fun T => !goodB N S T || (List.range (N + 1)).all fun a => (a == 0) || selS N S T a
theorem sel_all : selAll = true := by decide +kernel
theorem sel_at {N S T a : Nat} (hN : N ≤ 5) (hS : S < 2 ^ N) (hg : goodB N S T = true) (h1 : 1 ≤ a) (ha : a ≤ N) : selS N S T a = true := by
  have hT : T < 2 ^ (N + 1) := of_decide_eq_true (Bool.and_eq_true_iff.1 hg).1
  have h := List.all_eq_true.1 (List.all_eq_true.1 (List.all_eq_true.1 sel_all N (List.mem_range.2 (by omega))) S (List.mem_range.2 hS)) T (List.mem_range.2 hT)
  rw [hg, Bool.not_true, Bool.false_or] at h
  have h2 := List.all_eq_true.1 h a (List.mem_range.2 (by omega))
  rwa [show (a == 0) = false by simp; omega, Bool.false_or] at h2
theorem onlyB_out {q : List Nat} {p r : Nat} (h : onlyB q p r = true) : r < q.length ∧ q.getD r 0 = p ∧ ∀ i, i < q.length → i ≠ r → q.getD i 0 ≠ p := by
  obtain ⟨h1, h2⟩ := Bool.and_eq_true_iff.1 h
  obtain ⟨h2, h3⟩ := Bool.and_eq_true_iff.1 h2
  refine ⟨of_decide_eq_true h1, by simpa using h2, fun i hi hne => ?_⟩
  have := List.all_eq_true.1 h3 i (List.mem_range.2 hi)
  simp at this
  rcases this with h | h
  · exact absurd h hne
  · exact h
theorem noneB_out {q : List Nat} {p : Nat} (h : noneB q p = true) : ∀ i, i < q.length → q.getD i 0 ≠ p := fun i hi => by
  have := List.all_eq_true.1 h i (List.mem_range.2 hi)
  simpa using this
theorem qST_length (N S T : Nat) : (qST N S T).length = N := by simp [qST]
def wST (N S T : Nat) (A : Mtx LP) : LP := dN N (qST N S T) A
/-- What row T of the minors becomes. -/
def stepMn (x : Int) (T : Nat) : List (Nat × List Tm) :=
  if T.testBit (x.natAbs - 1) then
    (if T.testBit x.natAbs then [(T, [(if 0 < x then 1 else -1, -1)])]
     else if 0 < x then [(T, [(0, 1), (1, -1)]), (T + 2 ^ (x.natAbs - 1), [(1, 1)])] else [(T + 2 ^ (x.natAbs - 1), [(0, 1)])])
  else (if T.testBit x.natAbs then (if 0 < x then [(T - 2 ^ (x.natAbs - 1), [(0, 1)])] else [(T, [(0, 1), (-1, -1)]), (T - 2 ^ (x.natAbs - 1), [(-1, 1)])])
     else [(T, [(0, 1)])])
def valV (N S : Nat) (A : Mtx LP) : List (Nat × List Tm) → LP
  | [] => 0
  | p :: v => LP.mk p.2 * wST N S p.1 A + valV N S A v
theorem mk_one : LP.mk [(0, 1)] = 1 := rfl
theorem mk_tT : LP.mk [(1, 1)] = tT := rfl
theorem mk_tI : LP.mk [(-1, 1)] = tI := rfl
theorem mk_1t : LP.mk [(0, 1), (1, -1)] = 1 + -tT := LP.ext fun k => by
  unfold tT
  rw [LP.co_add, LP.co_neg, LP.co_one, LP.co_term, LP.co_mk]
  show (if (0 : Int) = k then (1 : Int) else 0) + ((if (1 : Int) = k then (-1 : Int) else 0) + 0) = _
  grind
theorem mk_1i : LP.mk [(0, 1), (-1, -1)] = 1 + -tI := LP.ext fun k => by
  unfold tI
  rw [LP.co_add, LP.co_neg, LP.co_one, LP.co_term, LP.co_mk]
  show (if (0 : Int) = k then (1 : Int) else 0) + ((if (-1 : Int) = k then (-1 : Int) else 0) + 0) = _
  grind
theorem mk_nt : LP.mk [(1, -1)] = -tT := LP.ext fun k => by
  unfold tT
  rw [LP.co_neg, LP.co_term, LP.co_mk]
  show (if (1 : Int) = k then (-1 : Int) else 0) + 0 = _
  grind
theorem mk_ni : LP.mk [(-1, -1)] = -tI := LP.ext fun k => by
  unfold tI
  rw [LP.co_neg, LP.co_term, LP.co_mk]
  show (if (-1 : Int) = k then (-1 : Int) else 0) + 0 = _
  grind
theorem stepMn_good {N S T : Nat} {x : Int} (hN : N ≤ 5) (hS : S < 2 ^ N) (hg : goodB N S T = true) (h0 : x ≠ 0) (hx : x.natAbs ≤ N) : ∀ p ∈ stepMn x T, goodB N S p.1 = true := by
  have h := sel_at hN hS hg (show 1 ≤ x.natAbs by omega) hx
  unfold selS at h
  unfold stepMn
  intro p hp
  by_cases hlo : T.testBit (x.natAbs - 1) = true
  · simp only [hlo, if_true] at h hp
    by_cases hhi : T.testBit x.natAbs = true
    · simp only [hhi, if_true] at hp
      simp at hp; rw [hp]; exact hg
    · simp only [hhi, if_false, Bool.false_eq_true] at h hp
      have hg2 := (Bool.and_eq_true_iff.1 (Bool.and_eq_true_iff.1 (Bool.and_eq_true_iff.1 h).2).2).1
      split at hp
      · simp at hp
        rcases hp with rfl | rfl
        · exact hg
        · exact hg2
      · simp at hp; rw [hp]; exact hg2
  · simp only [hlo, if_false, Bool.false_eq_true] at h hp
    by_cases hhi : T.testBit x.natAbs = true
    · simp only [hhi, if_true] at h hp
      have hg2 := (Bool.and_eq_true_iff.1 (Bool.and_eq_true_iff.1 (Bool.and_eq_true_iff.1 h).2).2).1
      split at hp
      · simp at hp; rw [hp]; exact hg2
      · simp at hp
        rcases hp with rfl | rfl
        · exact hg
        · exact hg2
    · simp only [hhi, if_false, Bool.false_eq_true] at hp
      simp at hp; rw [hp]; exact hg
theorem wST_step {N S T : Nat} {x : Int} (hN : N ≤ 5) (hS : S < 2 ^ N) (hg : goodB N S T = true) (h0 : x ≠ 0) (hx : x.natAbs ≤ N) (A : Mtx LP) : wST N S T (opL x A) = valV N S A (stepMn x T) := by
  have h := sel_at hN hS hg (show 1 ≤ x.natAbs by omega) hx
  have hl := qST_length N S T
  unfold selS at h
  unfold stepMn wST opL
  have h1 : 1 ≤ x.natAbs := by omega
  have h2 : x.natAbs < 100 := by omega
  obtain ⟨a, ha⟩ : ∃ a, x.natAbs = a := ⟨_, rfl⟩
  rw [ha] at h h1 h2 hx ⊢
  generalize hq : qST N S T = q at *
  by_cases hlo : T.testBit (a - 1) = true
  · simp only [hlo, if_true] at h ⊢
    by_cases hhi : T.testBit a = true
    · simp only [hhi, if_true] at h ⊢
      obtain ⟨r1, r2, r3⟩ := onlyB_out (Bool.and_eq_true_iff.1 h).1
      obtain ⟨s1, s2, s3⟩ := onlyB_out (Bool.and_eq_true_iff.1 h).2
      generalize q.idxOf (a - 1) = r at *
      generalize q.idxOf a = s at *
      rw [hl] at r1 r3 s1 s3
      have hne : r ≠ s := fun e => by subst e; omega
      have ho : ∀ i, i < N → i ≠ r → i ≠ s → q.getD i 0 + 1 ≠ a ∧ q.getD i 0 ≠ a := fun i hi e1 e2 => by have := r3 i hi e1; have := s3 i hi e2; omega
      by_cases h0x : 0 < x
      · rw [if_pos h0x]
        simp only [h0x, if_true]
        rw [dN_two (r := r) (s := s) (A := A) r1 s1 hne (fun i hi e1 e2 => stk_opP_ne _ _ (ho i hi e1 e2).1 (ho i hi e1 e2).2) (1 + -tT) tT (by rw [r2, s2]; exact stk_opP_lo _ h1 h2 _) (by rw [r2, s2]; exact stk_opP_hi _ h1 h2 _)]
        show _ = LP.mk [(1, -1)] * dN N (qST N S T) A + 0
        rw [hq, mk_nt, CR.add_zero]
      · rw [if_neg h0x]
        simp only [h0x, if_false]
        rw [dN_two (r := s) (s := r) (A := A) s1 r1 (Ne.symm hne) (fun i hi e1 e2 => stk_opN_ne _ _ (ho i hi e2 e1).1 (ho i hi e2 e1).2) (1 + -tI) tI (by rw [r2, s2]; exact stk_opN_hi _ h1 h2 _) (by rw [r2, s2]; exact stk_opN_lo _ h1 h2 _)]
        show _ = LP.mk [(-1, -1)] * dN N (qST N S T) A + 0
        rw [hq, mk_ni, CR.add_zero]
    · simp only [hhi, if_false, Bool.false_eq_true] at h ⊢
      obtain ⟨r1, r2, r3⟩ := onlyB_out (Bool.and_eq_true_iff.1 h).1
      have s3 := noneB_out (Bool.and_eq_true_iff.1 (Bool.and_eq_true_iff.1 h).2).1
      have e := (Bool.and_eq_true_iff.1 (Bool.and_eq_true_iff.1 (Bool.and_eq_true_iff.1 h).2).2).2
      generalize q.idxOf (a - 1) = r at *
      rw [hl] at r1 r3 s3
      have e' : q.set r a = qST N S (T + 2 ^ (a - 1)) := by simpa using e
      have es : q.set r (a - 1) = q := by rw [← r2]; exact List.ext_getElem (by simp) fun i h1 h2 => by simp [List.getElem_set, List.getD]; intro hh; subst hh; simp [h2]
      have ho : ∀ i, i < N → i ≠ r → q.getD i 0 + 1 ≠ a ∧ q.getD i 0 ≠ a := fun i hi e1 => by have := r3 i hi e1; have := s3 i hi; omega
      by_cases h0x : 0 < x
      · rw [if_pos h0x]
        simp only [h0x, if_true]
        rw [dN_one (r := r) (A := A) hl r1 (fun i hi e1 => stk_opP_ne _ _ (ho i hi e1).1 (ho i hi e1).2) (1 + -tT) tT (a - 1) a (by rw [r2]; exact stk_opP_lo _ h1 h2 _)]
        show _ = LP.mk [(0, 1), (1, -1)] * dN N (qST N S T) A + (LP.mk [(1, 1)] * dN N (qST N S (T + 2 ^ (a - 1))) A + 0)
        rw [hq, mk_1t, mk_tT, CR.add_zero, es, e']
      · rw [if_neg h0x]
        simp only [h0x, if_false]
        rw [dN_one (r := r) (A := A) hl r1 (fun i hi e1 => stk_opN_ne _ _ (ho i hi e1).1 (ho i hi e1).2) 1 0 a a (by rw [r2, stk_opN_lo _ h1 h2]; funext j; rw [CR.one_mul, CR.zero_mul, CR.add_zero])]
        show _ = LP.mk [(0, 1)] * dN N (qST N S (T + 2 ^ (a - 1))) A + 0
        rw [mk_one, CR.one_mul, CR.one_mul, CR.zero_mul, e']
  · simp only [hlo, if_false, Bool.false_eq_true] at h ⊢
    by_cases hhi : T.testBit a = true
    · simp only [hhi, if_true] at h ⊢
      have r3 := noneB_out (Bool.and_eq_true_iff.1 h).1
      obtain ⟨s1, s2, s3⟩ := onlyB_out (Bool.and_eq_true_iff.1 (Bool.and_eq_true_iff.1 h).2).1
      have e := (Bool.and_eq_true_iff.1 (Bool.and_eq_true_iff.1 (Bool.and_eq_true_iff.1 h).2).2).2
      generalize q.idxOf a = s at *
      rw [hl] at r3 s1 s3
      have e' : q.set s (a - 1) = qST N S (T - 2 ^ (a - 1)) := by simpa using e
      have es : q.set s a = q := by rw [← s2]; exact List.ext_getElem (by simp) fun i h1 h2 => by simp [List.getElem_set, List.getD]; intro hh; subst hh; simp [h2]
      have ho : ∀ i, i < N → i ≠ s → q.getD i 0 + 1 ≠ a ∧ q.getD i 0 ≠ a := fun i hi e1 => by have := s3 i hi e1; have := r3 i hi; omega
      by_cases h0x : 0 < x
      · rw [if_pos h0x]
        simp only [h0x, if_true]
        rw [dN_one (r := s) (A := A) hl s1 (fun i hi e1 => stk_opP_ne _ _ (ho i hi e1).1 (ho i hi e1).2) 1 0 (a - 1) (a - 1) (by rw [s2, stk_opP_hi _ h1 h2]; funext j; rw [CR.one_mul, CR.zero_mul, CR.add_zero])]
        show _ = LP.mk [(0, 1)] * dN N (qST N S (T - 2 ^ (a - 1))) A + 0
        rw [mk_one, CR.one_mul, CR.one_mul, CR.zero_mul, e']
      · rw [if_neg h0x]
        simp only [h0x, if_false]
        rw [dN_one (r := s) (A := A) hl s1 (fun i hi e1 => stk_opN_ne _ _ (ho i hi e1).1 (ho i hi e1).2) (1 + -tI) tI a (a - 1) (by rw [s2]; exact stk_opN_hi _ h1 h2 _)]
        show _ = LP.mk [(0, 1), (-1, -1)] * dN N (qST N S T) A + (LP.mk [(-1, 1)] * dN N (qST N S (T - 2 ^ (a - 1))) A + 0)
        rw [hq, mk_1i, mk_tI, CR.add_zero, es, e']
    · simp only [hhi, if_false, Bool.false_eq_true] at h ⊢
      have r3 := noneB_out (Bool.and_eq_true_iff.1 h).1
      have s3 := noneB_out (Bool.and_eq_true_iff.1 h).2
      rw [hl] at r3 s3
      have ho : ∀ i, i < N → q.getD i 0 + 1 ≠ a ∧ q.getD i 0 ≠ a := fun i hi => by have := r3 i hi; have := s3 i hi; omega
      by_cases h0x : 0 < x
      · rw [if_pos h0x, dN_none fun i hi => stk_opP_ne _ _ (ho i hi).1 (ho i hi).2]
        show _ = LP.mk [(0, 1)] * dN N (qST N S T) A + 0
        rw [hq, mk_one, CR.one_mul, CR.add_zero]
      · rw [if_neg h0x, dN_none fun i hi => stk_opN_ne _ _ (ho i hi).1 (ho i hi).2]
        show _ = LP.mk [(0, 1)] * dN N (qST N S T) A + 0
        rw [hq, mk_one, CR.one_mul, CR.add_zero]
end Go.Proofs.YtndgffiihbdppaaDoor
/- Minors of Burau matrices are small, by a check in the kernel (mathematics of stage 14). -/
namespace Go.Proofs.YtndgffiihbdppaaDoor
set_option linter.unusedVariables false
set_option linter.unusedSimpArgs false
open LP CR

def insV (T : Nat) (l : List Tm) : List (Nat × List Tm) → List (Nat × List Tm)
  | [] => [(T, l)]
  | p :: v => bif Nat.beq T p.1 then (p.1, addT l p.2) :: v else p :: insV T l v
/-- Terms times terms, the second ones few. -/
def mulF (l : List Tm) : List Tm → List Tm
  | [] => []
  | t :: o => addT (scaleT t.1 t.2 l) (mulF l o)
def addO (l : List Tm) : List (Nat × List Tm) → List (Nat × List Tm) → List (Nat × List Tm)
  | [], acc => acc
  | o :: os, acc => insV o.1 (mulF l o.2) (addO l os acc)
def stepV (x : Int) : List (Nat × List Tm) → List (Nat × List Tm)
  | [] => []
  | p :: v => addO p.2 (stepMn x p.1) (stepV x v)
theorem val_insV (N S : Nat) (A : Mtx LP) (T : Nat) (l : List Tm) : ∀ v, valV N S A (insV T l v) = LP.mk l * wST N S T A + valV N S A v
  | [] => rfl
  | p :: v => by
    unfold insV
    by_cases h : Nat.beq T p.1 = true
    · rw [h, cond_true]
      have e : T = p.1 := Nat.eq_of_beq_eq_true h
      show LP.mk (addT l p.2) * wST N S p.1 A + valV N S A v = LP.mk l * wST N S T A + (LP.mk p.2 * wST N S p.1 A + valV N S A v)
      rw [mk_addT, CR.add_mul, ← CR.add_assoc, e]
    · rw [show Nat.beq T p.1 = false from (Bool.not_eq_true _).mp h, cond_false]
      show LP.mk p.2 * wST N S p.1 A + valV N S A (insV T l v) = LP.mk l * wST N S T A + (LP.mk p.2 * wST N S p.1 A + valV N S A v)
      rw [val_insV N S A T l v]
      ac_rfl
theorem mk_consT (t : Tm) (o : List Tm) : LP.mk (t :: o) = LP.term t.1 t.2 + LP.mk o := LP.ext fun k => by
  rw [LP.co_add, LP.co_mk, LP.co_mk, LP.co_term]
  show (if t.1 = k then t.2 else 0) + coefT o k = _
  grind
theorem mk_mulF (l : List Tm) : ∀ o, LP.mk (mulF l o) = LP.mk l * LP.mk o
  | [] => by show (0 : LP) = LP.mk l * 0; rw [CR.mul_zero]
  | t :: o => by
    unfold mulF
    rw [mk_addT, mk_scaleT, mk_mulF l o, mk_consT t o, CR.mul_add, CR.mul_comm (LP.term t.1 t.2)]
theorem val_addO (N S : Nat) (A : Mtx LP) (l : List Tm) (acc : List (Nat × List Tm)) : ∀ os, valV N S A (addO l os acc) = LP.mk l * valV N S A os + valV N S A acc
  | [] => by show _ = LP.mk l * 0 + _; rw [CR.mul_zero, CR.zero_add]; rfl
  | o :: os => by
    show valV N S A (insV o.1 (mulF l o.2) (addO l os acc)) = LP.mk l * (LP.mk o.2 * wST N S o.1 A + valV N S A os) + _
    rw [val_insV, val_addO N S A l acc os, mk_mulF, CR.mul_add, CR.mul_assoc, CR.add_assoc]
def goodV (N S : Nat) (v : List (Nat × List Tm)) : Prop := ∀ p ∈ v, goodB N S p.1 = true
theorem good_insV {N S T : Nat} {l : List Tm} (hT : goodB N S T = true) : ∀ {v}, goodV N S v → goodV N S (insV T l v)
  | [], _ => fun p hp => by simp [insV] at hp; rw [hp]; exact hT
  | p :: v, h => by
    unfold insV
    by_cases e : Nat.beq T p.1 = true
    · rw [e, cond_true]
      intro q hq
      rcases List.mem_cons.1 hq with rfl | hq
      · exact h p (by simp)
      · exact h q (by simp [hq])
    · rw [show Nat.beq T p.1 = false from (Bool.not_eq_true _).mp e, cond_false]
      intro q hq
      rcases List.mem_cons.1 hq with rfl | hq
      · exact h _ (by simp)
      · exact good_insV hT (fun r hr => h r (by simp [hr])) q hq
theorem good_addO {N S : Nat} {l : List Tm} {acc : List (Nat × List Tm)} (ha : goodV N S acc) : ∀ {os}, goodV N S os → goodV N S (addO l os acc)
  | [], _ => ha
  | o :: os, h => good_insV (h o (by simp)) (good_addO ha fun p hp => h p (by simp [hp]))
theorem good_stepV {N S : Nat} {x : Int} (hN : N ≤ 5) (hS : S < 2 ^ N) (h0 : x ≠ 0) (hx : x.natAbs ≤ N) : ∀ {v}, goodV N S v → goodV N S (stepV x v)
  | [], _ => fun p hp => by simp [stepV] at hp
  | p :: v, h => good_addO (good_stepV hN hS h0 hx fun q hq => h q (by simp [hq])) (stepMn_good hN hS (h p (by simp)) h0 hx)
theorem val_stepV {N S : Nat} {x : Int} (hN : N ≤ 5) (hS : S < 2 ^ N) (h0 : x ≠ 0) (hx : x.natAbs ≤ N) (A : Mtx LP) : ∀ {v}, goodV N S v → valV N S (opL x A) v = valV N S A (stepV x v)
  | [], _ => rfl
  | p :: v, h => by
    show LP.mk p.2 * wST N S p.1 (opL x A) + valV N S (opL x A) v = valV N S A (addO p.2 (stepMn x p.1) (stepV x v))
    rw [val_addO, wST_step hN hS (h p (by simp)) h0 hx, val_stepV hN hS h0 hx A fun q hq => h q (by simp [hq])]
def vecW (T : Nat) (u : List Int) : List (Nat × List Tm) := u.foldl (fun v x => stepV x v) [(T, [(0, 1)])]
theorem val_word {N S : Nat} (hN : N ≤ 5) (hS : S < 2 ^ N) (A : Mtx LP) : ∀ {u : List Int} {v}, okB (N + 1) u → goodV N S v → valV N S (opW u A) v = valV N S A (u.foldl (fun v x => stepV x v) v) ∧ goodV N S (u.foldl (fun v x => stepV x v) v)
  | [], v, _, h => ⟨rfl, h⟩
  | x :: u, v, hu, h => by
    obtain ⟨h0, h1⟩ := hu x (by simp)
    show valV N S (opL x (opW u A)) v = valV N S A (u.foldl (fun v x => stepV x v) (stepV x v)) ∧ _
    rw [val_stepV hN hS h0 (by omega) _ h]
    exact val_word hN hS A (fun y hy => hu y (by simp [hy])) (good_stepV hN hS h0 (by omega) h)
theorem wST_word {N S T : Nat} (hN : N ≤ 5) (hS : S < 2 ^ N) (hg : goodB N S T = true) {u : List Int} (hu : okB (N + 1) u) (A : Mtx LP) : wST N S T (opW u A) = valV N S A (vecW T u) ∧ goodV N S (vecW T u) := by
  have hv : goodV N S [(T, [(0, 1)])] := fun p hp => by simp at hp; rw [hp]; exact hg
  have h := val_word hN hS A hu hv
  refine ⟨?_, h.2⟩
  unfold vecW
  rw [← h.1]
  show _ = LP.mk [(0, 1)] * wST N S T (opW u A) + 0
  rw [mk_one, CR.one_mul, CR.add_zero]

/-! ### the check -/
def sumV : List (Nat × List Tm) → Nat
  | [] => 0
  | p :: v => sumA p.2 + sumV v
def supV (E M : Nat) (v : List (Nat × List Tm)) : Bool := v.all fun p => p.2.all fun t => decide (t.1.natAbs ≤ E) && decide (t.2.natAbs ≤ M)
/-- The greatest sums for blocks of three letters and of one letter. -/
def k3 (k : Nat) : Nat := match k with | 0 => 1 | 1 => 13 | 2 => 21 | 3 => 27 | 4 => 21 | 5 => 13 | _ => 1
def k1 (k : Nat) : Nat := match k with | 0 => 1 | 6 => 1 | _ => 3
def ndV : List (Nat × List Tm) → Bool
  | [] => true
  | p :: v => (v.all fun q => !Nat.beq q.1 p.1) && ndV v
def okV (E M K : Nat) (v : List (Nat × List Tm)) : Bool := decide (sumV v ≤ K) && (supV E M v && ndV v)
def ltr (i : Nat) : Int := if i < 5 then ((i + 1 : Nat) : Int) else -((i - 4 : Nat) : Int)
def chkV (E M : Nat) : Nat → Nat → List (Nat × List Tm) → Bool
  | 0, K, v => okV E M K v
  | d + 1, K, v => okV E M K v && (List.range 10).all fun i => chkV E M d K (stepV (ltr i) v)
def pop (T : Nat) : Nat := (onesT T).length
def chk3 (lo hi : Nat) : Bool := (List.range (hi - lo)).all fun i => chkV 3 3 3 (k3 (pop (lo + i))) [(lo + i, [(0, 1)])]
theorem ltr_all {x : Int} (h0 : x ≠ 0) (h : x.natAbs ≤ 5) : ∃ i, i < 10 ∧ ltr i = x := by
  by_cases hx : 0 < x
  · exact ⟨x.natAbs - 1, by omega, by unfold ltr; rw [if_pos (by omega)]; omega⟩
  · exact ⟨x.natAbs + 4, by omega, by unfold ltr; rw [if_neg (by omega)]; omega⟩
theorem chkV_ok {E M K : Nat} : ∀ {d : Nat} {v}, chkV E M d K v = true → okV E M K v = true
  | 0, _, h => h
  | d + 1, _, h => (Bool.and_eq_true_iff.1 h).1
theorem chkV_sound {E M K : Nat} : ∀ {d : Nat} {v} {u : List Int}, chkV E M d K v = true → (∀ x ∈ u, x ≠ 0 ∧ x.natAbs ≤ 5) → u.length ≤ d → okV E M K (u.foldl (fun v x => stepV x v) v) = true
  | d, v, [], h, _, _ => chkV_ok h
  | 0, v, x :: u, _, _, hl => by simp at hl
  | d + 1, v, x :: u, h, hu, hl => by
    obtain ⟨h0, h1⟩ := hu x (by simp)
    obtain ⟨i, hi, e⟩ := ltr_all h0 h1
    have h2 := List.all_eq_true.1 (Bool.and_eq_true_iff.1 h).2 i (List.mem_range.2 hi)
    rw [e] at h2
    show okV E M K (u.foldl (fun v x => stepV x v) (stepV x v)) = true
    exact chkV_sound (d := d) h2 (fun y hy => hu y (by simp [hy])) (by simp at hl; omega)
end Go.Proofs.YtndgffiihbdppaaDoor
/- The check for small minors, first half. -/
namespace Go.Proofs.YtndgffiihbdppaaDoor
set_option maxRecDepth 100000
theorem chk3_a : chk3 0 16 = true := by decide +kernel
theorem chk3_b : chk3 16 32 = true := by decide +kernel
end Go.Proofs.YtndgffiihbdppaaDoor
/- The check for small minors, second half. -/
namespace Go.Proofs.YtndgffiihbdppaaDoor
set_option maxRecDepth 100000
theorem chk3_c : chk3 32 48 = true := by decide +kernel
theorem chk3_d : chk3 48 64 = true := by decide +kernel
end Go.Proofs.YtndgffiihbdppaaDoor
