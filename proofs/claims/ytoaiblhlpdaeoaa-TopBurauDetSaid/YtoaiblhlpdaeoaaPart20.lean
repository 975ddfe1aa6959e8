/- Several texts in one. -/
import Derived.Test.YtoaiblhlpdaeoaaPart19
import Derived.Test.YtoaiblhlpdaeoaaPart6
import Derived.Test.YtoaiblhlpdaeoaaPart3
import Derived.Test.YtoaiblhlpdaeoaaPart1
import Derived.Test.YtoaiblhlpdaeoaaBase1
import Derived.Test.YtoaiblhlpdaeoaaPart2
import Derived.Test.YtoaiblhlpdaeoaaPart8
import Derived.Test.YtoaiblhlpdaeoaaPart15
import Derived.Test.YtoaiblhlpdaeoaaPart4
/- timbtop.equal: a fact about the word problem. -/
namespace Go.Proofs.Ytoaiblhlpdaeoaa
set_option linter.unusedVariables false
set_option linter.unusedSimpArgs false
open Go.RowKit Gar

theorem gp_121 : gp 3 [1, 2, 1] = gp 3 [2, 1, 2] := gp_nb (n := 3) (i := 0) (j := 1) (.inl rfl) (by omega) (by omega)
theorem art_12 : eqA 3 [1, 2] [2, 1] = false ∧ eqE 3 [1, 2] [2, 1] = 0 := by decide +kernel

set_option maxRecDepth 100000 in
set_option maxHeartbeats 2000000 in
theorem equal_top (F : GarC) (G : ArtinC) (w : World) : Calls Try.prog 35 #[] w fun e w' => e = .returned (.bool true) ∧ Below w.heap.size w w' := by
  have HF := hide F
  have HG := hide G
  clear F G
  have hnf := Bool.not_false
  go_enter Try.func35, Try.ntmps35
  have L1 := SL.lit w [1, 2, 1] (by decide) (cs := #[.int .i64 1, .int .i64 2, .int .i64 1]) rfl (m := 3) rfl
  have hal : Below w.heap.size w (w.alloc (.cells #[.int .i64 1, .int .i64 2, .int .i64 1] 3)) := (Below.refl _ _).alloc (Nat.le_refl _) _
  have L2 := SL.lit (w.alloc (.cells #[.int .i64 1, .int .i64 2, .int .i64 1] 3)) [2, 1, 2] (by decide) (cs := #[.int .i64 2, .int .i64 1, .int .i64 2]) rfl (m := 3) rfl
  have hal2 : Below (w.alloc (.cells #[.int .i64 1, .int .i64 2, .int .i64 1] 3)).heap.size (w.alloc (.cells #[.int .i64 1, .int .i64 2, .int .i64 1] 3)) ((w.alloc (.cells #[.int .i64 1, .int .i64 2, .int .i64 1] 3)).alloc (.cells #[.int .i64 2, .int .i64 1, .int .i64 2] 3)) := (Below.refl _ _).alloc (Nat.le_refl _) _
  have M1 := hide (L1.below hal2)
  rw [World.size_alloc] at L2
  have M2 := hide L2
  have HW := hide (hal.trans (hal2.mono hal.size))
  clear L1 L2 hal hal2
  go_wp2_with fail
  refine (HF.out.equal 3 _ 3 3 _ _ 3 3 _ _ M1.out M2.out (by decide)).mono ?_
  rintro e w1 ⟨rfl, hb⟩
  rw [show geqB 3 [1, 2, 1] [2, 1, 2] = true from geq_yes (n := 3) (by decide) (by decide) gp_121, show eq2E 3 [1, 2, 1] [2, 1, 2] = 0 from by decide]
  replace HW := hide (HW.out.trans (hb.mono HW.out.size))
  clear hb M1 M2
  have L1 := SL.lit w1 [1, 2] (by decide) (cs := #[.int .i64 1, .int .i64 2]) rfl (m := 2) rfl
  have hal : Below w1.heap.size w1 (w1.alloc (.cells #[.int .i64 1, .int .i64 2] 3)) := (Below.refl _ _).alloc (Nat.le_refl _) _
  have L2 := SL.lit (w1.alloc (.cells #[.int .i64 1, .int .i64 2] 3)) [2, 1] (by decide) (cs := #[.int .i64 2, .int .i64 1]) rfl (m := 2) rfl
  have hal2 : Below (w1.alloc (.cells #[.int .i64 1, .int .i64 2] 3)).heap.size (w1.alloc (.cells #[.int .i64 1, .int .i64 2] 3)) ((w1.alloc (.cells #[.int .i64 1, .int .i64 2] 3)).alloc (.cells #[.int .i64 2, .int .i64 1] 3)) := (Below.refl _ _).alloc (Nat.le_refl _) _
  have M1 := hide (L1.below hal2)
  rw [World.size_alloc] at L2
  have M2 := hide L2
  have HW1 := hide (HW.out.trans ((hal.trans (hal2.mono hal.size)).mono HW.out.size))
  clear L1 L2 hal hal2
  go_wp2_with fail
  refine (HG.out.equal 3 _ 2 2 _ _ 2 2 _ _ M1.out M2.out (by decide)).mono ?_
  rintro e w2 ⟨rfl, hb⟩
  rw [art_12.1, art_12.2]
  replace HW1 := hide (HW1.out.trans (hb.mono HW1.out.size))
  clear hb M1 M2
  go_wp2_with fail
  go_ret
  exact ⟨rfl, HW1.out⟩
end Go.Proofs.Ytoaiblhlpdaeoaa
/- Determinants of Burau matrices: bounds of their elements, by a check in the kernel. -/
namespace Go.Proofs.Ytoaiblhlpdaeoaa
set_option linter.unusedVariables false
set_option linter.unusedSimpArgs false
open LP CR

def insT (e c : Int) : List Tm → List Tm
  | [] => [(e, c)]
  | p :: l => if e = p.1 then (p.1, p.2 + c) :: l else p :: insT e c l
def addT : List Tm → List Tm → List Tm
  | [], b => b
  | p :: a, b => insT p.1 p.2 (addT a b)
theorem coef_ins (e c k : Int) : ∀ l : List Tm, coefT (insT e c l) k = (if e = k then c else 0) + coefT l k
  | [] => rfl
  | p :: l => by
    unfold insT
    by_cases h : e = p.1
    · rw [if_pos h]
      show (if p.1 = k then p.2 + c else 0) + coefT l k = (if e = k then c else 0) + ((if p.1 = k then p.2 else 0) + coefT l k)
      rw [h]
      split <;> omega
    · rw [if_neg h]
      show (if p.1 = k then p.2 else 0) + coefT (insT e c l) k = (if e = k then c else 0) + ((if p.1 = k then p.2 else 0) + coefT l k)
      rw [coef_ins e c k l]
      omega
theorem coef_addT (k : Int) : ∀ a b : List Tm, coefT (addT a b) k = coefT a k + coefT b k
  | [], b => by show coefT b k = 0 + coefT b k; omega
  | p :: a, b => by
    show coefT (insT p.1 p.2 (addT a b)) k = ((if p.1 = k then p.2 else 0) + coefT a k) + coefT b k
    rw [coef_ins, coef_addT k a b]
    omega
theorem mk_addT (a b : List Tm) : LP.mk (addT a b) = LP.mk a + LP.mk b := LP.ext fun k => by
  rw [LP.co_add, LP.co_mk, LP.co_mk, LP.co_mk, coef_addT]
theorem mk_scaleT (e c : Int) (l : List Tm) : LP.mk (scaleT e c l) = LP.term e c * LP.mk l := LP.ext fun k => by
  rw [LP.co_term_mul, LP.co_mk, LP.co_mk, coefT_scale]
def stepL (x : Int) (col : List (List Tm)) : List (List Tm) :=
  (List.range col.length).map fun r =>
    if r + 1 = x.natAbs then (if 0 < x then addT (addT (col.getD r []) (scaleT 1 (-1) (col.getD r []))) (scaleT 1 1 (col.getD (r + 1) [])) else col.getD (r + 1) [])
    else if r = x.natAbs then (if 0 < x then col.getD (r - 1) [] else addT (scaleT (-1) 1 (col.getD (r - 1) [])) (addT (col.getD r []) (scaleT (-1) (-1) (col.getD r []))))
    else col.getD r []
def unitC (n c : Nat) : List (List Tm) := (List.range n).map fun r => if r = c then [(0, 1)] else []
theorem stepL_length (x : Int) (col : List (List Tm)) : (stepL x col).length = col.length := by simp [stepL]
theorem foldr_length (col : List (List Tm)) : ∀ u : List Int, (u.foldr stepL col).length = col.length
  | [] => rfl
  | x :: u => by rw [List.foldr_cons, stepL_length, foldr_length col u]
theorem neg_term (e c : Int) (x : LP) : LP.term e (-c) * x = -(LP.term e c * x) := LP.ext fun k => by
  rw [LP.co_neg, LP.co_term_mul, LP.co_term_mul, Int.neg_mul]
theorem stepL_at {x : Int} {col : List (List Tm)} {A : Mtx LP} {n c : Nat} (hl : col.length = n) (hx : x ≠ 0) (hn : x.natAbs < n) (h : ∀ r, r < n → A r c = LP.mk (col.getD r [])) {r : Nat} (hr : r < n) :
    opL x A r c = LP.mk ((stepL x col).getD r []) := by
  have e : (stepL x col).getD r [] = if r + 1 = x.natAbs then (if 0 < x then addT (addT (col.getD r []) (scaleT 1 (-1) (col.getD r []))) (scaleT 1 1 (col.getD (r + 1) [])) else col.getD (r + 1) [])
    else if r = x.natAbs then (if 0 < x then col.getD (r - 1) [] else addT (scaleT (-1) 1 (col.getD (r - 1) [])) (addT (col.getD r []) (scaleT (-1) (-1) (col.getD r []))))
    else col.getD r [] := by
    have hr2 : r < col.length := by omega
    simp only [stepL, List.getD, List.getElem?_map, List.getElem?_range hr2, Option.map_some, Option.getD_some]
  rw [e]
  unfold opL
  by_cases h0 : 0 < x
  · rw [if_pos h0, if_pos h0, if_pos h0]
    unfold opP
    by_cases h1 : r + 1 = x.natAbs
    · rw [if_pos h1, if_pos h1, mk_addT, mk_addT, mk_scaleT, mk_scaleT, ← h r hr, ← h (r + 1) (by omega), neg_term, CR.add_mul, CR.one_mul, CR.neg_mul]
      rfl
    · rw [if_neg h1, if_neg h1]
      by_cases h2 : r = x.natAbs
      · rw [if_pos h2, if_pos h2, h (r - 1) (by omega)]
      · rw [if_neg h2, if_neg h2, h r hr]
  · rw [if_neg h0, if_neg h0, if_neg h0]
    unfold opN
    by_cases h1 : r + 1 = x.natAbs
    · rw [if_pos h1, if_pos h1, h (r + 1) (by omega)]
    · rw [if_neg h1, if_neg h1]
      by_cases h2 : r = x.natAbs
      · rw [if_pos h2, if_pos h2, mk_addT, mk_addT, mk_scaleT, mk_scaleT, ← h r hr, ← h (r - 1) (by omega), neg_term, CR.add_mul, CR.one_mul, CR.neg_mul]
        rfl
      · rw [if_neg h2, if_neg h2, h r hr]
theorem bu_col {n c : Nat} (hc : c < n) : ∀ {u : List Int}, okB n u → ∀ r, r < n → opW u oneM r c = LP.mk ((u.foldr stepL (unitC n c)).getD r [])
  | [], _, r, hr => by
    show (oneM : Mtx LP) r c = LP.mk ((unitC n c).getD r [])
    simp only [unitC, List.getD, List.getElem?_map, List.getElem?_range hr, Option.map_some, Option.getD_some]
    unfold oneM
    split <;> rfl
  | x :: u, h, r, hr => by
    have hx := h x (by simp)
    exact stepL_at (x := x) (by rw [foldr_length]; simp [unitC]) hx.1 hx.2 (fun r hr => bu_col hc (fun y hy => h y (by simp [hy])) r hr) hr
def okCol (E V W : Nat) (col : List (List Tm)) : Bool := decide (sumK (fun r => sumA (col.getD r [])) col.length ≤ V) && col.all fun l => decide (sumA l ≤ W) && l.all fun p => decide (p.1.natAbs ≤ E)
def chkD (n E V W : Nat) : Nat → List (List Tm) → Bool
  | 0, col => okCol E V W col
  | d + 1, col => okCol E V W col && (List.range n).all fun a => decide (a = 0) || (chkD n E V W d (stepL (a : Int) col) && chkD n E V W d (stepL (-(a : Int)) col))
theorem chkD_ok {n E V W : Nat} : ∀ {d : Nat} {col : List (List Tm)}, chkD n E V W d col = true → okCol E V W col = true
  | 0, _, h => h
  | d + 1, _, h => by
    unfold chkD at h
    exact (Bool.and_eq_true_iff.1 h).1
theorem chkD_sound {n E V W : Nat} : ∀ (d : Nat) (col : List (List Tm)), chkD n E V W d col = true → ∀ u, okB n u → u.length ≤ d → okCol E V W (u.foldr stepL col) = true
  | d, col, h, u, hu, hl => by
    rcases List.eq_nil_or_concat u with e | ⟨v, y, e⟩
    · subst e
      exact chkD_ok h
    · have e2 : u = v ++ [y] := by simpa using e
      subst e2
      obtain ⟨d', rfl⟩ : ∃ d', d = d' + 1 := ⟨d - 1, by simp at hl; omega⟩
      obtain ⟨hy0, hyn⟩ := hu y (by simp)
      unfold chkD at h
      have h2 := List.all_eq_true.1 (Bool.and_eq_true_iff.1 h).2 y.natAbs (List.mem_range.2 hyn)
      rw [decide_eq_false (by omega), Bool.false_or] at h2
      obtain ⟨h3, h4⟩ := Bool.and_eq_true_iff.1 h2
      rw [List.foldr_append]
      have h5 : chkD n E V W d' (stepL y col) = true := by
        by_cases hp : 0 < y
        · rwa [show ((y.natAbs : Nat) : Int) = y by omega] at h3
        · rwa [show -((y.natAbs : Nat) : Int) = y by omega] at h4
      exact chkD_sound d' (stepL y col) h5 v (fun z hz => hu z (by simp [hz])) (by simp at hl; omega)
termination_by d => d
def smallB (E V W d : Nat) : Bool := (List.range 5).all fun n => decide (n < 2) || (List.range n).all fun c => chkD n E V W d (unitC n c)
theorem small4 : smallB 4 23 12 4 = true := by decide +kernel
theorem small1 : smallB 1 3 2 1 = true := by decide +kernel
theorem small_col {E V W d : Nat} (hs : smallB E V W d = true) {n : Nat} (h2 : 2 ≤ n) (h4 : n ≤ 4) {u : List Int} (hu : okB n u) (hl : u.length ≤ d) {c : Nat} (hc : c < n) : okCol E V W (u.foldr stepL (unitC n c)) = true := by
  have h := List.all_eq_true.1 hs n (List.mem_range.2 (by omega))
  rw [decide_eq_false (by omega), Bool.false_or] at h
  exact chkD_sound d _ (List.all_eq_true.1 h c (List.mem_range.2 hc)) u hu hl
theorem col_n1 {E V W d : Nat} (hs : smallB E V W d = true) {n : Nat} (h2 : 2 ≤ n) (h4 : n ≤ 4) {u : List Int} (hu : okB n u) (hl : u.length ≤ d) :
    ∃ v : Nat → Nat → Nat, (∀ i, i < n → ∀ j, j < n → LP.N1 (bu n u j i) E (v i j) ∧ LP.N1 (bu n u j i) E W) ∧ ∀ i, i < n → sumK (v i) n ≤ V := by
  refine ⟨fun i j => sumA ((u.foldr stepL (unitC n i)).getD j []), fun i hi j hj => ?_, fun i hi => ?_⟩
  · have h := small_col hs h2 h4 hu hl hi
    unfold okCol at h
    have hln : (u.foldr stepL (unitC n i)).length = n := by rw [foldr_length]; simp [unitC]
    have hm : (u.foldr stepL (unitC n i)).getD j [] ∈ u.foldr stepL (unitC n i) := by
      rw [getD_of_lt [] (by omega)]
      exact List.getElem_mem _
    have h3 := List.all_eq_true.1 (Bool.and_eq_true_iff.1 h).2 _ hm
    obtain ⟨h5, h6⟩ := Bool.and_eq_true_iff.1 h3
    have e : LP.mk ((u.foldr stepL (unitC n i)).getD j []) = bu n u j i := by rw [bu_op hu j hj i hi, bu_col hi hu j hj]
    have hE : ∀ p ∈ (u.foldr stepL (unitC n i)).getD j [], p.1.natAbs ≤ E := fun p hp => of_decide_eq_true (List.all_eq_true.1 h6 p hp)
    exact ⟨⟨_, e, hE, Nat.le_refl _⟩, ⟨_, e, hE, of_decide_eq_true h5⟩⟩
  · have h := small_col hs h2 h4 hu hl hi
    unfold okCol at h
    have hln : (u.foldr stepL (unitC n i)).length = n := by rw [foldr_length]; simp [unitC]
    have := of_decide_eq_true (Bool.and_eq_true_iff.1 h).1
    rwa [hln] at this
theorem col_RN {E V W d : Nat} (hs : smallB E V W d = true) {n : Nat} (h2 : 2 ≤ n) (h4 : n ≤ 4) {u : List Int} (hu : okB n u) (hl : u.length ≤ d) : RN n (fun i j => bu n u j i) E V := by
  obtain ⟨v, h1, h3⟩ := col_n1 hs h2 h4 hu hl
  exact ⟨v, fun i hi j hj => (h1 i hi j hj).1, h3⟩
/-- The elements of the Burau matrix of a word of 9 letters on at most 4 strands are small. -/
theorem bu_small {n : Nat} (h2 : 2 ≤ n) (h4 : n ≤ 4) {w : List Int} (hw : okB n w) (hl : w.length ≤ 9) {i j : Nat} (hi : i < n) (hj : j < n) : LP.N1 (bu n w i j) 9 828 := by
  have e : w = w.take 4 ++ ((w.drop 4).take 4 ++ w.drop 8) := by
    have e1 := (List.take_append_drop 4 (w.drop 4)).symm
    rw [List.drop_drop] at e1
    rw [← e1, List.take_append_drop]
  have o1 : okB n (w.take 4) := fun x hx => hw x (List.mem_of_mem_take hx)
  have o2 : okB n ((w.drop 4).take 4) := fun x hx => hw x (List.mem_of_mem_drop (List.mem_of_mem_take hx))
  have o3 : okB n (w.drop 8) := fun x hx => hw x (List.mem_of_mem_drop hx)
  obtain ⟨va, ha, _⟩ := col_n1 small4 h2 h4 o1 (by simp; omega)
  have hb := col_RN small4 h2 h4 o2 (by simp; omega)
  have hc := col_RN small1 h2 h4 o3 (by simp; omega)
  obtain ⟨v, h5, h6⟩ := hc.mul hb
  rw [e, bu_append n _ _ i hi j hj]
  show LP.N1 (sumN n fun k => bu n (w.take 4) i k * bu n ((w.drop 4).take 4 ++ w.drop 8) k j) 9 828
  have h7 : ∀ k, k < n → bu n ((w.drop 4).take 4 ++ w.drop 8) k j = mulM n (fun a b => bu n (w.drop 8) b a) (fun a b => bu n ((w.drop 4).take 4) b a) j k := fun k hk => by
    rw [bu_append n _ _ k hk j hj]
    exact sumN_congr fun l _ => CR.mul_comm _ _
  refine (LP.N1.sumK (E := 9) (g := fun k => 12 * v j k) fun k hk => ?_).mono (Nat.le_refl _) ?_
  · rw [h7 k hk]
    exact ((ha k hk i hi).2.mul (h5 j hj k hk)).mono (by omega) (Nat.le_refl _)
  · rw [sumK_mul]
    have := h6 j hj
    omega
theorem canon_room {x : LP} {E : Nat} {V : Nat} (h : LP.N1 x E V) : (LP.canon x).2.length ≤ 2 * E + 1 ∧ (LP.canon x).1.natAbs ≤ E ∧ ∀ c ∈ (LP.canon x).2, c.natAbs ≤ V := by
  have hc := LP.canon_cano x
  have ho := LP.of_canon x
  refine ⟨?_, ?_, fun c hcm => ?_⟩
  · by_cases hn : (LP.canon x).2 = []
    · rw [hn]; simp
    · have h1 := hc.low hn
      have h2 := hc.high hn
      rw [ho] at h1 h2
      have h3 := h.supp h1
      have h4 := h.supp h2
      omega
  · by_cases hn : (LP.canon x).2 = []
    · rcases hc with h1 | h1
      · rw [h1.2]; simp
      · exact absurd hn h1.1
    · have h1 := hc.low hn
      rw [ho] at h1
      exact h.supp h1
  · obtain ⟨k, hk, e⟩ := List.mem_iff_getElem.1 hcm
    have h1 := h.co ((LP.canon x).1 + k)
    have e3 := LP.co_of_at (lo := (LP.canon x).1) hk
    rw [ho] at e3
    rw [e3, getD_of_lt 0 hk, e] at h1
    exact h1
theorem polyE_n1 {x : LP} (h : LP.N1 x 9 828) : polyE (cP x) = 0 := by
  obtain ⟨h1, h2, h3⟩ := canon_room h
  have hp : LP.pfl (cP x).1 (cP x).2 = 0 := h.rt (by omega) (by omega)
  unfold polyE
  rw [hp, if_neg (by simp), if_neg (by show ¬(20 < (LP.canon x).2.length ∨ 20 < (LP.canon x).1 ∨ (LP.canon x).1 < -20); omega), if_neg]
  rw [List.any_eq_true]
  rintro ⟨c, hc, hh⟩
  have := h3 c hc
  simp at hh
  omega
theorem bu_sq {n : Nat} (h2 : 2 ≤ n) (h4 : n ≤ 4) {w : List Int} (hw : okB n w) (hl : w.length ≤ 9) : sqE (buL n w) = 0 := by
  refine sqE_all (by simp [buL]; omega) fun r hr => ?_
  unfold buL at hr
  obtain ⟨i, hi, rfl⟩ := List.mem_map.1 hr
  refine ⟨by simp [buL], fun p hp => ?_⟩
  obtain ⟨j, hj, rfl⟩ := List.mem_map.1 hp
  exact polyE_n1 (bu_small h2 h4 hw hl (List.mem_range.1 hi) (List.mem_range.1 hj))
theorem mP_bu {n : Nat} {w : List Int} {i j : Nat} (hi : i < n) (hj : j < n) : mP (buL n w) i j = bu n w i j := by
  have e : ((buL n w).getD i []).getD j (0, []) = cP (bu n w i j) := by simp [buL, List.getD, hi, hj]
  unfold mP
  rw [e]
  exact of_cP _
end Go.Proofs.Ytoaiblhlpdaeoaa
/- The determinant of a Burau matrix. -/
namespace Go.Proofs.Ytoaiblhlpdaeoaa
set_option linter.unusedVariables false
set_option linter.unusedSimpArgs false
open LP CR

theorem sgR_0 : (CR.sgR LP 0) = 1 := CR.sgR_zero
theorem sgR_1 : (CR.sgR LP 1) = -1 := rfl
theorem neg_neg_ (x : LP) : - -x = x := LP.ext fun k => by rw [LP.co_neg, LP.co_neg]; omega
theorem neg_zero_ : -(0 : LP) = 0 := CR.neg_zero
theorem det_letter {n : Nat} (h2 : 2 ≤ n) (h4 : n ≤ 4) {x : Int} (hx : x ≠ 0) (hn : x.natAbs < n) : detR n (bl x) = LP.term (Int.sign x) (-1) := by
  have hc : (n = 2 ∧ (x = 1 ∨ x = -1)) ∨ (n = 3 ∧ (x = 1 ∨ x = -1 ∨ x = 2 ∨ x = -2)) ∨ (n = 4 ∧ (x = 1 ∨ x = -1 ∨ x = 2 ∨ x = -2 ∨ x = 3 ∨ x = -3)) := by omega
  have e1 : LP.term 1 (-1) = -tT := rfl
  have e2 : LP.term (-1) (-1) = -tI := rfl
  rcases hc with ⟨rfl, h⟩ | ⟨rfl, h⟩ | ⟨rfl, h⟩
  · rcases h with rfl | rfl <;> simp [detR, bl, skip, CR.sumN, sgR_0, sgR_1, CR.zero_mul, CR.mul_zero, CR.zero_add, CR.add_zero, CR.one_mul, CR.mul_one, CR.neg_mul, neg_neg_, neg_zero_, e1, e2] <;> rfl
  · rcases h with rfl | rfl | rfl | rfl <;> simp [detR, bl, skip, CR.sumN, sgR_0, sgR_1, CR.zero_mul, CR.mul_zero, CR.zero_add, CR.add_zero, CR.one_mul, CR.mul_one, CR.neg_mul, neg_neg_, neg_zero_, e1, e2] <;> rfl
  · rcases h with rfl | rfl | rfl | rfl | rfl | rfl <;> simp [detR, bl, skip, CR.sumN, sgR_0, sgR_1, CR.zero_mul, CR.mul_zero, CR.zero_add, CR.add_zero, CR.one_mul, CR.mul_one, CR.neg_mul, neg_neg_, neg_zero_, e1, e2] <;> rfl
theorem det_bu {n : Nat} (h2 : 2 ≤ n) (h4 : n ≤ 4) : ∀ {w : List Int}, okB n w → detR n (bu n w) = LP.term (LP.expo w) (1 - 2 * (LP.expo w % 2))
  | [], _ => by
    rw [show bu n [] = oneM from rfl, detR_one]
    rfl
  | x :: w, h => by
    have hx := h x (by simp)
    rw [show bu n (x :: w) = mulM n (bl x) (bu n w) from rfl, detR_mul, det_letter h2 h4 hx.1 hx.2, det_bu h2 h4 (fun y hy => h y (by simp [hy])), LP.term_mul, LP.expo_cons]
    obtain ⟨e, he⟩ : ∃ e, LP.expo w = e := ⟨_, rfl⟩
    rw [he]
    congr 1
    rcases Int.lt_trichotomy x 0 with h0 | h0 | h0
    · rw [Int.sign_eq_neg_one_of_neg h0]; omega
    · exact absurd h0 hx.1
    · rw [Int.sign_eq_one_of_pos h0]; omega
/-- BURAU: the determinant that the package answers. -/
theorem detPR_bu {n : Nat} (h2 : 2 ≤ n) (h4 : n ≤ 4) {w : List Int} (hw : okB n w) (hl : w.length ≤ 9) : detPR (buL n w) = (0, LP.expo w, [1 - 2 * (LP.expo w % 2)]) := by
  have hlen : (buL n w).length = n := by simp [buL]
  have hd : detR (buL n w).length (mP (buL n w)) = LP.term (LP.expo w) (1 - 2 * (LP.expo w % 2)) := by
    rw [hlen, ← det_bu h2 h4 hw]
    exact detR_congr fun i hi j hj => mP_bu hi hj
  have hx : (LP.expo w).natAbs ≤ 9 := Nat.le_trans (LP.expo_le w) hl
  have hr : LP.Rt (LP.term (LP.expo w) (1 - 2 * (LP.expo w % 2))) := (LP.N1.term _ _).rt (by omega) (by omega)
  rw [detPR_rt (bu_sq h2 h4 hw hl) hd hr]
  have hcn : LP.canon (LP.term (LP.expo w) (1 - 2 * (LP.expo w % 2))) = (LP.expo w, [1 - 2 * (LP.expo w % 2)]) := LP.canon_eq (.inr ⟨by simp, by simp; omega, by simp; omega⟩) (LP.of_one _ _)
  rw [hcn]
end Go.Proofs.Ytoaiblhlpdaeoaa
/- timbmake.Strands for any greatest number; slices.Concat of two slices. -/
namespace Go.Proofs.Ytoaiblhlpdaeoaa
set_option linter.unusedVariables false
set_option linter.unusedSimpArgs false
open Go.RowKit

set_option maxRecDepth 100000 in
theorem strands_gen (n : Int) (K : Nat) (kz : Int) (hkz : kz = (K : Int) + 1) (h1 : 1 ≤ K) (hK : K ≤ 10) (w : World) : Calls Try.prog 23 #[.int .i64 n, .int .i64 kz] w fun e w' => ∃ T : Nat, 1 ≤ T ∧ T ≤ K ∧ e = .returned (.int .i64 ((T : Int) + 1)) ∧ w = w' := by
  subst hkz
  obtain ⟨p, hp⟩ : ∃ p : Nat, n % (K : Int) = (p : Int) := ⟨(n % (K : Int)).toNat, by have := Int.emod_nonneg n (show (K : Int) ≠ 0 by omega); omega⟩
  have hp5 : p < K := by have := Int.emod_lt_of_pos n (show (0 : Int) < (K : Int) by omega); omega
  have HP := hide hp
  have hadd : IntKind.i64.wrap (2 + (p : Int)) = ((p + 1 : Nat) : Int) + 1 := by rw [IntKind.wrap_i64]; omega
  have HA := hide hadd
  have hs1 : (K : Int) + 1 - 1 = (K : Int) := by omega
  have hs2 : IntKind.i64.wrap (K : Int) = (K : Int) := by rw [IntKind.wrap_i64]; omega
  clear hp hadd
  go_enter Try.func23, Try.ntmps23
  go_wp2_with fail
  refine (mbelow_any n K _ h1 (by omega)).mono ?_
  rintro e w1 ⟨rfl, hww⟩
  subst hww
  rw [HP.out]
  go_wp2_with ((with_reducible show wpList _ _ _ (Oper.mk _ (.binOp .add _ _ _) _ _ _ _ :: _) _ _); refine wpList_gives rfl (gives_add rfl rfl rfl HA.out) ?_)
  go_ret
  exact ⟨p + 1, by omega, by omega, by
    have e : IntKind.i64.wrap (2 + (p : Int)) = ((p + 1 : Nat) : Int) + 1 := HA.out
    first | rfl | (simp; omega) | (simp [e]; omega), rfl⟩
end Go.Proofs.Ytoaiblhlpdaeoaa
/- timbkeep1.BraidRelations, for a package braid that answers as it should. (Written by tools/gen_brrel.py.) -/
namespace Go.Proofs.Ytoaiblhlpdaeoaa
set_option linter.unusedVariables false
set_option linter.unusedSimpArgs false
open Go.RowKit

theorem buL_congr {n : Nat} {a b : List Int} (h : EqM n (bu n a) (bu n b)) : buL n a = buL n b := by
  unfold buL
  exact List.map_congr_left fun i hi => List.map_congr_left fun j hj => by rw [h i (List.mem_range.1 hi) j (List.mem_range.1 hj)]
theorem okB_append {n : Nat} {a b : List Int} (ha : okB n a) (hb : okB n b) : okB n (a ++ b) := fun x hx => (List.mem_append.1 hx).elim (ha x) (hb x)
theorem bfault_T {T : Nat} (h5 : T ≤ 5) {a : List Int} (ha : okB (T + 1) a) (hl : a.length ≤ 30) : bfault ((T : Int) + 1) a = 0 :=
  bfault_ok (by omega) (by omega) hl fun x hx => by have := ha x hx; omega
theorem burE_T {T : Nat} (h5 : T ≤ 5) {a : List Int} (ha : okB (T + 1) a) (hl : a.length ≤ 16) : burE ((T : Int) + 1) a = 0 := by
  unfold burE
  rw [bfault_T h5 ha (by omega), if_pos rfl, if_neg (by omega)]
theorem burL_T {T : Nat} (h5 : T ≤ 5) {a : List Int} (ha : okB (T + 1) a) (hl : a.length ≤ 16) : burL ((T : Int) + 1) a = buL (T + 1) a := by
  unfold burL
  rw [burE_T h5 ha hl, if_pos rfl]
  rfl
theorem permE_T {T : Nat} (h5 : T ≤ 5) {a : List Int} (ha : okB (T + 1) a) (hl : a.length ≤ 30) : permE ((T : Int) + 1) a = zs (endsL (T + 1) a) := by
  unfold permE
  rw [bfault_T h5 ha hl, if_pos rfl]
  rfl
theorem expoB_T {T : Nat} (h5 : T ≤ 5) {a : List Int} (ha : okB (T + 1) a) (hl : a.length ≤ 30) : expoB ((T : Int) + 1) a = LP.expo a := by
  unfold expoB
  rw [bfault_T h5 ha hl, if_pos rfl]
theorem expo_app (a b : List Int) : LP.expo (a ++ b) = LP.expo a + LP.expo b := wsum_append _ _ _
/-- What is alike in two words that are equal by a relation. -/
structure Alike (T : Nat) (a b : List Int) : Prop where
  fa : bfault ((T : Int) + 1) a = 0
  fb : bfault ((T : Int) + 1) b = 0
  ba : burE ((T : Int) + 1) a = 0
  bb : burE ((T : Int) + 1) b = 0
  perm : permE ((T : Int) + 1) a = permE ((T : Int) + 1) b
  expo : expoB ((T : Int) + 1) a = expoB ((T : Int) + 1) b
  bur : burL ((T : Int) + 1) a = burL ((T : Int) + 1) b
  len : (burL ((T : Int) + 1) a).length = T + 1
theorem alike {T : Nat} (h5 : T ≤ 5) {us vs xs ys : List Int} (h : Side (T + 1) xs ys) (hu : okB (T + 1) us) (hv : okB (T + 1) vs) (lu : us.length ≤ 6) (lv : vs.length ≤ 6) : Alike T (us ++ xs ++ vs) (us ++ ys ++ vs) := by
  have oa := okB_append (okB_append hu h.ok1) hv
  have ob := okB_append (okB_append hu h.ok2) hv
  have la : (us ++ xs ++ vs).length ≤ 16 := by simp only [List.length_append]; have := h.l1; omega
  have lb : (us ++ ys ++ vs).length ≤ 16 := by simp only [List.length_append]; have := h.l2; omega
  refine ⟨bfault_T h5 oa (by omega), bfault_T h5 ob (by omega), burE_T h5 oa la, burE_T h5 ob lb, ?_, ?_, ?_, ?_⟩
  · rw [permE_T h5 oa (by omega), permE_T h5 ob (by omega), h.e.ends]
  · rw [expoB_T h5 oa (by omega), expoB_T h5 ob (by omega), expo_app, expo_app, expo_app, expo_app, h.x]
  · rw [burL_T h5 oa la, burL_T h5 ob lb]
    exact buL_congr (h.b.bu h.ok1 h.ok2 us vs)
  · rw [burL_T h5 oa la]
    simp [buL]

end Go.Proofs.Ytoaiblhlpdaeoaa
/- TopFox. -/

namespace Go.Proofs.Ytoaiblhlpdaeoaa
set_option linter.unusedVariables false
set_option linter.unusedSimpArgs false
open Go.RowKit Gar

set_option maxRecDepth 100000 in
set_option maxHeartbeats 2000000 in
theorem same_t (la : Int) (A : Option Addr) (n c : Nat) (xs : List Int) (B : Option Addr) (m d : Nat) (w : World) (ha : SL w A n c xs) (hb : SL w B m d xs) :
    Calls Try.prog 37 #[PV la A n c, PV la B m d] w fun e w' => e = .returned (.bool true) ∧ Below w.heap.size w w' := by
  have h1 : Below w.heap.size w ((w.alloc (.cells #[.int .i64 la, .slice A n c] 54)).alloc (.cells #[.int .i64 la, .slice B m d] 54)) := ((Below.refl _ _).alloc (Nat.le_refl _) _).alloc (by simp) _
  have HB0 := hide h1
  have he := equal_any A B n m c d xs xs _ (ha.il.below h1) (hb.il.below h1)
  rw [eqB_true rfl] at he
  have HE := hide he
  clear ha hb h1 he
  go_enter Try.func37, Try.ntmps37
  go_wp2_with fail
  refine HE.out.mono ?_
  rintro e w1 ⟨rfl, hb⟩
  have HB1 := hide (HB0.out.trans (hb.mono HB0.out.size))
  clear hb
  go_wp2_with fail
  go_ret
  exact ⟨rfl, HB1.out⟩
theorem bur_ok {N : Nat} (h1 : 1 ≤ N) (h6 : N ≤ 6) {xs : List Int} (hx : okB N xs) (hl : xs.length ≤ 16) : burE (N : Int) xs = 0 ∧ burL (N : Int) xs = buL N xs := by
  have e : burE (N : Int) xs = 0 := by
    unfold burE
    rw [bf_ok h1 h6 hx (by omega), if_pos rfl, if_neg (by omega)]
  refine ⟨e, ?_⟩
  unfold burL
  rw [if_pos e, Int.toNat_natCast]
end Go.Proofs.Ytoaiblhlpdaeoaa
/- TopBurauDet. -/

namespace Go.Proofs.Ytoaiblhlpdaeoaa
set_option linter.unusedVariables false
set_option linter.unusedSimpArgs false
open Go.RowKit Gar

set_option maxRecDepth 100000 in
set_option maxHeartbeats 16000000 in
theorem topBurauDet_any (F : GarC) (G : ArtinC) (FB : BraidC) (PM : PmC) (nn : Int) (A : Option Addr) (n c : Nat) (us : List Int) (w : World) (ha : SL w A n c us) :
    Calls Try.prog 10 #[.int .i64 nn, .slice A n c] w fun e w' => e = .returned (.bool true) ∧ Below w.heap.size w w' := by
  have HEQ := hide (equal_top F G)
  have HFB := hide FB
  have HPM := hide PM
  have HA := hide ha
  clear F G FB PM ha
  go_enter Try.func10, Try.ntmps10
  go_wp2_with fail
  refine (strands_gen nn 3 4 rfl (by omega) (by omega) w).mono ?_
  rintro e w0 ⟨T, hT1, hT5, rfl, hww⟩
  subst hww
  have hw1 : IntKind.i64.wrap (T : Int) = (T : Int) := by rw [IntKind.wrap_i64]; omega
  have hs1 : (T : Int) + 1 - 1 = (T : Int) := by omega
  go_wp2_with fail
  refine (word_any A T n c 9 us w HA.out.il HA.out.cap (by omega) (by omega) (by omega)).mono ?_
  rintro e w1 ⟨xs, X, xn, xc, rfl, ho, hx, hxn, hb⟩
  have hxl := ho.len
  have SX := hide ho.sl
  have HW := hide hb
  have hokx := word_okB hx
  obtain ⟨N, hN⟩ : ∃ N, T + 1 = N := ⟨_, rfl⟩
  rw [hN] at hokx
  have hTi : (T : Int) + 1 = (N : Int) := by omega
  rw [hTi]
  have hN2 : 2 ≤ N := by omega
  have hN4 : N ≤ 4 := by omega
  have HWM := hide (wfI (x := (N : Int)) (by omega))
  have HBE := hide (bur_ok (by omega) (by omega) hokx (by omega))
  have hbf := bf_ok (by omega) (by omega) hokx (by omega)
  have hex : expoB (N : Int) xs = LP.expo xs := if_pos hbf
  have HBF := hide hbf
  have HEX := hide hex
  have HDT := hide (detPR_bu hN2 hN4 hokx (by omega))
  have HE9 := hide (Nat.le_trans (LP.expo_le xs) (show xs.length ≤ 9 by omega))
  generalize LP.expo xs = s at *
  clear ho hb hx HA hw1 hs1 hN hTi hT1 hT5 hokx hxl hxn hbf hex
  go_upto_region 3 with fail
  go_wp2_with fail
  refine (HFB.out.burau (N : Int) X xn xc xs w1 SX.out HWM.out).mono ?_
  rintro e w3 ⟨M, mn, mc, rfl, hs, hb⟩
  rw [HBE.out.1]
  rw [HBE.out.2] at hs
  have SM := hide hs
  replace SX := hide (SX.out.below hb)
  replace HW := hide (HW.out.trans (hb.mono HW.out.size))
  clear hs hb HBE
  go_upto_region 4 with fail
  go_wp2_with fail
  refine (HPM.out.det M mn mc _ w3 SM.out).mono ?_
  rintro e w4 ⟨Q, qn, qc, rfl, hs, _, hb⟩
  rw [HDT.out] at hs ⊢
  dsimp only at hs ⊢
  replace SX := hide (SX.out.below hb)
  replace HW := hide (HW.out.trans (hb.mono HW.out.size))
  have SQ := hide hs
  clear hs hb HDT SM
  go_upto_region 5 with fail
  have hb : Below w4.heap.size w4 (w4.alloc (.cells #[.int .i64 s, .slice Q qn qc] 54)) := (Below.refl _ _).alloc (Nat.le_refl _) _
  have BP := hide (Blk.new w4 54 #[.int .i64 s, .slice Q qn qc])
  replace HW := hide (HW.out.trans (hb.mono HW.out.size))
  replace SX := hide (SX.out.below hb)
  replace SQ := hide (SQ.out.below hb)
  obtain ⟨bp, hq⟩ : ∃ q, w4.heap.size = q := ⟨_, rfl⟩
  obtain ⟨w5, hw⟩ : ∃ x, w4.alloc (.cells #[.int .i64 s, .slice Q qn qc] 54) = x := ⟨_, rfl⟩
  rw [hw] at BP HW SX SQ ⊢
  rw [hq] at BP ⊢
  clear hb hq hw
  go_wp2_with fail
  refine (HFB.out.expo (N : Int) X xn xc xs w5 SX.out HWM.out).mono ?_
  rintro e w6 ⟨rfl, hb⟩
  rw [HEX.out, HBF.out]
  replace HW := hide (HW.out.trans (hb.mono HW.out.size))
  replace SQ := hide (SQ.out.below hb)
  replace BP := hide (BP.out.below hb BP.out.lt)
  clear hb SX
  go_upto_region 6 with fail
  go_wp2_with fail
  refine (HEQ.out w6).mono ?_
  rintro e w7 ⟨rfl, hb⟩
  replace HW := hide (HW.out.trans (hb.mono HW.out.size))
  replace SQ := hide (SQ.out.below hb)
  replace BP := hide (BP.out.below hb BP.out.lt)
  clear hb HEQ
  have h9 := HE9.out
  obtain ⟨o, ho⟩ : ∃ o : Int, s % 2 = o := ⟨_, rfl⟩
  have ho2 : 0 ≤ o ∧ o < 2 := by omega
  have hand : bits BinOp.and IntKind.i64 s 1 = o := by rw [i64_and1 s, ho]
  have h1 : IntKind.i64.wrap (2 * o) = 2 * o := by rw [IntKind.wrap_i64]; omega
  have h2 : IntKind.i64.wrap (1 - 2 * o) = 1 - 2 * o := by rw [IntKind.wrap_i64]; omega
  rw [ho] at SQ
  have HAND := hide hand
  have hz0 := BP.out.cell 0
  have hz1 := BP.out.cell 1
  simp at hz0 hz1
  clear ho hand
  go_wp2_with (simp only [HAND.out])
  have hl : SL (w7.alloc (.cells #[.int .i64 (1 - 2 * o)] 3)) (some ⟨w7.heap.size, 0, none⟩) 1 1 [1 - 2 * o] := SL.lit w7 [1 - 2 * o] (by simp) rfl rfl
  have hlb : Below w7.heap.size w7 (w7.alloc (.cells #[.int .i64 (1 - 2 * o)] 3)) := (Below.refl _ _).alloc (Nat.le_refl _) _
  refine (same_t s Q qn qc _ _ 1 1 _ (SQ.out.below hlb) hl).mono ?_
  rintro e w8 ⟨rfl, hb⟩
  have hb2 := hlb.trans (hb.mono hlb.size)
  replace HW := hide (HW.out.trans (hb2.mono HW.out.size))
  clear hb hb2 hl hlb
  go_wp2_with fail
  go_ret
  exact ⟨rfl, HW.out⟩
end Go.Proofs.Ytoaiblhlpdaeoaa
