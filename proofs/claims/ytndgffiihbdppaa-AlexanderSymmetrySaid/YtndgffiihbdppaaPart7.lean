/- Several texts in one. -/
import Derived.Test.YtndgffiihbdppaaPart6
import Derived.Test.YtndgffiihbdppaaPart1
import Derived.Test.YtndgffiihbdppaaBase1
import Derived.Test.YtndgffiihbdppaaPart3
import Derived.Test.YtndgffiihbdppaaProg
import Derived.WalkKit
import Derived.Deep.QuietTactic
import Derived.BigQuiet
import Derived.WalkSpells
import Derived.WalkLawsBesides
import Derived.Outline
/- Package link: components by numbers (mathematics). -/
namespace Go.Proofs.Ytndgffiihbdppaa
set_option linter.unusedVariables false
set_option linter.unusedSimpArgs false

theorem minK_yes {a : List Nat} {i : Nat} (h : isMin a i = true) : minK a (i + 1) = minK a i ++ [i] := by
  unfold minK
  rw [List.range_succ, List.filter_append, List.filter_cons_of_pos h]
  rfl
theorem minK_no {a : List Nat} {i : Nat} (h : isMin a i = false) : minK a (i + 1) = minK a i := by
  unfold minK
  rw [List.range_succ, List.filter_append, List.filter_cons_of_neg (by simp [h])]
  simp
theorem minK_pre {a : List Nat} {m : Nat} : ∀ n, m ≤ n → ∃ r, minK a n = minK a m ++ r
  | 0, h => by
    have e : m = 0 := by omega
    subst e
    exact ⟨[], by simp⟩
  | n + 1, h => by
    by_cases e : m = n + 1
    · subst e
      exact ⟨[], by simp⟩
    · obtain ⟨r, hr⟩ := minK_pre (a := a) (m := m) n (by omega)
      cases hm : isMin a n with
      | true => exact ⟨r ++ [n], by rw [minK_yes hm, hr, List.append_assoc]⟩
      | false => exact ⟨r, by rw [minK_no hm, hr]⟩
theorem minK_le (a : List Nat) (i : Nat) : (minK a i).length ≤ i := by
  unfold minK
  refine Nat.le_trans (List.length_filter_le _ _) ?_
  rw [List.length_range]
  exact Nat.le_refl _
/-- The smallest strand of a strand's component. -/
theorem repS_iff {a : List Nat} (h : isP a) {j s : Nat} (hj : j < a.length) (hs : s < a.length) (hm : isMin a j = true) : repS a s = j ↔ s ∈ cyc a j := by
  obtain ⟨r1, r2, r3⟩ := repS_spec h hs
  constructor
  · intro e
    rw [e] at r2
    exact cyc_symm h hs r2
  · intro e
    exact min_unique h r1 hj r3 hm (cyc_symm h hs r2) e
/-- A component's number is how many smallest strands are smaller. -/
theorem lkAt_num {a : List Nat} (h : isP a) {s : Nat} (hs : s < a.length) : lkAt a s = (minK a (repS a s)).length := by
  obtain ⟨r1, r2, r3⟩ := repS_spec h hs
  obtain ⟨t, ht⟩ := minK_pre (a := a) (m := repS a s + 1) a.length (by omega)
  rw [minK_yes r3] at ht
  unfold lkAt
  rw [← prtK_all]
  unfold prtK
  rw [ht, List.append_assoc, List.map_append, List.findIdx_append]
  have h1 : List.findIdx (fun c => decide (s ∈ c)) ((minK a (repS a s)).map (rowP a a.length)) = (minK a (repS a s)).length := by
    rw [List.findIdx_eq_length_of_false, List.length_map]
    intro c hc
    obtain ⟨m, hm, rfl⟩ := List.mem_map.1 hc
    obtain ⟨m1, m2⟩ := minK_mem.1 hm
    rw [decide_eq_false_iff_not]
    intro hin
    unfold rowP at hin
    have hin2 := (List.mem_filter.1 hin).2
    rw [decide_eq_true_iff] at hin2
    have := (repS_iff h (by omega) hs m2).2 hin2
    omega
  rw [h1, List.length_map, if_neg (by omega)]
  have h2 : decide (s ∈ rowP a a.length (repS a s)) = true := by
    rw [decide_eq_true_iff]
    unfold rowP
    rw [List.mem_filter, List.mem_range, decide_eq_true_iff]
    exact ⟨hs, cyc_symm h hs r2⟩
  simp only [List.map_append, List.map_cons, List.map_nil, List.cons_append, List.nil_append, List.findIdx_cons, h2, cond_true, Nat.zero_add]

/-! ### the numbers that the program writes -/
/-- The numbers once the components that begin below j are done, and t strands of that of j. -/
def cK (a : List Nat) (j t : Nat) : List Int := (List.range a.length).map fun s => if repS a s < j ∨ s ∈ (cyc a j).take t then ((lkAt a s : Nat) : Int) else -1
theorem cK_length (a : List Nat) (j t : Nat) : (cK a j t).length = a.length := by simp [cK]
theorem cK_getD {a : List Nat} {j t s : Nat} (hs : s < a.length) : (cK a j t).getD s 0 = if repS a s < j ∨ s ∈ (cyc a j).take t then ((lkAt a s : Nat) : Int) else -1 := by
  simp [cK, List.getD, hs]
theorem cK_start (a : List Nat) : cK a 0 0 = List.replicate a.length (-1) := by
  unfold cK
  rw [show (fun s => if repS a s < 0 ∨ s ∈ (cyc a 0).take 0 then ((lkAt a s : Nat) : Int) else -1) = fun _ => (-1 : Int) by
    funext s
    rw [if_neg]
    simp]
  rw [List.map_const', List.length_range]
theorem cK_congr {a : List Nat} {j t j' t' : Nat} (h : ∀ s, s < a.length → ((repS a s < j ∨ s ∈ (cyc a j).take t) ↔ (repS a s < j' ∨ s ∈ (cyc a j').take t'))) : cK a j t = cK a j' t' := by
  unfold cK
  refine List.map_congr_left fun s hs => ?_
  have := h s (List.mem_range.1 hs)
  by_cases e : repS a s < j ∨ s ∈ (cyc a j).take t
  · rw [if_pos e, if_pos (this.1 e)]
  · rw [if_neg e, if_neg fun e2 => e (this.2 e2)]
theorem cK_skip {a : List Nat} (h : isP a) {j : Nat} (hj : j < a.length) (hr : repS a j < j) : cK a (j + 1) 0 = cK a j 0 := by
  refine cK_congr fun s hs => ?_
  simp only [List.take_zero, List.not_mem_nil, or_false]
  obtain ⟨_, _, r3⟩ := repS_spec h hs
  constructor
  · intro e
    by_cases e2 : repS a s = j
    · rw [e2] at r3
      have := (repS_min h hj).2 r3
      omega
    · omega
  · omega
theorem min_of_rep {a : List Nat} (h : isP a) {j : Nat} (hj : j < a.length) (hr : ¬ repS a j < j) : isMin a j = true := by
  have := repS_le h hj
  exact (repS_min h hj).1 (by omega)
theorem cK_next {a : List Nat} (h : isP a) {j : Nat} (hj : j < a.length) (hm : isMin a j = true) : cK a j (perOf a j) = cK a (j + 1) 0 := by
  refine cK_congr fun s hs => ?_
  rw [List.take_of_length_le (by rw [cyc_length]; exact Nat.le_refl _)]
  simp only [List.take_zero, List.not_mem_nil, or_false]
  rw [← repS_iff h hj hs hm]
  omega
theorem cK_set {a : List Nat} (h : isP a) {j t : Nat} (hj : j < a.length) (hm : isMin a j = true) (ht : t < perOf a j) : (cK a j t).set (it a t j) (((minK a j).length : Nat) : Int) = cK a j (t + 1) := by
  have hx := it_lt h hj t
  have hc : (cyc a j).take (t + 1) = (cyc a j).take t ++ [it a t j] := by
    rw [List.take_succ_eq_append_getElem (by rw [cyc_length]; exact ht)]
    simp [cyc]
  refine list_extI (by rw [List.length_set, cK_length, cK_length]) fun s hs => ?_
  rw [List.length_set, cK_length] at hs
  have hv : lkAt a (it a t j) = (minK a j).length := by
    rw [lkAt_num h hx, (repS_iff h hj hx hm).2 ((mem_cyc h hj).2 ⟨t, rfl⟩)]
  rw [cK_getD hs, hc]
  by_cases e : s = it a t j
  · subst e
    rw [if_pos (Or.inr (by simp)), hv]
    simp [List.getD, cK_length, hx]
  · have e2 : ((cK a j t).set (it a t j) (((minK a j).length : Nat) : Int)).getD s 0 = (cK a j t).getD s 0 := by
      simp only [List.getD, List.getElem?_set]
      rw [if_neg (fun e3 => e e3.symm)]
    rw [e2, cK_getD hs]
    have e3 : (s ∈ (cyc a j).take t ++ [it a t j]) ↔ s ∈ (cyc a j).take t := by simp [e]
    simp only [e3]
/-- A strand that isn't numbered yet. -/
theorem cK_none {a : List Nat} (h : isP a) {j t : Nat} (hj : j < a.length) (hm : isMin a j = true) (ht : t < perOf a j) : (cK a j t).getD (it a t j) 0 = -1 := by
  have hx := it_lt h hj t
  rw [cK_getD hx, if_neg]
  rintro (e | e)
  · rw [(repS_iff h hj hx hm).2 ((mem_cyc h hj).2 ⟨t, rfl⟩)] at e
    omega
  · obtain ⟨u, hu, e⟩ := List.mem_iff_getElem.1 e
    rw [List.length_take, cyc_length] at hu
    simp only [List.getElem_take, cyc, List.getElem_map, List.getElem_range] at e
    obtain ⟨d, hd⟩ : ∃ d, t = u + d := ⟨t - u, by omega⟩
    rw [hd] at e
    have e2 := it_back h hj e.symm
    exact (per_spec h hj).2.2.2 d (by omega) (by omega) e2
theorem cK_back {a : List Nat} (h : isP a) {j : Nat} (hj : j < a.length) (hm : isMin a j = true) : it a (perOf a j) j = j ∧ (cK a j (perOf a j)).getD j 0 = ((lkAt a j : Nat) : Int) := by
  refine ⟨(per_spec h hj).2.2.1, ?_⟩
  rw [cK_next h hj hm, cK_getD hj, if_pos]
  left
  have := repS_le h hj
  omega
theorem cK_end {a : List Nat} (h : isP a) : cK a a.length 0 = zs ((List.range a.length).map (lkAt a)) := by
  unfold cK zs
  rw [List.map_map]
  refine List.map_congr_left fun s hs => ?_
  rw [if_pos (Or.inl (repS_spec h (List.mem_range.1 hs)).1)]
  rfl
theorem prt_minK (a : List Nat) : (prtL a).length = (minK a a.length).length := by rw [← prtK_all, prtK_length]

/-! ### the rows of strands -/
/-- The rows when i strands are in. -/
def rwK (a : List Nat) (i : Nat) : List (List Nat) := (List.range (prtL a).length).map fun k => (List.range i).filter fun s => decide (lkAt a s = k)
theorem rwK_length (a : List Nat) (i : Nat) : (rwK a i).length = (prtL a).length := by simp [rwK]
theorem rwK_getD {a : List Nat} {i k : Nat} (hk : k < (prtL a).length) : (rwK a i).getD k [] = (List.range i).filter fun s => decide (lkAt a s = k) := by
  simp [rwK, List.getD, hk]
theorem rwK_start (a : List Nat) : rwK a 0 = List.replicate (prtL a).length [] := by
  unfold rwK
  rw [show (fun k => (List.range 0).filter fun s => decide (lkAt a s = k)) = fun _ => ([] : List Nat) by funext k; rfl, List.map_const', List.length_range]
theorem rwK_put {a : List Nat} (h : isP a) {i : Nat} (hi : i < a.length) : rwK a (i + 1) = (rwK a i).set (lkAt a i) ((rwK a i).getD (lkAt a i) [] ++ [i]) := by
  have hk := lkAt_lt h hi
  rw [rwK_getD hk]
  unfold rwK
  refine List.ext_getElem (by simp) fun k h1 h2 => ?_
  rw [List.getElem_map, List.getElem_range, List.getElem_set, List.getElem_map, List.getElem_range, List.range_succ, List.filter_append]
  by_cases e : lkAt a i = k
  · subst e
    rw [if_pos rfl, List.filter_cons_of_pos (by simp)]
    rfl
  · rw [if_neg e, List.filter_cons_of_neg (by simpa using e)]
    simp
theorem rwK_end {a : List Nat} (h : isP a) : rwK a a.length = prtL a := by
  refine List.ext_getElem (by rw [rwK_length]) fun k h1 h2 => ?_
  have hk : k < (minK a a.length).length := by rwa [← prt_minK]
  obtain ⟨m1, m2⟩ := minK_mem.1 (List.getElem_mem hk)
  have e1 : (rwK a a.length)[k] = (List.range a.length).filter fun s => decide (lkAt a s = k) := by simp [rwK]
  have e2 : (prtL a)[k] = rowP a a.length (minK a a.length)[k] := by
    simp only [← prtK_all]
    unfold prtK
    rw [List.getElem_map]
  rw [e1, e2]
  unfold rowP
  obtain ⟨m, hm⟩ : ∃ m, (minK a a.length)[k] = m := ⟨_, rfl⟩
  rw [hm] at m1 m2 ⊢
  have hk2 : k = (minK a m).length := by
    obtain ⟨t, ht⟩ := minK_pre (a := a) (m := m + 1) a.length (by omega)
    rw [minK_yes m2] at ht
    have hnd : (minK a a.length).Nodup := nodup_filter _ List.nodup_range
    have hl : (minK a m).length < (minK a a.length).length := by rw [ht]; simp
    have e3 : (minK a a.length)[(minK a m).length] = m := by
      simp only [ht]
      simp
    exact (List.getElem_inj hnd).1 (hm.trans e3.symm)
  refine List.filter_congr fun s hs => ?_
  have hs2 := List.mem_range.1 hs
  rw [decide_eq_decide, ← repS_iff h m1 hs2 m2, lkAt_num h hs2, hk2]
  constructor
  · intro e
    obtain ⟨r1, r2, r3⟩ := repS_spec h hs2
    rcases Nat.lt_trichotomy (repS a s) m with g | g | g
    · exfalso
      obtain ⟨t, ht⟩ := minK_pre (a := a) (m := repS a s + 1) m (by omega)
      rw [minK_yes r3] at ht
      have := congrArg List.length ht
      simp at this
      omega
    · exact g
    · exfalso
      obtain ⟨t, ht⟩ := minK_pre (a := a) (m := m + 1) (repS a s) (by omega)
      rw [minK_yes m2] at ht
      have := congrArg List.length ht
      simp at this
      omega
  · intro e
    rw [e]

/-! ### components by position -/
/-- The components of the strands by their positions behind a word. -/
def atK (n : Nat) (a : List Nat) (u : List Int) : List Nat := (List.range n).map fun p => lkAt a (lkS n u p)
theorem atK_length (n : Nat) (a : List Nat) (u : List Int) : (atK n a u).length = n := by simp [atK]
theorem atK_getD {n p : Nat} {a : List Nat} {u : List Int} (hp : p < n) : (atK n a u).getD p 0 = lkAt a (lkS n u p) := by
  simp [atK, List.getD, hp]
theorem lkS_nil {n p : Nat} (hp : p < n) : lkS n [] p = p := by
  unfold lkS
  have e : endsL n [] = List.range n := by
    unfold endsL
    conv => rhs; rw [← List.map_id (List.range n)]
    exact List.map_congr_left fun s _ => rfl
  rw [e]
  have hm : p ∈ List.range n := List.mem_range.2 hp
  have h2 : (List.range n).idxOf p < (List.range n).length := List.idxOf_lt_length_of_mem hm
  have h3 := List.getElem_idxOf h2
  rwa [List.getElem_range] at h3
theorem atK_start {n : Nat} {a : List Nat} (h : a.length = n) : (List.range a.length).map (lkAt a) = atK n a [] := by
  rw [h]
  unfold atK
  refine List.map_congr_left fun p hp => ?_
  rw [lkS_nil (List.mem_range.1 hp)]
theorem atK_step {n i : Nat} {a : List Nat} {u : List Int} {x : Int} (h0 : x ≠ 0) (hi : x.natAbs = i + 1) (hn : i + 1 < n) : ((atK n a u).set i ((atK n a u).getD (i + 1) 0)).set (i + 1) ((atK n a u).getD i 0) = atK n a (u ++ [x]) := by
  rw [atK_getD hn, atK_getD (show i < n by omega)]
  refine List.ext_getElem (by simp [atK]) fun p h1 h2 => ?_
  have hp : p < n := by rw [atK_length] at h2; exact h2
  have e1 : (atK n a (u ++ [x]))[p] = lkAt a (lkS n u (stepE p x)) := by
    simp only [atK, List.getElem_map, List.getElem_range]
    rw [lkS_snoc h0]
  rw [e1, List.getElem_set, List.getElem_set]
  unfold stepE
  by_cases e2 : i + 1 = p
  · subst e2
    rw [if_pos rfl, if_neg (by omega), if_pos (by omega)]
    rfl
  · rw [if_neg e2]
    by_cases e3 : i = p
    · subst e3
      rw [if_pos rfl, if_pos (by omega)]
    · rw [if_neg e3, if_neg (by omega), if_neg (by omega)]
      simp [atK]
end Go.Proofs.Ytndgffiihbdppaa
/- slices.Compare, factorial. -/
namespace Go.Proofs.Ytndgffiihbdppaa
set_option linter.unusedVariables false
set_option linter.unusedSimpArgs false
open Go.RowKit

/-- cmp.Compare at integers. -/
def cmp1 (x y : Int) : Int := if x < y then -1 else if y < x then 1 else 0

set_option maxHeartbeats 1000000 in
theorem cmp_any (x y : Int) (w : World) : Calls Try.prog 33 #[.int .i64 x, .int .i64 y] w fun e w' => e = .returned (.int .i64 (cmp1 x y)) ∧ w = w' := by
  rcases Int.lt_trichotomy x y with h | h | h
  · have HE : Hid (cmp1 x y = -1) := if_pos h
    have hx : (x != x) = false := by simp
    have hy : (y != y) = false := by simp
    go_enter Try.func33, Try.ntmps33
    go_wp2
    go_ret
    rw [HE.out]
    exact ⟨rfl, rfl⟩
  · subst h
    have HE : Hid (cmp1 x x = 0) := by unfold cmp1; rw [if_neg (by omega), if_neg (by omega)]; exact rfl
    have hx : (x != x) = false := by simp
    go_enter Try.func33, Try.ntmps33
    go_wp2
    go_ret
    rw [HE.out]
    exact ⟨rfl, rfl⟩
  · have HE : Hid (cmp1 x y = 1) := by unfold cmp1; rw [if_neg (by omega), if_pos h]; exact rfl
    have hx : (x != x) = false := by simp
    have hy : (y != y) = false := by simp
    go_enter Try.func33, Try.ntmps33
    go_wp2
    go_ret
    rw [HE.out]
    exact ⟨rfl, rfl⟩

end Go.Proofs.Ytndgffiihbdppaa
/- Package braid: Check, generator, ExponentSum, Inverse. -/
namespace Go.Proofs.Ytndgffiihbdppaa
set_option linter.unusedVariables false
set_option linter.unusedSimpArgs false
open Go.RowKit

theorem bfault_bad {m : Int} {xs : List Int} (h1 : 1 ≤ m) (h6 : m ≤ 6) (h : xs.length ≤ 30) {k : Nat} (hk : k < xs.length) (hb : okX m (xs.getD k 0) = false) : bfault m xs = 3 := by
  unfold bfault
  rw [if_neg (by omega), if_neg (by omega), if_neg]
  intro h2
  have h3 := List.all_eq_true.1 h2 _ (List.getElem_mem hk)
  rw [show xs.getD k 0 = xs[k] by simp [List.getD, hk]] at hb
  rw [hb] at h3
  cases h3
theorem bfault_all {m : Int} {xs : List Int} (h1 : 1 ≤ m) (h6 : m ≤ 6) (h : xs.length ≤ 30) (hb : ∀ k, k < xs.length → okX m (xs.getD k 0) = true) : bfault m xs = 0 := by
  unfold bfault
  rw [if_neg (by omega), if_neg (by omega), if_pos]
  rw [List.all_eq_true]
  intro x hx
  obtain ⟨k, hk, rfl⟩ := List.getElem_of_mem hx
  have := hb k hk
  rwa [show xs.getD k 0 = xs[k] by simp [List.getD, hk]] at this

set_option maxRecDepth 100000 in
set_option maxHeartbeats 4000000 in
theorem bcheck_any (m : Int) (A : Option Addr) (n c : Nat) (xs : List Int) (w : World) (ha : SL w A n c xs) (hm : (Lit.int .i64 m).wf = true) :
    Calls Try.prog 55 #[.int .i64 m, .slice A n c] w fun e w' => e = .returned (.int .i64 (bfault m xs)) ∧ w = w' := by
  have HL := hide ha.il.len
  have HA := hide ha.il
  have hns := ha.il.small
  clear ha
  by_cases h1 : m < 1
  · have HE : Hid (bfault m xs = 1) := hide (by unfold bfault; rw [if_pos (by omega)])
    go_enter Try.func55, Try.ntmps55
    go_wp2_with fail
    go_ret
    exact ⟨by rw [HE.out]; rfl, rfl⟩
  by_cases h6 : 6 < m
  · have HE : Hid (bfault m xs = 1) := hide (by unfold bfault; rw [if_pos (by omega)])
    go_enter Try.func55, Try.ntmps55
    go_wp2_with fail
    go_ret
    exact ⟨by rw [HE.out]; rfl, rfl⟩
  by_cases h30 : 30 < n
  · have HE : Hid (bfault m xs = 2) := hide (by unfold bfault; rw [if_neg (by omega), if_pos (by rw [HL.out]; exact h30)])
    go_enter Try.func55, Try.ntmps55
    go_wp2_with fail
    go_ret
    exact ⟨by rw [HE.out]; rfl, rfl⟩
  have HB : Hid (∀ k, k < n → okX m (xs.getD k 0) = false → bfault m xs = 3) := hide (fun k hk hb => bfault_bad (by omega) (by omega) (by rw [HL.out]; omega) (by rw [HL.out]; exact hk) hb)
  have HG : Hid ((∀ k, k < n → okX m (xs.getD k 0) = true) → bfault m xs = 0) := hide (fun hb => bfault_all (by omega) (by omega) (by rw [HL.out]; omega) (fun k hk => hb k (by rw [← HL.out]; exact hk)))
  have hwm : IntKind.i64.wrap (-m) = -m := by rw [IntKind.wrap_i64]; omega
  go_enter Try.func55, Try.ntmps55
  go_wp2_with fail
  go_loop [18] (fun iv => ∃ k : Nat, k ≤ n ∧ iv = .int .i64 k ∧ Hid (∀ j, j < k → okX m (xs.getD j 0) = true)) (fun iv => n - (intOf iv).toNat)
  case atStart => exact ⟨0, Nat.zero_le _, rfl, hide (fun j hj => absurd hj (by omega))⟩
  case round =>
    obtain ⟨k, hk, rfl, HP⟩ := hrel
    by_cases hlt : k < n
    · obtain ⟨ad, rfl, hx⟩ := HA.out.at_ hlt
      have HBK := hide (HB.out k hlt)
      have HN : Hid (okX m (xs.getD k 0) = true → ∀ j, j < k + 1 → okX m (xs.getD j 0) = true) := hide (fun h j hj => by
        rcases Nat.lt_or_ge j k with h2 | h2
        · exact HP.out j h2
        · rw [show j = k by omega]; exact h)
      clear HB HP
      generalize xs.getD k 0 = x at *
      by_cases hx0 : x = 0
      · have HV := hide (HBK.out (by subst hx0; unfold okX; simp))
        clear HN HBK
        subst hx0
        go_wp2_with fail
        go_ret
        exact ⟨by rw [HV.out]; rfl, rfl⟩
      by_cases hx1 : x ≤ -m
      · have HV := hide (HBK.out (by unfold okX; rw [decide_eq_false]; omega))
        have e0 : (x == 0) = false := by simpa using hx0
        clear HN HBK
        go_wp2_with fail
        go_ret
        exact ⟨by rw [HV.out]; rfl, rfl⟩
      by_cases hx2 : m ≤ x
      · have HV := hide (HBK.out (by unfold okX; rw [decide_eq_false]; omega))
        have e0 : (x == 0) = false := by simpa using hx0
        clear HN HBK
        go_wp2_with fail
        go_ret
        exact ⟨by rw [HV.out]; rfl, rfl⟩
      have HV := hide (HN.out (by unfold okX; rw [decide_eq_true]; omega))
      have e0 : (x == 0) = false := by simpa using hx0
      clear HN HBK
      go_wp2_with fail
      go_round
      case rel => exact ⟨k + 1, by omega, by go_num, HV⟩
      case measure => simp [intOf]; omega
    · have hkn : k = n := by omega
      subst hkn
      have HV := hide (HG.out HP.out)
      clear HP HG HB
      go_wp2_with fail
      go_ret
      exact ⟨by rw [HV.out]; rfl, rfl⟩

set_option maxRecDepth 100000 in
set_option maxHeartbeats 1000000 in
theorem gen_any (x : Int) (w : World) (h1 : -10 < x) (h2 : x < 10) : Calls Try.prog 65 #[.int .i64 x] w fun e w' => e = .returned (.int .i64 (x.natAbs : Int)) ∧ w = w' := by
  have hw : IntKind.i64.wrap (-x) = -x := by rw [IntKind.wrap_i64]; omega
  have HM : Hid (max x (-x) = (x.natAbs : Int)) := hide (by omega)
  go_enter Try.func65, Try.ntmps65
  go_wp2_with ((with_reducible show wpList _ _ _ (Oper.mk _ (.call { callee := .builtin .max, args := _, argTypes := _ }) _ _ _ _ :: _) _ _); refine wpList_gives rfl (gives_maxI rfl rfl rfl HM.out) ?_)
  go_ret
  exact ⟨rfl, rfl⟩

theorem expo_snoc (w : List Int) (x : Int) : LP.expo (w ++ [x]) = LP.expo w + Int.sign x := by
  rw [LP.expo_append, LP.expo_cons, LP.expo_nil, Int.add_zero]

set_option maxRecDepth 100000 in
set_option maxHeartbeats 2000000 in
theorem bexpo_any (m : Int) (A : Option Addr) (n c : Nat) (xs : List Int) (w : World) (ha : SL w A n c xs) (hm : (Lit.int .i64 m).wf = true) :
    Calls Try.prog 27 #[.int .i64 m, .slice A n c] w fun e w' => e = .returned (.tuple #[.int .i64 (expoB m xs), .int .i64 (bfault m xs)]) ∧ Below w.heap.size w w' := by
  have HC := hide (bcheck_any m A n c xs w ha hm)
  have HL := hide ha.il.len
  have HA := hide ha.il
  have hns := ha.il.small
  clear ha
  obtain ⟨f, hf⟩ : ∃ f, bfault m xs = f := ⟨_, rfl⟩
  have HF := hide hf
  rw [hf] at HC ⊢
  clear hf
  by_cases h0 : f = 0
  case neg =>
    have HV : Hid (expoB m xs = 0) := hide (by unfold expoB; rw [HF.out, if_neg h0])
    have hne : (f != 0) = true := by simpa using h0
    clear h0
    go_enter Try.func27, Try.ntmps27
    go_wp2_with fail
    refine HC.out.mono ?_
    rintro e w1 ⟨rfl, hww⟩
    subst hww
    go_wp2_with fail
    go_ret2
    exact ⟨by rw [HV.out]; rfl, Below.refl _ _⟩
  subst h0
  have HV : Hid (expoB m xs = LP.expo xs) := hide (by unfold expoB; rw [HF.out, if_pos rfl])
  have hn30 : n ≤ 30 := by have := (bfault_zero HF.out).2.2.1; rw [HL.out] at this; exact this
  go_enter Try.func27, Try.ntmps27
  go_wp2_with fail
  refine HC.out.mono ?_
  rintro e w1 ⟨rfl, hww⟩
  subst hww
  go_wp2_with fail
  go_loop [7, 18] (fun sv iv => ∃ k : Nat, k ≤ n ∧ iv = .int .i64 k ∧ sv = .int .i64 (LP.expo (xs.take k))) (fun _ iv => n - (intOf iv).toNat)
  case atStart => exact ⟨0, Nat.zero_le _, rfl, by rw [List.take_zero]; rfl⟩
  case round =>
    obtain ⟨k, hk, rfl, rfl⟩ := hrel
    by_cases hlt : k < n
    · obtain ⟨ad, rfl, hx⟩ := HA.out.at_ hlt
      have hlx : k < xs.length := by rw [HL.out]; exact hlt
      have hget : xs.getD k 0 = xs[k] := by simp [List.getD, List.getElem?_eq_getElem hlx]
      have HT : Hid (LP.expo (xs.take (k + 1)) = LP.expo (xs.take k) + cmp1 (xs.getD k 0) 0) := hide (by
        rw [List.take_succ_eq_append_getElem hlx, expo_snoc, hget]
        congr 1
        unfold cmp1
        rcases Int.lt_trichotomy xs[k] 0 with h | h | h
        · rw [Int.sign_eq_neg_one_of_neg h, if_pos h]
        · rw [h]; rfl
        · rw [Int.sign_eq_one_of_pos h, if_neg (by omega), if_pos h])
      have hE : (LP.expo (xs.take k)).natAbs ≤ 30 := by have := LP.expo_le (xs.take k); have := List.length_take_le k xs; omega
      have hC1 : (cmp1 (xs.getD k 0) 0).natAbs ≤ 1 := by unfold cmp1; split <;> (try split) <;> decide
      clear hlx hget
      generalize xs.getD k 0 = x at *
      generalize LP.expo (xs.take k) = s at *
      have HCM := hide (cmp_any x 0 w)
      generalize cmp1 x 0 = cx at *
      have hw : IntKind.i64.wrap (s + cx) = s + cx := by rw [IntKind.wrap_i64]; omega
      go_wp2_with fail
      refine HCM.out.mono ?_
      rintro e w1 ⟨rfl, hww⟩
      subst hww
      go_wp2_with fail
      go_round
      case rel => exact ⟨k + 1, by omega, by go_num, by rw [HT.out]⟩
      case measure => simp [intOf]; omega
    · have hkn : k = n := by omega
      have HE : Hid (LP.expo (xs.take k) = expoB m xs) := hide (by rw [HV.out, List.take_of_length_le (by rw [HL.out]; omega)])
      rw [HE.out]
      clear hkn
      go_wp2_with fail
      go_ret2
      exact ⟨rfl, Below.refl _ _⟩

theorem invw_step {xs : List Int} {k n : Nat} (hl : xs.length = n) (hk : k < n) : (List.replicate (n - k) 0 ++ invw (xs.take k)).set (n - 1 - k) (-(xs.getD k 0)) = List.replicate (n - (k + 1)) 0 ++ invw (xs.take (k + 1)) := by
  have hlx : k < xs.length := by omega
  have e1 : invw (xs.take (k + 1)) = -(xs.getD k 0) :: invw (xs.take k) := by
    rw [List.take_succ_eq_append_getElem hlx, show xs.getD k 0 = xs[k] by simp [List.getD, hlx]]
    unfold invw
    rw [List.map_append, List.reverse_append]
    rfl
  rw [e1, show n - k = (n - (k + 1)) + 1 by omega, List.replicate_succ', List.append_assoc, List.set_append_right _ _ (by simp; omega), List.length_replicate, show n - 1 - k - (n - (k + 1)) = 0 by omega]
  rfl

set_option maxRecDepth 100000 in
set_option maxHeartbeats 2000000 in
theorem binv_any (m : Int) (A : Option Addr) (n c : Nat) (xs : List Int) (w : World) (ha : SL w A n c xs) (hm : (Lit.int .i64 m).wf = true) :
    Calls Try.prog 26 #[.int .i64 m, .slice A n c] w (GivesLE w (bfault m xs) (invB m xs)) := by
  have HC := hide (bcheck_any m A n c xs w ha hm)
  have HL := hide ha.il.len
  have HA := hide ha.il
  have hns := ha.il.small
  clear ha
  obtain ⟨f, hf⟩ : ∃ f, bfault m xs = f := ⟨_, rfl⟩
  have HF := hide hf
  rw [hf] at HC ⊢
  clear hf
  by_cases h0 : f = 0
  case neg =>
    have HV : Hid (invB m xs = []) := hide (by unfold invB; rw [HF.out, if_neg h0])
    have hne : (f != 0) = true := by simpa using h0
    clear h0
    go_enter Try.func26, Try.ntmps26
    go_wp2_with fail
    refine HC.out.mono ?_
    rintro e w1 ⟨rfl, hww⟩
    subst hww
    go_wp2_with fail
    go_ret2
    exact ⟨none, 0, 0, rfl, by rw [HV.out]; exact SL.nil_ _, Below.refl _ _⟩
  subst h0
  have HV : Hid (invB m xs = invw xs) := hide (by unfold invB; rw [HF.out, if_pos rfl])
  have hz := bfault_zero HF.out
  have hn30 : n ≤ 30 := by have := hz.2.2.1; rw [HL.out] at this; exact this
  have HX : Hid (∀ k, k < n → -6 < xs.getD k 0 ∧ xs.getD k 0 < 6) := hide (fun k hk => by
    have hlx : k < xs.length := by rw [HL.out]; exact hk
    have := hz.2.2.2 (xs.getD k 0) (by rw [show xs.getD k 0 = xs[k] by simp [List.getD, hlx]]; exact List.getElem_mem _)
    omega)
  clear hz
  obtain ⟨i0, hi0, hz0, hz1, hz2⟩ := info_parts int_info
  go_enter Try.func26, Try.ntmps26
  go_wp2_with fail
  refine HC.out.mono ?_
  rintro e w1 ⟨rfl, hww⟩
  subst hww
  go_wp2_with (at_make; refine wpList_make_full _ rfl _ _ 22 rfl w.heap.size 3 i0 (.int .i64 0) 1 Try.underlying22 hi0 hz0 hz1 .i64 .i64 _ _ n rfl rfl rfl rfl (by rw [hz2]; omega) (by unfold maxLen; omega) (Nat.le_refl _) ?_; intro w2 hown2 hg2)
  have hB2 : Below w.heap.size w w2 := (Below.refl _ _).grown hg2 (Nat.le_refl _) (by intro k hk; cases hk)
  have hw2 := OwnI.zero (z := #[]) hown2 (by omega)
  have HO2 : Hid (OwnI w2 w.heap.size (some ⟨w.heap.size, 0, none⟩) n n (List.replicate (n - 0) 0 ++ invw (xs.take 0))) := hide (by
    rw [List.take_zero, Nat.sub_zero, show invw ([] : List Int) = [] from rfl, List.append_nil]; exact hw2)
  have HB2 := hide hB2
  clear hown2 hg2 hw2 hB2
  go_loopw [21] (fun i wr => ∃ k : Nat, k ≤ n ∧ i = .int .i64 k ∧ Hid (OwnI wr w.heap.size (some ⟨w.heap.size, 0, none⟩) n n (List.replicate (n - k) 0 ++ invw (xs.take k))) ∧ Hid (Below w.heap.size w wr)) (fun i _ => n - (intOf i).toNat)
  case atStart => exact ⟨0, Nat.zero_le _, rfl, HO2, HB2⟩
  case round =>
    clear HO2 HB2
    obtain ⟨k, hk, rfl, HO, HB⟩ := hrel
    by_cases hlt : k < n
    · obtain ⟨ad, rfl, hx⟩ := (HA.out.below HB.out).at_ hlt
      have hxx := HX.out k hlt
      have HS := hide (invw_step HL.out hlt)
      have hcell := HO.out.cell (j := n - 1 - k) (by omega)
      have hfr := HO.out.frozen (n - 1 - k)
      have HN := hide (HO.out.set_ (n - 1 - k) (-(xs.getD k 0)))
      rw [HS.out] at HN
      generalize xs.getD k 0 = x at *
      generalize (List.replicate (n - k) 0 ++ invw (xs.take k)).getD (n - 1 - k) 0 = z at *
      have hwx : IntKind.i64.wrap (-x) = -x := by rw [IntKind.wrap_i64]; omega
      obtain ⟨q, hq⟩ : ∃ q : Nat, n - 1 - k = q := ⟨_, rfl⟩
      rw [hq] at hcell hfr HN
      have hq2 : (n : Int) - 1 - (k : Int) = (q : Int) := by omega
      have HQ := hide hq2
      have hqn : q < n := by omega
      clear hq hq2 HS
      go_wp2_with (simp only [HQ.out])
      go_roundw
      case rel => exact ⟨k + 1, by omega, by go_num, HN, hide (HB.out.setCell (Nat.le_refl _) _)⟩
      case measure => simp [intOf]; omega
    · have hkn : k = n := by omega
      have HE : Hid (OwnI wr w.heap.size (some ⟨w.heap.size, 0, none⟩) n n (invw xs)) := hide (by
        have h := HO.out
        rw [hkn, Nat.sub_self, List.replicate_zero, List.nil_append, List.take_of_length_le (by rw [HL.out]; omega)] at h
        exact h)
      clear hkn HO
      go_wp2_with fail
      go_ret2
      exact ⟨_, _, _, rfl, by rw [HV.out]; exact HE.out.sl, HB.out⟩
end Go.Proofs.Ytndgffiihbdppaa
/- perm.Check. -/
namespace Go.Proofs.Ytndgffiihbdppaa
set_option linter.unusedVariables false
set_option linter.unusedSimpArgs false
open Go.RowKit

/-- The array 'seen': which of 0 to 8 lie in xs. -/
def seenA (xs : List Int) : Array Value := ((List.range 9).map fun j : Nat => Value.bool (decide ((j : Int) ∈ xs))).toArray
theorem seenA_get (xs : List Int) (j : Nat) (hj : j < 9) : (seenA xs)[j]? = some (.bool (decide ((j : Int) ∈ xs))) := by
  simp [seenA, hj]
theorem seenA_set (xs : List Int) (j : Nat) : (seenA xs).setIfInBounds j (.bool true) = seenA (xs ++ [(j : Int)]) := by
  apply Array.ext_getElem?
  intro i
  by_cases hi : i < 9
  · rw [seenA_get _ i hi, Array.getElem?_setIfInBounds]
    by_cases hij : j = i
    · subst hij
      have : j < (seenA xs).size := by simp [seenA]; omega
      simp [this]
    · rw [if_neg hij, seenA_get _ i hi]
      have : ¬ ((i : Int) = (j : Int)) := by omega
      simp [this]
  · rw [Array.getElem?_eq_none (by simp [seenA]; omega), Array.getElem?_eq_none (by simp [seenA]; omega)]

theorem pf_big {xs : List Int} (h : 9 < xs.length) : pf xs = 2 := by unfold pf; rw [if_pos h]
theorem pf_small {xs : List Int} (h : xs.length ≤ 9) : pf xs = pfGo xs.length [] xs := by unfold pf; rw [if_neg (by omega)]
theorem take_snoc (xs : List Int) (k : Nat) (h : k < xs.length) : xs.take (k + 1) = xs.take k ++ [xs.getD k 0] := by
  rw [List.take_succ_eq_append_getElem h]
  simp [List.getD, List.getElem?_eq_getElem h]

set_option maxHeartbeats 1000000 in
theorem check_any (A : Option Addr) (n c : Nat) (xs : List Int) (w : World) (ha : IL w A n xs) :
    Calls Try.prog 67 #[.slice A n c] w fun e w' => e = .returned (.int .i64 (pf xs)) ∧ Below w.heap.size w w' := by
  have hna := ha.small
  have HL := hide ha.len
  by_cases h9 : 9 < n
  · have HE := hide (pf_big (xs := xs) (by have := HL.out; omega))
    clear ha
    go_enter Try.func67, Try.ntmps67
    go_wp2
    go_ret
    rw [HE.out]
    exact ⟨rfl, Below.refl _ _⟩
  · go_enter Try.func67, Try.ntmps67
    go_wp2
    go_loopw [11] (fun i wr => ∃ k : Nat, k ≤ n ∧ i = .int .i64 k ∧ Hid (pf xs = pfGo xs.length (xs.take k) (xs.drop k)) ∧ Blk wr w.heap.size 77 (seenA (xs.take k)) ∧ Below w.heap.size w wr) (fun i _ => n - (intOf i).toNat)
    case atStart => exact ⟨0, Nat.zero_le _, rfl, pf_small (by have := HL.out; omega), Blk.new _ _ _, (Below.refl _ _).alloc (Nat.le_refl _) _⟩
    case round =>
      obtain ⟨k, hk, rfl, hpf, hblk, hnx⟩ := hrel
      have ha' := ha.below hnx
      by_cases hlt : k < n
      · obtain ⟨ad, rfl, hca⟩ := ha'.at_ hlt
        have HT := hide (take_snoc xs k (by have := HL.out; omega))
        have HP := hide (pf_step (xs := xs) (k := k) (by have := HL.out; omega))
        clear ha ha'
        generalize xs.getD k 0 = x at *
        by_cases h1 : x < 0
        · have HE : Hid (pf xs = 1) := by rw [hpf.out, HP.out, if_pos (.inl h1)]; exact rfl
          go_wp2
          go_ret
          rw [HE.out]
          exact ⟨rfl, hnx⟩
        · by_cases h2 : (n : Int) ≤ x
          · have HE : Hid (pf xs = 1) := by rw [hpf.out, HP.out, if_pos (.inr (by rw [HL.out]; exact h2))]; exact rfl
            go_wp2
            go_ret
            rw [HE.out]
            exact ⟨rfl, hnx⟩
          · obtain ⟨u, rfl⟩ : ∃ u : Nat, x = (u : Int) := ⟨x.toNat, by omega⟩
            have hu9 : u < 9 := by omega
            have hun : u < n := by omega
            have hcell := (hblk.cell u).trans (seenA_get _ u hu9)
            have hfr := hblk.frozen u
            by_cases h3 : (u : Int) ∈ xs.take k
            · have HE : Hid (pf xs = 5) := by rw [hpf.out, HP.out, if_neg (by rw [HL.out]; omega), if_pos h3]; exact rfl
              rw [decide_eq_true h3] at hcell
              clear h3
              go_wp2
              go_ret
              rw [HE.out]
              exact ⟨rfl, hnx⟩
            · have HE : Hid (pf xs = pfGo xs.length (xs.take (k + 1)) (xs.drop (k + 1))) := by rw [hpf.out, HP.out, if_neg (by rw [HL.out]; omega), if_neg h3]; exact rfl
              rw [decide_eq_false h3] at hcell
              clear h3
              go_wp2
              go_roundw
              case rel => exact ⟨k + 1, by omega, by go_num, HE, by rw [HT.out, ← seenA_set]; exact hblk.set_ _ _, hnx.setCell (Nat.le_refl _) _⟩
              case measure => simp [intOf]; omega
      · have HE : Hid (pf xs = 0) := by rw [hpf.out, pf_end xs _ k (by rw [HL.out]; omega)]; exact rfl
        go_wp2
        go_ret
        rw [HE.out]
        exact ⟨rfl, hnx⟩
end Go.Proofs.Ytndgffiihbdppaa
/- Compose, Inverse, and the law's own compose. -/
namespace Go.Proofs.Ytndgffiihbdppaa
set_option linter.unusedVariables false
set_option linter.unusedSimpArgs false
open Go.RowKit

/-- A slice in new memory, and no error. -/
def GivesOwn0 (w : World) (xs : List Int) (e : Ending) (w' : World) : Prop :=
  ∃ A n c, e = .returned (.tuple #[.slice A n c, .int .i64 0]) ∧ OwnI w' w.heap.size A n c xs ∧ Below w.heap.size w w'

end Go.Proofs.Ytndgffiihbdppaa
/- Inverse. -/
namespace Go.Proofs.Ytndgffiihbdppaa
set_option linter.unusedVariables false
set_option linter.unusedSimpArgs false
open Go.RowKit

theorem inv_step {a : List Nat} (pa : isP a) {n k : Nat} (hl : a.length = n) (hk : k < n) {ps : List Int} (hp : ps.length = n) (h : ∀ j, j < k → ps.getD (a.getD j 0) 0 = (j : Int)) :
    ∀ j, j < k + 1 → (ps.set (a.getD k 0) (k : Int)).getD (a.getD j 0) 0 = (j : Int) := by
  intro j hj
  have hlk := pa.lt (j := k) (by omega)
  by_cases e : j = k
  · subst e
    simp only [List.getD, List.getElem?_set]
    simp only [List.getD] at hlk
    rw [if_pos trivial, if_pos (by omega)]
    rfl
  · have hne : a.getD k 0 ≠ a.getD j 0 := fun h1 => e (pa.inj (by omega) (by omega) h1).symm
    have := h j (by omega)
    simp only [List.getD, List.getElem?_set] at this hne ⊢
    rw [if_neg hne]
    exact this

set_option maxHeartbeats 1000000 in
theorem inverse_ok (A : Option Addr) (n c : Nat) (a : List Nat) (w : World) (ha : IL w A n (zs a)) (pa : isP a) (h9 : a.length ≤ 9) :
    Calls Try.prog 66 #[.slice A n c] w (GivesOwn0 w (zs (inv a))) := by
  have HA := hide (pa.pf h9)
  have hna := ha.small
  have HL : Hid (a.length = n) := by have := ha.len; rwa [zs_length] at this
  have HP := hide pa
  clear pa h9
  obtain ⟨i0, hi0, hz0, hz1, hz2⟩ := info_parts int_info
  go_enter Try.func66, Try.ntmps66
  go_wp2_with fail
  refine (check_any _ _ _ _ _ ha).mono ?_
  rw [HA.out]
  rintro e w1 ⟨rfl, hb1⟩
  go_wp2_with (at_make; refine wpList_make_full _ rfl _ _ 22 rfl w1.heap.size 3 i0 (.int .i64 0) 1 Try.underlying22 hi0 hz0 hz1 .i64 .i64 _ _ n rfl rfl rfl rfl (by rw [hz2]; omega) (by unfold maxLen; omega) (Nat.le_refl _) ?_; intro w2 hown2 hg2)
  have hB2 : Below w1.heap.size w1 w2 := (Below.refl _ _).grown hg2 (Nat.le_refl _) (by intro k hk; cases hk)
  have hB02 : Below w.heap.size w w2 := hb1.trans (hB2.mono hb1.size)
  have hw2 := OwnI.zero (z := #[]) hown2 (by omega)
  clear hown2 hg2
  go_loopw [18] (fun i wr => ∃ k : Nat, k ≤ n ∧ i = .int .i64 k ∧ (∃ ps : List Int, OwnI wr w1.heap.size (some ⟨w1.heap.size, 0, none⟩) n n ps ∧ Hid (∀ j, j < k → ps.getD (a.getD j 0) 0 = (j : Int))) ∧ Below w.heap.size w wr) (fun i _ => n - (intOf i).toNat)
  case atStart => exact ⟨0, Nat.zero_le _, rfl, ⟨_, hw2, fun j hj => absurd hj (by omega)⟩, hB02⟩
  case round =>
    obtain ⟨k, hk, rfl, ⟨ps, hown, hps⟩, hnx⟩ := hrel
    have ha' := ha.below hnx
    clear ha hw2 hB02 hB2
    by_cases hlt : k < n
    · obtain ⟨ad, rfl, hca⟩ := ha'.at_ hlt
      rw [zs_getD] at hca
      have hx : a.getD k 0 < n := by have := HP.out.lt (j := k) (by have := HL.out; omega); have := HL.out; omega
      have HS := hide (inv_step HP.out HL.out hlt hown.len hps.out)
      have hcell := hown.cell hx
      have hfr := hown.frozen (a.getD k 0)
      have HO := hide (hown.set_ (a.getD k 0) (k : Int))
      clear ha' hown hps
      generalize a.getD k 0 = x at *
      generalize ps.getD x 0 = z at *
      have hsz := hb1.size
      go_wp2
      go_roundw
      case rel => exact ⟨k + 1, by omega, by go_num, ⟨_, HO.out, HS.out⟩, hnx.setCell (by simpa using hsz) _⟩
      case measure => simp [intOf]; omega
    · have HF : Hid (ps = zs (inv a)) := inv_unique HP.out (hown.len.trans HL.out.symm) (fun j hj => hps.out j (by have := HL.out; omega))
      have hsz := hb1.size
      go_wp2
      go_ret2
      rw [HF.out] at hown
      exact ⟨_, _, _, rfl, hown.mono hsz, hnx⟩

end Go.Proofs.Ytndgffiihbdppaa
