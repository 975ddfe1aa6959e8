/- Several texts in one. -/
import Derived.Test.YtndgffiihbdppaaDoorPart4
import Derived.Test.YtndgffiihbdppaaDoorBase1
import Derived.Test.YtndgffiihbdppaaDoorPart2
import Derived.Test.YtndgffiihbdppaaDoorPart3
import Derived.Test.YtndgffiihbdppaaDoorPart1
import Derived.Maps.RangeWalk
import Derived.Maps.Keyed
import Derived.BigRegion
/- Components of a closed braid, and colorings modulo 2 (mathematics of stage 16). -/
namespace Go.Proofs.YtndgffiihbdppaaDoor
set_option linter.unusedVariables false
set_option linter.unusedSimpArgs false

/-- The strands of each component, in increasing order; the components by their smallest strands. -/
def prtL (a : List Nat) : List (List Nat) := ((List.range a.length).filter fun i => isMin a i).map fun i => (List.range a.length).filter fun j => decide (j ∈ cyc a i)
/-- The smallest strand of a component. -/
def repS (a : List Nat) (s : Nat) : Nat := srch (fun p => isMin a p && decide (p ∈ cyc a s)) a.length 0
theorem isMin_iff {a : List Nat} {i : Nat} : isMin a i = true ↔ ∀ x ∈ cyc a i, i ≤ x := by unfold isMin; exact decide_eq_true_iff
theorem repS_spec {a : List Nat} (h : isP a) {s : Nat} (hs : s < a.length) : repS a s < a.length ∧ repS a s ∈ cyc a s ∧ isMin a (repS a s) = true := by
  obtain ⟨m, h1, h2, h3⟩ := min_ex h hs
  obtain ⟨k1, k2, k3, _⟩ := srch_spec (fun p => isMin a p && decide (p ∈ cyc a s)) a.length 0 ⟨m, Nat.zero_le _, by omega, by rw [h3, decide_eq_true h2]; rfl⟩
  rw [Bool.and_eq_true, decide_eq_true_iff] at k3
  exact ⟨by unfold repS; omega, k3.2, k3.1⟩
theorem repS_le {a : List Nat} (h : isP a) {s : Nat} (hs : s < a.length) : repS a s ≤ s := by
  obtain ⟨h1, h2, h3⟩ := repS_spec h hs
  exact isMin_iff.1 h3 s (cyc_symm h hs h2)
theorem repS_min {a : List Nat} (h : isP a) {s : Nat} (hs : s < a.length) : repS a s = s ↔ isMin a s = true := by
  obtain ⟨h1, h2, h3⟩ := repS_spec h hs
  refine ⟨fun e => by rw [e] at h3; exact h3, fun hm => ?_⟩
  have := isMin_iff.1 hm _ h2
  have := repS_le h hs
  omega
/-- Vectors that are constant on the components, counted by their digits. -/
def cntK (q : Nat) (rep : Nat → Nat) (k : Nat) : Nat := (List.range (q ^ k)).countP fun t => decide (∀ i, i < k → digI q t i = digI q t (rep i))
theorem sN_hit (q d : Nat) (hd : d < q) (c : Nat) : sN q (fun x => if x = d then c else 0) = c := by
  have e : ∀ k, sN k (fun x => if x = d then c else 0) = if d < k then c else 0 := fun k => by
    induction k with
    | zero => rfl
    | succ k ih =>
      have h : ∀ f : Nat → Nat, sN (k + 1) f = sN k f + f k := fun f => by first | rfl | (unfold sN; omega)
      rw [h, ih]
      by_cases e1 : k = d
      · rw [if_pos e1, if_neg (by omega), if_pos (by omega), Nat.zero_add]
      · rw [if_neg e1]
        by_cases e2 : d < k
        · rw [if_pos e2, if_pos (by omega), Nat.add_zero]
        · rw [if_neg e2, if_neg (by omega)]
  rw [e, if_pos hd]
theorem countP_and (l : List Nat) (p : Nat → Bool) (g : Nat → Nat) (q : Nat) (hg : ∀ s, g s < q) : sN q (fun x => l.countP fun s => p s && decide (x = g s)) = l.countP p := by
  induction l with
  | nil => simp only [List.countP_nil]; exact sN_zero0 q
  | cons s l ih =>
    have e : (fun x => (s :: l).countP fun s => p s && decide (x = g s)) = fun x => (l.countP fun s => p s && decide (x = g s)) + if x = g s then (if p s = true then 1 else 0) else 0 := by
      funext x
      rw [List.countP_cons]
      congr 1
      by_cases e1 : x = g s
      · rw [if_pos e1, decide_eq_true e1, Bool.and_true]
      · rw [if_neg e1, decide_eq_false e1, Bool.and_false, if_neg (by simp)]
    rw [e, sN_add, ih, sN_hit q (g s) (hg s), List.countP_cons]
theorem cntK_eq {q : Nat} (hq : 0 < q) {rep : Nat → Nat} (hle : ∀ i, rep i ≤ i) : ∀ k, cntK q rep k = q ^ (List.range k).countP fun i => decide (rep i = i)
  | 0 => by simp [cntK]
  | k + 1 => by
    have ih := cntK_eq hq hle k
    have e : cntK q rep (k + 1) = sN q fun x => (List.range (q ^ k)).countP fun s => decide (∀ i, i < k → digI q s i = digI q s (rep i)) && decide (if rep k = k then True else (x : Nat) = (digI q s (rep k)).toNat) := by
      unfold cntK
      rw [Nat.pow_succ, countP_split]
      refine sN_congr fun x hx => List.countP_congr fun s hs => ?_
      have hs' := List.mem_range.1 hs
      have low : ∀ i, i < k → digI q (x * q ^ k + s) i = digI q s i := fun i hi => digI_low hq hi
      have top : digI q (x * q ^ k + s) k = x := digI_top hq hx hs'
      rw [decide_eq_true_iff, Bool.and_eq_true, decide_eq_true_iff, decide_eq_true_iff]
      constructor
      · intro h
        refine ⟨fun i hi => ?_, ?_⟩
        · have := h i (by omega)
          rwa [low i hi, low (rep i) (by have := hle i; omega)] at this
        · by_cases e1 : rep k = k
          · rw [if_pos e1]; trivial
          · rw [if_neg e1]
            have := h k (by omega)
            rw [top, low (rep k) (by have := hle k; omega)] at this
            omega
      · rintro ⟨h1, h2⟩ i hi
        by_cases e1 : i = k
        · subst e1
          by_cases e2 : rep i = i
          · rw [e2]
          · rw [if_neg e2] at h2
            rw [top, low (rep i) (by have := hle i; omega)]
            have : 0 ≤ digI q s (rep i) := by unfold digI; omega
            omega
        · rw [low i (by omega), low (rep i) (by have := hle i; omega)]
          exact h1 i (by omega)
    rw [e, List.range_succ, List.countP_append]
    by_cases e1 : rep k = k
    · simp only [if_pos e1, List.countP_singleton, decide_eq_true e1, if_true]
      have e2 : (fun x : Nat => (List.range (q ^ k)).countP fun s => decide (∀ i, i < k → digI q s i = digI q s (rep i)) && decide True) = fun _ => cntK q rep k := by
        funext x
        unfold cntK
        simp
      rw [e2, sN_const, ih, Nat.pow_succ, Nat.mul_comm]
    · simp only [if_neg e1, List.countP_singleton, decide_eq_false e1]
      rw [countP_and _ _ (fun s => (digI q s (rep k)).toNat) q (fun s => by
        unfold digI
        rw [Int.toNat_natCast]
        exact Nat.mod_lt _ hq)]
      exact ih.trans (by simp)

/-! ### colors modulo 2 -/
theorem cSt_two {x : Int} {c : List Int} {n : Nat} (h : IsC 2 n c) (h0 : x ≠ 0) (h1 : x.natAbs < n) {j : Nat} (hj : j < n) : (cSt 2 x c).getD j 0 = c.getD (stepE j x) 0 := by
  rw [cSt_getD h.len h0 h1 hj]
  unfold stepE
  by_cases e1 : j + 1 = x.natAbs
  · rw [if_pos e1, if_pos e1]
    have h2 := h.col (j + 1) (by omega)
    split
    · omega
    · rfl
  · rw [if_neg e1, if_neg e1]
    by_cases e2 : j = x.natAbs
    · rw [if_pos e2, if_pos e2]
      have h2 := h.col (j - 1) (by omega)
      split
      · rfl
      · omega
    · rw [if_neg e2, if_neg e2]
theorem cCol_two {n : Nat} : ∀ {w c : List Int}, (∀ x ∈ w, x ≠ 0 ∧ x.natAbs < n) → IsC 2 n c → ∀ s, s < n → (cCol 2 w c).getD (endE w s) 0 = c.getD s 0
  | [], c, _, _, s, _ => rfl
  | x :: w, c, hw, h, s, hs => by
    have hx := hw x (by simp)
    have hlt := stepE_lt hx.1 hx.2 hs
    show (cCol 2 w (cSt 2 x c)).getD (endE w (stepE s x)) 0 = _
    rw [cCol_two (fun y hy => hw y (by simp [hy])) (h.step hx.1 hx.2) _ hlt, cSt_two h hx.1 hx.2 hlt, stepE_twice hx.1]
theorem fix_two {n : Nat} {w c : List Int} (hw : ∀ x ∈ w, x ≠ 0 ∧ x.natAbs < n) (h : IsC 2 n c) (hp : isP (endsL n w)) : cCol 2 w c = c ↔ ∀ i, i < n → c.getD i 0 = c.getD (repS (endsL n w) i) 0 := by
  have hl := endsL_length n w
  have hg : ∀ s, s < n → (endsL n w).getD s 0 = endE w s := fun s hs => by unfold endsL; simp [List.getD, hs]
  have step : cCol 2 w c = c → ∀ s, s < n → c.getD (endE w s) 0 = c.getD s 0 := fun e s hs => by
    have := cCol_two hw h s hs
    rwa [e] at this
  constructor
  · intro e i hi
    obtain ⟨r1, r2, _⟩ := repS_spec hp (s := i) (by rw [hl]; exact hi)
    obtain ⟨t, ht⟩ := (mem_cyc hp (by rw [hl]; exact hi)).1 r2
    rw [ht]
    have go : ∀ t, c.getD (it (endsL n w) t i) 0 = c.getD i 0 := fun t => by
      induction t with
      | zero => rfl
      | succ t ih =>
        have hlt := it_lt hp (s := i) (by rw [hl]; exact hi) t
        rw [hl] at hlt
        have e2 : it (endsL n w) (t + 1) i = endE w (it (endsL n w) t i) := by
          rw [← hg _ hlt]
          first | rfl | (rw [Nat.add_comm, it_add]; rfl)
        rw [e2, step e _ hlt, ih]
    exact (go t).symm
  · intro hr
    have hf := h.word hw
    have hc : ∀ s, s < n → c.getD (endE w s) 0 = c.getD s 0 := fun s hs => by
      have hes : endE w s < n := by have := hp.lt (j := s) (by rw [hl]; exact hs); rwa [hg s hs, hl] at this
      have e1 : repS (endsL n w) (endE w s) = repS (endsL n w) s := by
        obtain ⟨a1, a2, a3⟩ := repS_spec hp (s := s) (by rw [hl]; exact hs)
        obtain ⟨b1, b2, b3⟩ := repS_spec hp (s := endE w s) (by rw [hl]; exact hes)
        have m1 : endE w s ∈ cyc (endsL n w) s := (mem_cyc hp (by rw [hl]; exact hs)).2 ⟨1, by rw [← hg s hs]; rfl⟩
        have m2 : s ∈ cyc (endsL n w) (endE w s) := cyc_symm hp (by rw [hl]; exact hs) m1
        have c1 : repS (endsL n w) (endE w s) ∈ cyc (endsL n w) s := cyc_trans hp (by rw [hl]; exact hs) m1 b2
        have c2 : repS (endsL n w) s ∈ cyc (endsL n w) (endE w s) := cyc_trans hp (by rw [hl]; exact hes) m2 a2
        have d1 := isMin_iff.1 a3 (repS (endsL n w) (endE w s)) (cyc_trans hp a1 (cyc_symm hp (by rw [hl]; exact hs) a2) c1)
        have d2 := isMin_iff.1 b3 (repS (endsL n w) s) (cyc_trans hp b1 (cyc_symm hp (by rw [hl]; exact hes) b2) c2)
        omega
      rw [hr _ hes, e1, ← hr s hs]
    refine list_extI (by rw [hf.len, h.len]) fun j hj => ?_
    rw [hf.len] at hj
    obtain ⟨s, hs, e⟩ := hp.surj (i := j) (by rw [hl]; exact hj)
    rw [hl] at hs
    rw [hg s hs] at e
    rw [← e, cCol_two hw h s hs, hc s hs]
/-- Modulo 2, each component has a color of its own. -/
theorem cntC_two {n : Nat} {w : List Int} (hw : ∀ x ∈ w, x ≠ 0 ∧ x.natAbs < n) (hp : isP (endsL n w)) : cntC n 2 w = 2 ^ (prtL (endsL n w)).length := by
  have hl := endsL_length n w
  have h1 : cntC n 2 w = cntK 2 (fun i => if i < n then repS (endsL n w) i else i) n := by
    unfold cntC cntK
    refine List.countP_congr fun t _ => ?_
    rw [decide_eq_true_iff, decide_eq_true_iff]
    have hc := digs_isC (n := n) (m := 2) (by omega) t
    have hd : ∀ k, k < n → (digs 2 n t).getD k 0 = digI 2 t k := fun k hk => by simp [digs, digI, List.getD, hk]
    rw [show ((2 : Nat) : Int) = 2 from rfl] at hc
    show cCol 2 w (digs 2 n t) = digs 2 n t ↔ _
    rw [fix_two hw hc hp]
    refine forall_congr' fun i => imp_congr_right fun hi => ?_
    have hr : repS (endsL n w) i < n := by have := (repS_spec hp (s := i) (by rw [hl]; exact hi)).1; rwa [hl] at this
    rw [hd i hi, hd _ hr]
    show _ ↔ digI 2 t i = digI 2 t (if i < n then repS (endsL n w) i else i)
    rw [if_pos hi]
  rw [h1, cntK_eq (by omega) (fun i => by
    split
    · exact repS_le hp (by rw [hl]; assumption)
    · exact Nat.le_refl _)]
  congr 1
  unfold prtL
  rw [List.length_map, hl, ← List.countP_eq_length_filter]
  refine List.countP_congr fun i hi => ?_
  have hi' := List.mem_range.1 hi
  rw [decide_eq_true_iff]
  show (if i < n then repS (endsL n w) i else i) = i ↔ _
  rw [if_pos hi', repS_min hp (by rw [hl]; exact hi')]
end Go.Proofs.YtndgffiihbdppaaDoor
/- Where strands end: permutations of braid words (mathematics). -/
namespace Go.Proofs.YtndgffiihbdppaaDoor
set_option linter.unusedVariables false
set_option linter.unusedSimpArgs false

theorem endE_inj {w : List Int} (h : ∀ x ∈ w, x ≠ 0) {s t : Nat} (e : endE w s = endE w t) : s = t := by
  have h1 := endE_inv w h s
  have h2 := endE_inv w h t
  rw [endE_append] at h1 h2
  rw [← h1, e, h2]
theorem ends_isP {n : Nat} {w : List Int} (h : okB n w) : isP (endsL n w) := by
  refine ⟨fun x hx => ?_, ?_⟩
  · rw [endsL_length]
    obtain ⟨s, hs, rfl⟩ := List.mem_map.1 hx
    exact endE_lt h (List.mem_range.1 hs)
  · unfold endsL
    rw [List.nodup_iff_pairwise_ne, List.pairwise_map]
    exact List.nodup_range.imp fun hne e => hne (endE_inj (fun x hx => (h x hx).1) e)
end Go.Proofs.YtndgffiihbdppaaDoor
/- What package link is to answer. -/
namespace Go.Proofs.YtndgffiihbdppaaDoor
set_option linter.unusedVariables false
set_option linter.unusedSimpArgs false
open Go.RowKit

/-- The components of a closed braid. -/
def lkL (n : Int) (w : List Int) : List (List Int) := if bfault n w = 0 then (prtL (endsL n.toNat w)).map zs else []
/-- Where the component of a strand stands. -/
def lkAt (a : List Nat) (s : Nat) : Nat := (prtL a).findIdx fun c => decide (s ∈ c)
def lkK (n : Int) (w : List Int) : Bool := decide (bfault n w = 0) && decide ((prtL (endsL n.toNat w)).length = 1)
/-- Lists of lists and an error. -/
def GivesLK (w : World) (err : Int) (xss : List (List Int)) (e : Ending) (w' : World) : Prop :=
  ∃ A n c, e = .returned (.tuple #[.slice A n c, .int .i64 err]) ∧ SLL w' A n c xss ∧ Below w.heap.size w w'
/-- Package link, as the document asks. -/
structure LinkC : Prop where
  parts : ∀ (m : Int) (A : Option Addr) (n c : Nat) (xs : List Int) (w : World), SL w A n c xs → (Lit.int .i64 m).wf = true → Calls Tryd.prog 8 #[.int .i64 m, .slice A n c] w (GivesLK w (bfault m xs) (lkL m xs)) -- 8
  knot : ∀ (m : Int) (A : Option Addr) (n c : Nat) (xs : List Int) (w : World), SL w A n c xs → (Lit.int .i64 m).wf = true → Calls Tryd.prog 14 #[.int .i64 m, .slice A n c] w fun e w' => e = .returned (.tuple #[.bool (lkK m xs), .int .i64 (bfault m xs)]) ∧ Below w.heap.size w w' -- 14
theorem lkL_len {n : Nat} {w : List Int} (h : bfault (n : Int) w = 0) : (lkL (n : Int) w).length = (prtL (endsL n w)).length := by
  unfold lkL
  rw [if_pos h, List.length_map, Int.toNat_natCast]
theorem lkK_ok {n : Nat} {w : List Int} (h : bfault (n : Int) w = 0) : lkK (n : Int) w = decide ((prtL (endsL n w)).length = 1) := by
  unfold lkK
  rw [decide_eq_true h, Bool.true_and, Int.toNat_natCast]
theorem prtL_le (a : List Nat) : (prtL a).length ≤ a.length := by
  unfold prtL
  rw [List.length_map]
  refine Nat.le_trans (List.length_filter_le _ _) (by rw [List.length_range]; exact Nat.le_refl _)
end Go.Proofs.YtndgffiihbdppaaDoor
/- timbmake.Strands for any greatest number; slices.Concat of two slices. -/
namespace Go.Proofs.YtndgffiihbdppaaDoor
set_option linter.unusedVariables false
set_option linter.unusedSimpArgs false
open Go.RowKit

set_option maxRecDepth 100000 in
theorem strands_gen (n : Int) (K : Nat) (kz : Int) (hkz : kz = (K : Int) + 1) (h1 : 1 ≤ K) (hK : K ≤ 10) (w : World) : Calls Tryd.prog 5 #[.int .i64 n, .int .i64 kz] w fun e w' => ∃ T : Nat, 1 ≤ T ∧ T ≤ K ∧ e = .returned (.int .i64 ((T : Int) + 1)) ∧ w = w' := by
  subst hkz
  obtain ⟨p, hp⟩ : ∃ p : Nat, n % (K : Int) = (p : Int) := ⟨(n % (K : Int)).toNat, by have := Int.emod_nonneg n (show (K : Int) ≠ 0 by omega); omega⟩
  have hp5 : p < K := by have := Int.emod_lt_of_pos n (show (0 : Int) < (K : Int) by omega); omega
  have HP := hide hp
  have hadd : IntKind.i64.wrap (2 + (p : Int)) = ((p + 1 : Nat) : Int) + 1 := by rw [IntKind.wrap_i64]; omega
  have HA := hide hadd
  have hs1 : (K : Int) + 1 - 1 = (K : Int) := by omega
  have hs2 : IntKind.i64.wrap (K : Int) = (K : Int) := by rw [IntKind.wrap_i64]; omega
  clear hp hadd
  go_enter Tryd.func5, Tryd.ntmps5
  go_wp2_with fail
  refine (mbelow_any n K _ h1 (by omega)).mono ?_
  rintro e w1 ⟨rfl, hww⟩
  subst hww
  rw [HP.out]
  go_wp2_with ((with_reducible show wpList _ _ _ (Oper.mk _ (.binOp .add _ _ _) _ _ _ _ :: _) _ _); refine wpList_gives rfl (gives_add rfl rfl rfl HA.out) ?_)
  go_ret
  exact ⟨p + 1, by omega, by omega, by
    have e : IntKind.i64.wrap (2 + (p : Int)) = ((p + 1 : Nat) : Int) + 1 := HA.out
    first | rfl | (simp; omega) | (simp [e]; omega), rfl⟩
end Go.Proofs.YtndgffiihbdppaaDoor
/- Maps from integers to integers as lists of terms; a range over one, whatever its order. -/
namespace Go.Proofs.YtndgffiihbdppaaDoor
set_option linter.unusedVariables false
set_option linter.unusedSimpArgs false
open Go.RowKit Go.Maps

theorem keyI : Keyed Tryd.prog 3 := int_keyed Tryd.underlying3
theorem keyI_mk {x : Int} (h : (Lit.int .i64 x).wf = true) : keyOf Tryd.prog 3 (.int .i64 x) = some (.int .i64 x) := keyOf_int_mk Tryd.underlying3 h
theorem wfI {x : Int} (h : x.natAbs ≤ 4000000000000000000) : (Lit.int .i64 x).wf = true := by
  have h1 : IntKind.i64.min = -9223372036854775808 := by decide
  simp [Lit.wf, h1]
  omega
/-- The element at a key. -/
def lookT : List Tm → Int → Option Int
  | [], _ => none
  | (e, c) :: l, x => if e = x then some c else lookT l x
def lookV (o : List Tm) : Value → Option Value
  | .int .i64 x => (lookT o x).map (Value.int .i64)
  | _ => none
theorem lookT_of_mem : ∀ {o : List Tm} {x c : Int}, (o.map (·.1)).Nodup → (x, c) ∈ o → lookT o x = some c
  | (e, d) :: l, x, c, hn, h => by
    have hn' := List.nodup_cons.1 hn
    unfold lookT
    rcases List.mem_cons.1 h with h | h
    · injection h with h1 h2
      subst h1; subst h2
      rw [if_pos rfl]
    · have : e ≠ x := fun e' => hn'.1 (by rw [e']; exact List.mem_map.2 ⟨(x, c), h, rfl⟩)
      rw [if_neg this]
      exact lookT_of_mem hn'.2 h
theorem coefT_not {o : List Tm} {x : Int} (h : ∀ p ∈ o, p.1 ≠ x) : coefT o x = 0 := by
  induction o with
  | nil => rfl
  | cons p l ih =>
    show (if p.1 = x then p.2 else 0) + coefT l x = 0
    rw [if_neg (h p (by simp)), ih fun q hq => h q (by simp [hq])]
    rfl
theorem coefT_look : ∀ {o : List Tm} {x : Int}, (o.map (·.1)).Nodup → coefT o x = (lookT o x).getD 0
  | [], x, _ => rfl
  | (e, d) :: l, x, hn => by
    have hn' := List.nodup_cons.1 hn
    show (if e = x then d else 0) + coefT l x = _
    unfold lookT
    by_cases h : e = x
    · rw [if_pos h, if_pos h, coefT_not fun p hp e' => hn'.1 (by rw [h, ← e']; exact List.mem_map.2 ⟨p, hp, rfl⟩)]
      show d + 0 = d
      omega
    · rw [if_neg h, if_neg h, coefT_look hn'.2, Int.zero_add]
/-- v is put at x. -/
def putT : List Tm → Int → Int → List Tm
  | [], x, v => [(x, v)]
  | (e, c) :: l, x, v => if e = x then (x, v) :: l else (e, c) :: putT l x v
theorem putT_keys : ∀ (o : List Tm) (x v : Int), ∀ p ∈ putT o x v, p ∈ o ∨ p = (x, v)
  | [], x, v, p, h => .inr (by simpa [putT] using h)
  | (e, c) :: l, x, v, p, h => by
    unfold putT at h
    by_cases he : e = x
    · rw [if_pos he] at h
      rcases List.mem_cons.1 h with h | h
      · exact .inr h
      · exact .inl (List.mem_cons_of_mem _ h)
    · rw [if_neg he] at h
      rcases List.mem_cons.1 h with h | h
      · exact .inl (by rw [h]; exact List.mem_cons_self)
      · rcases putT_keys l x v p h with h | h
        · exact .inl (List.mem_cons_of_mem _ h)
        · exact .inr h
theorem putT_look : ∀ (o : List Tm) (x v y : Int), lookT (putT o x v) y = if y = x then some v else lookT o y
  | [], x, v, y => by
    show (if x = y then some v else none) = if y = x then some v else none
    by_cases h : x = y
    · rw [if_pos h, if_pos h.symm]
    · rw [if_neg h, if_neg fun e => h e.symm]
  | (e, c) :: l, x, v, y => by
    unfold putT
    by_cases he : e = x
    · rw [if_pos he]
      show (if x = y then some v else lookT l y) = if y = x then some v else if e = y then some c else lookT l y
      by_cases h : x = y
      · rw [if_pos h, if_pos h.symm]
      · rw [if_neg h, if_neg fun e' => h e'.symm, if_neg (by omega)]
    · rw [if_neg he]
      show (if e = y then some c else lookT (putT l x v) y) = if y = x then some v else if e = y then some c else lookT l y
      rw [putT_look l x v y]
      by_cases h : e = y
      · rw [if_pos h, if_pos h, if_neg (by omega)]
      · rw [if_neg h, if_neg h]
theorem putT_nodup : ∀ (o : List Tm) (x v : Int), (o.map (·.1)).Nodup → ((putT o x v).map (·.1)).Nodup
  | [], x, v, _ => by simp [putT]
  | (e, c) :: l, x, v, h => by
    have h' := List.nodup_cons.1 h
    unfold putT
    by_cases he : e = x
    · rw [if_pos he]
      subst he
      exact h
    · rw [if_neg he]
      refine List.nodup_cons.2 ⟨fun hm => ?_, putT_nodup l x v h'.2⟩
      obtain ⟨p, hp, e1⟩ := List.mem_map.1 hm
      rcases putT_keys l x v p hp with h1 | h1
      · exact h'.1 (by rw [← show p.1 = e from e1]; exact List.mem_map.2 ⟨p, h1, rfl⟩)
      · rw [h1] at e1
        exact he e1.symm
theorem putT_length : ∀ (o : List Tm) (x v : Int), (putT o x v).length = if (lookT o x).isSome then o.length else o.length + 1
  | [], x, v => rfl
  | (e, c) :: l, x, v => by
    unfold putT lookT
    by_cases he : e = x
    · rw [if_pos he, if_pos he]; rfl
    · rw [if_neg he, if_neg he]
      show (putT l x v).length + 1 = _
      rw [putT_length l x v]
      split <;> rfl
/-- Block b is a map with just the entries o. -/
structure MapI (w : World) (b : Nat) (o : List Tm) : Prop where
  dict : Dict Tryd.prog 3 w b o.length (lookV o)
  nodup : (o.map (·.1)).Nodup
section
variable {w w' : World} {b : Nat} {o : List Tm}
theorem MapI.lt (h : MapI w b o) : b < w.heap.size := h.dict.lt
theorem MapI.below (h : MapI w b o) (hb : Below w.heap.size w w') : MapI w' b o := ⟨h.dict.below hb, h.nodup⟩
theorem MapI.kept {row : Option Nat} (h : MapI w b o) (hg : w.grownBy w' row) (hne : some b ≠ row) : MapI w' b o := ⟨h.dict.kept hg hne, h.nodup⟩
theorem MapI.made (w : World) : MapI (w.alloc (.map #[] 0)) w.heap.size [] := ⟨(Dict.made w _ _).congr rfl fun key kl _ => by unfold lookV; split <;> rfl, List.nodup_nil⟩
theorem MapI.store (h : MapI w b o) {t : TypeId} (ht : Tryd.prog.underlying t = some (.map 3 3)) {x v : Int} (hx : (Lit.int .i64 x).wf = true) (hn : o.length < 1000000) :
    ∃ w', (Instr.mapUpdate t (.map (some b)) (.int .i64 x) (.int .i64 v)).run Tryd.prog w = .ok () w' ∧ MapI w' b (putT o x v) ∧ w.grownBy w' (some b) ∧ w'.heap.size = w.heap.size := by
  obtain ⟨w', h1, h2, h3, h4⟩ := h.dict.store keyI ht (by unfold maxLen; omega) (keyI_mk hx) (.int .i64 v) (f' := lookV (putT o x v)) (by
    show ((lookT (putT o x v) x).map _) = _
    rw [putT_look, if_pos rfl]; rfl) (fun y l hy hne => by
    obtain ⟨z, rfl, _, _⟩ := keyOf_int_inv Tryd.underlying3 hy
    show ((lookT (putT o x v) z).map _) = (lookT o z).map _
    rw [putT_look, if_neg fun e => hne (by rw [e])])
  refine ⟨w', h1, ⟨h2.congr ?_ fun _ _ _ => rfl, putT_nodup o x v h.nodup⟩, h3, h4⟩
  rw [putT_length]
  show (if ((lookT o x).map (Value.int .i64)).isSome = true then _ else _) = _
  rw [Option.isSome_map]
end

/-! ### a range -/
/-- A range over the map with entries T: done and rem(aining). -/
structure RangeI (w : World) (b r : Nat) (T done rem : List Tm) (cnt : Nat) : Prop where
  nodup : (T.map (·.1)).Nodup
  perm : (done ++ rem).Perm T
  run : ∃ (n : Nat) (D : DataW Value) (left : Lit → Bool), w.ranges Tryd.prog 3 HR b r n D left cnt ∧ (∀ p ∈ T, ∀ z, D.atKey (.int .i64 p.1) z = .held (.int .i64 p.2)) ∧ (∀ x : Int, (Lit.int .i64 x).wf = true → (left (.int .i64 x) = true ↔ ∃ c, (x, c) ∈ rem)) ∧ ∀ p ∈ T, (Lit.int .i64 p.1).wf = true
section
variable {w w' : World} {b r cnt : Nat} {T done rem : List Tm}
theorem RangeI.kept {row : Option Nat} (h : RangeI w b r T done rem cnt) (hg : w.grownBy w' row) (hb : some b ≠ row) (hr : some r ≠ row) : RangeI w' b r T done rem cnt := by
  obtain ⟨n, D, left, h1, h2⟩ := h.run
  exact ⟨h.nodup, h.perm, n, D, left, h1.kept hg hb hr, h2⟩
theorem RangeI.lt (h : RangeI w b r T done rem cnt) : r < w.heap.size := by
  obtain ⟨n, D, left, h1, _⟩ := h.run
  exact h1.lt
theorem RangeI.mem (h : RangeI w b r T done rem cnt) : ∀ p ∈ done, p ∈ T := fun p hp => h.perm.subset (List.mem_append_left _ hp)
end
section
variable (w : World) {ops : Array Oper} {rest : List Oper} {o : Oper} {a : Act} {Q : Exit → Act → World → Prop}
end
end Go.Proofs.YtndgffiihbdppaaDoor
/- timbkeep1.ColorCounts2, for packages coloring and link that answer as they should. (Written by tools/gen_ccn2.py.) -/
namespace Go.Proofs.YtndgffiihbdppaaDoor
set_option linter.unusedVariables false
set_option linter.unusedSimpArgs false
open Go.RowKit

theorem rep_single (a : Int) : ∀ k, rep [a] k = List.replicate k a
  | 0 => rfl
  | k + 1 => by
    have h := rep_single a k
    unfold rep at h ⊢
    rw [List.replicate_succ, List.flatten_cons, h, List.replicate_succ]
    rfl
theorem one_isC {m a : Int} (ha : 0 ≤ a ∧ a < m) (n : Nat) : IsC m n (List.replicate n a) := ⟨List.length_replicate .., fun j hj => by
  have e : (List.replicate n a).getD j 0 = a := by simp [List.getD, hj]
  rw [e]; exact ha⟩

set_option maxRecDepth 100000 in
set_option maxHeartbeats 8000000 in
theorem colorCounts2_any (F : ColC) (FL : LinkC) (nn : Int) (A : Option Addr) (n c : Nat) (us : List Int) (mm : Int) (w : World) (ha : SL w A n c us) (hT : TabW w) :
    Calls Tryd.prog 3 #[.int .i64 nn, .slice A n c, .int .i64 mm] w fun e w' => e = .returned (.bool true) ∧ Below w.heap.size w w' := by
  have HCK := hide (colored_k F)
  have HTB := hide hT
  have HF := hide F
  have HFL := hide FL
  have HA := hide ha
  have hm1 := Int.emod_nonneg mm (show (13 : Int) ≠ 0 by omega)
  have hm2 := Int.emod_lt_of_pos mm (show (0 : Int) < (13 : Int) by omega)
  obtain ⟨p, hp⟩ : ∃ p : Nat, mm % (13 : Int) = p := ⟨(mm % (13 : Int)).toNat, by omega⟩
  have HMB : Hid (∀ w, Calls Tryd.prog 6 #[.int .i64 mm, .int .i64 13] w fun e w' => e = .returned (.int .i64 (p : Int)) ∧ w = w') := hide (fun w => by
    have h := mbelow_any mm 13 w (by omega) (by omega)
    rw [show ((13 : Nat) : Int) = 13 from rfl, hp] at h
    exact h)
  rw [hp] at hm1 hm2
  clear hp F FL ha hT
  go_enter Tryd.func3, Tryd.ntmps3
  go_wp2_with fail
  refine (strands_gen nn 5 6 rfl (by omega) (by omega) w).mono ?_
  rintro e w0 ⟨T, hT1, hT5, rfl, hww⟩
  subst hww
  have hw1 : IntKind.i64.wrap (T : Int) = (T : Int) := by rw [IntKind.wrap_i64]; omega
  have hs1 : (T : Int) + 1 - 1 = (T : Int) := by omega
  go_wp2_with fail
  refine (HMB.out _).mono ?_
  rintro e w0 ⟨rfl, hww⟩
  subst hww
  clear HMB
  obtain ⟨k, hk⟩ : ∃ k : Nat, (k : Int) = 1 + p := ⟨p + 1, by omega⟩
  have hk1 : 1 ≤ k := by omega
  have hk13 : k ≤ 13 := by omega
  have hpw : IntKind.i64.wrap (1 + (p : Int)) = (k : Int) := by rw [IntKind.wrap_i64]; omega
  clear hk hm1 hm2
  go_wp2_with fail
  refine (word_any A T n c 20 us w HA.out.il HA.out.cap (by omega) (by omega) (by omega)).mono ?_
  rintro e w1 ⟨xs, X, xn, xc, rfl, ho, hx, hxn, hb⟩
  have hxl := ho.len
  have SX := hide ho.sl
  have HW := hide hb
  clear ho hb HA
  have hok : okB (T + 1) xs := fun x hx' => by have := hx x hx'; omega
  obtain ⟨M, hM⟩ : ∃ M, T = M + 1 := ⟨T - 1, by omega⟩
  obtain ⟨N, hN⟩ : ∃ N, T + 1 = N := ⟨_, rfl⟩
  rw [hN] at hok
  have hTi : (T : Int) + 1 = (N : Int) := by omega
  rw [hTi]
  have hN1 : 1 ≤ N := by omega
  have hN6 : N ≤ 6 := by omega
  have HWM := hide (wfI (x := (N : Int)) (by omega))
  have HWK := hide (wfI (x := (k : Int)) (by omega))
  have hbf : bfault (N : Int) xs = 0 := bfault_ok (by omega) (by omega) (by omega) fun y hy => by have := hok y hy; omega
  have HBF := hide hbf
  have HE := hide (fun (q : Nat) (h1 : 1 ≤ q) (h2 : q ≤ 13) => colE_ok (k := q) hN1 hN6 hok (by omega) h1 h2)
  have HV := hide (fun (q : Nat) (h1 : 1 ≤ q) (h2 : q ≤ 13) => colV_ok (k := q) hN1 hN6 hok (by omega) h1 h2)
  have hpl := prtL_le (endsL N xs)
  rw [endsL_length] at hpl
  have H2 : Hid (cntC N 2 xs = 2 ^ (prtL (endsL N xs)).length) := hide (cntC_two (fun x hx => hok x hx) (ends_isP hok))
  have H6 : Hid (cntC N 6 xs = cntC N 2 xs * cntC N 3 xs) := hide (cntC_mul (fun x hx => hok x hx))
  have HK : Hid (k ≤ cntC N k xs ∧ cntC N k xs % k = 0) := hide (by
    obtain ⟨M, rfl⟩ : ∃ M, N = M + 1 := ⟨N - 1, by omega⟩
    exact cntC_ge hk1 (fun x hx => hok x hx))
  have hcl : ∀ q, q ≤ 13 → cntC N q xs ≤ 4826809 := fun q hq => by
    unfold cntC
    refine Nat.le_trans List.countP_le_length ?_
    rw [List.length_range]
    calc q ^ N ≤ 13 ^ N := Nat.pow_le_pow_left hq N
      _ ≤ 13 ^ 6 := Nat.pow_le_pow_right (by omega) (by omega)
      _ = 4826809 := by decide
  have HC6 := hide (hcl 6 (by omega))
  have HCK2 := hide (hcl k hk13)
  have HLL := hide (lkL_len hbf)
  obtain ⟨a, haa⟩ : ∃ a : Nat, (N + xn) % k = a := ⟨_, rfl⟩
  have ha1 : a < k := by rw [← haa]; exact Nat.mod_lt _ (by omega)
  have HIC := hide (one_isC (m := (k : Int)) (a := (a : Int)) ⟨by omega, by omega⟩ N)
  have HQE := hide (proE_ok hN1 hN6 hok (by omega) hk1 hk13 HIC.out)
  have HQV : Hid (proV (N : Int) xs (List.replicate N (a : Int)) (k : Int) = List.replicate N (a : Int)) := hide (by
    rw [proV_ok hN1 hN6 hok (by omega) hk1 hk13 HIC.out]
    exact cCol_one ⟨by omega, by omega⟩ fun x hx => hok x hx)
  have hsum : IntKind.i64.wrap ((N : Int) + (xn : Int)) = ((N + xn : Nat) : Int) := by rw [IntKind.wrap_i64]; omega
  have HMA : Hid (∀ w, Calls Tryd.prog 6 #[.int .i64 ((N + xn : Nat) : Int), .int .i64 (k : Int)] w fun e w' => e = .returned (.int .i64 (a : Int)) ∧ w = w') := hide (fun w => by
    have h := mbelow_any ((N + xn : Nat) : Int) k w (by omega) (by omega)
    rw [show ((N + xn : Nat) : Int) % (k : Int) = (a : Int) by rw [← haa]; rfl] at h
    exact h)
  obtain ⟨Z, hZ⟩ : ∃ Z, N + xn = Z := ⟨_, rfl⟩
  rw [hZ] at hsum HMA
  generalize hpL : (prtL (endsL N xs)).length = L at *
  generalize hq2 : cntC N 2 xs = q2 at *
  generalize hq3 : cntC N 3 xs = q3 at *
  generalize hq6 : cntC N 6 xs = q6 at *
  generalize hqk : cntC N k xs = qk at *
  have HV2 := hide ((HV.out 2 (by omega) (by omega)).trans (by rw [hq2]))
  have HV3 := hide ((HV.out 3 (by omega) (by omega)).trans (by rw [hq3]))
  have HV6 := hide ((HV.out 6 (by omega) (by omega)).trans (by rw [hq6]))
  have HVK := hide ((HV.out k hk1 hk13).trans (by rw [hqk]))
  have HE2 := hide (HE.out 2 (by omega) (by omega))
  have HE3 := hide (HE.out 3 (by omega) (by omega))
  have HE6 := hide (HE.out 6 (by omega) (by omega))
  have HEK := hide (HE.out k hk1 hk13)
  have hlw : lkL (N : Int) xs = lkL (N : Int) xs := rfl
  clear HE HV hq2 hq3 hq6 hqk hpL hcl hbf hok hx hxl hw1 hs1 hN hTi hM hZ haa hT1 hT5 hlw hpw hxn
  go_wp2_with fail
  refine (HFL.out.parts (N : Int) X xn xc xs _ SX.out HWM.out).mono ?_
  rintro e w11 ⟨P, pn, pc, rfl, hs, hb⟩
  replace HW := hide (HW.out.trans (hb.mono HW.out.size))
  replace SX := hide (SX.out.below hb)
  rw [HBF.out]
  have hpn : L = pn := by rw [← hs.len, HLL.out]
  have SPL := hide hs
  clear hb hs
  go_wp2_with fail
  refine (HF.out.count (N : Int) X xn xc xs 2 _ SX.out (HTB.out.below HW.out) HWM.out (by decide)).mono ?_
  rintro e w12 ⟨rfl, hb⟩
  replace HW := hide (HW.out.trans (hb.mono HW.out.size))
  replace SX := hide (SX.out.below hb)
  have hv := HV2.out
  have he := HE2.out
  first | rw [hv, he] | (rw [show ((2 : Nat) : Int) = 2 from rfl] at hv he; rw [hv, he])
  clear hv he
  clear hb
  go_wp2_with fail
  refine (HF.out.count (N : Int) X xn xc xs 3 _ SX.out (HTB.out.below HW.out) HWM.out (by decide)).mono ?_
  rintro e w13 ⟨rfl, hb⟩
  replace HW := hide (HW.out.trans (hb.mono HW.out.size))
  replace SX := hide (SX.out.below hb)
  have hv := HV3.out
  have he := HE3.out
  first | rw [hv, he] | (rw [show ((3 : Nat) : Int) = 3 from rfl] at hv he; rw [hv, he])
  clear hv he
  clear hb
  go_wp2_with fail
  refine (HF.out.count (N : Int) X xn xc xs 6 _ SX.out (HTB.out.below HW.out) HWM.out (by decide)).mono ?_
  rintro e w14 ⟨rfl, hb⟩
  replace HW := hide (HW.out.trans (hb.mono HW.out.size))
  replace SX := hide (SX.out.below hb)
  have hv := HV6.out
  have he := HE6.out
  first | rw [hv, he] | (rw [show ((6 : Nat) : Int) = 6 from rfl] at hv he; rw [hv, he])
  clear hv he
  clear hb
  go_wp2_with fail
  refine (HF.out.count (N : Int) X xn xc xs (k : Int) _ SX.out (HTB.out.below HW.out) HWM.out HWK.out).mono ?_
  rintro e w15 ⟨rfl, hb⟩
  replace HW := hide (HW.out.trans (hb.mono HW.out.size))
  replace SX := hide (SX.out.below hb)
  have hv := HVK.out
  have he := HEK.out
  first | rw [hv, he] | (rw [show ((k : Nat) : Int) = (k : Int) from rfl] at hv he; rw [hv, he])
  clear hv he
  clear hb
  go_wp2_with fail
  refine (HMA.out _).mono ?_
  rintro e w20 ⟨rfl, hww⟩
  subst hww
  have hb : Below w15.heap.size w15 (w15.alloc (.cells #[.int .i64 (a : Int)] 3)) := (Below.refl _ _).alloc (Nat.le_refl _) _
  have HL : Hid (SL (w15.alloc (.cells #[.int .i64 (a : Int)] 3)) (some ⟨w15.heap.size, 0, none⟩) 1 1 [(a : Int)]) := hide (SL.lit w15 [(a : Int)] (by simp) (cs := #[.int .i64 (a : Int)]) rfl (m := 1) rfl)
  replace HW := hide (HW.out.trans (hb.mono HW.out.size))
  replace SX := hide (SX.out.below hb)
  clear hb
  go_wp2_with fail
  refine (repeat_any _ 1 1 N [(a : Int)] _ HL.out.il (by omega) (by omega) (by omega)).mono ?_
  rintro e w16 ⟨D, dn, dc, rfl, ho, hb⟩
  replace HW := hide (HW.out.trans (hb.mono HW.out.size))
  replace SX := hide (SX.out.below hb)
  rw [rep_single] at ho
  have SD := hide ho.sl
  clear hb ho HL
  go_wp2_with fail
  refine (HF.out.prop (N : Int) X xn xc xs D dn dc (List.replicate N (a : Int)) (k : Int) _ SX.out SD.out HWM.out HWK.out).mono ?_
  rintro e w17 ⟨R, rn, rc, rfl, hs, hb⟩
  replace HW := hide (HW.out.trans (hb.mono HW.out.size))
  replace SX := hide (SX.out.below hb)
  replace SD := hide (SD.out.below hb)
  rw [HQV.out] at hs
  rw [HQE.out]
  have SR := hide hs
  clear hb hs
  go_wp2_with fail
  refine (HCK.out _ (HTB.out.below HW.out)).mono ?_
  rintro e w18 ⟨rfl, hb⟩
  replace HW := hide (HW.out.trans (hb.mono HW.out.size))
  replace SX := hide (SX.out.below hb)
  replace SD := hide (SD.out.below hb)
  replace SR := hide (SR.out.below hb)
  clear hb
  subst hpn
  have HEQ := hide (equal_any R D rn dn rc dc (List.replicate N (a : Int)) (List.replicate N (a : Int)) _ SR.out.il SD.out.il)
  rw [eqB_true rfl] at HEQ
  have hk0 := HK.out
  have h2 := H2.out
  have h6 := H6.out
  have hc6 := HC6.out
  have hck := HCK2.out
  have hpw : (2 : Int) ^ L = (q2 : Int) := by rw [h2, Int.natCast_pow]; rfl
  have hq26 : q2 ≤ 64 := by
    rw [h2]
    calc 2 ^ L ≤ 2 ^ 6 := Nat.pow_le_pow_right (by omega) (by omega)
      _ = 64 := by decide
  have f1 : wrap64 ((2 : Int) ^ L) = (q2 : Int) := by rw [hpw]; unfold wrap64; omega
  have hm6 : (q2 : Int) * (q3 : Int) = (q6 : Int) := by rw [h6, Int.natCast_mul]
  have f2 : IntKind.i64.wrap ((q2 : Int) * (q3 : Int)) = (q6 : Int) := by rw [hm6, IntKind.wrap_i64]; omega
  have f3 : decide ((k : Int) ≤ (qk : Int)) = true := by simp; omega
  have f3' : decide (k ≤ qk) = true := by simp; omega
  have ht : (qk : Int).tmod (k : Int) = 0 := by
    have e : (qk : Int).tmod (k : Int) = ((qk % k : Nat) : Int) := rfl
    rw [e, hk0.2]; rfl
  have hkz : ((k : Int) == 0) = false := by simp; omega
  have hL6 : L ≤ 6 := by omega
  clear h2 h6 hc6 hck hpw hq26 hm6 hk0 HK H2 H6 HC6 HCK2 hpl HLL
  generalize (q2 : Int) = z2 at *
  generalize (q3 : Int) = z3 at *
  generalize (q6 : Int) = z6 at *
  generalize (qk : Int) = zk at *
  go_wp2_with fail
  refine (HEQ.out).mono ?_
  rintro e w19 ⟨rfl, hb⟩
  replace HW := hide (HW.out.trans (hb.mono HW.out.size))
  replace SX := hide (SX.out.below hb)
  replace SD := hide (SD.out.below hb)
  replace SR := hide (SR.out.below hb)
  clear hb
  go_wp2_with fail
  go_ret
  exact ⟨rfl, HW.out⟩
end Go.Proofs.YtndgffiihbdppaaDoor
/- Linking numbers: what LinkSums says (mathematics). -/
namespace Go.Proofs.YtndgffiihbdppaaDoor
set_option linter.unusedVariables false
set_option linter.unusedSimpArgs false

/-! ### sums over squares -/
/-! ### components -/
theorem lkAt_lt {a : List Nat} (h : isP a) {s : Nat} (hs : s < a.length) : lkAt a s < (prtL a).length := by
  unfold lkAt
  refine List.findIdx_lt_length_of_exists ?_
  obtain ⟨h1, h2, h3⟩ := repS_spec h hs
  refine ⟨(List.range a.length).filter fun j => decide (j ∈ cyc a (repS a s)), ?_, ?_⟩
  · unfold prtL
    exact List.mem_map.2 ⟨repS a s, List.mem_filter.2 ⟨List.mem_range.2 h1, h3⟩, rfl⟩
  · rw [decide_eq_true_iff, List.mem_filter, List.mem_range, decide_eq_true_iff]
    exact ⟨hs, cyc_symm h hs h2⟩
/-! ### crossings of two components -/
/-- Pairs of the colors i, k in this order. -/
def pairs (i k : Nat) : List Nat → Nat
  | [] => 0
  | c :: l => (if c = i then l.count k else 0) + pairs i k l
end Go.Proofs.YtndgffiihbdppaaDoor
/- slices.Sort of at most nine integers. -/
namespace Go.Proofs.YtndgffiihbdppaaDoor
set_option linter.unusedVariables false
set_option linter.unusedSimpArgs false
open Go.RowKit

theorem grownBy_setS {a w : World} {g : Nat} (h : a.grownBy w (some g)) (i : Nat) (u : Value) : a.grownBy (w.setCell ⟨g, i, none⟩ u) (some g) :=
  ⟨h.os, h.tape, h.output, by simpa [World.setCell] using h.size, fun k hk hne => (Below.heap_setCell w ⟨g, i, none⟩ u k (fun e => hne (by rw [e]))).trans (h.block k hk hne)⟩

/-- What the loops of the sort know. -/
structure SoSt (w wr : World) (base g n c : Nat) (xs ys : List Int) (i : Nat) : Prop where
  own : OwnI wr base (some ⟨g, 0, none⟩) n c ys
  grown : w.grownBy wr (some g)
  perm : ys.Perm xs
  sort : SortTo ys i
structure SiSt (w wr : World) (base g n c : Nat) (xs ys : List Int) (i j : Nat) : Prop where
  own : OwnI wr base (some ⟨g, 0, none⟩) n c ys
  grown : w.grownBy wr (some g)
  ins : InsSt xs ys i j
theorem SiSt.drewN {w wr : World} {base g n c i j : Nat} {xs ys : List Int} (h : SiSt w wr base g n c xs ys i j) (k : Nat) : SiSt w (wr.drewN k) base g n c xs ys i j :=
  ⟨h.own.drewN k, ⟨h.grown.os, h.grown.tape, h.grown.output, h.grown.size, h.grown.block⟩, h.ins⟩
theorem SiSt.swap {w wr : World} {base g n c i j : Nat} {xs ys : List Int} {x y : Int} (h : SiSt w wr base g n c xs ys i (j + 1)) (hi : i < n) (hj : j + 1 ≤ i) (hx : ys.getD (j + 1) 0 = x) (hy : ys.getD j 0 = y) (hlt : x < y) :
    SiSt w ((wr.setCell ⟨g, j + 1, none⟩ (.int .i64 y)).setCell ⟨g, j, none⟩ (.int .i64 x)).drew base g n c xs (swp ys j) i j := by
  have hl := h.own.len
  have h1 := (h.own.set_ (j + 1) y).set_ j x
  have e : (ys.set (j + 1) y).set j x = swp ys j := by unfold swp; rw [hx, hy]
  rw [e] at h1
  have hg := grownBy_setS (grownBy_setS h.grown (j + 1) (.int .i64 y)) j (.int .i64 x)
  exact ⟨h1.drew, ⟨hg.os, hg.tape, hg.output, hg.size, hg.block⟩, h.ins.swap (by omega) hj (by rw [hx, hy]; exact hlt)⟩
theorem SiSt.stop {w wr : World} {base g n c i j : Nat} {xs ys : List Int} (h : SiSt w wr base g n c xs ys i j) (hj : j ≤ i) (hs : j = 0 ∨ ys.getD (j - 1) 0 ≤ ys.getD j 0) : SoSt w wr base g n c xs ys (i + 1) :=
  ⟨h.own, h.grown, h.ins.perm, h.ins.stop hj hs⟩

end Go.Proofs.YtndgffiihbdppaaDoor
/- timbref1.Parts: components by joined points (mathematics). -/
namespace Go.Proofs.YtndgffiihbdppaaDoor
set_option linter.unusedVariables false
set_option linter.unusedSimpArgs false

/-! ### the list of components, strand by strand -/
def rowP (a : List Nat) (i m : Nat) : List Nat := (List.range i).filter fun j => decide (j ∈ cyc a m)
def minK (a : List Nat) (i : Nat) : List Nat := (List.range i).filter fun m => isMin a m
def prtK (a : List Nat) (i : Nat) : List (List Nat) := (minK a i).map (rowP a i)
theorem prtK_all (a : List Nat) : prtK a a.length = prtL a := rfl
theorem minK_mem {a : List Nat} {i m : Nat} : m ∈ minK a i ↔ m < i ∧ isMin a m = true := by unfold minK; rw [List.mem_filter, List.mem_range]
theorem prtK_length (a : List Nat) (i : Nat) : (prtK a i).length = (minK a i).length := by simp [prtK]
end Go.Proofs.YtndgffiihbdppaaDoor
