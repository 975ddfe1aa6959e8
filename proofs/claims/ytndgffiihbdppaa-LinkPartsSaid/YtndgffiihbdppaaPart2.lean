/- Several texts in one. -/
import Derived.Test.YtndgffiihbdppaaPart1
import Derived.Test.YtndgffiihbdppaaBase1
import Derived.Laws.Bits64b
import Derived.Laws.BitsAllLaws
import Derived.Laws.Bits128
import Derived.WalkKit
import Derived.Below
import Derived.Shelf.Bits.Mul64
import Derived.Ground.Names2Prog
import Derived.Test.YtndgffiihbdppaaProg
import Derived.Laws.CopyOwn
import Derived.Deep.OwnRows
import Derived.Deep.DeepCutAuto
import Derived.Deep.LoopGhost
import Derived.Handy
import Derived.Deep.QuietTactic
import Derived.BigQuiet
/- Components of a closed braid, and colorings modulo 2 (mathematics of stage 16). -/
namespace Go.Proofs.Ytndgffiihbdppaa
set_option linter.unusedVariables false
set_option linter.unusedSimpArgs false

/-- The strands of each component, in increasing order; the components by their smallest strands. -/
def prtL (a : List Nat) : List (List Nat) := ((List.range a.length).filter fun i => isMin a i).map fun i => (List.range a.length).filter fun j => decide (j ∈ cyc a i)
/-- The smallest strand of a component. -/
def repS (a : List Nat) (s : Nat) : Nat := srch (fun p => isMin a p && decide (p ∈ cyc a s)) a.length 0
theorem isMin_iff {a : List Nat} {i : Nat} : isMin a i = true ↔ ∀ x ∈ cyc a i, i ≤ x := by unfold isMin; exact decide_eq_true_iff
theorem repS_spec {a : List Nat} (h : isP a) {s : Nat} (hs : s < a.length) : repS a s < a.length ∧ repS a s ∈ cyc a s ∧ isMin a (repS a s) = true := by
  obtain ⟨m, h1, h2, h3⟩ := min_ex h hs
  obtain ⟨k1, k2, k3, _⟩ := srch_spec (fun p => isMin a p && decide (p ∈ cyc a s)) a.length 0 ⟨m, Nat.zero_le _, by omega, by rw [h3, decide_eq_true h2]; rfl⟩
  rw [Bool.and_eq_true, decide_eq_true_iff] at k3
  exact ⟨by unfold repS; omega, k3.2, k3.1⟩
theorem repS_le {a : List Nat} (h : isP a) {s : Nat} (hs : s < a.length) : repS a s ≤ s := by
  obtain ⟨h1, h2, h3⟩ := repS_spec h hs
  exact isMin_iff.1 h3 s (cyc_symm h hs h2)
theorem repS_min {a : List Nat} (h : isP a) {s : Nat} (hs : s < a.length) : repS a s = s ↔ isMin a s = true := by
  obtain ⟨h1, h2, h3⟩ := repS_spec h hs
  refine ⟨fun e => by rw [e] at h3; exact h3, fun hm => ?_⟩
  have := isMin_iff.1 hm _ h2
  have := repS_le h hs
  omega
/-! ### colors modulo 2 -/
end Go.Proofs.Ytndgffiihbdppaa
/- What package freegroup's functions are to answer (words alone), and what follows for the facts free and reduced that the laws begin with. -/
namespace Go.Proofs.Ytndgffiihbdppaa
set_option linter.unusedVariables false
set_option linter.unusedSimpArgs false
open Go.RowKit

/-- A slice and an error. -/
def GivesLE (w : World) (err : Int) (xs : List Int) (e : Ending) (w' : World) : Prop :=
  ∃ A n c, e = .returned (.tuple #[.slice A n c, .int .i64 err]) ∧ SL w' A n c xs ∧ Below w.heap.size w w'

/-- The same, the slice in memory that was not there before. -/
def GivesLEn (w : World) (err : Int) (xs : List Int) (e : Ending) (w' : World) : Prop :=
  ∃ A n c, e = .returned (.tuple #[.slice A n c, .int .i64 err]) ∧ SL w' A n c xs ∧ (0 < n → ∀ ad, A = some ad → w.heap.size ≤ ad.block) ∧ Below w.heap.size w w'
theorem GivesLEn.le {w : World} {err : Int} {xs : List Int} {e : Ending} {w' : World} (h : GivesLEn w err xs e w') : GivesLE w err xs e w' := by
  obtain ⟨A, n, c, h1, h2, _, h3⟩ := h
  exact ⟨A, n, c, h1, h2, h3⟩

end Go.Proofs.Ytndgffiihbdppaa
/- Slices of polynomials, and slices of these (words on memory). -/
namespace Go.Proofs.Ytndgffiihbdppaa
set_option linter.unusedVariables false
set_option linter.unusedSimpArgs false
open Go.RowKit

abbrev Po := Int × List Int
/-- A slice of polynomials that reads as ps. -/
structure SPo (w : World) (A : Option Addr) (n c : Nat) (ps : List Po) : Prop where
  len : ps.length = n
  small : n ≤ 17592186044416
  nil : A = none → n = 0 ∧ c = 0
  cap : n ≤ c
  mem : 0 < n → ∃ ad, A = some ad ∧ ad.block < w.heap.size ∧ ∀ j, j < n → ∃ B m d, w.cell? (ad.add (j * 2)) = some (.int .i64 (ps.getD j (0, [])).1) ∧ w.cell? ⟨(ad.add (j * 2)).block, (ad.add (j * 2)).off + 1, none⟩ = some (.slice B m d) ∧ SL w B m d (ps.getD j (0, [])).2 ∧ (Lit.int .i64 (ps.getD j (0, [])).1).wf = true
theorem SPo.below {w w' : World} {A : Option Addr} {n c : Nat} {ps : List Po} (h : SPo w A n c ps) (hb : Below w.heap.size w w') : SPo w' A n c ps :=
  ⟨h.len, h.small, h.nil, h.cap, fun hn => by
    obtain ⟨ad, e, hl, hc⟩ := h.mem hn
    refine ⟨ad, e, Nat.lt_of_lt_of_le hl hb.size, fun j hj => ?_⟩
    obtain ⟨B, m, d, h1, h2, h3, h4⟩ := hc j hj
    exact ⟨B, m, d, (hb.cell (p := ad.add (j * 2)) (by rw [block_of_add]; exact hl)).trans h1, (hb.cell (p := ⟨(ad.add (j * 2)).block, (ad.add (j * 2)).off + 1, none⟩) (by show (ad.add (j * 2)).block < _; rw [block_of_add]; exact hl)).trans h2, h3.below hb, h4⟩⟩
/-- A slice of slices of polynomials. -/
structure SPP (w : World) (A : Option Addr) (n c : Nat) (pss : List (List Po)) : Prop where
  len : pss.length = n
  small : n ≤ 17592186044416
  nil : A = none → n = 0 ∧ c = 0
  cap : n ≤ c
  mem : 0 < n → ∃ ad, A = some ad ∧ ad.block < w.heap.size ∧ ∀ j, j < n → ∃ B m d, w.cell? (ad.add j) = some (.slice B m d) ∧ SPo w B m d (pss.getD j [])
theorem SPP.below {w w' : World} {A : Option Addr} {n c : Nat} {pss : List (List Po)} (h : SPP w A n c pss) (hb : Below w.heap.size w w') : SPP w' A n c pss :=
  ⟨h.len, h.small, h.nil, h.cap, fun hn => by
    obtain ⟨ad, e, hl, hc⟩ := h.mem hn
    refine ⟨ad, e, Nat.lt_of_lt_of_le hl hb.size, fun j hj => ?_⟩
    obtain ⟨B, m, d, h1, h2⟩ := hc j hj
    exact ⟨B, m, d, (hb.cell (p := ad.add j) (by rw [block_of_add]; exact hl)).trans h1, h2.below hb⟩⟩
theorem SPP.at_ {w : World} {A : Option Addr} {n c k : Nat} {pss : List (List Po)} (h : SPP w A n c pss) (hk : k < n) : ∃ ad B m d, A = some ad ∧ w.cell? (ad.add k) = some (.slice B m d) ∧ SPo w B m d (pss.getD k []) := by
  obtain ⟨ad, e, _, hc⟩ := h.mem (by omega)
  obtain ⟨B, m, d, h1, h2⟩ := hc k hk
  exact ⟨ad, B, m, d, e, h1, h2⟩
theorem SPo.at_ {w : World} {A : Option Addr} {n c k : Nat} {ps : List Po} (h : SPo w A n c ps) (hk : k < n) : ∃ ad B m d, A = some ad ∧ w.cell? (ad.add (k * 2)) = some (.int .i64 (ps.getD k (0, [])).1) ∧ w.cell? ⟨(ad.add (k * 2)).block, (ad.add (k * 2)).off + 1, none⟩ = some (.slice B m d) ∧ SL w B m d (ps.getD k (0, [])).2 ∧ (Lit.int .i64 (ps.getD k (0, [])).1).wf = true := by
  obtain ⟨ad, e, _, hc⟩ := h.mem (by omega)
  obtain ⟨B, m, d, h1, h2, h3, h4⟩ := hc k hk
  exact ⟨ad, B, m, d, e, h1, h2, h3, h4⟩
end Go.Proofs.Ytndgffiihbdppaa
/- What package braid's functions are to answer. -/
namespace Go.Proofs.Ytndgffiihbdppaa
set_option linter.unusedVariables false
set_option linter.unusedSimpArgs false
open Go.RowKit

def permE (n : Int) (w : List Int) : List Int := if bfault n w = 0 then zs (endsL n.toNat w) else []
end Go.Proofs.Ytndgffiihbdppaa
/- Where strands end: permutations of braid words (mathematics). -/
namespace Go.Proofs.Ytndgffiihbdppaa
set_option linter.unusedVariables false
set_option linter.unusedSimpArgs false

theorem endE_inj {w : List Int} (h : ∀ x ∈ w, x ≠ 0) {s t : Nat} (e : endE w s = endE w t) : s = t := by
  have h1 := endE_inv w h s
  have h2 := endE_inv w h t
  rw [endE_append] at h1 h2
  rw [← h1, e, h2]
theorem ends_isP {n : Nat} {w : List Int} (h : okB n w) : isP (endsL n w) := by
  refine ⟨fun x hx => ?_, ?_⟩
  · rw [endsL_length]
    obtain ⟨s, hs, rfl⟩ := List.mem_map.1 hx
    exact endE_lt h (List.mem_range.1 hs)
  · unfold endsL
    rw [List.nodup_iff_pairwise_ne, List.pairwise_map]
    exact List.nodup_range.imp fun hne e => hne (endE_inj (fun x hx => (h x hx).1) e)
end Go.Proofs.Ytndgffiihbdppaa
/- What package link is to answer. -/
namespace Go.Proofs.Ytndgffiihbdppaa
set_option linter.unusedVariables false
set_option linter.unusedSimpArgs false
open Go.RowKit

/-- The components of a closed braid. -/
def lkL (n : Int) (w : List Int) : List (List Int) := if bfault n w = 0 then (prtL (endsL n.toNat w)).map zs else []
/-- Where the component of a strand stands. -/
def lkAt (a : List Nat) (s : Nat) : Nat := (prtL a).findIdx fun c => decide (s ∈ c)
/-- The strand at a position behind a word. -/
def lkS (n : Nat) (w : List Int) (p : Nat) : Nat := (endsL n w).idxOf p
/-- What the crossings between two components add up to, each counted from both sides. -/
def lkSum (n : Nat) (a : List Nat) (i k : Nat) : List Int → List Int → Int
  | _, [] => 0
  | u, x :: w =>
    let s := lkAt a (lkS n u (x.natAbs - 1))
    let t := lkAt a (lkS n u x.natAbs)
    ((if s = i ∧ t = k then x.sign else 0) + (if t = i ∧ s = k then x.sign else 0)) + lkSum n a i k (u ++ [x]) w
/-- The linking numbers. -/
def lkM (n : Int) (w : List Int) : List (List Int) :=
  if bfault n w = 0 then (List.range (prtL (endsL n.toNat w)).length).map fun i => (List.range (prtL (endsL n.toNat w)).length).map fun k => (lkSum n.toNat (endsL n.toNat w) i k [] w).tdiv 2 else []
def lkK (n : Int) (w : List Int) : Bool := decide (bfault n w = 0) && decide ((prtL (endsL n.toNat w)).length = 1)
/-- Lists of lists and an error. -/
def GivesLK (w : World) (err : Int) (xss : List (List Int)) (e : Ending) (w' : World) : Prop :=
  ∃ A n c, e = .returned (.tuple #[.slice A n c, .int .i64 err]) ∧ SLL w' A n c xss ∧ Below w.heap.size w w'
/-- Package link, as the document asks. -/
structure LinkC : Prop where
  parts : ∀ (m : Int) (A : Option Addr) (n c : Nat) (xs : List Int) (w : World), SL w A n c xs → (Lit.int .i64 m).wf = true → Calls Try.prog 8 #[.int .i64 m, .slice A n c] w (GivesLK w (bfault m xs) (lkL m xs)) -- 8
  link : ∀ (m : Int) (A : Option Addr) (n c : Nat) (xs : List Int) (w : World), SL w A n c xs → (Lit.int .i64 m).wf = true → Calls Try.prog 9 #[.int .i64 m, .slice A n c] w (GivesLK w (bfault m xs) (lkM m xs)) -- 9
  knot : ∀ (m : Int) (A : Option Addr) (n c : Nat) (xs : List Int) (w : World), SL w A n c xs → (Lit.int .i64 m).wf = true → Calls Try.prog 10 #[.int .i64 m, .slice A n c] w fun e w' => e = .returned (.tuple #[.bool (lkK m xs), .int .i64 (bfault m xs)]) ∧ Below w.heap.size w w' -- 10
theorem lkK_ok {n : Nat} {w : List Int} (h : bfault (n : Int) w = 0) : lkK (n : Int) w = decide ((prtL (endsL n w)).length = 1) := by
  unfold lkK
  rw [decide_eq_true h, Bool.true_and, Int.toNat_natCast]
theorem prtL_le (a : List Nat) : (prtL a).length ≤ a.length := by
  unfold prtL
  rw [List.length_map]
  refine Nat.le_trans (List.length_filter_le _ _) (by rw [List.length_range]; exact Nat.le_refl _)
/-- The example of the document. -/
theorem lk_11 : lkM 2 [1, 1] = [[0, 1], [1, 0]] ∧ lkM 2 [-1, -1] = [[0, -1], [-1, 0]] := by decide +kernel
end Go.Proofs.Ytndgffiihbdppaa
/- Linking numbers: what LinkSums says (mathematics). -/
namespace Go.Proofs.Ytndgffiihbdppaa
set_option linter.unusedVariables false
set_option linter.unusedSimpArgs false

/-! ### sums over squares -/
/-! ### components -/
theorem lkAt_lt {a : List Nat} (h : isP a) {s : Nat} (hs : s < a.length) : lkAt a s < (prtL a).length := by
  unfold lkAt
  refine List.findIdx_lt_length_of_exists ?_
  obtain ⟨h1, h2, h3⟩ := repS_spec h hs
  refine ⟨(List.range a.length).filter fun j => decide (j ∈ cyc a (repS a s)), ?_, ?_⟩
  · unfold prtL
    exact List.mem_map.2 ⟨repS a s, List.mem_filter.2 ⟨List.mem_range.2 h1, h3⟩, rfl⟩
  · rw [decide_eq_true_iff, List.mem_filter, List.mem_range, decide_eq_true_iff]
    exact ⟨hs, cyc_symm h hs h2⟩
/-! ### crossings of two components -/
theorem idxOf_map {f : Nat → Nat} (hf : ∀ s, f (f s) = s) (p : Nat) : ∀ l : List Nat, (l.map f).idxOf p = l.idxOf (f p)
  | [] => rfl
  | a :: l => by
    rw [List.map_cons, List.idxOf_cons, List.idxOf_cons, idxOf_map hf p l]
    have e : (f a == p) = (a == f p) := by
      rw [Bool.eq_iff_iff, beq_iff_eq, beq_iff_eq]
      exact ⟨fun e => by rw [← e, hf], fun e => by rw [e, hf]⟩
    rw [e]
theorem lkS_snoc {n : Nat} {u : List Int} {x : Int} (hx : x ≠ 0) (p : Nat) : lkS n (u ++ [x]) p = lkS n u (stepE p x) := by
  unfold lkS
  rw [← idxOf_map (f := fun s => stepE s x) (fun s => stepE_twice hx s)]
  congr 1
  unfold endsL
  rw [List.map_map]
  exact List.map_congr_left fun s _ => endE_snoc u x s
theorem lkS_lt {n : Nat} {u : List Int} (hu : okB n u) {p : Nat} (hp : p < n) : lkS n u p < n := by
  unfold lkS
  have h := ends_isP hu
  obtain ⟨j, hj, e⟩ := h.surj (i := p) (by rw [endsL_length]; exact hp)
  have := List.idxOf_lt_length_of_mem (a := p) (l := endsL n u) (by
    rw [← e]
    exact getD_mem hj)
  rwa [endsL_length] at this
theorem sign_odd {x : Int} (h : x ≠ 0) : x.sign = 1 ∨ x.sign = -1 := by
  rcases Int.lt_trichotomy x 0 with h1 | h1 | h1
  · exact .inr (Int.sign_eq_neg_one_of_neg h1)
  · exact absurd h1 h
  · exact .inl (Int.sign_eq_one_of_pos h1)
/-- An entry of the matrix of linking numbers. -/
def lkE (n : Nat) (w : List Int) (i k : Nat) : Int := (lkSum n (endsL n w) i k [] w).tdiv 2
theorem lkM_eq {n : Nat} {w : List Int} (h : bfault (n : Int) w = 0) : lkM (n : Int) w = (List.range (prtL (endsL n w)).length).map fun i => (List.range (prtL (endsL n w)).length).map fun k => lkE n w i k := by
  unfold lkM lkE
  rw [if_pos h, Int.toNat_natCast]
end Go.Proofs.Ytndgffiihbdppaa
/- timbref1.Parts: components by joined points (mathematics). -/
namespace Go.Proofs.Ytndgffiihbdppaa
set_option linter.unusedVariables false
set_option linter.unusedSimpArgs false

/-- The points of a permutation joined along its first k edges. -/
def labP (a : List Nat) (k : Nat) : List Nat := Tl.joins (List.range a.length) ((Tl.lay 0 a).take k)
theorem lay0_length (a : List Nat) : (Tl.lay 0 a).length = a.length := by simp [Tl.lay]
theorem lay0_getElem (a : List Nat) {k : Nat} (hk : k < (Tl.lay 0 a).length) : (Tl.lay 0 a)[k] = (k, a.getD k 0) := by simp [Tl.lay]
theorem labP_length (a : List Nat) (k : Nat) : (labP a k).length = a.length := by unfold labP; rw [Tl.joins_length, List.length_range]
theorem labP_succ {a : List Nat} {k : Nat} (hk : k < a.length) : labP a (k + 1) = Tl.join (labP a k) k (a.getD k 0) := by
  unfold labP
  rw [List.take_succ_eq_append_getElem (by rw [lay0_length]; exact hk), Tl.joins_append, lay0_getElem a (by rw [lay0_length]; exact hk)]
  rfl
theorem labP_sound {a : List Nat} (h : isP a) : ∀ k, k ≤ a.length → ∀ x y, x < a.length → y < a.length → Tl.same (labP a k) x y → y ∈ cyc a x
  | 0, _, x, y, hx, hy, e => by
    have e1 : Tl.at_ (List.range a.length) x = Tl.at_ (List.range a.length) y := e
    rw [Tl.range_at hx, Tl.range_at hy] at e1
    subst e1
    exact cyc_self h hx
  | k + 1, hk, x, y, hx, hy, e => by
    have ih := labP_sound h k (by omega)
    have hkl : k < a.length := by omega
    have hq := h.lt hkl
    have hkq : a.getD k 0 ∈ cyc a k := (mem_cyc h hkl).2 ⟨1, rfl⟩
    have e1 : Tl.at_ (labP a (k + 1)) x = Tl.at_ (labP a (k + 1)) y := e
    rw [labP_succ hkl, Tl.join_at (by rw [labP_length]; exact hx), Tl.join_at (by rw [labP_length]; exact hy)] at e1
    by_cases c1 : Tl.at_ (labP a k) x = Tl.at_ (labP a k) k
    · by_cases c2 : Tl.at_ (labP a k) y = Tl.at_ (labP a k) k
      · exact ih x y hx hy (c1.trans c2.symm)
      · rw [if_pos c1, if_neg c2] at e1
        exact cyc_trans h hx (cyc_trans h hx (ih x k hx hkl c1) hkq) (ih _ y hq hy e1)
    · by_cases c2 : Tl.at_ (labP a k) y = Tl.at_ (labP a k) k
      · rw [if_neg c1, if_pos c2] at e1
        refine cyc_symm h hy ?_
        exact cyc_trans h hy (cyc_trans h hy (ih y k hy hkl c2) hkq) (ih _ x hq hx e1.symm)
      · rw [if_neg c1, if_neg c2] at e1
        exact ih x y hx hy e1
theorem labP_edge {a : List Nat} (h : isP a) : ∀ k, k ≤ a.length → ∀ j, j < k → Tl.same (labP a k) j (a.getD j 0)
  | 0, _, j, hj => absurd hj (Nat.not_lt_zero _)
  | k + 1, hk, j, hj => by
    have hkl : k < a.length := by omega
    have hjl : j < a.length := by omega
    show Tl.at_ (labP a (k + 1)) j = Tl.at_ (labP a (k + 1)) (a.getD j 0)
    rw [labP_succ hkl, Tl.join_at (by rw [labP_length]; exact hjl), Tl.join_at (by rw [labP_length]; exact h.lt hjl)]
    by_cases e : j = k
    · subst e
      rw [if_pos rfl]
      split <;> rfl
    · have ih : Tl.at_ (labP a k) j = Tl.at_ (labP a k) (a.getD j 0) := labP_edge h k (by omega) j (by omega)
      rw [ih]
/-- Two points have one name when they are in one cycle. -/
theorem labP_same {a : List Nat} (h : isP a) {x y : Nat} (hx : x < a.length) (hy : y < a.length) : Tl.at_ (labP a a.length) x = Tl.at_ (labP a a.length) y ↔ y ∈ cyc a x := by
  refine ⟨labP_sound h _ (Nat.le_refl _) x y hx hy, fun e => ?_⟩
  obtain ⟨t, rfl⟩ := (mem_cyc h hx).1 e
  have go : ∀ t, Tl.at_ (labP a a.length) x = Tl.at_ (labP a a.length) (it a t x) := fun t => by
    induction t with
    | zero => rfl
    | succ t ih =>
      rw [ih]
      exact labP_edge h _ (Nat.le_refl _) _ (it_lt h hx t)
  exact go t

/-! ### the list of components, strand by strand -/
def rowP (a : List Nat) (i m : Nat) : List Nat := (List.range i).filter fun j => decide (j ∈ cyc a m)
def minK (a : List Nat) (i : Nat) : List Nat := (List.range i).filter fun m => isMin a m
def prtK (a : List Nat) (i : Nat) : List (List Nat) := (minK a i).map (rowP a i)
theorem prtK_all (a : List Nat) : prtK a a.length = prtL a := rfl
theorem minK_mem {a : List Nat} {i m : Nat} : m ∈ minK a i ↔ m < i ∧ isMin a m = true := by unfold minK; rw [List.mem_filter, List.mem_range]
theorem rowK_succ (a : List Nat) (i m : Nat) : rowP a (i + 1) m = rowP a i m ++ if i ∈ cyc a m then [i] else [] := by
  unfold rowP
  rw [List.range_succ, List.filter_append]
  congr 1
  by_cases h : i ∈ cyc a m
  · rw [if_pos h, List.filter_cons_of_pos (by simpa using h)]; rfl
  · rw [if_neg h, List.filter_cons_of_neg (by simpa using h)]; rfl
theorem rowK_low {a : List Nat} {m : Nat} (hm : isMin a m = true) : rowP a m m = [] := by
  unfold rowP
  rw [List.filter_eq_nil_iff]
  intro j hj hc
  have h1 := List.mem_range.1 hj
  have h2 := isMin_iff.1 hm j (by simpa using hc)
  omega
/-- A component begins with its smallest strand. -/
theorem rowK_head {a : List Nat} (h : isP a) {m : Nat} (hm : isMin a m = true) (hml : m < a.length) : ∀ i, m < i → ∃ r, rowP a i m = m :: r
  | 0, hi => absurd hi (Nat.not_lt_zero _)
  | i + 1, hi => by
    rw [rowK_succ]
    by_cases e : m = i
    · subst e
      rw [rowK_low hm, if_pos (cyc_self h hml)]
      exact ⟨[], rfl⟩
    · obtain ⟨r, hr⟩ := rowK_head h hm hml i (by omega)
      rw [hr]
      exact ⟨r ++ _, rfl⟩
theorem prtK_length (a : List Nat) (i : Nat) : (prtK a i).length = (minK a i).length := by simp [prtK]
theorem prtK_row {a : List Nat} (h : isP a) {i k : Nat} (hi : i ≤ a.length) (hk : k < (prtK a i).length) : ∃ m, (minK a i)[k]? = some m ∧ m < i ∧ isMin a m = true ∧ (prtK a i).getD k [] = rowP a i m ∧ ((prtK a i).getD k []).getD 0 0 = m ∧ (prtK a i).getD k [] ≠ [] := by
  have hk2 : k < (minK a i).length := by rwa [prtK_length] at hk
  obtain ⟨h1, h2⟩ := minK_mem.1 (List.getElem_mem hk2)
  have e : (prtK a i).getD k [] = rowP a i (minK a i)[k] := by simp [prtK, List.getD, hk2]
  obtain ⟨r, hr⟩ := rowK_head h h2 (by omega) i h1
  refine ⟨(minK a i)[k], List.getElem?_eq_getElem hk2, h1, h2, e, ?_, ?_⟩
  · rw [e, hr]; rfl
  · rw [e, hr]; exact List.cons_ne_nil _ _
theorem prtK_new {a : List Nat} (h : isP a) {i : Nat} (hi : i < a.length) (hno : ∀ k, k < (prtK a i).length → i ∉ cyc a (((prtK a i).getD k []).getD 0 0)) : prtK a (i + 1) = prtK a i ++ [[i]] := by
  have hmin : isMin a i = true := by
    obtain ⟨r1, r2, r3⟩ := repS_spec h hi
    have hle := repS_le h hi
    by_cases e : repS a i = i
    · rwa [e] at r3
    · exfalso
      have hm : repS a i ∈ minK a i := minK_mem.2 ⟨by omega, r3⟩
      obtain ⟨k, hk, e2⟩ := List.mem_iff_getElem.1 hm
      have hkl : k < (prtK a i).length := by rw [prtK_length]; exact hk
      obtain ⟨m, hm1, _, _, _, hm2, _⟩ := prtK_row h (Nat.le_of_lt hi) hkl
      rw [List.getElem?_eq_getElem hk, e2] at hm1
      injection hm1 with hm1
      refine hno k hkl ?_
      rw [hm2, ← hm1]
      exact cyc_symm h hi r2
  have e1 : minK a (i + 1) = minK a i ++ [i] := by
    unfold minK
    rw [List.range_succ, List.filter_append, List.filter_cons_of_pos hmin]
    rfl
  unfold prtK
  rw [e1, List.map_append]
  congr 1
  · refine List.map_congr_left fun m hm => ?_
    obtain ⟨h1, h2⟩ := minK_mem.1 hm
    rw [rowK_succ, if_neg, List.append_nil]
    intro hc
    have := isMin_iff.1 hmin m (cyc_symm h (by omega) hc)
    omega
  · rw [List.map_cons, List.map_nil, rowK_succ, rowK_low hmin, if_pos (cyc_self h hi)]
    rfl
theorem prtK_put {a : List Nat} (h : isP a) {i k : Nat} (hi : i < a.length) (hk : k < (prtK a i).length) (hc : i ∈ cyc a (((prtK a i).getD k []).getD 0 0)) : prtK a (i + 1) = (prtK a i).set k ((prtK a i).getD k [] ++ [i]) := by
  obtain ⟨m, hm1, hmi, hmm, hm2, hm3, _⟩ := prtK_row h (Nat.le_of_lt hi) hk
  rw [hm3] at hc
  have hni : isMin a i = false := by
    cases e : isMin a i with
    | false => rfl
    | true => have := isMin_iff.1 e m (cyc_symm h (by omega) hc); omega
  have e1 : minK a (i + 1) = minK a i := by
    unfold minK
    rw [List.range_succ, List.filter_append, List.filter_cons_of_neg (by simp [hni])]
    simp
  have hkm : k < (minK a i).length := by rwa [prtK_length] at hk
  rw [List.getElem?_eq_getElem hkm] at hm1
  injection hm1 with hm1
  rw [hm2]
  unfold prtK
  rw [e1]
  refine List.ext_getElem (by simp) fun j h1 h2 => ?_
  have hj : j < (minK a i).length := by simpa using h1
  rw [List.getElem_map, List.getElem_set, List.getElem_map, rowK_succ]
  by_cases e : k = j
  · subst e
    rw [if_pos rfl, hm1, if_pos hc]
  · rw [if_neg e, if_neg, List.append_nil]
    intro hc2
    obtain ⟨g1, g2⟩ := minK_mem.1 (List.getElem_mem hj)
    have e3 := min_unique h (by omega) (by omega) hmm g2 hc hc2
    have hnd : (minK a i).Nodup := nodup_filter _ List.nodup_range
    rw [← hm1] at e3
    exact e ((List.getElem_inj hnd).1 e3)
end Go.Proofs.Ytndgffiihbdppaa
/- A matrix of integers that a call builds, row by row. -/
namespace Go.Proofs.Ytndgffiihbdppaa
set_option linter.unusedVariables false
set_option linter.unusedSimpArgs false
open Go.RowKit

/-- The first k rows of a matrix of rows of n integers: the table in block go, row i in block gr i. -/
structure MaI (w : World) (base go n : Nat) (gr : Nat → Nat) (k : Nat) (X : Nat → Nat → Int) : Prop where
  blk : ∃ cs, Blk w go 22 cs
  out : ∀ i, i < k → w.cell? ⟨go, i, none⟩ = some (.slice (some ⟨gr i, 0, none⟩) n n)
  row : ∀ i, i < k → OwnI w base (some ⟨gr i, 0, none⟩) n n ((List.range n).map (X i))
  ne : ∀ i, i < k → gr i ≠ go
  inj : ∀ i j, i < k → j < k → gr i = gr j → i = j
  lt : ∀ i, i < k → gr i < w.heap.size
  base_le : base ≤ go ∧ ∀ i, i < k → base ≤ gr i
section
variable {w w' : World} {base go n k : Nat} {gr : Nat → Nat} {X Y : Nat → Nat → Int}
theorem MaI.go_lt (h : MaI w base go n gr k X) : go < w.heap.size := by
  obtain ⟨cs, hc⟩ := h.blk
  exact hc.lt
theorem MaI.below (h : MaI w base go n gr k X) (hb : Below w.heap.size w w') : MaI w' base go n gr k X := by
  refine ⟨?_, fun i hi => ?_, fun i hi => (KeepT.below hb).ownI (h.row i hi), h.ne, h.inj, fun i hi => Nat.lt_of_lt_of_le (h.lt i hi) hb.size, h.base_le⟩
  · obtain ⟨cs, hc⟩ := h.blk
    exact ⟨cs, hc.below hb hc.lt⟩
  · rw [← h.out i hi]
    exact hb.cell (p := ⟨go, i, none⟩) h.go_lt
theorem MaI.cell (h : MaI w base go n gr k X) {i j : Nat} (hi : i < k) (hj : j < n) : w.cell? ⟨gr i, j, none⟩ = some (.int .i64 (X i j)) := by
  rw [(h.row i hi).cell hj]
  simp [List.getD, hj]
theorem MaI.frozen (h : MaI w base go n gr k X) {i : Nat} (hi : i < k) (j : Nat) : w.frozen? ⟨gr i, j, none⟩ = false := (h.row i hi).frozen j
/-- One entry. -/
theorem MaI.set_ (h : MaI w base go n gr k X) {r c : Nat} (hr : r < k) (hc : c < n) (v : Int) : MaI (w.setCell ⟨gr r, c, none⟩ (.int .i64 v)) base go n gr k (fun i j => if i = r ∧ j = c then v else X i j) := by
  have hne : go ≠ gr r := fun e => h.ne r hr e.symm
  refine ⟨?_, fun i hi => ?_, fun i hi => ?_, h.ne, h.inj, fun i hi => ?_, h.base_le⟩
  · obtain ⟨cs, hc2⟩ := h.blk
    exact ⟨cs, hc2.far hne _⟩
  · rw [← h.out i hi]
    exact World.cell?_of_block (w := w) (a := ⟨go, i, none⟩) (Below.heap_setCell w ⟨gr r, c, none⟩ _ go hne)
  · by_cases e : i = r
    · subst e
      have h2 := (h.row i hi).set_ c v
      have e2 : ((List.range n).map (X i)).set c v = (List.range n).map fun j => if i = i ∧ j = c then v else X i j := by
        refine List.ext_getElem (by simp) fun j h3 h4 => ?_
        rw [List.getElem_set]
        simp only [List.getElem_map, List.getElem_range, true_and]
        by_cases e3 : c = j
        · rw [if_pos e3, if_pos e3.symm]
        · rw [if_neg e3, if_neg (Ne.symm e3)]
      rwa [e2] at h2
    · have hg : gr i ≠ gr r := fun e2 => e (h.inj i r hi hr e2)
      have e2 : (List.range n).map (fun j => if i = r ∧ j = c then v else X i j) = (List.range n).map (X i) := List.map_congr_left fun j _ => by rw [if_neg (fun h => e h.1)]
      rw [e2]
      have ho := h.row i hi
      refine ⟨⟨ho.own.1, ?_⟩, ho.small⟩
      rcases ho.own.2 with h2 | ⟨b, cap, cur, hv, hb, hh, q⟩
      · exact .inl h2
      · have hbg : b = gr i := by
          injection hv with hv
          injection hv with hv
          injection hv with hv
          exact hv.symm
        exact .inr ⟨b, cap, cur, hv, hb, (Below.heap_setCell w ⟨gr r, c, none⟩ _ b (by rw [hbg]; exact hg)).trans hh, q⟩
  · have := h.lt i hi
    simpa [World.setCell] using this
theorem MaI.congr (h : MaI w base go n gr k X) (e : ∀ i, i < k → ∀ j, j < n → X i j = Y i j) : MaI w base go n gr k Y :=
  ⟨h.blk, h.out, fun i hi => by rw [show (List.range n).map (Y i) = (List.range n).map (X i) from List.map_congr_left fun j hj => (e i hi j (List.mem_range.1 hj)).symm]; exact h.row i hi, h.ne, h.inj, h.lt, h.base_le⟩
/-- One row more. -/
theorem MaI.push (h : MaI w base go n gr k X) {g : Nat} (hb : Below w.heap.size w w') (hg : w.heap.size ≤ g) (ho : OwnI w' base (some ⟨g, 0, none⟩) n n ((List.range n).map (X k))) (hgl : g < w'.heap.size) (hgb : base ≤ g) {u : Value} (hu : w.cell? ⟨go, k, none⟩ = some u) :
    MaI (w'.setCell ⟨go, k, none⟩ (.slice (some ⟨g, 0, none⟩) n n)) base go n (fun i => if i = k then g else gr i) (k + 1) X := by
  have hgo := h.go_lt
  have h1 := h.below hb
  have far : ∀ {g' : Nat} {i : Nat}, g' ≠ go → OwnI w' base (some ⟨g', 0, none⟩) n n ((List.range n).map (X i)) → OwnI (w'.setCell ⟨go, k, none⟩ (.slice (some ⟨g, 0, none⟩) n n)) base (some ⟨g', 0, none⟩) n n ((List.range n).map (X i)) := by
    intro g' i hne ho
    refine ⟨⟨ho.own.1, ?_⟩, ho.small⟩
    rcases ho.own.2 with h2 | ⟨b, cap, cur, hv, hb, hh, q⟩
    · exact .inl h2
    · have hbg : b = g' := by
        injection hv with hv
        injection hv with hv
        injection hv with hv
        exact hv.symm
      exact .inr ⟨b, cap, cur, hv, hb, (Below.heap_setCell w' ⟨go, k, none⟩ _ b (by rw [hbg]; exact hne)).trans hh, q⟩
  have hsz : (w'.setCell ⟨go, k, none⟩ (.slice (some ⟨g, 0, none⟩) n n)).heap.size = w'.heap.size := by simp [World.setCell]
  refine ⟨?_, fun i hi => ?_, fun i hi => ?_, fun i hi => ?_, fun i j hi hj e => ?_, fun i hi => ?_, h.base_le.1, fun i hi => ?_⟩
  · obtain ⟨cs, hc⟩ := h1.blk
    exact ⟨_, hc.set_ k _⟩
  · by_cases e : i = k
    · subst e
      show _ = some (Value.slice (some ⟨if i = i then g else gr i, 0, none⟩) n n)
      rw [if_pos rfl]
      exact World.cell?_setCell_same w' _ _ ((hb.cell (p := ⟨go, i, none⟩) hgo).trans hu)
    · show _ = some (Value.slice (some ⟨if i = k then g else gr i, 0, none⟩) n n)
      rw [if_neg e, World.cell?_setCell_other w' _ _ _ (by intro h2; simp only [Addr.mk.injEq] at h2; omega)]
      exact h1.out i (by omega)
  · by_cases e : i = k
    · subst e; rw [if_pos rfl]; exact far (by omega) ho
    · rw [if_neg e]; exact far (h.ne i (by omega)) (h1.row i (by omega))
  · by_cases e : i = k
    · rw [if_pos e]; omega
    · rw [if_neg e]; exact h.ne i (by omega)
  · by_cases e1 : i = k
    · by_cases e2 : j = k
      · omega
      · rw [if_pos e1, if_neg e2] at e
        have := h.lt j (by omega)
        omega
    · by_cases e2 : j = k
      · rw [if_neg e1, if_pos e2] at e
        have := h.lt i (by omega)
        omega
      · rw [if_neg e1, if_neg e2] at e
        exact h.inj i j (by omega) (by omega) e
  · rw [hsz]
    by_cases e : i = k
    · rw [if_pos e]; exact hgl
    · rw [if_neg e]; exact h1.lt i (by omega)
  · by_cases e : i = k
    · rw [if_pos e]; exact hgb
    · rw [if_neg e]; exact h.base_le.2 i (by omega)
end
theorem gives_indexQ {P : Program} {o : Oper} {a : Act} {w : World} {t e : TypeId} {x y : Operand} {g k n c : Nat} {q : IntKind} (ho : o.op = .indexAddr t x y) (ht : P.underlying t = some (.slice e)) (he : ∀ w, (sizeOf e).run P w = .ok 1 w) (hx : a.eval x = .slice (some ⟨g, 0, none⟩) n c) (hy : a.eval y = .int q k) (hk : k < n) :
    Gives P o a w (.pointer (some ⟨g, k, none⟩)) := by
  have h := gives_indexA (w := w) ho ht he hx hy hk
  rwa [Addr.add_mid, Nat.zero_add] at h
theorem ownV_zero {w : World} {base n c : Nat} {A : Option Addr} (h : w.ownsRow base 22 1 (.slice A n c) n (madeCells #[Value.slice none 0 0] (n * 1)).toList) (hs : n ≤ 1000) : OwnV w base A n c (List.replicate n (.slice none 0 0)) := by
  refine ⟨?_, by omega⟩
  rw [toList_madeCells_one, Nat.mul_one] at h
  simpa using h
theorem MaI.start {w : World} {base go n m : Nat} {vs : List Value} (h : OwnV w base (some ⟨go, 0, none⟩) m m vs) (X : Nat → Nat → Int) : MaI w base go n (fun _ => 0) 0 X := by
  have hb := (h.lt go rfl).1
  refine ⟨?_, fun i hi => absurd hi (Nat.not_lt_zero _), fun i hi => absurd hi (Nat.not_lt_zero _), fun i hi => absurd hi (Nat.not_lt_zero _), fun i j hi => absurd hi (Nat.not_lt_zero _), fun i hi => absurd hi (Nat.not_lt_zero _), hb, fun i hi => absurd hi (Nat.not_lt_zero _)⟩
  rcases h.own.2 with ⟨e, _⟩ | ⟨g, cap, cur, e, _, hh, _⟩
  · cases e
  · simp only [Value.slice.injEq, Option.some.injEq, Addr.mk.injEq, and_true, true_and] at e
    obtain ⟨rfl, _⟩ := e
    exact ⟨cur, hh⟩
theorem map_zero (n : Nat) : (List.range n).map (fun _ => (0 : Int)) = List.replicate n 0 := by
  rw [List.map_const', List.length_range]

end Go.Proofs.Ytndgffiihbdppaa
/- timbref1: Straight, Hook; joined points: Points, At, Join. -/
namespace Go.Proofs.Ytndgffiihbdppaa
set_option linter.unusedVariables false
set_option linter.unusedSimpArgs false
open Go.RowKit

theorem zs_set (l : List Nat) (i x : Nat) : (zs l).set i (x : Int) = zs (l.set i x) := by
  unfold zs
  rw [List.map_set]
  rfl
/-! ### joined points -/
/-- The pointers, the labels. -/
structure UF (par lab : List Nat) : Prop where
  len : par.length = lab.length
  ok : Tl.Ok lab
  dp : ∃ dp : Nat → Nat, ∀ a, a < lab.length → par.getD a 0 < lab.length ∧ ((par.getD a 0 = a ∧ Tl.at_ lab a = a) ∨ (par.getD a 0 ≠ a ∧ Tl.at_ lab a ≠ a ∧ Tl.at_ lab (par.getD a 0) = Tl.at_ lab a ∧ dp (par.getD a 0) < dp a))
theorem UF.range (N : Nat) : UF (List.range N) (List.range N) := ⟨rfl, Tl.Ok.range N, fun _ => 0, fun a ha => by
  rw [List.length_range] at ha ⊢
  have e : (List.range N).getD a 0 = a := Tl.range_at ha
  exact ⟨by rw [e]; exact ha, .inl ⟨e, e⟩⟩⟩
theorem UF.root {par lab : List Nat} (h : UF par lab) {a : Nat} (ha : a < lab.length) : par.getD (Tl.at_ lab a) 0 = Tl.at_ lab a := by
  obtain ⟨dp, hd⟩ := h.dp
  rcases (hd _ (h.ok.lt a ha)).2 with ⟨h1, _⟩ | ⟨_, h2, _⟩
  · exact h1
  · exact absurd (h.ok.idem a ha) h2
theorem getD_setN {l : List Nat} {i x j : Nat} (hj : j < l.length) : (l.set i x).getD j 0 = if i = j then x else l.getD j 0 := by
  by_cases e : i = j
  · subst e; simp [List.getD, hj]
  · rw [if_neg e]; simp [List.getD, List.getElem?_set_ne e]
theorem UF.join {par lab : List Nat} (h : UF par lab) {x y : Nat} (hx : x < lab.length) (hy : y < lab.length) : UF (par.set (Tl.at_ lab x) (Tl.at_ lab y)) (Tl.join lab x y) := by
  by_cases e : Tl.at_ lab x = Tl.at_ lab y
  · have e1 : par.set (Tl.at_ lab x) (Tl.at_ lab y) = par := by
      rw [← e]
      conv => lhs; rw [show par.set (Tl.at_ lab x) (Tl.at_ lab x) = par.set (Tl.at_ lab x) (par.getD (Tl.at_ lab x) 0) by rw [h.root hx]]
      have hlt := h.ok.lt x hx
      refine List.ext_getElem (by simp) fun j h1 h2 => ?_
      rw [List.getElem_set]
      split
      · rename_i e2; subst e2; rw [List.getD_eq_getElem?_getD, List.getElem?_eq_getElem h2]; rfl
      · rfl
    rw [e1, Tl.join_id e]
    exact h
  · obtain ⟨dp, hd⟩ := h.dp
    have hl := Tl.join_length lab x y
    refine ⟨by rw [List.length_set, hl]; exact h.len, h.ok.join hx hy, fun a => if Tl.at_ lab a = Tl.at_ lab x then dp a + dp (Tl.at_ lab y) + 1 else dp a, fun a ha => ?_⟩
    rw [hl] at ha ⊢
    rw [getD_setN (by rw [h.len]; exact ha), Tl.join_at ha]
    obtain ⟨d1, d2⟩ := hd a ha
    have hyl := h.ok.lt y hy
    have hyi := h.ok.idem y hy
    by_cases e2 : Tl.at_ lab x = a
    · subst e2
      have hxi := h.ok.idem x hx
      rw [if_pos rfl, hxi, if_pos rfl]
      refine ⟨hyl, .inr ⟨fun e3 => e e3.symm, fun e3 => e e3.symm, ?_, ?_⟩⟩
      · rw [Tl.join_at hyl, hyi, if_neg (fun e3 => e e3.symm)]
      · show (if Tl.at_ lab (Tl.at_ lab y) = Tl.at_ lab x then _ else dp (Tl.at_ lab y)) < if Tl.at_ lab (Tl.at_ lab x) = Tl.at_ lab x then _ else _
        rw [if_neg (show ¬ Tl.at_ lab (Tl.at_ lab y) = Tl.at_ lab x by rw [hyi]; exact fun e3 => e e3.symm), if_pos hxi]
        omega
    · rw [if_neg e2]
      refine ⟨d1, ?_⟩
      rw [Tl.join_at d1]
      rcases d2 with ⟨h1, h2⟩ | ⟨h1, h2, h3, h4⟩
      · refine .inl ⟨h1, ?_⟩
        rw [h2, if_neg (fun e3 => e2 e3.symm)]
      · refine .inr ⟨h1, ?_, by rw [h3], ?_⟩
        · by_cases e3 : Tl.at_ lab a = Tl.at_ lab x
          · rw [if_pos e3]
            intro e4
            rw [← e4, hyi] at h2
            exact h2 rfl
          · rw [if_neg e3]; exact h2
        · show (if Tl.at_ lab (par.getD a 0) = Tl.at_ lab x then dp (par.getD a 0) + _ + 1 else dp (par.getD a 0)) < if Tl.at_ lab a = Tl.at_ lab x then _ else _
          rw [h3]
          by_cases e3 : Tl.at_ lab a = Tl.at_ lab x
          · rw [if_pos e3, if_pos e3]; omega
          · rw [if_neg e3, if_neg e3]; exact h4

set_option maxRecDepth 100000 in
set_option maxHeartbeats 2000000 in
theorem at_any (A : Option Addr) (N c : Nat) (par lab : List Nat) (x : Nat) (w : World) (ha : IL w A N (zs par)) (h : UF par lab) (hx : x < lab.length) (hN : N ≤ 1000000) :
    Calls Try.prog 42 #[.slice A N c, .int .i64 x] w fun e w' => e = .returned (.int .i64 (Tl.at_ lab x : Nat)) ∧ w = w' := by
  have hlen : lab.length = N := by have := ha.len; rw [zs_length, h.len] at this; exact this
  obtain ⟨dp, hd⟩ := h.dp
  rw [hlen] at hd hx
  have HD := hide hd
  have HA := hide ha
  obtain ⟨rt, hrt⟩ : ∃ r, Tl.at_ lab x = r := ⟨_, rfl⟩
  have HRT := hide hrt
  rw [hrt]
  clear hd ha hlen hrt
  go_enter Try.func42, Try.ntmps42
  go_wp2_with fail
  go_loop [1] (fun v => ∃ k : Nat, v = .int .i64 k ∧ k < N ∧ Hid (Tl.at_ lab k = rt)) (fun v => dp (intOf v).toNat)
  case atStart => exact ⟨x, rfl, hx, HRT⟩
  case round =>
    obtain ⟨k, rfl, hk, HK⟩ := hrel
    obtain ⟨ad, rfl, hc⟩ := HA.out.at_ hk
    rw [zs_getD] at hc
    obtain ⟨d1, d2⟩ := HD.out k hk
    by_cases e : par.getD k 0 = k
    · have HE : Hid (rt = k) := hide (by
        rw [← HK.out]
        rcases d2 with ⟨_, h2⟩ | ⟨h1, _⟩
        · exact h2
        · exact absurd e h1)
      rw [e] at hc
      clear d1 d2 e
      go_wp2_with fail
      go_ret
      rw [HE.out]
      exact ⟨rfl, rfl⟩
    · have HR : Hid (Tl.at_ lab (par.getD k 0) = rt ∧ dp (par.getD k 0) < dp k) := hide (by
        rcases d2 with ⟨h1, _⟩ | ⟨_, _, h3, h4⟩
        · exact absurd h1 e
        · exact ⟨h3.trans HK.out, h4⟩)
      have hne : ((par.getD k 0 : Nat) : Int) ≠ (k : Int) := by omega
      obtain ⟨r, hr⟩ : ∃ r, par.getD k 0 = r := ⟨_, rfl⟩
      rw [hr] at hc HR d1 hne
      have hb : ((r : Int) != (k : Int)) = true := by simpa using fun h3 : (r : Int) = k => hne h3
      clear d2 e hr hne
      go_wp2_with fail
      go_round
      case rel => exact ⟨r, by go_num, d1, hide HR.out.1⟩
      case measure => have := HR.out.2; simp [intOf]; omega

set_option maxRecDepth 100000 in
set_option maxHeartbeats 2000000 in
theorem join_any (g N c : Nat) (base : Nat) (par lab : List Nat) (x y : Nat) (w : World) (ho : OwnI w base (some ⟨g, 0, none⟩) N c (zs par)) (h : UF par lab) (hx : x < lab.length) (hy : y < lab.length) (hN : N ≤ 1000000) :
    Calls Try.prog 39 #[.slice (some ⟨g, 0, none⟩) N c, .int .i64 x, .int .i64 y] w fun e w' => e = .returned (.tuple #[]) ∧ OwnI w' base (some ⟨g, 0, none⟩) N c (zs (par.set (Tl.at_ lab x) (Tl.at_ lab y))) ∧ w' = w.setCell ⟨g, Tl.at_ lab x, none⟩ (.int .i64 (Tl.at_ lab y : Nat)) := by
  have hlen : lab.length = N := by have := ho.len; rw [zs_length, h.len] at this; exact this
  have HX := hide (at_any (some ⟨g, 0, none⟩) N c par lab x w ho.il h hx hN)
  have HY := hide (at_any (some ⟨g, 0, none⟩) N c par lab y w ho.il h hy hN)
  have hxl := h.ok.lt x hx
  rw [hlen] at hxl
  have hc := ho.cell hxl
  have hf := ho.frozen (Tl.at_ lab x)
  have hn := ho.set_ (Tl.at_ lab x) (Tl.at_ lab y : Nat)
  rw [zs_set] at hn
  have HN := hide hn
  generalize (zs par).getD (Tl.at_ lab x) 0 = z at *
  generalize Tl.at_ lab x = u at *
  generalize Tl.at_ lab y = v at *
  clear ho hn h hx hy hlen
  go_enter Try.func39, Try.ntmps39
  go_wp2_with fail
  refine HX.out.mono ?_
  rintro e w1 ⟨rfl, rfl⟩
  go_wp2_with fail
  refine HY.out.mono ?_
  rintro e w1 ⟨rfl, rfl⟩
  go_wp2_with fail
  go_returns
  exact ⟨rfl, HN.out, rfl⟩
end Go.Proofs.Ytndgffiihbdppaa
/- slices.IndexFunc of lists with a function that may draw; the function in timbref1.Parts. -/
namespace Go.Proofs.Ytndgffiihbdppaa
set_option linter.unusedVariables false
set_option linter.unusedSimpArgs false
open Go.RowKit

set_option maxRecDepth 100000 in
set_option maxHeartbeats 2000000 in
theorem idxF_any {fid : FuncId} {caps : List Value} (f : List Int → Bool) (hfid : ∀ args w, (callFunc fid args).run Try.prog w = .ok (.enter fid args) w) (A : Option Addr) (n c : Nat) (xss : List (List Int)) (w : World) (ha : ILL w A n xss)
    (hf : ∀ q B m d k, k < n → IL (w.drewN q) B m (xss.getD k []) → Calls Try.prog fid (.slice B m d :: caps).toArray (w.drewN q) fun e w' => e = .returned (.bool (f (xss.getD k []))) ∧ ∃ p, w' = (w.drewN q).drewN p) :
    Calls Try.prog 40 #[.slice A n c, .func (.func fid) #[] caps.toArray] w fun e w' => ((e = .returned (.int .i64 (-1)) ∧ ∀ j, j < n → f (xss.getD j []) = false) ∨ ∃ k : Nat, e = .returned (.int .i64 k) ∧ k < n ∧ f (xss.getD k []) = true ∧ ∀ j, j < k → f (xss.getD j []) = false) ∧ ∃ p, w' = w.drewN p := by
  have hs := ha.small
  have HA := hide ha
  have HF := hide hf
  clear ha hf
  go_enter Try.func40, Try.ntmps40
  go_wp2_with fail
  go_loopw [8] (fun i wr => ∃ k q : Nat, k ≤ n ∧ i = .int .i64 k ∧ wr = w.drewN q ∧ Hid (∀ j, j < k → f (xss.getD j []) = false)) (fun i _ => n - (intOf i).toNat)
  case atStart => exact ⟨0, 0, Nat.zero_le _, rfl, rfl, hide (fun j hj => absurd hj (by omega))⟩
  case round =>
    obtain ⟨k, q, hk, rfl, rfl, HN⟩ := hrel
    by_cases hlt : k < n
    · obtain ⟨ad, B, m, d, rfl, hc, hil⟩ := (HA.out.drewN q).at_ hlt
      have HC := hide (HF.out q B m d k hlt hil)
      clear hil
      by_cases hfk : f (xss.getD k []) = true
      · have HY := hide hfk
        rw [hfk] at HC
        clear hfk
        go_wp2_with fail
        refine HC.out.mono ?_
        rintro e w1 ⟨rfl, p, rfl⟩
        go_wp2_with fail
        go_ret
        exact ⟨.inr ⟨k, rfl, hlt, HY.out, HN.out⟩, q + p, by first | rfl | rw [World.drewN_drewN]⟩
      · have hfk' : f (xss.getD k []) = false := by simpa using hfk
        have HN2 : Hid (∀ j, j < k + 1 → f (xss.getD j []) = false) := hide (fun j hj => by
          by_cases e : j = k
          · rw [e]; exact hfk'
          · exact HN.out j (by omega))
        rw [hfk'] at HC
        clear hfk hfk'
        go_wp2_with fail
        refine HC.out.mono ?_
        rintro e w1 ⟨rfl, p, rfl⟩
        go_wp2_with fail
        go_roundw
        case rel => exact ⟨k + 1, q + p, by omega, by go_num, by first | rfl | rw [World.drewN_drewN], HN2⟩
        case measure => simp [intOf]; omega
    · have HY : Hid (∀ j, j < n → f (xss.getD j []) = false) := hide (fun j hj => HN.out j (by omega))
      go_wp2_with fail
      go_ret
      exact ⟨.inl ⟨rfl, HY.out⟩, q, rfl⟩
theorem quietL {P : Program} {f : FuncId} {args : Array Value} {w : World} {n : Nat} {v : Value}
    (h : Calls P f args (w.drewN n) fun e w' => e = .returned v ∧ w.drewN n = w') : Calls P f args (w.drewN n) fun e w'' => e = .returned v ∧ ∃ m, w'' = w.drewN m :=
  h.mono fun _ _ ⟨he, hm⟩ => ⟨he, n, hm.symm⟩
set_option maxRecDepth 100000 in
set_option maxHeartbeats 2000000 in
theorem closP_any (gj gi n c m oc i : Nat) (A B : Option Addr) (par lab o : List Nat) (w : World) (hbj : Blk w gj 53 #[.slice A n c]) (hbi : Blk w gi 3 #[.int .i64 i]) (hj : IL w A n (zs par)) (hu : UF par lab) (ho : IL w B m (zs o)) (hne : o ≠ []) (hh : o.getD 0 0 < lab.length) (hi : i < lab.length) (hN : n ≤ 1000000) :
    Calls Try.prog 41 #[.slice B m oc, .pointer (some ⟨gj, 0, none⟩), .pointer (some ⟨gi, 0, none⟩)] w fun e w' => e = .returned (.bool (decide (Tl.at_ lab (o.getD 0 0) = Tl.at_ lab i))) ∧ ∃ p, w' = w.drewN p := by
  have hol : 0 < m := by
    have := ho.len
    rw [zs_length] at this
    have := List.length_pos_iff.2 hne
    omega
  obtain ⟨ad, rfl, hcl⟩ := ho.at_ hol
  rw [zs_getD, show ad.add 0 = ad by unfold Addr.add; simp] at hcl
  have HC1 : Hid (∀ k, Calls Try.prog 42 #[.slice A n c, .int .i64 ((o.getD 0 0 : Nat) : Int)] (w.drewN k) fun e w' => e = .returned (.int .i64 (Tl.at_ lab (o.getD 0 0) : Nat)) ∧ w.drewN k = w') := hide fun k => at_any A n c par lab _ _ (hj.drewN k) hu hh hN
  have HC2 : Hid (∀ k, Calls Try.prog 42 #[.slice A n c, .int .i64 (i : Int)] (w.drewN k) fun e w' => e = .returned (.int .i64 (Tl.at_ lab i : Nat)) ∧ w.drewN k = w') := hide fun k => at_any A n c par lab _ _ (hj.drewN k) hu hi hN
  have hcj : w.cell? ⟨gj, 0, none⟩ = some (.slice A n c) := hbj.cell 0
  have hci : w.cell? ⟨gi, 0, none⟩ = some (.int .i64 i) := hbi.cell 0
  generalize o.getD 0 0 = h at *
  obtain ⟨r1, hr1⟩ : ∃ r, Tl.at_ lab h = r := ⟨_, rfl⟩
  obtain ⟨r2, hr2⟩ : ∃ r, Tl.at_ lab i = r := ⟨_, rfl⟩
  rw [hr1] at HC1
  rw [hr2] at HC2
  rw [hr1, hr2]
  clear hu ho hj hbj hbi hne hr1 hr2 hh hi
  go_enter Try.func41, Try.ntmps41
  go_wp2_with fail
  go_quiet ((first | (go_at_call_of 42 (Value.int .i64 (h : Int)); exact quietL (HC1.out _)) | (go_at_call 42; exact quietL (HC2.out _))))
  go_wp2_with fail
  go_ret
  refine ⟨?_, nq, rfl⟩
  have hbq : ((r1 : Int) == (r2 : Int)) = decide (r1 = r2) := by
    rw [Bool.eq_iff_iff]
    simp
    omega
  rw [← hbq]
  rfl
end Go.Proofs.Ytndgffiihbdppaa
