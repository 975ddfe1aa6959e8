/- Several texts in one. -/
import Derived.Test.YtndgffiihbdppaaPart1
import Derived.Test.YtndgffiihbdppaaBase1
import Derived.Deep.DeepCutAuto
import Derived.Handy
import Derived.Laws.EntriesVeiled
import Derived.Laws.Bits64b
import Derived.Laws.BitsAllLaws
import Derived.Laws.Bits128
import Derived.WalkKit
import Derived.Below
import Derived.Deep.LoopGhost
import Derived.Shelf.Bits.Mul64
import Derived.Ground.Names2Prog
import Derived.Test.YtndgffiihbdppaaProg
import Derived.Laws.CopyOwn
import Derived.Deep.OwnRows
/- Braid words: what is wrong with one, where its strands end. -/
namespace Go.Proofs.Ytndgffiihbdppaa
set_option linter.unusedVariables false
set_option linter.unusedSimpArgs false

def okX (n x : Int) : Bool := decide (x ≠ 0 ∧ x < n ∧ -n < x)
def bfault (n : Int) (w : List Int) : Int := if n < 1 ∨ 6 < n then 1 else if 30 < w.length then 2 else if w.all (okX n) then 0 else 3
theorem bfault_zero {n : Int} {w : List Int} (h : bfault n w = 0) : 1 ≤ n ∧ n ≤ 6 ∧ w.length ≤ 30 ∧ ∀ x ∈ w, x ≠ 0 ∧ x < n ∧ -n < x := by
  unfold bfault at h
  split at h
  · omega
  · next h1 =>
    split at h
    · omega
    · next h2 =>
      split at h
      · next h3 => exact ⟨by omega, by omega, by omega, fun x hx => by simpa [okX] using List.all_eq_true.1 h3 x hx⟩
      · omega
theorem bfault_ok {n : Int} {w : List Int} (h1 : 1 ≤ n) (h6 : n ≤ 6) (h : w.length ≤ 30) (hw : ∀ x ∈ w, x ≠ 0 ∧ x < n ∧ -n < x) : bfault n w = 0 := by
  unfold bfault
  rw [if_neg (by omega), if_neg (by omega), if_pos (List.all_eq_true.2 fun x hx => by simpa [okX] using hw x hx)]
/-- Where a strand goes at a letter. -/
def stepE (at_ : Nat) (x : Int) : Nat := if at_ + 1 = x.natAbs then at_ + 1 else if at_ = x.natAbs then at_ - 1 else at_
def endE (w : List Int) (s : Nat) : Nat := w.foldl stepE s
def endsL (n : Nat) (w : List Int) : List Nat := (List.range n).map (endE w)
theorem endsL_length (n : Nat) (w : List Int) : (endsL n w).length = n := by simp [endsL]
theorem stepE_lt {n at_ : Nat} {x : Int} (hx : x ≠ 0) (h1 : x.natAbs < n) (h : at_ < n) : stepE at_ x < n := by
  unfold stepE
  split
  · omega
  · split <;> omega
theorem endE_lt {n : Nat} : ∀ {w : List Int}, okB n w → ∀ {s : Nat}, s < n → endE w s < n
  | [], _, s, h => h
  | x :: w, hw, s, h => by
    show endE w (stepE s x) < n
    exact endE_lt (fun y hy => hw y (by simp [hy])) (stepE_lt (hw x (by simp)).1 (hw x (by simp)).2 h)
theorem endE_append (u v : List Int) (s : Nat) : endE (u ++ v) s = endE v (endE u s) := by unfold endE; rw [List.foldl_append]
theorem endE_snoc (w : List Int) (x : Int) (s : Nat) : endE (w ++ [x]) s = stepE (endE w s) x := by rw [endE_append]; rfl
/-- Words that act alike on all strands. -/
def RelE (a b : List Int) : Prop := ∀ s, endE a s = endE b s
theorem stepE_neg (s : Nat) (x : Int) : stepE s (-x) = stepE s x := by unfold stepE; rw [Int.natAbs_neg]
theorem stepE_twice {x : Int} (h : x ≠ 0) (s : Nat) : stepE (stepE s x) x = s := by
  unfold stepE
  by_cases h1 : s + 1 = x.natAbs
  · rw [if_pos h1, if_neg (by omega), if_pos (by omega)]; omega
  · rw [if_neg h1]
    by_cases h2 : s = x.natAbs
    · rw [if_pos h2, if_pos (by omega)]; omega
    · rw [if_neg h2, if_neg h1, if_neg h2]
theorem relE_x {x : Int} (h : x ≠ 0) : RelE [x, -x] [] := fun s => by
  show stepE (stepE s x) (-x) = s
  rw [stepE_neg, stepE_twice h]
theorem endE_inv : ∀ (w : List Int), (∀ x ∈ w, x ≠ 0) → ∀ s, endE (w ++ invw w) s = s
  | [], _, _ => rfl
  | x :: w, h, s => by
    have e : invw (x :: w) = invw w ++ [-x] := by simp [invw]
    rw [e, show x :: w ++ (invw w ++ [-x]) = [x] ++ ((w ++ invw w) ++ [-x]) by simp, endE_append, endE_append, endE_inv w (fun y hy => h y (by simp [hy])), ← endE_append]
    exact relE_x (h x (by simp)) s
end Go.Proofs.Ytndgffiihbdppaa
/- Colors from letter to letter (mathematics of stage 15). -/
namespace Go.Proofs.Ytndgffiihbdppaa
set_option linter.unusedVariables false
set_option linter.unusedSimpArgs false

/-- The colors behind a letter. -/
def cSt (m x : Int) (c : List Int) : List Int :=
  if 0 < x then (c.set (x.natAbs - 1) ((2 * c.getD (x.natAbs - 1) 0 - c.getD x.natAbs 0) % m)).set x.natAbs (c.getD (x.natAbs - 1) 0)
  else (c.set (x.natAbs - 1) (c.getD x.natAbs 0)).set x.natAbs ((2 * c.getD x.natAbs 0 - c.getD (x.natAbs - 1) 0) % m)
/-- The colors behind a word. -/
def cCol (m : Int) (w : List Int) (c : List Int) : List Int := w.foldl (fun c x => cSt m x c) c
/-- Colors for n positions. -/
structure IsC (m : Int) (n : Nat) (c : List Int) : Prop where
  len : c.length = n
  col : ∀ j, j < n → 0 ≤ c.getD j 0 ∧ c.getD j 0 < m
theorem cSt_length (m x : Int) (c : List Int) : (cSt m x c).length = c.length := by unfold cSt; split <;> simp
theorem cSt_getD {m x : Int} {c : List Int} {n : Nat} (hl : c.length = n) (h0 : x ≠ 0) (h1 : x.natAbs < n) {j : Nat} (hj : j < n) :
    (cSt m x c).getD j 0 = if j + 1 = x.natAbs then (if 0 < x then (2 * c.getD j 0 - c.getD (j + 1) 0) % m else c.getD (j + 1) 0)
      else if j = x.natAbs then (if 0 < x then c.getD (j - 1) 0 else (2 * c.getD j 0 - c.getD (j - 1) 0) % m) else c.getD j 0 := by
  unfold cSt
  obtain ⟨i, hi⟩ : ∃ i, x.natAbs = i + 1 := ⟨x.natAbs - 1, by omega⟩
  rw [hi] at h1 ⊢
  rw [Nat.add_sub_cancel]
  have hs : ∀ (l : List Int) (k : Nat) (v : Int), k < l.length → (l.set k v).getD j 0 = if k = j then v else l.getD j 0 := fun l k v hk => by
    simp only [List.getD, List.getElem?_set]
    by_cases e : k = j
    · subst e; simp [hk]
    · simp [e]
  by_cases hx : 0 < x
  · rw [if_pos hx, hs _ _ _ (by simp; omega), hs _ _ _ (by omega)]
    by_cases e1 : j = i
    · subst e1; simp [hx]
    · by_cases e2 : j = i + 1
      · subst e2; simp [hx]
      · rw [if_neg (by omega), if_neg (by omega), if_neg (by omega), if_neg (by omega)]
  · rw [if_neg hx, hs _ _ _ (by simp; omega), hs _ _ _ (by omega)]
    by_cases e1 : j = i
    · subst e1; simp [hx]
    · by_cases e2 : j = i + 1
      · subst e2; simp [hx]
      · rw [if_neg (by omega), if_neg (by omega), if_neg (by omega), if_neg (by omega)]
theorem IsC.step {m x : Int} {c : List Int} {n : Nat} (h : IsC m n c) (h0 : x ≠ 0) (h1 : x.natAbs < n) : IsC m n (cSt m x c) := by
  refine ⟨by rw [cSt_length]; exact h.len, fun j hj => ?_⟩
  have hm : 0 < m := by have := h.col j hj; omega
  rw [cSt_getD h.len h0 h1 hj]
  have e : ∀ z : Int, 0 ≤ z % m ∧ z % m < m := fun z => ⟨Int.emod_nonneg _ (by omega), Int.emod_lt_of_pos _ hm⟩
  by_cases e1 : j + 1 = x.natAbs
  · rw [if_pos e1]
    split
    · exact e _
    · exact h.col _ (by omega)
  · rw [if_neg e1]
    by_cases e2 : j = x.natAbs
    · rw [if_pos e2]
      split
      · exact h.col _ (by omega)
      · exact e _
    · rw [if_neg e2]; exact h.col j hj
theorem IsC.word {m : Int} {n : Nat} : ∀ {w c : List Int}, (∀ x ∈ w, x ≠ 0 ∧ x.natAbs < n) → IsC m n c → IsC m n (cCol m w c)
  | [], c, _, h => h
  | x :: w, c, hw, h => IsC.word (w := w) (fun y hy => hw y (by simp [hy])) (h.step (hw x (by simp)).1 (hw x (by simp)).2)
end Go.Proofs.Ytndgffiihbdppaa
/- Closures that visit lists of numbers; timbref1.Permutations. -/
namespace Go.Proofs.Ytndgffiihbdppaa
set_option linter.unusedVariables false
set_option linter.unusedSimpArgs false
open Go.RowKit

theorem IL.kept {w w' : World} {A : Option Addr} {n : Nat} {xs : List Int} (h : IL w A n xs) {g : Nat} (hg : w.grownBy w' (some g)) (hne : ∀ ad, A = some ad → ad.block ≠ g) : IL w' A n xs :=
  ⟨h.len, h.small, fun hn => by
    obtain ⟨ad, e, hl, hc⟩ := h.mem hn
    refine ⟨ad, e, Nat.lt_of_lt_of_le hl hg.size, fun j hj => ?_⟩
    rw [hg.cell_far (ad.add j) (by rw [block_of_add]; exact hl) (by rw [block_of_add]; exact fun e' => hne ad e (by injection e'))]
    exact hc j hj⟩
theorem Blk.kept {w w' : World} {g k : Nat} {t : TypeId} {cs : Array Value} (h : Blk w k t cs) (hg : w.grownBy w' (some g)) (hne : k ≠ g) : Blk w' k t cs := h.grown hg (fun e => hne (by injection e))
section
variable {fid : FuncId} {caps : List Value} {g : Nat} {σ : Type} {J : σ → World → Prop} {step : σ → List Nat → σ} {n : Nat}
end
end Go.Proofs.Ytndgffiihbdppaa
/- Components of a closed braid, and colorings modulo 2 (mathematics of stage 16). -/
namespace Go.Proofs.Ytndgffiihbdppaa
set_option linter.unusedVariables false
set_option linter.unusedSimpArgs false

/-- The strands of each component, in increasing order; the components by their smallest strands. -/
def prtL (a : List Nat) : List (List Nat) := ((List.range a.length).filter fun i => isMin a i).map fun i => (List.range a.length).filter fun j => decide (j ∈ cyc a i)
/-- The smallest strand of a component. -/
def repS (a : List Nat) (s : Nat) : Nat := srch (fun p => isMin a p && decide (p ∈ cyc a s)) a.length 0
theorem isMin_iff {a : List Nat} {i : Nat} : isMin a i = true ↔ ∀ x ∈ cyc a i, i ≤ x := by unfold isMin; exact decide_eq_true_iff
theorem repS_spec {a : List Nat} (h : isP a) {s : Nat} (hs : s < a.length) : repS a s < a.length ∧ repS a s ∈ cyc a s ∧ isMin a (repS a s) = true := by
  obtain ⟨m, h1, h2, h3⟩ := min_ex h hs
  obtain ⟨k1, k2, k3, _⟩ := srch_spec (fun p => isMin a p && decide (p ∈ cyc a s)) a.length 0 ⟨m, Nat.zero_le _, by omega, by rw [h3, decide_eq_true h2]; rfl⟩
  rw [Bool.and_eq_true, decide_eq_true_iff] at k3
  exact ⟨by unfold repS; omega, k3.2, k3.1⟩
theorem repS_le {a : List Nat} (h : isP a) {s : Nat} (hs : s < a.length) : repS a s ≤ s := by
  obtain ⟨h1, h2, h3⟩ := repS_spec h hs
  exact isMin_iff.1 h3 s (cyc_symm h hs h2)
theorem repS_min {a : List Nat} (h : isP a) {s : Nat} (hs : s < a.length) : repS a s = s ↔ isMin a s = true := by
  obtain ⟨h1, h2, h3⟩ := repS_spec h hs
  refine ⟨fun e => by rw [e] at h3; exact h3, fun hm => ?_⟩
  have := isMin_iff.1 hm _ h2
  have := repS_le h hs
  omega
/-! ### colors modulo 2 -/
end Go.Proofs.Ytndgffiihbdppaa
/- timbmake.Letter, timbmake.Word. -/
namespace Go.Proofs.Ytndgffiihbdppaa
set_option linter.unusedVariables false
set_option linter.unusedSimpArgs false
open Go.RowKit

theorem letter_any (x : Int) (k : Nat) (w : World) (h0 : 0 < k) (hk : k ≤ 1000) :
    Calls Try.prog 49 #[.int .i64 x, .int .i64 k] w fun e w' => ∃ y : Int, e = .returned (.int .i64 y) ∧ y ≠ 0 ∧ -(k : Int) ≤ y ∧ y ≤ k ∧ w = w' := by
  have HM := hide (mbelow_any x (2 * k) w (by omega) (by omega))
  have h1 := Int.emod_nonneg x (show ((2 * k : Nat) : Int) ≠ 0 by omega)
  have h2 := Int.emod_lt_of_pos x (show (0 : Int) < ((2 * k : Nat) : Int) by omega)
  obtain ⟨z, hz⟩ : ∃ z, x % ((2 * k : Nat) : Int) = z := ⟨_, rfl⟩
  rw [hz] at HM h1 h2
  have e2 : ((2 * k : Nat) : Int) = 2 * (k : Int) := by omega
  rw [e2] at HM h2
  clear hz e2
  go_enter Try.func49, Try.ntmps49
  go_wp2_with fail
  refine HM.out.mono ?_
  rintro e w' ⟨rfl, rfl⟩
  by_cases hlt : z < k
  · go_wp2
    go_ret
    exact ⟨z + 1, rfl, by omega, by omega, by omega, rfl⟩
  · go_wp2
    go_ret
    exact ⟨_, rfl, by omega, by omega, by omega, rfl⟩

/-- The letters so far. -/
structure WoSt (w wr : World) (k : Nat) (A : Option Addr) (n c : Nat) (us : List Int) : Prop where
  own : OwnI wr w.heap.size A n c us
  ok : ∀ x ∈ us, x ≠ 0 ∧ x ≤ k ∧ -(k : Int) ≤ x
  below : Below w.heap.size w wr
set_option maxRecDepth 100000 in
set_option maxHeartbeats 2000000 in
theorem word_any (A : Option Addr) (k l c L : Nat) (xs : List Int) (w : World) (hx : IL w A l xs) (hc : l ≤ c) (h0 : 0 < k) (hk : k ≤ 1000) (hL : L ≤ 1000) :
    Calls Try.prog 16 #[.int .i64 k, .slice A l c, .int .i64 L] w fun e w' => ∃ us B m d, e = .returned (.slice B m d) ∧ OwnI w' w.heap.size B m d us ∧ (∀ x ∈ us, x ≠ 0 ∧ x ≤ k ∧ -(k : Int) ≤ x) ∧ m ≤ L ∧ Below w.heap.size w w' := by
  obtain ⟨i0, hi0, hz0, hz1, hz2⟩ := info_parts int_info
  have HX := hide hx
  have hsm := hx.small
  clear hx
  obtain ⟨K, hK⟩ : ∃ K, K = min l L := ⟨_, rfl⟩
  have hKl : K ≤ l := by omega
  have HP := hide (HX.out.pre hKl)
  have hK10 : K ≤ L := by omega
  go_enter Try.func16, Try.ntmps16
  go_upto_region 3 with fail
  all_goals
    first | (have e : K = L := by omega) | (have e : K = l := by omega)
    subst e
    clear hK
    go_loopw [7, 17] (fun ov iv wr => ∃ (i c7 : Nat) (A7 : Option Addr) (us : List Int), ov = .slice A7 i c7 ∧ iv = .int .i64 i ∧ i ≤ K ∧ WoSt w wr k A7 i c7 us) (fun _ iv _ => K - (intOf iv).toNat)
    case atStart => exact ⟨0, 0, none, [], rfl, rfl, by omega, ⟨OwnI.nil_ _ _, fun x hx => by simp at hx, Below.refl _ _⟩⟩
    case round =>
      obtain ⟨i, c7, A7, us, rfl, rfl, hi, hst⟩ := hrel
      by_cases hlt : i < K
      · obtain ⟨ad, rfl, hcl⟩ := (HP.out.below hst.below).at_ hlt
        generalize (xs.take K).getD i 0 = x at *
        go_wp2_with fail
        refine (letter_any x k wr h0 hk).mono ?_
        rintro e w2 ⟨y, rfl, hy0, hy1, hy2, rfl⟩
        have HST := hide hst
        have hs := hst.below.size
        clear hst hcl
        go_wp2_with (at_builtin; refine wpList_append_int _ rfl _ _ 22 rfl w.heap.size i0 Try.underlying22 hi0 hz0 hz1 hz2 A7 i c7 us rfl (HST.out.own.alloc _) (some ⟨_, 0, none⟩) 1 1 [y] rfl (IL.lit _ [y] (by simp) rfl rfl) (by omega) (by simp; omega) ?_; intro A8 c8 w8 hap)
        have hN : WoSt w w8 k A8 (i + 1) c8 (us ++ [y]) := by
          refine ⟨hap.own, fun z hz => ?_, (HST.out.below.alloc hs _).grown hap.grown (by simp; omega) (fun j hj => (HST.out.own.lt j (by rw [ownBlock_len A7 i (i + 1) c7 c7]; exact hj)).1)⟩
          rcases List.mem_append.1 hz with hz | hz
          · exact HST.out.ok z hz
          · obtain rfl : z = y := by simpa using hz
            exact ⟨hy0, hy2, hy1⟩
        clear hap
        go_roundw
        case rel => exact ⟨i + 1, c8, A8, _, by go_num, by go_num, by omega, hN⟩
        case measure => simp [intOf]; omega
      · go_wp2
        go_ret
        exact ⟨us, A7, i, c7, rfl, hst.own, hst.ok, by omega, hst.below⟩
end Go.Proofs.Ytndgffiihbdppaa
/- What package freegroup's functions are to answer (words alone), and what follows for the facts free and reduced that the laws begin with. -/
namespace Go.Proofs.Ytndgffiihbdppaa
set_option linter.unusedVariables false
set_option linter.unusedSimpArgs false
open Go.RowKit

/-- A slice and an error. -/
def GivesLE (w : World) (err : Int) (xs : List Int) (e : Ending) (w' : World) : Prop :=
  ∃ A n c, e = .returned (.tuple #[.slice A n c, .int .i64 err]) ∧ SL w' A n c xs ∧ Below w.heap.size w w'

/-- The same, the slice in memory that was not there before. -/
def GivesLEn (w : World) (err : Int) (xs : List Int) (e : Ending) (w' : World) : Prop :=
  ∃ A n c, e = .returned (.tuple #[.slice A n c, .int .i64 err]) ∧ SL w' A n c xs ∧ (0 < n → ∀ ad, A = some ad → w.heap.size ≤ ad.block) ∧ Below w.heap.size w w'
theorem GivesLEn.le {w : World} {err : Int} {xs : List Int} {e : Ending} {w' : World} (h : GivesLEn w err xs e w') : GivesLE w err xs e w' := by
  obtain ⟨A, n, c, h1, h2, _, h3⟩ := h
  exact ⟨A, n, c, h1, h2, h3⟩

end Go.Proofs.Ytndgffiihbdppaa
/- Slices of polynomials, and slices of these (words on memory). -/
namespace Go.Proofs.Ytndgffiihbdppaa
set_option linter.unusedVariables false
set_option linter.unusedSimpArgs false
open Go.RowKit

abbrev Po := Int × List Int
/-- A slice of polynomials that reads as ps. -/
structure SPo (w : World) (A : Option Addr) (n c : Nat) (ps : List Po) : Prop where
  len : ps.length = n
  small : n ≤ 17592186044416
  nil : A = none → n = 0 ∧ c = 0
  cap : n ≤ c
  mem : 0 < n → ∃ ad, A = some ad ∧ ad.block < w.heap.size ∧ ∀ j, j < n → ∃ B m d, w.cell? (ad.add (j * 2)) = some (.int .i64 (ps.getD j (0, [])).1) ∧ w.cell? ⟨(ad.add (j * 2)).block, (ad.add (j * 2)).off + 1, none⟩ = some (.slice B m d) ∧ SL w B m d (ps.getD j (0, [])).2 ∧ (Lit.int .i64 (ps.getD j (0, [])).1).wf = true
theorem SPo.below {w w' : World} {A : Option Addr} {n c : Nat} {ps : List Po} (h : SPo w A n c ps) (hb : Below w.heap.size w w') : SPo w' A n c ps :=
  ⟨h.len, h.small, h.nil, h.cap, fun hn => by
    obtain ⟨ad, e, hl, hc⟩ := h.mem hn
    refine ⟨ad, e, Nat.lt_of_lt_of_le hl hb.size, fun j hj => ?_⟩
    obtain ⟨B, m, d, h1, h2, h3, h4⟩ := hc j hj
    exact ⟨B, m, d, (hb.cell (p := ad.add (j * 2)) (by rw [block_of_add]; exact hl)).trans h1, (hb.cell (p := ⟨(ad.add (j * 2)).block, (ad.add (j * 2)).off + 1, none⟩) (by show (ad.add (j * 2)).block < _; rw [block_of_add]; exact hl)).trans h2, h3.below hb, h4⟩⟩
/-- A slice of slices of polynomials. -/
structure SPP (w : World) (A : Option Addr) (n c : Nat) (pss : List (List Po)) : Prop where
  len : pss.length = n
  small : n ≤ 17592186044416
  nil : A = none → n = 0 ∧ c = 0
  cap : n ≤ c
  mem : 0 < n → ∃ ad, A = some ad ∧ ad.block < w.heap.size ∧ ∀ j, j < n → ∃ B m d, w.cell? (ad.add j) = some (.slice B m d) ∧ SPo w B m d (pss.getD j [])
theorem SPP.below {w w' : World} {A : Option Addr} {n c : Nat} {pss : List (List Po)} (h : SPP w A n c pss) (hb : Below w.heap.size w w') : SPP w' A n c pss :=
  ⟨h.len, h.small, h.nil, h.cap, fun hn => by
    obtain ⟨ad, e, hl, hc⟩ := h.mem hn
    refine ⟨ad, e, Nat.lt_of_lt_of_le hl hb.size, fun j hj => ?_⟩
    obtain ⟨B, m, d, h1, h2⟩ := hc j hj
    exact ⟨B, m, d, (hb.cell (p := ad.add j) (by rw [block_of_add]; exact hl)).trans h1, h2.below hb⟩⟩
theorem SPP.at_ {w : World} {A : Option Addr} {n c k : Nat} {pss : List (List Po)} (h : SPP w A n c pss) (hk : k < n) : ∃ ad B m d, A = some ad ∧ w.cell? (ad.add k) = some (.slice B m d) ∧ SPo w B m d (pss.getD k []) := by
  obtain ⟨ad, e, _, hc⟩ := h.mem (by omega)
  obtain ⟨B, m, d, h1, h2⟩ := hc k hk
  exact ⟨ad, B, m, d, e, h1, h2⟩
theorem SPo.at_ {w : World} {A : Option Addr} {n c k : Nat} {ps : List Po} (h : SPo w A n c ps) (hk : k < n) : ∃ ad B m d, A = some ad ∧ w.cell? (ad.add (k * 2)) = some (.int .i64 (ps.getD k (0, [])).1) ∧ w.cell? ⟨(ad.add (k * 2)).block, (ad.add (k * 2)).off + 1, none⟩ = some (.slice B m d) ∧ SL w B m d (ps.getD k (0, [])).2 ∧ (Lit.int .i64 (ps.getD k (0, [])).1).wf = true := by
  obtain ⟨ad, e, _, hc⟩ := h.mem (by omega)
  obtain ⟨B, m, d, h1, h2, h3, h4⟩ := hc k hk
  exact ⟨ad, B, m, d, e, h1, h2, h3, h4⟩
end Go.Proofs.Ytndgffiihbdppaa
/- timbref1.PolyFault and Fits. -/
namespace Go.Proofs.Ytndgffiihbdppaa
set_option linter.unusedVariables false
set_option linter.unusedSimpArgs false
open Go.RowKit

theorem LP.pfl_big {lo : Int} {xs : List Int} (h : 200 < xs.length ∨ 1000 < lo ∨ lo < -1000) : LP.pfl lo xs = 2 := by unfold LP.pfl; rw [if_pos h]
theorem LP.pfl_bad {lo : Int} {xs : List Int} (h : ¬ (200 < xs.length ∨ 1000 < lo ∨ lo < -1000)) (h2 : (xs.length = 0 ∧ lo ≠ 0) ∨ (0 < xs.length ∧ (xs.getD 0 0 = 0 ∨ xs.getD (xs.length - 1) 0 = 0))) : LP.pfl lo xs = 3 := by unfold LP.pfl; rw [if_neg h, if_pos h2]
theorem LP.pfl_loop {lo : Int} {xs : List Int} (h : ¬ (200 < xs.length ∨ 1000 < lo ∨ lo < -1000)) (h2 : ¬ ((xs.length = 0 ∧ lo ≠ 0) ∨ (0 < xs.length ∧ (xs.getD 0 0 = 0 ∨ xs.getD (xs.length - 1) 0 = 0)))) : LP.pfl lo xs = if xs.all LP.okC then 0 else 1 := by unfold LP.pfl; rw [if_neg h, if_neg h2]
/-- The results of a function that returns a polynomial out of a block and an error. -/
theorem results_pe {fn : Func} {t u : Tmp} {b : Nat} {v0 v1 e : Value} {w : World} (h : fn.results = #[.cell t 36, .tmp u]) (tmps : Array Value) (ht : tmps.getD t undef = .pointer (some ⟨b, 0, none⟩)) (hu : tmps.getD u undef = e) (hb : Blk w b 36 #[v0, v1]) :
    (results fn tmps).run Try.prog w = .ok (.tuple #[.agg #[v0, v1], e]) w := by
  have h0 := hb.cell 0
  have h1 := hb.cell 1
  simp at h0 h1
  have ht2 : tmps[t]?.getD undef = .pointer (some ⟨b, 0, none⟩) := by simpa using ht
  have hu2 : tmps[u]?.getD undef = e := by simpa using hu
  simp [results, h, ht2, hu2, go_sem, h0, h1, Result.andThen]
/-- What Fits makes of a polynomial. -/
def LP.fitL (lo : Int) (cs : List Int) : PR := if pfl lo cs = 0 then (0, lo, cs) else (2, 0, [])
end Go.Proofs.Ytndgffiihbdppaa
/- The matrices of timbkeep1.PolyDetRows: entries, determinants of triangular matrices. -/
namespace Go.Proofs.Ytndgffiihbdppaa
set_option linter.unusedVariables false
set_option linter.unusedSimpArgs false

section
open CR
variable {R : Type} [CR R]
end

noncomputable def cP (x : LP) : Po := ((LP.canon x).1, (LP.canon x).2)
end Go.Proofs.Ytndgffiihbdppaa
/- What package braid's functions are to answer. -/
namespace Go.Proofs.Ytndgffiihbdppaa
set_option linter.unusedVariables false
set_option linter.unusedSimpArgs false
open Go.RowKit

def permE (n : Int) (w : List Int) : List Int := if bfault n w = 0 then zs (endsL n.toNat w) else []
def expoB (n : Int) (w : List Int) : Int := if bfault n w = 0 then LP.expo w else 0
def invB (n : Int) (w : List Int) : List Int := if bfault n w = 0 then invw w else []
def burE (n : Int) (w : List Int) : Int := if bfault n w = 0 then (if 16 < w.length then 2 else 0) else bfault n w
noncomputable def buL (n : Nat) (w : List Int) : List (List Po) := (List.range n).map fun i => (List.range n).map fun j => cP (bu n w i j)
noncomputable def burL (n : Int) (w : List Int) : List (List Po) := if burE n w = 0 then buL n.toNat w else []
/-- A matrix and an error. -/
def GivesMP (w : World) (err : Int) (pss : List (List Po)) (e : Ending) (w' : World) : Prop :=
  ∃ A n c, e = .returned (.tuple #[.slice A n c, .int .i64 err]) ∧ SPP w' A n c pss ∧ Below w.heap.size w w'
/-- Package braid, as the document asks. -/
structure BraidC : Prop where
  check : ∀ (m : Int) (A : Option Addr) (n c : Nat) (xs : List Int) (w : World), SL w A n c xs → (Lit.int .i64 m).wf = true → Calls Try.prog 55 #[.int .i64 m, .slice A n c] w fun e w' => e = .returned (.int .i64 (bfault m xs)) ∧ Below w.heap.size w w'
  perm : ∀ (m : Int) (A : Option Addr) (n c : Nat) (xs : List Int) (w : World), SL w A n c xs → (Lit.int .i64 m).wf = true → Calls Try.prog 29 #[.int .i64 m, .slice A n c] w (GivesLE w (bfault m xs) (permE m xs))
  expo : ∀ (m : Int) (A : Option Addr) (n c : Nat) (xs : List Int) (w : World), SL w A n c xs → (Lit.int .i64 m).wf = true → Calls Try.prog 27 #[.int .i64 m, .slice A n c] w fun e w' => e = .returned (.tuple #[.int .i64 (expoB m xs), .int .i64 (bfault m xs)]) ∧ Below w.heap.size w w'
  inverse : ∀ (m : Int) (A : Option Addr) (n c : Nat) (xs : List Int) (w : World), SL w A n c xs → (Lit.int .i64 m).wf = true → Calls Try.prog 26 #[.int .i64 m, .slice A n c] w (GivesLE w (bfault m xs) (invB m xs))
  burau : ∀ (m : Int) (A : Option Addr) (n c : Nat) (xs : List Int) (w : World), SL w A n c xs → (Lit.int .i64 m).wf = true → Calls Try.prog 82 #[.int .i64 m, .slice A n c] w (GivesMP w (burE m xs) (burL m xs))

end Go.Proofs.Ytndgffiihbdppaa
/- Where strands end: permutations of braid words (mathematics). -/
namespace Go.Proofs.Ytndgffiihbdppaa
set_option linter.unusedVariables false
set_option linter.unusedSimpArgs false

theorem endsL_getD {n j : Nat} (w : List Int) (hj : j < n) : (endsL n w).getD j 0 = endE w j := by
  simp [endsL, List.getD, hj]
theorem endE_inj {w : List Int} (h : ∀ x ∈ w, x ≠ 0) {s t : Nat} (e : endE w s = endE w t) : s = t := by
  have h1 := endE_inv w h s
  have h2 := endE_inv w h t
  rw [endE_append] at h1 h2
  rw [← h1, e, h2]
theorem ends_isP {n : Nat} {w : List Int} (h : okB n w) : isP (endsL n w) := by
  refine ⟨fun x hx => ?_, ?_⟩
  · rw [endsL_length]
    obtain ⟨s, hs, rfl⟩ := List.mem_map.1 hx
    exact endE_lt h (List.mem_range.1 hs)
  · unfold endsL
    rw [List.nodup_iff_pairwise_ne, List.pairwise_map]
    exact List.nodup_range.imp fun hne e => hne (endE_inj (fun x hx => (h x hx).1) e)
end Go.Proofs.Ytndgffiihbdppaa
/- What package link is to answer. -/
namespace Go.Proofs.Ytndgffiihbdppaa
set_option linter.unusedVariables false
set_option linter.unusedSimpArgs false
open Go.RowKit

/-- The components of a closed braid. -/
def lkL (n : Int) (w : List Int) : List (List Int) := if bfault n w = 0 then (prtL (endsL n.toNat w)).map zs else []
/-- Where the component of a strand stands. -/
def lkAt (a : List Nat) (s : Nat) : Nat := (prtL a).findIdx fun c => decide (s ∈ c)
/-- The strand at a position behind a word. -/
def lkS (n : Nat) (w : List Int) (p : Nat) : Nat := (endsL n w).idxOf p
/-- What the crossings between two components add up to, each counted from both sides. -/
def lkSum (n : Nat) (a : List Nat) (i k : Nat) : List Int → List Int → Int
  | _, [] => 0
  | u, x :: w =>
    let s := lkAt a (lkS n u (x.natAbs - 1))
    let t := lkAt a (lkS n u x.natAbs)
    ((if s = i ∧ t = k then x.sign else 0) + (if t = i ∧ s = k then x.sign else 0)) + lkSum n a i k (u ++ [x]) w
/-- The linking numbers. -/
def lkM (n : Int) (w : List Int) : List (List Int) :=
  if bfault n w = 0 then (List.range (prtL (endsL n.toNat w)).length).map fun i => (List.range (prtL (endsL n.toNat w)).length).map fun k => (lkSum n.toNat (endsL n.toNat w) i k [] w).tdiv 2 else []
def lkK (n : Int) (w : List Int) : Bool := decide (bfault n w = 0) && decide ((prtL (endsL n.toNat w)).length = 1)
/-- Lists of lists and an error. -/
def GivesLK (w : World) (err : Int) (xss : List (List Int)) (e : Ending) (w' : World) : Prop :=
  ∃ A n c, e = .returned (.tuple #[.slice A n c, .int .i64 err]) ∧ SLL w' A n c xss ∧ Below w.heap.size w w'
/-- Package link, as the document asks. -/
structure LinkC : Prop where
  parts : ∀ (m : Int) (A : Option Addr) (n c : Nat) (xs : List Int) (w : World), SL w A n c xs → (Lit.int .i64 m).wf = true → Calls Try.prog 8 #[.int .i64 m, .slice A n c] w (GivesLK w (bfault m xs) (lkL m xs)) -- 8
  link : ∀ (m : Int) (A : Option Addr) (n c : Nat) (xs : List Int) (w : World), SL w A n c xs → (Lit.int .i64 m).wf = true → Calls Try.prog 9 #[.int .i64 m, .slice A n c] w (GivesLK w (bfault m xs) (lkM m xs)) -- 9
  knot : ∀ (m : Int) (A : Option Addr) (n c : Nat) (xs : List Int) (w : World), SL w A n c xs → (Lit.int .i64 m).wf = true → Calls Try.prog 10 #[.int .i64 m, .slice A n c] w fun e w' => e = .returned (.tuple #[.bool (lkK m xs), .int .i64 (bfault m xs)]) ∧ Below w.heap.size w w' -- 10
theorem lkK_ok {n : Nat} {w : List Int} (h : bfault (n : Int) w = 0) : lkK (n : Int) w = decide ((prtL (endsL n w)).length = 1) := by
  unfold lkK
  rw [decide_eq_true h, Bool.true_and, Int.toNat_natCast]
theorem prtL_le (a : List Nat) : (prtL a).length ≤ a.length := by
  unfold prtL
  rw [List.length_map]
  refine Nat.le_trans (List.length_filter_le _ _) (by rw [List.length_range]; exact Nat.le_refl _)
/-- The example of the document. -/
theorem lk_11 : lkM 2 [1, 1] = [[0, 1], [1, 0]] ∧ lkM 2 [-1, -1] = [[0, -1], [-1, 0]] := by decide +kernel
end Go.Proofs.Ytndgffiihbdppaa
