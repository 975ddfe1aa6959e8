/- Several texts in one. -/
import Derived.Test.YtndgffiihbdppaaDoorPart1
import Derived.Test.YtndgffiihbdppaaDoorBase1
import Derived.Deep.DeepCutAuto
import Derived.Test.YtndgffiihbdppaaDoorPart2
import Derived.Handy
import Derived.Laws.EntriesVeiled
/- Slices of polynomials, and slices of these (words on memory). -/
namespace Go.Proofs.YtndgffiihbdppaaDoor
set_option linter.unusedVariables false
set_option linter.unusedSimpArgs false
open Go.RowKit

abbrev Po := Int × List Int
/-- A slice of polynomials that reads as ps. -/
structure SPo (w : World) (A : Option Addr) (n c : Nat) (ps : List Po) : Prop where
  len : ps.length = n
  small : n ≤ 17592186044416
  nil : A = none → n = 0 ∧ c = 0
  cap : n ≤ c
  mem : 0 < n → ∃ ad, A = some ad ∧ ad.block < w.heap.size ∧ ∀ j, j < n → ∃ B m d, w.cell? (ad.add (j * 2)) = some (.int .i64 (ps.getD j (0, [])).1) ∧ w.cell? ⟨(ad.add (j * 2)).block, (ad.add (j * 2)).off + 1, none⟩ = some (.slice B m d) ∧ SL w B m d (ps.getD j (0, [])).2 ∧ (Lit.int .i64 (ps.getD j (0, [])).1).wf = true
theorem SPo.below {w w' : World} {A : Option Addr} {n c : Nat} {ps : List Po} (h : SPo w A n c ps) (hb : Below w.heap.size w w') : SPo w' A n c ps :=
  ⟨h.len, h.small, h.nil, h.cap, fun hn => by
    obtain ⟨ad, e, hl, hc⟩ := h.mem hn
    refine ⟨ad, e, Nat.lt_of_lt_of_le hl hb.size, fun j hj => ?_⟩
    obtain ⟨B, m, d, h1, h2, h3, h4⟩ := hc j hj
    exact ⟨B, m, d, (hb.cell (p := ad.add (j * 2)) (by rw [block_of_add]; exact hl)).trans h1, (hb.cell (p := ⟨(ad.add (j * 2)).block, (ad.add (j * 2)).off + 1, none⟩) (by show (ad.add (j * 2)).block < _; rw [block_of_add]; exact hl)).trans h2, h3.below hb, h4⟩⟩
/-- A slice of slices of polynomials. -/
structure SPP (w : World) (A : Option Addr) (n c : Nat) (pss : List (List Po)) : Prop where
  len : pss.length = n
  small : n ≤ 17592186044416
  nil : A = none → n = 0 ∧ c = 0
  cap : n ≤ c
  mem : 0 < n → ∃ ad, A = some ad ∧ ad.block < w.heap.size ∧ ∀ j, j < n → ∃ B m d, w.cell? (ad.add j) = some (.slice B m d) ∧ SPo w B m d (pss.getD j [])
theorem SPP.below {w w' : World} {A : Option Addr} {n c : Nat} {pss : List (List Po)} (h : SPP w A n c pss) (hb : Below w.heap.size w w') : SPP w' A n c pss :=
  ⟨h.len, h.small, h.nil, h.cap, fun hn => by
    obtain ⟨ad, e, hl, hc⟩ := h.mem hn
    refine ⟨ad, e, Nat.lt_of_lt_of_le hl hb.size, fun j hj => ?_⟩
    obtain ⟨B, m, d, h1, h2⟩ := hc j hj
    exact ⟨B, m, d, (hb.cell (p := ad.add j) (by rw [block_of_add]; exact hl)).trans h1, h2.below hb⟩⟩
theorem SPP.at_ {w : World} {A : Option Addr} {n c k : Nat} {pss : List (List Po)} (h : SPP w A n c pss) (hk : k < n) : ∃ ad B m d, A = some ad ∧ w.cell? (ad.add k) = some (.slice B m d) ∧ SPo w B m d (pss.getD k []) := by
  obtain ⟨ad, e, _, hc⟩ := h.mem (by omega)
  obtain ⟨B, m, d, h1, h2⟩ := hc k hk
  exact ⟨ad, B, m, d, e, h1, h2⟩
theorem SPo.at_ {w : World} {A : Option Addr} {n c k : Nat} {ps : List Po} (h : SPo w A n c ps) (hk : k < n) : ∃ ad B m d, A = some ad ∧ w.cell? (ad.add (k * 2)) = some (.int .i64 (ps.getD k (0, [])).1) ∧ w.cell? ⟨(ad.add (k * 2)).block, (ad.add (k * 2)).off + 1, none⟩ = some (.slice B m d) ∧ SL w B m d (ps.getD k (0, [])).2 ∧ (Lit.int .i64 (ps.getD k (0, [])).1).wf = true := by
  obtain ⟨ad, e, _, hc⟩ := h.mem (by omega)
  obtain ⟨B, m, d, h1, h2, h3, h4⟩ := hc k hk
  exact ⟨ad, B, m, d, e, h1, h2, h3, h4⟩
end Go.Proofs.YtndgffiihbdppaaDoor
/- timbref1.PolyFault and Fits. -/
namespace Go.Proofs.YtndgffiihbdppaaDoor
set_option linter.unusedVariables false
set_option linter.unusedSimpArgs false
open Go.RowKit

theorem LP.pfl_big {lo : Int} {xs : List Int} (h : 200 < xs.length ∨ 1000 < lo ∨ lo < -1000) : LP.pfl lo xs = 2 := by unfold LP.pfl; rw [if_pos h]
theorem LP.pfl_bad {lo : Int} {xs : List Int} (h : ¬ (200 < xs.length ∨ 1000 < lo ∨ lo < -1000)) (h2 : (xs.length = 0 ∧ lo ≠ 0) ∨ (0 < xs.length ∧ (xs.getD 0 0 = 0 ∨ xs.getD (xs.length - 1) 0 = 0))) : LP.pfl lo xs = 3 := by unfold LP.pfl; rw [if_neg h, if_pos h2]
theorem LP.pfl_loop {lo : Int} {xs : List Int} (h : ¬ (200 < xs.length ∨ 1000 < lo ∨ lo < -1000)) (h2 : ¬ ((xs.length = 0 ∧ lo ≠ 0) ∨ (0 < xs.length ∧ (xs.getD 0 0 = 0 ∨ xs.getD (xs.length - 1) 0 = 0)))) : LP.pfl lo xs = if xs.all LP.okC then 0 else 1 := by unfold LP.pfl; rw [if_neg h, if_neg h2]
/-- The results of a function that returns a polynomial out of a block and an error. -/
theorem results_pe {fn : Func} {t u : Tmp} {b : Nat} {v0 v1 e : Value} {w : World} (h : fn.results = #[.cell t 50, .tmp u]) (tmps : Array Value) (ht : tmps.getD t undef = .pointer (some ⟨b, 0, none⟩)) (hu : tmps.getD u undef = e) (hb : Blk w b 50 #[v0, v1]) :
    (results fn tmps).run Tryd.prog w = .ok (.tuple #[.agg #[v0, v1], e]) w := by
  have h0 := hb.cell 0
  have h1 := hb.cell 1
  simp at h0 h1
  have ht2 : tmps[t]?.getD undef = .pointer (some ⟨b, 0, none⟩) := by simpa using ht
  have hu2 : tmps[u]?.getD undef = e := by simpa using hu
  simp [results, h, ht2, hu2, go_sem, h0, h1, Result.andThen]
/-- What Fits makes of a polynomial. -/
def LP.fitL (lo : Int) (cs : List Int) : PR := if pfl lo cs = 0 then (0, lo, cs) else (2, 0, [])
end Go.Proofs.YtndgffiihbdppaaDoor
/- The matrices of timbkeep1.PolyDetRows: entries, determinants of triangular matrices. -/
namespace Go.Proofs.YtndgffiihbdppaaDoor
set_option linter.unusedVariables false
set_option linter.unusedSimpArgs false

section
open CR
variable {R : Type} [CR R]
end

noncomputable def cP (x : LP) : Po := ((LP.canon x).1, (LP.canon x).2)
end Go.Proofs.YtndgffiihbdppaaDoor
/- What package braid's functions are to answer. -/
namespace Go.Proofs.YtndgffiihbdppaaDoor
set_option linter.unusedVariables false
set_option linter.unusedSimpArgs false
open Go.RowKit

def permE (n : Int) (w : List Int) : List Int := if bfault n w = 0 then zs (endsL n.toNat w) else []
def burE (n : Int) (w : List Int) : Int := if bfault n w = 0 then (if 16 < w.length then 2 else 0) else bfault n w
noncomputable def buL (n : Nat) (w : List Int) : List (List Po) := (List.range n).map fun i => (List.range n).map fun j => cP (bu n w i j)
noncomputable def burL (n : Int) (w : List Int) : List (List Po) := if burE n w = 0 then buL n.toNat w else []
/-- A matrix and an error. -/
def GivesMP (w : World) (err : Int) (pss : List (List Po)) (e : Ending) (w' : World) : Prop :=
  ∃ A n c, e = .returned (.tuple #[.slice A n c, .int .i64 err]) ∧ SPP w' A n c pss ∧ Below w.heap.size w w'
/-- Package braid, as the document asks. -/
structure BraidC : Prop where
  check : ∀ (m : Int) (A : Option Addr) (n c : Nat) (xs : List Int) (w : World), SL w A n c xs → (Lit.int .i64 m).wf = true → Calls Tryd.prog 28 #[.int .i64 m, .slice A n c] w fun e w' => e = .returned (.int .i64 (bfault m xs)) ∧ Below w.heap.size w w'
  perm : ∀ (m : Int) (A : Option Addr) (n c : Nat) (xs : List Int) (w : World), SL w A n c xs → (Lit.int .i64 m).wf = true → Calls Tryd.prog 27 #[.int .i64 m, .slice A n c] w (GivesLE w (bfault m xs) (permE m xs))
  burau : ∀ (m : Int) (A : Option Addr) (n c : Nat) (xs : List Int) (w : World), SL w A n c xs → (Lit.int .i64 m).wf = true → Calls Tryd.prog 52 #[.int .i64 m, .slice A n c] w (GivesMP w (burE m xs) (burL m xs))

end Go.Proofs.YtndgffiihbdppaaDoor
/- What package coloring is to answer. -/
namespace Go.Proofs.YtndgffiihbdppaaDoor
set_option linter.unusedVariables false
set_option linter.unusedSimpArgs false
open Go.RowKit

def colE (n : Int) (xs : List Int) (k : Int) : Int := if bfault n xs ≠ 0 then bfault n xs else if k < 1 ∨ 13 < k then 1 else 0
def badC (k : Int) (ys : List Int) : Bool := ys.any fun z => decide (z < 0) || decide (k ≤ z)
def proE (n : Int) (xs ys : List Int) (k : Int) : Int := if colE n xs k ≠ 0 then colE n xs k else if (ys.length : Int) ≠ n then 3 else if badC k ys then 1 else 0
def proV (n : Int) (xs ys : List Int) (k : Int) : List Int := if proE n xs ys k = 0 then cCol k xs ys else []
def colV (n : Int) (xs : List Int) (k : Int) : Int := if colE n xs k = 0 then (cntC n.toNat k.toNat xs : Int) else 0
/-- Package coloring, as the document asks. -/
structure ColC : Prop where
  prop : ∀ (m : Int) (A : Option Addr) (n c : Nat) (xs : List Int) (B : Option Addr) (l d : Nat) (ys : List Int) (k : Int) (w : World), SL w A n c xs → SL w B l d ys → (Lit.int .i64 m).wf = true → (Lit.int .i64 k).wf = true → Calls Tryd.prog 11 #[.int .i64 m, .slice A n c, .slice B l d, .int .i64 k] w (GivesLE w (proE m xs ys k) (proV m xs ys k)) -- 11
  count : ∀ (m : Int) (A : Option Addr) (n c : Nat) (xs : List Int) (k : Int) (w : World), SL w A n c xs → TabW w → (Lit.int .i64 m).wf = true → (Lit.int .i64 k).wf = true → Calls Tryd.prog 9 #[.int .i64 m, .slice A n c, .int .i64 k] w fun e w' => e = .returned (.tuple #[.int .i64 (colV m xs k), .int .i64 (colE m xs k)]) ∧ Below w.heap.size w w'
theorem colE_ok {n k : Nat} {xs : List Int} (h1 : 1 ≤ n) (h6 : n ≤ 6) (hx : okB n xs) (hl : xs.length ≤ 30) (hk1 : 1 ≤ k) (hk : k ≤ 13) : colE (n : Int) xs (k : Int) = 0 := by
  unfold colE
  rw [bfault_ok (by omega) (by omega) hl fun x h => by have := hx x h; omega, if_neg (by simp), if_neg (by omega)]
theorem badC_isC {n k : Nat} {ys : List Int} (h : IsC (k : Int) n ys) : badC (k : Int) ys = false := by
  unfold badC
  rw [List.any_eq_false]
  intro z hz
  obtain ⟨j, hj, rfl⟩ := List.mem_iff_getElem.1 hz
  have := h.col j (by rw [← h.len]; exact hj)
  rw [show ys.getD j 0 = ys[j] by simp [List.getD, hj]] at this
  simp
  omega
theorem isC_badC {n : Nat} {k : Int} {ys : List Int} (hl : ys.length = n) (h : badC k ys = false) : IsC k n ys := by
  refine ⟨hl, fun j hj => ?_⟩
  unfold badC at h
  rw [List.any_eq_false] at h
  have hj2 : j < ys.length := by omega
  have := h ys[j] (List.getElem_mem _)
  rw [show ys.getD j 0 = ys[j] by simp [List.getD, hj2]]
  simp at this
  omega
theorem proE_ok {n k : Nat} {xs ys : List Int} (h1 : 1 ≤ n) (h6 : n ≤ 6) (hx : okB n xs) (hl : xs.length ≤ 30) (hk1 : 1 ≤ k) (hk : k ≤ 13) (hc : IsC (k : Int) n ys) : proE (n : Int) xs ys (k : Int) = 0 := by
  unfold proE
  rw [colE_ok h1 h6 hx hl hk1 hk, if_neg (by simp), if_neg (by have := hc.len; omega), badC_isC hc]
  rfl
theorem proV_ok {n k : Nat} {xs ys : List Int} (h1 : 1 ≤ n) (h6 : n ≤ 6) (hx : okB n xs) (hl : xs.length ≤ 30) (hk1 : 1 ≤ k) (hk : k ≤ 13) (hc : IsC (k : Int) n ys) : proV (n : Int) xs ys (k : Int) = cCol k xs ys := by
  unfold proV
  rw [if_pos (proE_ok h1 h6 hx hl hk1 hk hc)]
theorem colV_ok {n k : Nat} {xs : List Int} (h1 : 1 ≤ n) (h6 : n ≤ 6) (hx : okB n xs) (hl : xs.length ≤ 30) (hk1 : 1 ≤ k) (hk : k ≤ 13) : colV (n : Int) xs (k : Int) = cntC n k xs := by
  unfold colV
  rw [if_pos (colE_ok h1 h6 hx hl hk1 hk), Int.toNat_natCast, Int.toNat_natCast]
theorem col_111 : colE 2 [1, 1, 1] 3 = 0 ∧ colV 2 [1, 1, 1] 3 = 9 := by decide +kernel
theorem col_1 : proE 2 [1] [0, 1] 3 = 0 ∧ proV 2 [1] [0, 1] 3 = [2, 0] := by decide +kernel

set_option maxRecDepth 100000 in
set_option maxHeartbeats 4000000 in
theorem colored_k (F : ColC) (w : World) (hT : TabW w) : Calls Tryd.prog 12 #[] w fun e w' => e = .returned (.bool true) ∧ Below w.heap.size w w' := by
  have HF := hide F
  have HTB := hide hT
  have HW := hide ((Below.refl w.heap.size w).alloc (Nat.le_refl _) (.cells #[.int .i64 1, .int .i64 1, .int .i64 1] 3))
  have HS := hide (SL.lit w [1, 1, 1] (by decide) rfl rfl)
  clear F hT
  go_enter Tryd.func12, Tryd.ntmps12
  go_wp2_with fail
  refine (HF.out.count 2 _ 3 3 [1, 1, 1] 3 _ HS.out (HTB.out.below HW.out) (by decide) (by decide)).mono ?_
  rintro e w1 ⟨rfl, hb⟩
  rw [col_111.1, col_111.2]
  replace HW := hide (HW.out.trans (hb.mono HW.out.size))
  clear hb HS
  go_upto_region 2 with fail
  have hb : Below w1.heap.size w1 ((w1.alloc (.cells #[.int .i64 1] 3)).alloc (.cells #[.int .i64 0, .int .i64 1] 3)) := ((Below.refl _ _).alloc (Nat.le_refl _) _).alloc (by simp) _
  have S1 := hide ((SL.lit w1 [1] (by simp) (cs := #[.int .i64 1]) rfl (m := 1) rfl).below ((Below.refl _ _).alloc (Nat.le_refl _) (.cells #[.int .i64 0, .int .i64 1] 3)))
  have S2 := hide (SL.lit (w1.alloc (.cells #[.int .i64 1] 3)) [0, 1] (by decide) rfl rfl)
  rw [World.size_alloc] at S2
  replace HW := hide (HW.out.trans (hb.mono HW.out.size))
  clear hb
  go_wp2_with fail
  refine (HF.out.prop 2 _ 1 1 [1] _ 2 2 [0, 1] 3 _ S1.out S2.out (by decide) (by decide)).mono ?_
  rintro e w2 ⟨Q, qn, qc, rfl, hs, hb⟩
  rw [col_1.2] at hs
  rw [col_1.1]
  replace HW := hide (HW.out.trans (hb.mono HW.out.size))
  have SQ := hide hs
  clear hs hb S1 S2
  have hb : Below w2.heap.size w2 (w2.alloc (.cells #[.int .i64 2, .int .i64 0] 3)) := (Below.refl _ _).alloc (Nat.le_refl _) _
  have S3 := hide (SL.lit w2 [2, 0] (by decide) rfl rfl)
  replace HW := hide (HW.out.trans (hb.mono HW.out.size))
  replace SQ := hide (SQ.out.below hb)
  clear hb
  go_wp2_with fail
  refine (equal_any Q _ qn 2 qc 2 [2, 0] [2, 0] _ SQ.out.il S3.out.il).mono ?_
  rintro e w3 ⟨rfl, hb⟩
  rw [eqB_true rfl]
  replace HW := hide (HW.out.trans (hb.mono HW.out.size))
  clear hb
  go_wp2_with fail
  go_ret
  exact ⟨rfl, HW.out⟩
end Go.Proofs.YtndgffiihbdppaaDoor
/- timbref1.MatrixFault: which lists of rows are matrices. -/
namespace Go.Proofs.YtndgffiihbdppaaDoor
set_option linter.unusedVariables false
set_option linter.unusedSimpArgs false
open Go.RowKit

def okE (x : Int) : Bool := decide (x ≤ 100 ∧ -100 ≤ x)
def mrow (k : Nat) (r : List Int) : Int := if 6 < r.length then 2 else if r.length ≠ k then 3 else if r.all okE then 0 else 1
def mrows (k : Nat) : List (List Int) → Int
  | [] => 0
  | r :: t => if mrow k r = 0 then mrows k t else mrow k r
def mfault (xss : List (List Int)) : Int := if 6 < xss.length then 2 else mrows (xss.getD 0 []).length xss
theorem mrows_step {k : Nat} {xss : List (List Int)} {j : Nat} (hj : j < xss.length) : mrows k (xss.drop j) = if mrow k (xss.getD j []) = 0 then mrows k (xss.drop (j + 1)) else mrow k (xss.getD j []) := by
  rw [List.drop_eq_getElem_cons hj]
  have e : xss.getD j [] = xss[j] := by simp [List.getD, List.getElem?_eq_getElem hj]
  rw [e]
  rfl
theorem mrows_zero {k : Nat} : ∀ {xss : List (List Int)}, mrows k xss = 0 → ∀ r ∈ xss, mrow k r = 0
  | [], _, r, hr => by cases hr
  | x :: t, h, r, hr => by
    unfold mrows at h
    by_cases h0 : mrow k x = 0
    · rw [if_pos h0] at h
      rcases List.mem_cons.1 hr with rfl | hr
      · exact h0
      · exact mrows_zero h r hr
    · rw [if_neg h0] at h
      exact absurd h h0
theorem mrow_zero {k : Nat} {r : List Int} (h : mrow k r = 0) : r.length = k ∧ k ≤ 6 ∧ ∀ x ∈ r, x ≤ 100 ∧ -100 ≤ x := by
  unfold mrow at h
  by_cases h1 : 6 < r.length
  · rw [if_pos h1] at h; cases h
  · rw [if_neg h1] at h
    by_cases h2 : r.length ≠ k
    · rw [if_pos h2] at h; cases h
    · rw [if_neg h2] at h
      by_cases h3 : r.all okE = true
      · exact ⟨by omega, by omega, fun x hx => by have := List.all_eq_true.1 h3 x hx; simpa [okE] using this⟩
      · rw [if_neg h3] at h; cases h
theorem mrow_ok {k : Nat} {r : List Int} (h1 : r.length = k) (h2 : k ≤ 6) (h3 : ∀ x ∈ r, x ≤ 100 ∧ -100 ≤ x) : mrow k r = 0 := by
  unfold mrow
  rw [if_neg (by omega), if_neg (by omega), if_pos (List.all_eq_true.2 fun x hx => by simpa [okE] using h3 x hx)]
theorem mrows_ok {k : Nat} : ∀ {xss : List (List Int)}, (∀ r ∈ xss, mrow k r = 0) → mrows k xss = 0
  | [], _ => rfl
  | x :: t, h => by
    unfold mrows
    rw [if_pos (h x (by simp)), mrows_ok fun r hr => h r (by simp [hr])]
/-- What a right matrix is. -/
theorem mfault_zero {xss : List (List Int)} (h : mfault xss = 0) : xss.length ≤ 6 ∧ (xss.getD 0 []).length ≤ 6 ∧ ∀ r ∈ xss, r.length = (xss.getD 0 []).length ∧ ∀ x ∈ r, x ≤ 100 ∧ -100 ≤ x := by
  unfold mfault at h
  by_cases h1 : 6 < xss.length
  · rw [if_pos h1] at h; cases h
  · rw [if_neg h1] at h
    refine ⟨by omega, ?_, fun r hr => ?_⟩
    · cases xss with
      | nil => simp
      | cons r t =>
        have := mrow_zero (mrows_zero h r (by simp))
        omega
    · have := mrow_zero (mrows_zero h r hr)
      exact ⟨this.1, this.2.2⟩
theorem mfault_ok {xss : List (List Int)} {k : Nat} (h1 : xss.length ≤ 6) (h2 : k ≤ 6) (h : ∀ r ∈ xss, r.length = k ∧ ∀ x ∈ r, x ≤ 100 ∧ -100 ≤ x) : mfault xss = 0 := by
  unfold mfault
  rw [if_neg (by omega)]
  cases xss with
  | nil => rfl
  | cons r t =>
    have e : ((r :: t).getD 0 []).length = k := (h r (by simp)).1
    rw [e]
    exact mrows_ok fun r hr => mrow_ok (h r hr).1 h2 (h r hr).2
theorem getD_memI {l : List Int} {j : Nat} (h : j < l.length) : l.getD j 0 ∈ l := by
  rw [show l.getD j 0 = l[j] by simp [List.getD, List.getElem?_eq_getElem h]]
  exact List.getElem_mem _
theorem all_take_okE {w : List Int} {k : Nat} (hk : k < w.length) : (w.take (k + 1)).all okE = ((w.take k).all okE && okE (w.getD k 0)) := by
  rw [List.take_succ_eq_append_getElem hk, List.all_append]
  simp [List.getD, List.getElem?_eq_getElem hk]

end Go.Proofs.YtndgffiihbdppaaDoor
/- Closures that visit lists of numbers; timbref1.Permutations. -/
namespace Go.Proofs.YtndgffiihbdppaaDoor
set_option linter.unusedVariables false
set_option linter.unusedSimpArgs false
open Go.RowKit

theorem IL.kept {w w' : World} {A : Option Addr} {n : Nat} {xs : List Int} (h : IL w A n xs) {g : Nat} (hg : w.grownBy w' (some g)) (hne : ∀ ad, A = some ad → ad.block ≠ g) : IL w' A n xs :=
  ⟨h.len, h.small, fun hn => by
    obtain ⟨ad, e, hl, hc⟩ := h.mem hn
    refine ⟨ad, e, Nat.lt_of_lt_of_le hl hg.size, fun j hj => ?_⟩
    rw [hg.cell_far (ad.add j) (by rw [block_of_add]; exact hl) (by rw [block_of_add]; exact fun e' => hne ad e (by injection e'))]
    exact hc j hj⟩
theorem Blk.kept {w w' : World} {g k : Nat} {t : TypeId} {cs : Array Value} (h : Blk w k t cs) (hg : w.grownBy w' (some g)) (hne : k ≠ g) : Blk w' k t cs := h.grown hg (fun e => hne (by injection e))
theorem grownBy_of_below {w w' : World} (h : Below w.heap.size w w') (g : Option Nat) : w.grownBy w' g := ⟨h.os, h.tape, h.output, h.size, fun k hk _ => h.block k hk⟩

section
variable {fid : FuncId} {caps : List Value} {g : Nat} {σ : Type} {J : σ → World → Prop} {step : σ → List Nat → σ} {n : Nat}
end
end Go.Proofs.YtndgffiihbdppaaDoor
/- timbref1.Determinant. -/
namespace Go.Proofs.YtndgffiihbdppaaDoor
set_option linter.unusedVariables false
set_option linter.unusedSimpArgs false
open Go.RowKit

/-- The entries of a matrix. -/
def matF (xss : List (List Int)) : Mtx Int := fun i j => (xss.getD i []).getD j 0
theorem abs_mul_le {a b : Int} {x y : Nat} (ha : a.natAbs ≤ x) (hb : b.natAbs ≤ y) : (a * b).natAbs ≤ x * y := by
  rw [Int.natAbs_mul]
  exact Nat.mul_le_mul ha hb
theorem grownBy_set1 (w : World) (b i : Nat) (v : Value) : w.grownBy (w.setCell ⟨b, i, none⟩ v) (some b) :=
  ⟨rfl, rfl, rfl, by simp, fun k _ hk => Below.heap_setCell w _ v k (fun e => hk (by rw [e]))⟩
theorem natAbs_sum_le {B : Nat} {f : Nat → Int} : ∀ {n : Nat}, (∀ i, i < n → (f i).natAbs ≤ B) → (CR.sumN n f).natAbs ≤ n * B
  | 0, _ => by simp [CR.sumN_zero]
  | n + 1, h => by
    rw [CR.sumN_succ]
    have h1 := natAbs_sum_le (n := n) fun i hi => h i (by omega)
    have h2 := h n (by omega)
    have h3 := Int.natAbs_add_le (CR.sumN n f) (f n)
    rw [Nat.add_one_mul]
    exact Nat.le_trans h3 (by omega)
theorem detR_le {B : Nat} : ∀ (n : Nat) (M : Mtx Int), (∀ i, i < n → ∀ j, j < n → (M i j).natAbs ≤ B) → (detR n M).natAbs ≤ fct n * B ^ n
  | 0, M, _ => by simp [detR, fct]
  | n + 1, M, h => by
    have := natAbs_sum_le (B := B * (fct n * B ^ n)) (n := n + 1) (f := fun j => CR.sgR Int j * (M 0 j * detR n fun a b => M (a + 1) (CR.skip j b))) (fun j hj => by
      have h1 : (CR.sgR Int j).natAbs ≤ 1 := by unfold CR.sgR; split <;> decide
      have h2 := abs_mul_le (h 0 (by omega) j hj) (detR_le n (fun a b => M (a + 1) (CR.skip j b)) fun a ha b hb => h _ (by omega) _ (skip_lt hb))
      have h3 := abs_mul_le h1 h2
      rwa [Nat.one_mul] at h3)
    refine Nat.le_trans this (Nat.le_of_eq ?_)
    show _ = (n + 1) * fct n * B ^ (n + 1)
    rw [Nat.pow_succ]
    ac_rfl

end Go.Proofs.YtndgffiihbdppaaDoor
/- What package intmatrix's functions are to answer. -/
namespace Go.Proofs.YtndgffiihbdppaaDoor
set_option linter.unusedVariables false
set_option linter.unusedSimpArgs false
open Go.RowKit

def colsM (xss : List (List Int)) : Nat := (xss.getD 0 []).length
noncomputable def smithS (n m : Nat) (A : Mtx Int) : Nat → Int := Classical.choose (smith n m A)
theorem smithS_chain (n m : Nat) (A : Mtx Int) : ∀ i, i + 1 < min n m → smithS n m A i ∣ smithS n m A (i + 1) := (Classical.choose_spec (smith n m A)).1
theorem smithS_el (n m : Nat) (A : Mtx Int) : El n m A (diagM (smithS n m A)) := (Classical.choose_spec (smith n m A)).2
/-- The digit i of t in base q. -/
def digI (q t i : Nat) : Int := ((t / q ^ i % q : Nat) : Int)
def dotI (r : List Int) (v : Nat → Int) : Int := CR.sumN r.length fun i => r.getD i 0 * v i
/-- Is the vector of the digits of t a solution? -/
def solB (xss : List (List Int)) (q t : Nat) : Bool := xss.all fun r => dotI r (digI q t) % (q : Int) == 0
def solN (xss : List (List Int)) (m q : Nat) : Nat := (List.range (q ^ m)).countP fun t => solB xss q t
def solE (xss : List (List Int)) (q : Int) : Int := if mfault xss = 0 then (if q < 1 ∨ 13 < q then 1 else 0) else mfault xss
def solV (xss : List (List Int)) (q : Int) : Int := if solE xss q = 0 then (solN xss (colsM xss) q.toNat : Nat) else 0

/-! ### the matrix [2 0] [0 3] -/
/-- A right matrix: its rows are as long as the first one, its entries small. -/
theorem mat_rows {xss : List (List Int)} (h : mfault xss = 0) : xss.length ≤ 6 ∧ colsM xss ≤ 6 ∧ (∀ i, i < xss.length → (xss.getD i []).length = colsM xss) ∧ ∀ i j, (matF xss i j).natAbs ≤ 100 := by
  obtain ⟨h1, h2, h3⟩ := mfault_zero h
  have hm : ∀ i, i < xss.length → xss.getD i [] ∈ xss := fun i hi => by
    rw [show xss.getD i [] = xss[i] by simp [List.getD, List.getElem?_eq_getElem hi]]
    exact List.getElem_mem _
  refine ⟨h1, h2, fun i hi => (h3 _ (hm i hi)).1, fun i j => ?_⟩
  unfold matF
  by_cases hi : i < xss.length
  · by_cases hj : j < (xss.getD i []).length
    · have := (h3 _ (hm i hi)).2 _ (getD_memI hj)
      omega
    · have : (xss.getD i []).getD j 0 = 0 := by rw [List.getD_eq_getElem?_getD, List.getElem?_eq_none (by omega)]; rfl
      rw [this]; decide
  · have : xss.getD i [] = [] := by rw [List.getD_eq_getElem?_getD, List.getElem?_eq_none (by omega)]; rfl
    rw [this]; simp
end Go.Proofs.YtndgffiihbdppaaDoor
/- timbref1.Zeros: solutions are counted by trying all vectors. -/
namespace Go.Proofs.YtndgffiihbdppaaDoor
set_option linter.unusedVariables false
set_option linter.unusedSimpArgs false
open Go.RowKit

/-! ### digits -/
theorem dig_zero (q j : Nat) : digI q 0 j = 0 := by simp [digI]

end Go.Proofs.YtndgffiihbdppaaDoor
/- Solutions modulo two numbers without common divisors are counted together. -/
namespace Go.Proofs.YtndgffiihbdppaaDoor
set_option linter.unusedVariables false
set_option linter.unusedSimpArgs false
open Go.RowKit

def sN : Nat → (Nat → Nat) → Nat
  | 0, _ => 0
  | k + 1, f => sN k f + f k
theorem sN_congr {k : Nat} {f g : Nat → Nat} (h : ∀ i, i < k → f i = g i) : sN k f = sN k g := by
  induction k with
  | zero => rfl
  | succ k ih => show sN k f + f k = sN k g + g k; rw [ih fun i hi => h i (by omega), h k (by omega)]
theorem countP_split (a : Nat) (p : Nat → Bool) : ∀ b, (List.range (a * b)).countP p = sN b fun x => (List.range a).countP fun s => p (x * a + s)
  | 0 => rfl
  | b + 1 => by
    show _ = sN b _ + _
    rw [← countP_split a p b, Nat.mul_add, Nat.mul_one, List.range_add, List.countP_append, List.countP_map]
    congr 1
    refine List.countP_congr fun s _ => ?_
    rw [Nat.mul_comm]
    rfl

/-- The solutions of k columns with c on the left. -/
def cntS (xss : List (List Int)) (q : Nat) : Nat → (Nat → Int) → Nat
  | 0, c => if ∀ i, i < xss.length → c i % (q : Int) = 0 then 1 else 0
  | k + 1, c => sN q fun x => cntS xss q k fun i => c i + (x : Int) * matF xss i k

theorem digI_low {q k x s j : Nat} (hq : 0 < q) (hj : j < k) : digI q (x * q ^ k + s) j = digI q s j := by
  unfold digI
  obtain ⟨d, rfl⟩ : ∃ d, k = j + (d + 1) := ⟨k - j - 1, by omega⟩
  rw [show x * q ^ (j + (d + 1)) + s = s + q ^ j * (x * q ^ d * q) by rw [Nat.pow_add, Nat.pow_succ, Nat.add_comm]; congr 1; grind]
  rw [Nat.add_mul_div_left _ _ (Nat.pow_pos hq), Nat.add_mul_mod_self_right]
theorem digI_top {q k x s : Nat} (hq : 0 < q) (hx : x < q) (hs : s < q ^ k) : digI q (x * q ^ k + s) k = x := by
  unfold digI
  rw [show x * q ^ k + s = s + q ^ k * x by rw [Nat.add_comm, Nat.mul_comm], Nat.add_mul_div_left _ _ (Nat.pow_pos hq), Nat.div_eq_of_lt hs, Nat.zero_add, Nat.mod_eq_of_lt hx]
theorem cntS_eq (xss : List (List Int)) {q : Nat} (hq : 0 < q) : ∀ (k : Nat) (c : Nat → Int),
    (List.range (q ^ k)).countP (fun t => decide (∀ i, i < xss.length → (c i + CR.sumN k fun j => matF xss i j * digI q t j) % (q : Int) = 0)) = cntS xss q k c
  | 0, c => by
    rw [Nat.pow_zero]
    show List.countP _ [0] = _
    rw [List.countP_singleton]
    unfold cntS
    simp only [CR.sumN_zero, decide_eq_true_eq]
    simp
  | k + 1, c => by
    rw [Nat.pow_succ, countP_split]
    show _ = sN q fun x => cntS xss q k fun i => c i + (x : Int) * matF xss i k
    refine sN_congr fun x hx => ?_
    rw [← cntS_eq xss hq k]
    refine List.countP_congr fun s hs => ?_
    have hs := List.mem_range.1 hs
    simp only [decide_eq_true_eq]
    refine forall_congr' fun i => ?_
    refine imp_congr_right fun hi => ?_
    rw [CR.sumN_succ, digI_top hq hx hs]
    have h : (CR.sumN k fun j => matF xss i j * digI q (x * q ^ k + s) j) = CR.sumN k fun j => matF xss i j * digI q s j := CR.sumN_congr fun j hj => by rw [digI_low hq hj]
    rw [h]
    generalize (CR.sumN k fun j => matF xss i j * digI q s j) = S
    have e : c i + (S + matF xss i k * (x : Int)) = c i + (x : Int) * matF xss i k + S := by
      rw [Int.mul_comm (x : Int)]; omega
    rw [e]
theorem solN_cnt {xss : List (List Int)} {m q : Nat} (hq : 0 < q) (hm : ∀ i, i < xss.length → (xss.getD i []).length = m) : solN xss m q = cntS xss q m fun _ => 0 := by
  rw [← cntS_eq xss hq]
  unfold solN
  refine List.countP_congr fun t _ => ?_
  unfold solB
  rw [List.all_eq_true, decide_eq_true_eq]
  constructor
  · intro h i hi
    have e : xss.getD i [] = xss[i] := by simp [List.getD, List.getElem?_eq_getElem hi]
    have h2 := h (xss.getD i []) (by rw [e]; exact List.getElem_mem _)
    unfold dotI at h2
    rw [hm i hi] at h2
    rw [Int.zero_add]
    have h3 : (CR.sumN m fun j => (xss.getD i []).getD j 0 * digI q t j) % (q : Int) = 0 := eq_of_beq h2
    exact h3
  · intro h r hr
    obtain ⟨i, hi, rfl⟩ := List.getElem_of_mem hr
    have e : xss.getD i [] = xss[i] := by simp [List.getD, List.getElem?_eq_getElem hi]
    have h2 := h i hi
    rw [Int.zero_add] at h2
    unfold dotI
    rw [← e, hm i hi]
    have h3 : (CR.sumN m fun j => (xss.getD i []).getD j 0 * digI q t j) % (q : Int) = 0 := h2
    rw [h3]; rfl
theorem cntS_mod (xss : List (List Int)) (q : Nat) : ∀ (k : Nat) (c c' : Nat → Int), (∀ i, i < xss.length → c i % (q : Int) = c' i % (q : Int)) → cntS xss q k c = cntS xss q k c'
  | 0, c, c', h => by
    unfold cntS
    have : (∀ i, i < xss.length → c i % (q : Int) = 0) ↔ (∀ i, i < xss.length → c' i % (q : Int) = 0) := forall_congr' fun i => imp_congr_right fun hi => by rw [h i hi]
    simp only [this]
  | k + 1, c, c', h => by
    show sN q _ = sN q _
    refine sN_congr fun x _ => cntS_mod xss q k _ _ fun i hi => ?_
    rw [Int.add_emod, h i hi, ← Int.add_emod]

structure GoodPair (p q : Nat) : Prop where
  sum : ∀ F G : Nat → Nat, sN (p * q) (fun x => F (x % p) * G (x % q)) = sN p F * sN q G
  div : ∀ a : Int, a % ((p * q : Nat) : Int) = 0 ↔ a % (p : Int) = 0 ∧ a % (q : Int) = 0
theorem cnt_red (xss : List (List Int)) {p : Nat} (k x : Nat) (c : Nat → Int) : (cntS xss p k fun i => c i + (x : Int) * matF xss i k) = cntS xss p k fun i => c i + ((x % p : Nat) : Int) * matF xss i k := by
  refine cntS_mod xss p k _ _ fun i hi => ?_
  have h : (x : Int) = (p : Int) * ((x / p : Nat) : Int) + ((x % p : Nat) : Int) := by
    have := Nat.div_add_mod x p
    exact_mod_cast this.symm
  rw [show c i + (x : Int) * matF xss i k = (c i + ((x % p : Nat) : Int) * matF xss i k) + (p : Int) * (((x / p : Nat) : Int) * matF xss i k) by rw [h]; grind, Int.add_mul_emod_self_left]
theorem cntS_mul (xss : List (List Int)) {p q : Nat} (h : GoodPair p q) : ∀ (k : Nat) (c : Nat → Int), cntS xss (p * q) k c = cntS xss p k c * cntS xss q k c
  | 0, c => by
    unfold cntS
    have e : (∀ i, i < xss.length → c i % ((p * q : Nat) : Int) = 0) ↔ (∀ i, i < xss.length → c i % (p : Int) = 0) ∧ (∀ i, i < xss.length → c i % (q : Int) = 0) :=
      ⟨fun h1 => ⟨fun i hi => ((h.div _).1 (h1 i hi)).1, fun i hi => ((h.div _).1 (h1 i hi)).2⟩, fun h1 i hi => (h.div _).2 ⟨h1.1 i hi, h1.2 i hi⟩⟩
    simp only [e]
    by_cases h1 : ∀ i, i < xss.length → c i % (p : Int) = 0
    · by_cases h2 : ∀ i, i < xss.length → c i % (q : Int) = 0
      · rw [if_pos ⟨h1, h2⟩, if_pos h1, if_pos h2]
      · rw [if_neg (fun h => h2 h.2), if_pos h1, if_neg h2]
    · rw [if_neg (fun h => h1 h.1), if_neg h1, Nat.zero_mul]
  | k + 1, c => by
    show sN (p * q) _ = sN p _ * sN q _
    rw [← h.sum]
    refine sN_congr fun x _ => ?_
    rw [cntS_mul xss h k, cnt_red xss (p := p), cnt_red xss (p := q)]
theorem good23 : GoodPair 2 3 := ⟨fun F G => by simp [sN]; grind, fun a => by omega⟩
theorem solN_mul {xss : List (List Int)} {m p q : Nat} (h : GoodPair p q) (hp : 0 < p) (hq : 0 < q) (hm : ∀ i, i < xss.length → (xss.getD i []).length = m) : solN xss m (p * q) = solN xss m p * solN xss m q := by
  rw [solN_cnt (Nat.mul_pos hp hq) hm, solN_cnt hp hm, solN_cnt hq hm, cntS_mul xss h]
theorem solN_pos {xss : List (List Int)} {m q : Nat} (hq : 0 < q) : 0 < solN xss m q := by
  unfold solN
  rw [List.countP_pos_iff]
  refine ⟨0, List.mem_range.2 (Nat.pow_pos hq), ?_⟩
  unfold solB
  rw [List.all_eq_true]
  intro r _
  have : dotI r (digI q 0) = 0 := by
    unfold dotI
    generalize r.length = n
    induction n with
    | zero => rfl
    | succ n ih => rw [CR.sumN_succ, ih, dig_zero]; simp
  rw [this]
  simp
end Go.Proofs.YtndgffiihbdppaaDoor
