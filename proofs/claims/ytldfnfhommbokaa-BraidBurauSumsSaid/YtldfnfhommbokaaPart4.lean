/- Several texts of the walk in one. -/
import Derived.Test.YtldfnfhommbokaaPart3
import Derived.Deep.DeepCutAuto
import Derived.Test.YtldfnfhommbokaaPart1
import Derived.Test.YtldfnfhommbokaaPart2
import Derived.Test.YtldfnfhommbokaaBase
/- timbmake.Letter, timbmake.Word. -/
namespace Go.Proofs.Ytldfnfhommbokaa
set_option linter.unusedVariables false
set_option linter.unusedSimpArgs false
open Go.RowKit

theorem letter_any (x : Int) (k : Nat) (w : World) (h0 : 0 < k) (hk : k ≤ 1000) :
    Calls Try.prog 50 #[.int .i64 x, .int .i64 k] w fun e w' => ∃ y : Int, e = .returned (.int .i64 y) ∧ y ≠ 0 ∧ -(k : Int) ≤ y ∧ y ≤ k ∧ w = w' := by
  have HM := hide (mbelow_any x (2 * k) w (by omega) (by omega))
  have h1 := Int.emod_nonneg x (show ((2 * k : Nat) : Int) ≠ 0 by omega)
  have h2 := Int.emod_lt_of_pos x (show (0 : Int) < ((2 * k : Nat) : Int) by omega)
  obtain ⟨z, hz⟩ : ∃ z, x % ((2 * k : Nat) : Int) = z := ⟨_, rfl⟩
  rw [hz] at HM h1 h2
  have e2 : ((2 * k : Nat) : Int) = 2 * (k : Int) := by omega
  rw [e2] at HM h2
  clear hz e2
  go_enter Try.func50, Try.ntmps50
  go_wp2_with fail
  refine HM.out.mono ?_
  rintro e w' ⟨rfl, rfl⟩
  by_cases hlt : z < k
  · go_wp2
    go_ret
    exact ⟨z + 1, rfl, by omega, by omega, by omega, rfl⟩
  · go_wp2
    go_ret
    exact ⟨_, rfl, by omega, by omega, by omega, rfl⟩

/-- The letters so far. -/
structure WoSt (w wr : World) (k : Nat) (A : Option Addr) (n c : Nat) (us : List Int) : Prop where
  own : OwnI wr w.heap.size A n c us
  ok : ∀ x ∈ us, x ≠ 0 ∧ x ≤ k ∧ -(k : Int) ≤ x
  below : Below w.heap.size w wr
set_option maxRecDepth 100000 in
set_option maxHeartbeats 2000000 in
theorem word_any (A : Option Addr) (k l c L : Nat) (xs : List Int) (w : World) (hx : IL w A l xs) (hc : l ≤ c) (h0 : 0 < k) (hk : k ≤ 1000) (hL : L ≤ 1000) :
    Calls Try.prog 30 #[.int .i64 k, .slice A l c, .int .i64 L] w fun e w' => ∃ us B m d, e = .returned (.slice B m d) ∧ OwnI w' w.heap.size B m d us ∧ (∀ x ∈ us, x ≠ 0 ∧ x ≤ k ∧ -(k : Int) ≤ x) ∧ m ≤ L ∧ Below w.heap.size w w' := by
  obtain ⟨i0, hi0, hz0, hz1, hz2⟩ := info_parts int_info
  have HX := hide hx
  have hsm := hx.small
  clear hx
  obtain ⟨K, hK⟩ : ∃ K, K = min l L := ⟨_, rfl⟩
  have hKl : K ≤ l := by omega
  have HP := hide (HX.out.pre hKl)
  have hK10 : K ≤ L := by omega
  go_enter Try.func30, Try.ntmps30
  go_upto_region 3 with fail
  all_goals
    first | (have e : K = L := by omega) | (have e : K = l := by omega)
    subst e
    clear hK
    go_loopw [7, 17] (fun ov iv wr => ∃ (i c7 : Nat) (A7 : Option Addr) (us : List Int), ov = .slice A7 i c7 ∧ iv = .int .i64 i ∧ i ≤ K ∧ WoSt w wr k A7 i c7 us) (fun _ iv _ => K - (intOf iv).toNat)
    case atStart => exact ⟨0, 0, none, [], rfl, rfl, by omega, ⟨OwnI.nil_ _ _, fun x hx => by simp at hx, Below.refl _ _⟩⟩
    case round =>
      obtain ⟨i, c7, A7, us, rfl, rfl, hi, hst⟩ := hrel
      by_cases hlt : i < K
      · obtain ⟨ad, rfl, hcl⟩ := (HP.out.below hst.below).at_ hlt
        generalize (xs.take K).getD i 0 = x at *
        go_wp2_with fail
        refine (letter_any x k wr h0 hk).mono ?_
        rintro e w2 ⟨y, rfl, hy0, hy1, hy2, rfl⟩
        have HST := hide hst
        have hs := hst.below.size
        clear hst hcl
        go_wp2_with (at_builtin; refine wpList_append_int _ rfl _ _ 22 rfl w.heap.size i0 Try.underlying22 hi0 hz0 hz1 hz2 A7 i c7 us rfl (HST.out.own.alloc _) (some ⟨_, 0, none⟩) 1 1 [y] rfl (IL.lit _ [y] (by simp) rfl rfl) (by omega) (by simp; omega) ?_; intro A8 c8 w8 hap)
        have hN : WoSt w w8 k A8 (i + 1) c8 (us ++ [y]) := by
          refine ⟨hap.own, fun z hz => ?_, (HST.out.below.alloc hs _).grown hap.grown (by simp; omega) (fun j hj => (HST.out.own.lt j (by rw [ownBlock_len A7 i (i + 1) c7 c7]; exact hj)).1)⟩
          rcases List.mem_append.1 hz with hz | hz
          · exact HST.out.ok z hz
          · obtain rfl : z = y := by simpa using hz
            exact ⟨hy0, hy2, hy1⟩
        clear hap
        go_roundw
        case rel => exact ⟨i + 1, c8, A8, _, by go_num, by go_num, by omega, hN⟩
        case measure => simp [intOf]; omega
      · go_wp2
        go_ret
        exact ⟨us, A7, i, c7, rfl, hst.own, hst.ok, by omega, hst.below⟩
end Go.Proofs.Ytldfnfhommbokaa
/- What package freegroup's functions are to answer (words alone), and what follows for the facts free and reduced that the laws begin with. -/
namespace Go.Proofs.Ytldfnfhommbokaa
set_option linter.unusedVariables false
set_option linter.unusedSimpArgs false
open Go.RowKit

/-- A slice and an error. -/
def GivesLE (w : World) (err : Int) (xs : List Int) (e : Ending) (w' : World) : Prop :=
  ∃ A n c, e = .returned (.tuple #[.slice A n c, .int .i64 err]) ∧ SL w' A n c xs ∧ Below w.heap.size w w'

/-- The same, the slice in memory that was not there before. -/
def GivesLEn (w : World) (err : Int) (xs : List Int) (e : Ending) (w' : World) : Prop :=
  ∃ A n c, e = .returned (.tuple #[.slice A n c, .int .i64 err]) ∧ SL w' A n c xs ∧ (0 < n → ∀ ad, A = some ad → w.heap.size ≤ ad.block) ∧ Below w.heap.size w w'
theorem GivesLEn.le {w : World} {err : Int} {xs : List Int} {e : Ending} {w' : World} (h : GivesLEn w err xs e w') : GivesLE w err xs e w' := by
  obtain ⟨A, n, c, h1, h2, _, h3⟩ := h
  exact ⟨A, n, c, h1, h2, h3⟩

def redL (xs : List Int) : List Int := if ffault xs = 0 then nf xs else []
def invFL (xs : List Int) : List Int := if ffault xs = 0 then invw (nf xs) else []
def prodE (xs ys : List Int) : Int := if ffault xs = 0 then (if ffault ys = 0 then (if 60 < (nf (xs ++ ys)).length then 2 else 0) else ffault ys) else ffault xs
def prodL (xs ys : List Int) : List Int := if prodE xs ys = 0 then nf (xs ++ ys) else []
def bothE (xs ys : List Int) : Int := if ffault xs = 0 then ffault ys else ffault xs
def cycL (xs : List Int) : List Int := if ffault xs = 0 then (core (nf xs)).1 else []
def cycU (xs : List Int) : List Int := if ffault xs = 0 then (core (nf xs)).2 else []
noncomputable def conB (xs ys : List Int) : Bool := if bothE xs ys = 0 then conjB (core (nf xs)).1 (core (nf ys)).1 else false
def rootE (xs : List Int) : Int := if ffault xs = 0 then (if nf xs = [] then 4 else 0) else ffault xs
/-- What Root answers. -/
def RootOf (xs rs : List Int) (k : Int) : Prop :=
  (rootE xs = 0 → ∃ (d : List Int) (j : Nat), IsRoot (core (nf xs)).1 d j ∧ rs = (core (nf xs)).2 ++ d ++ invw (core (nf xs)).2 ∧ k = j) ∧ (rootE xs ≠ 0 → rs = [] ∧ k = 0)

/-- Package freegroup, as the document asks (its letters, words and errors; what it writes lies above what was). -/
structure FreeC : Prop where

theorem nf_122 : nf [1, 2, -2] = [1] := by decide
theorem root_1212 {rs : List Int} {k : Int} (h : RootOf [1, 2, 1, 2] rs k) : k = 2 := by
  have hn : nf [1, 2, 1, 2] = [1, 2, 1, 2] := by decide
  have h0 : rootE [1, 2, 1, 2] = 0 := by decide
  obtain ⟨d, j, hr, _, rfl⟩ := h.1 h0
  have hc : (core [1, 2, 1, 2]).1 = [1, 2, 1, 2] := by decide
  rw [hn, hc] at hr
  have h2 : IsRoot [1, 2, 1, 2] ([1, 2, 1, 2].take ([1, 2, 1, 2].length / 2)) 2 := isRoot_of_try (by decide) (by decide) (by decide) (by decide) (by
    intro j hj hl
    have : j = 3 ∨ j = 4 := by simp at hl; omega
    rcases this with rfl | rfl
    · decide
    · decide)
  have := (hr.unique h2 (by decide)).2
  omega

end Go.Proofs.Ytldfnfhommbokaa
/- Slices of polynomials, and slices of these (words on memory). -/
namespace Go.Proofs.Ytldfnfhommbokaa
set_option linter.unusedVariables false
set_option linter.unusedSimpArgs false
open Go.RowKit

abbrev Po := Int × List Int
/-- A slice of polynomials that reads as ps. -/
structure SPo (w : World) (A : Option Addr) (n c : Nat) (ps : List Po) : Prop where
  len : ps.length = n
  small : n ≤ 17592186044416
  nil : A = none → n = 0 ∧ c = 0
  cap : n ≤ c
  mem : 0 < n → ∃ ad, A = some ad ∧ ad.block < w.heap.size ∧ ∀ j, j < n → ∃ B m d, w.cell? (ad.add (j * 2)) = some (.int .i64 (ps.getD j (0, [])).1) ∧ w.cell? ⟨(ad.add (j * 2)).block, (ad.add (j * 2)).off + 1, none⟩ = some (.slice B m d) ∧ SL w B m d (ps.getD j (0, [])).2 ∧ (Lit.int .i64 (ps.getD j (0, [])).1).wf = true
theorem SPo.below {w w' : World} {A : Option Addr} {n c : Nat} {ps : List Po} (h : SPo w A n c ps) (hb : Below w.heap.size w w') : SPo w' A n c ps :=
  ⟨h.len, h.small, h.nil, h.cap, fun hn => by
    obtain ⟨ad, e, hl, hc⟩ := h.mem hn
    refine ⟨ad, e, Nat.lt_of_lt_of_le hl hb.size, fun j hj => ?_⟩
    obtain ⟨B, m, d, h1, h2, h3, h4⟩ := hc j hj
    exact ⟨B, m, d, (hb.cell (p := ad.add (j * 2)) (by rw [block_of_add]; exact hl)).trans h1, (hb.cell (p := ⟨(ad.add (j * 2)).block, (ad.add (j * 2)).off + 1, none⟩) (by show (ad.add (j * 2)).block < _; rw [block_of_add]; exact hl)).trans h2, h3.below hb, h4⟩⟩
/-- A slice of slices of polynomials. -/
structure SPP (w : World) (A : Option Addr) (n c : Nat) (pss : List (List Po)) : Prop where
  len : pss.length = n
  small : n ≤ 17592186044416
  nil : A = none → n = 0 ∧ c = 0
  cap : n ≤ c
  mem : 0 < n → ∃ ad, A = some ad ∧ ad.block < w.heap.size ∧ ∀ j, j < n → ∃ B m d, w.cell? (ad.add j) = some (.slice B m d) ∧ SPo w B m d (pss.getD j [])
theorem SPP.below {w w' : World} {A : Option Addr} {n c : Nat} {pss : List (List Po)} (h : SPP w A n c pss) (hb : Below w.heap.size w w') : SPP w' A n c pss :=
  ⟨h.len, h.small, h.nil, h.cap, fun hn => by
    obtain ⟨ad, e, hl, hc⟩ := h.mem hn
    refine ⟨ad, e, Nat.lt_of_lt_of_le hl hb.size, fun j hj => ?_⟩
    obtain ⟨B, m, d, h1, h2⟩ := hc j hj
    exact ⟨B, m, d, (hb.cell (p := ad.add j) (by rw [block_of_add]; exact hl)).trans h1, h2.below hb⟩⟩
theorem SPP.at_ {w : World} {A : Option Addr} {n c k : Nat} {pss : List (List Po)} (h : SPP w A n c pss) (hk : k < n) : ∃ ad B m d, A = some ad ∧ w.cell? (ad.add k) = some (.slice B m d) ∧ SPo w B m d (pss.getD k []) := by
  obtain ⟨ad, e, _, hc⟩ := h.mem (by omega)
  obtain ⟨B, m, d, h1, h2⟩ := hc k hk
  exact ⟨ad, B, m, d, e, h1, h2⟩
theorem SPo.at_ {w : World} {A : Option Addr} {n c k : Nat} {ps : List Po} (h : SPo w A n c ps) (hk : k < n) : ∃ ad B m d, A = some ad ∧ w.cell? (ad.add (k * 2)) = some (.int .i64 (ps.getD k (0, [])).1) ∧ w.cell? ⟨(ad.add (k * 2)).block, (ad.add (k * 2)).off + 1, none⟩ = some (.slice B m d) ∧ SL w B m d (ps.getD k (0, [])).2 ∧ (Lit.int .i64 (ps.getD k (0, [])).1).wf = true := by
  obtain ⟨ad, e, _, hc⟩ := h.mem (by omega)
  obtain ⟨B, m, d, h1, h2, h3, h4⟩ := hc k hk
  exact ⟨ad, B, m, d, e, h1, h2, h3, h4⟩
end Go.Proofs.Ytldfnfhommbokaa
/- timbref1.PolyFault and Fits. -/
namespace Go.Proofs.Ytldfnfhommbokaa
set_option linter.unusedVariables false
set_option linter.unusedSimpArgs false
open Go.RowKit

theorem LP.pfl_big {lo : Int} {xs : List Int} (h : 200 < xs.length ∨ 1000 < lo ∨ lo < -1000) : LP.pfl lo xs = 2 := by unfold LP.pfl; rw [if_pos h]
theorem LP.pfl_bad {lo : Int} {xs : List Int} (h : ¬ (200 < xs.length ∨ 1000 < lo ∨ lo < -1000)) (h2 : (xs.length = 0 ∧ lo ≠ 0) ∨ (0 < xs.length ∧ (xs.getD 0 0 = 0 ∨ xs.getD (xs.length - 1) 0 = 0))) : LP.pfl lo xs = 3 := by unfold LP.pfl; rw [if_neg h, if_pos h2]
theorem LP.pfl_loop {lo : Int} {xs : List Int} (h : ¬ (200 < xs.length ∨ 1000 < lo ∨ lo < -1000)) (h2 : ¬ ((xs.length = 0 ∧ lo ≠ 0) ∨ (0 < xs.length ∧ (xs.getD 0 0 = 0 ∨ xs.getD (xs.length - 1) 0 = 0)))) : LP.pfl lo xs = if xs.all LP.okC then 0 else 1 := by unfold LP.pfl; rw [if_neg h, if_neg h2]
theorem okC_take {w : List Int} {k : Nat} (hk : k < w.length) : (w.take (k + 1)).all LP.okC = ((w.take k).all LP.okC && LP.okC (w.getD k 0)) := by
  rw [List.take_succ_eq_append_getElem hk, List.all_append]
  simp [List.getD, List.getElem?_eq_getElem hk]

/-- The results of a function that returns a polynomial out of a block and an error. -/
theorem results_pe {fn : Func} {t u : Tmp} {b : Nat} {v0 v1 e : Value} {w : World} (h : fn.results = #[.cell t 45, .tmp u]) (tmps : Array Value) (ht : tmps.getD t undef = .pointer (some ⟨b, 0, none⟩)) (hu : tmps.getD u undef = e) (hb : Blk w b 45 #[v0, v1]) :
    (results fn tmps).run Try.prog w = .ok (.tuple #[.agg #[v0, v1], e]) w := by
  have h0 := hb.cell 0
  have h1 := hb.cell 1
  simp at h0 h1
  have ht2 : tmps[t]?.getD undef = .pointer (some ⟨b, 0, none⟩) := by simpa using ht
  have hu2 : tmps[u]?.getD undef = e := by simpa using hu
  simp [results, h, ht2, hu2, go_sem, h0, h1, Result.andThen]
/-- What Fits makes of a polynomial. -/
def LP.fitL (lo : Int) (cs : List Int) : PR := if pfl lo cs = 0 then (0, lo, cs) else (2, 0, [])
end Go.Proofs.Ytldfnfhommbokaa
/- timbref1.SquareFault. -/
namespace Go.Proofs.Ytldfnfhommbokaa
set_option linter.unusedVariables false
set_option linter.unusedSimpArgs false
open Go.RowKit

/-- What is wrong with an element. -/
def polyE (p : Po) : Int := if LP.pfl p.1 p.2 ≠ 0 then LP.pfl p.1 p.2 else if 20 < p.2.length ∨ 20 < p.1 ∨ p.1 < -20 then 2 else if p.2.any (fun c => decide (1000 < c) || decide (c < -1000)) then 1 else 0
def rowE (n : Nat) : List Po → Int
  | [] => 0
  | p :: r => if polyE p ≠ 0 then polyE p else rowE n r
def rowsE (n : Nat) : List (List Po) → Int
  | [] => 0
  | r :: m => if r.length ≠ n then 3 else if rowE n r ≠ 0 then rowE n r else rowsE n m
def sqE (m : List (List Po)) : Int := if 4 < m.length then 2 else rowsE m.length m
theorem rowE_drop {n k : Nat} {ps : List Po} (h : k < ps.length) : rowE n (ps.drop k) = if polyE (ps.getD k (0, [])) ≠ 0 then polyE (ps.getD k (0, [])) else rowE n (ps.drop (k + 1)) := by
  rw [List.drop_eq_getElem_cons h, show ps.getD k (0, []) = ps[k] by simp [List.getD, List.getElem?_eq_getElem h]]
  rfl
theorem rowsE_drop {n k : Nat} {pss : List (List Po)} (h : k < pss.length) : rowsE n (pss.drop k) = if (pss.getD k []).length ≠ n then 3 else if rowE n (pss.getD k []) ≠ 0 then rowE n (pss.getD k []) else rowsE n (pss.drop (k + 1)) := by
  rw [List.drop_eq_getElem_cons h, show pss.getD k [] = pss[k] by simp [List.getD, List.getElem?_eq_getElem h]]
  rfl

end Go.Proofs.Ytldfnfhommbokaa
/- What package polymatrix's functions are to answer; determinants of polynomials. -/
namespace Go.Proofs.Ytldfnfhommbokaa
set_option linter.unusedVariables false
set_option linter.unusedSimpArgs false
open Go.RowKit

/-- The entries as polynomials. -/
def mP (pss : List (List Po)) : Mtx LP := fun i j => LP.of ((pss.getD i []).getD j (0, [])).1 ((pss.getD i []).getD j (0, [])).2
noncomputable def detPR (pss : List (List Po)) : LP.PR := if sqE pss = 0 then LP.fit (detR pss.length (mP pss)) else (sqE pss, 0, [])
/-- Package polymatrix, as the document asks. -/
structure PmC : Prop where

theorem polyE_zero {p : Po} (h : polyE p = 0) : LP.pfl p.1 p.2 = 0 ∧ p.2.length ≤ 20 ∧ -20 ≤ p.1 ∧ p.1 ≤ 20 ∧ ∀ c ∈ p.2, c.natAbs ≤ 1000 := by
  unfold polyE at h
  by_cases h1 : LP.pfl p.1 p.2 = 0
  · rw [if_neg (by simp [h1])] at h
    by_cases h2 : 20 < p.2.length ∨ 20 < p.1 ∨ p.1 < -20
    · rw [if_pos h2] at h; omega
    · rw [if_neg h2] at h
      by_cases h3 : p.2.any (fun c => decide (1000 < c) || decide (c < -1000)) = true
      · rw [if_pos h3] at h; omega
      · refine ⟨h1, by omega, by omega, by omega, fun c hc => ?_⟩
        rw [Bool.not_eq_true, List.any_eq_false] at h3
        have h4 := h3 c hc
        simp at h4
        omega
  · rw [if_pos h1] at h; exact absurd h h1
theorem rowE_zero {n : Nat} : ∀ {ps : List Po}, rowE n ps = 0 → ∀ p ∈ ps, polyE p = 0
  | [], _, p, hp => by simp at hp
  | q :: r, h, p, hp => by
    unfold rowE at h
    by_cases h1 : polyE q = 0
    · rw [if_neg (by simp [h1])] at h
      rcases List.mem_cons.1 hp with rfl | h2
      · exact h1
      · exact rowE_zero h p h2
    · rw [if_pos h1] at h; exact absurd h h1
theorem rowsE_zero {n : Nat} : ∀ {pss : List (List Po)}, rowsE n pss = 0 → ∀ r ∈ pss, r.length = n ∧ ∀ p ∈ r, polyE p = 0
  | [], _, p, hp => by simp at hp
  | q :: r, h, p, hp => by
    unfold rowsE at h
    by_cases h1 : q.length = n
    · rw [if_neg (by simp [h1])] at h
      by_cases h2 : rowE n q = 0
      · rw [if_neg (by simp [h2])] at h
        rcases List.mem_cons.1 hp with rfl | h3
        · exact ⟨h1, rowE_zero h2⟩
        · exact rowsE_zero h p h3
      · rw [if_pos h2] at h; exact absurd h h2
    · rw [if_pos h1] at h; omega
theorem sqE_zero {pss : List (List Po)} (h : sqE pss = 0) : pss.length ≤ 4 ∧ ∀ r ∈ pss, r.length = pss.length ∧ ∀ p ∈ r, polyE p = 0 := by
  unfold sqE at h
  by_cases h1 : 4 < pss.length
  · rw [if_pos h1] at h; omega
  · rw [if_neg h1] at h
    exact ⟨by omega, rowsE_zero h⟩
theorem rowE_all {n : Nat} : ∀ {ps : List Po}, (∀ p ∈ ps, polyE p = 0) → rowE n ps = 0
  | [], _ => rfl
  | q :: r, h => by
    unfold rowE
    rw [if_neg (by simp [h q (by simp)])]
    exact rowE_all fun p hp => h p (by simp [hp])
theorem rowsE_all {n : Nat} : ∀ {pss : List (List Po)}, (∀ r ∈ pss, r.length = n ∧ ∀ p ∈ r, polyE p = 0) → rowsE n pss = 0
  | [], _ => rfl
  | q :: r, h => by
    unfold rowsE
    rw [if_neg (by simp [(h q (by simp)).1]), if_neg (by simp [rowE_all (n := n) (h q (by simp)).2])]
    exact rowsE_all fun p hp => h p (by simp [hp])
theorem sqE_all {pss : List (List Po)} (h4 : pss.length ≤ 4) (h : ∀ r ∈ pss, r.length = pss.length ∧ ∀ p ∈ r, polyE p = 0) : sqE pss = 0 := by
  unfold sqE
  rw [if_neg (by omega)]
  exact rowsE_all h
theorem getD_of_lt {α : Type} {l : List α} {i : Nat} (d : α) (h : i < l.length) : l.getD i d = l[i] := by simp [List.getD, List.getElem?_eq_getElem h]
theorem mP_entry {pss : List (List Po)} (h : sqE pss = 0) {i j : Nat} (hi : i < pss.length) (hj : j < pss.length) : ∃ p : Po, (pss.getD i []).getD j (0, []) = p ∧ polyE p = 0 := by
  obtain ⟨h4, hr⟩ := sqE_zero h
  have h1 := hr pss[i] (List.getElem_mem _)
  rw [getD_of_lt [] hi, getD_of_lt (0, []) (by rw [h1.1]; exact hj)]
  exact ⟨_, rfl, h1.2 _ (List.getElem_mem _)⟩
theorem poly_n1 {p : Po} (h : polyE p = 0) : LP.N1 (LP.of p.1 p.2) 40 20000 ∧ ∀ k, (LP.co (LP.of p.1 p.2) k).natAbs ≤ 1000 := by
  obtain ⟨_, h1, h2, h3, h4⟩ := polyE_zero h
  refine ⟨(LP.N1.of_ p.2 p.1 40 1000 (by omega) (by omega) h4).mono (Nat.le_refl _) (by omega), LP.co_of_le h4⟩
theorem fitL_fit (x : LP) : (if LP.pfl (LP.canon x).1 (LP.canon x).2 = 0 then (0, (LP.canon x).1, (LP.canon x).2) else (2, 0, [])) = LP.fit x := rfl
/-- Two by two. -/
theorem detR_two {R : Type} [CR R] (M : Mtx R) : detR 2 M = M 0 0 * M 1 1 + -(M 0 1 * M 1 0) := by
  have h1 : ∀ N : Mtx R, detR 1 N = N 0 0 := fun N => by
    show 0 + CR.sgR R 0 * (N 0 0 * 1) = N 0 0
    rw [CR.zero_add, CR.mul_one, CR.sgR_zero, CR.one_mul]
  show 0 + CR.sgR R 0 * (M 0 0 * detR 1 _) + CR.sgR R 1 * (M 0 1 * detR 1 _) = _
  rw [h1, h1, CR.zero_add, CR.sgR_zero, CR.one_mul, show CR.sgR R 1 = -1 from rfl, CR.neg_mul, CR.one_mul]
  rfl
theorem det_t11t : detPR [[(1, [1]), (0, [1])], [(0, [1]), (1, [1])]] = (0, 0, [-1, 0, 1]) := by
  have h : LP.canon (detR 2 (mP [[(1, [1]), (0, [1])], [(0, [1]), (1, [1])]])) = (0, [-1, 0, 1]) := by
    refine LP.canon_eq (.inr ⟨by decide, by decide, by decide⟩) ?_
    rw [detR_two]
    show LP.of 0 [-1, 0, 1] = LP.of 1 [1] * LP.of 1 [1] + -(LP.of 0 [1] * LP.of 0 [1])
    rw [LP.of_one, LP.of_one, LP.term_mul, LP.term_mul]
    refine LP.ext fun k => ?_
    show LP.co (LP.term 0 (-1) + (LP.term 1 0 + (LP.term 2 1 + 0))) k = _
    rw [LP.co_add, LP.co_add, LP.co_add, LP.co_add, LP.co_neg, LP.co_term, LP.co_term, LP.co_term, LP.co_term, LP.co_term, LP.co_zero]
    split <;> split <;> split <;> omega
  unfold detPR
  rw [show sqE [[(1, [1]), (0, [1])], [(0, [1]), (1, [1])]] = 0 from by decide, if_pos rfl]
  show LP.fit (detR 2 _) = _
  unfold LP.fit
  rw [h]
  decide
end Go.Proofs.Ytldfnfhommbokaa
/- The matrices of timbkeep1.PolyDetRows: entries, determinants of triangular matrices. -/
namespace Go.Proofs.Ytldfnfhommbokaa
set_option linter.unusedVariables false
set_option linter.unusedSimpArgs false

section
open CR
variable {R : Type} [CR R]
def diagP (M : Mtx R) : Nat → R
  | 0 => 1
  | k + 1 => diagP M k * M k k
theorem diagP_shift (M : Mtx R) : ∀ k, M 0 0 * diagP (fun a b => M (a + 1) (b + 1)) k = diagP M (k + 1)
  | 0 => by
    show M 0 0 * 1 = 1 * M 0 0
    rw [mul_one, one_mul]
  | k + 1 => by
    show M 0 0 * (diagP _ k * M (k + 1) (k + 1)) = diagP M (k + 1) * M (k + 1) (k + 1)
    rw [← mul_assoc, diagP_shift M k]
/-- Zeros below the diagonal. -/
theorem detC_tri : ∀ (n : Nat) (M : Mtx R), (∀ i j, i < n → j < i → M i j = 0) → detC n M = diagP M n
  | 0, _, _ => rfl
  | n + 1, M, h => by
    show sumN (n + 1) (fun i => sgR R i * (M i 0 * detC n fun a b => M (skip i a) (b + 1))) = _
    rw [sumN_single (k := 0) (by omega) (fun i hi h0 => by rw [h i 0 hi (by omega), zero_mul, mul_zero])]
    rw [sgR_zero, one_mul, show (fun a b => M (skip 0 a) (b + 1)) = fun a b => M (a + 1) (b + 1) by funext a b; rfl]
    rw [detC_tri n _ (fun i j hi hj => h (i + 1) (j + 1) (by omega) (by omega)), diagP_shift]
theorem detR_tri (n : Nat) (M : Mtx R) (h : ∀ i j, i < n → j < i → M i j = 0) : detR n M = diagP M n := by rw [← detC_eq, detC_tri n M h]
end

/-- An entry. -/
noncomputable def pe (raw : List (List Int)) (k : Nat) : LP := if k < raw.length then mkP k ((raw.getD k []).take 4) else 0
noncomputable def cP (x : LP) : Po := ((LP.canon x).1, (LP.canon x).2)
theorem of_cP (x : LP) : LP.of (cP x).1 (cP x).2 = x := LP.of_canon x
theorem rawC_take4 (r : List Int) : (rawC (r.take 4)).length ≤ 4 := by
  unfold rawC
  rw [List.length_map, List.length_take, List.length_take]
  omega
theorem pe_n1 (raw : List (List Int)) (k : Nat) : LP.N1 (pe raw k) 14 200 := by
  unfold pe
  split
  · have h := rawC_take4 (raw.getD k [])
    have h2 := rawC_le ((raw.getD k []).take 4)
    generalize hc : rawC ((raw.getD k []).take 4) = cs at *
    have h0 : (k : Int) % 21 - 10 ≤ 10 ∧ -10 ≤ (k : Int) % 21 - 10 := by omega
    unfold mkP
    rw [hc]
    exact (LP.N1.of_ cs _ 14 50 (by omega) (by omega) h2).mono (Nat.le_refl _) (by omega)
  · exact LP.N1.zero.mono (Nat.zero_le _) (Nat.zero_le _)
theorem pe_sm (raw : List (List Int)) (k : Nat) : ∃ lo : Int, -10 ≤ lo ∧ lo ≤ 10 ∧ LP.Sm (pe raw k) lo (lo + 3) 50 := by
  unfold pe
  split
  · have h := rawC_take4 (raw.getD k [])
    have h2 := rawC_le ((raw.getD k []).take 4)
    unfold mkP
    generalize hc : rawC ((raw.getD k []).take 4) = cs at *
    refine ⟨(k : Int) % 21 - 10, by omega, by omega, (LP.Sm.of_ h h2).mono (Int.le_refl _) (by omega) (Nat.le_refl _)⟩
  · exact ⟨0, by omega, by omega, LP.Sm.zero⟩
theorem pe_ok (raw : List (List Int)) (k : Nat) : polyE (cP (pe raw k)) = 0 := by
  obtain ⟨lo, h1, h2, h3⟩ := pe_sm raw k
  obtain ⟨h4, h5⟩ := LP.canon_sm h3 (by omega)
  have hr : LP.Rt (pe raw k) := (pe_n1 raw k).rt (by omega) (by omega)
  have hlow : -20 ≤ (LP.canon (pe raw k)).1 ∧ (LP.canon (pe raw k)).1 ≤ 20 := by
    rcases LP.canon_cano (pe raw k) with ⟨_, h6⟩ | h6
    · rw [h6]; decide
    · have h7 := LP.Cano.low (lo := (LP.canon (pe raw k)).1) (.inr h6) h6.1
      rw [LP.of_canon] at h7
      have := h3.supp _ h7
      omega
  unfold polyE cP
  rw [if_neg (by simp only []; exact fun h => h hr), if_neg (by simp only []; omega), if_neg]
  rw [Bool.not_eq_true, List.any_eq_false]
  intro c hc
  have := h5 c hc
  simp
  omega
theorem zero_ok : polyE (0, []) = 0 := by decide

/-- Rows of the matrix, and of the triangular one. -/
noncomputable def rM (raw : List (List Int)) (n r j : Nat) : List Po := (List.range j).map fun c => cP (pe raw (r * n + c))
noncomputable def rT (raw : List (List Int)) (n r j : Nat) : List Po := (List.range j).map fun c => if c < r then (0, []) else cP (pe raw (r * n + c))
noncomputable def mM (raw : List (List Int)) (n k : Nat) : List (List Po) := (List.range k).map fun r => rM raw n r n
noncomputable def mT (raw : List (List Int)) (n k : Nat) : List (List Po) := (List.range k).map fun r => rT raw n r n
theorem rM_succ (raw : List (List Int)) (n r j : Nat) : rM raw n r (j + 1) = rM raw n r j ++ [cP (pe raw (r * n + j))] := by unfold rM; rw [List.range_succ, List.map_append]; rfl
theorem rT_succ (raw : List (List Int)) (n r j : Nat) : rT raw n r (j + 1) = rT raw n r j ++ [if j < r then (0, []) else cP (pe raw (r * n + j))] := by unfold rT; rw [List.range_succ, List.map_append]; rfl
theorem mM_succ (raw : List (List Int)) (n k : Nat) : mM raw n (k + 1) = mM raw n k ++ [rM raw n k n] := by unfold mM; rw [List.range_succ, List.map_append]; rfl
theorem mT_succ (raw : List (List Int)) (n k : Nat) : mT raw n (k + 1) = mT raw n k ++ [rT raw n k n] := by unfold mT; rw [List.range_succ, List.map_append]; rfl
theorem mM_len (raw : List (List Int)) (n k : Nat) : (mM raw n k).length = k := by unfold mM; simp
theorem mT_len (raw : List (List Int)) (n k : Nat) : (mT raw n k).length = k := by unfold mT; simp
/-- The matrix as polynomials. -/
noncomputable def peM (raw : List (List Int)) (n : Nat) : Mtx LP := fun i j => pe raw (i * n + j)
noncomputable def peT (raw : List (List Int)) (n : Nat) : Mtx LP := fun i j => if j < i then 0 else pe raw (i * n + j)
theorem mP_mM (raw : List (List Int)) (n : Nat) : ∀ i, i < n → ∀ j, j < n → mP (mM raw n n) i j = peM raw n i j := fun i hi j hj => by
  unfold mP mM rM peM
  have e : (((List.range n).map fun r => (List.range n).map fun c => cP (pe raw (r * n + c))).getD i []).getD j (0, []) = cP (pe raw (i * n + j)) := by
    simp [List.getD, hi, hj]
  rw [e, of_cP]
theorem mP_mT (raw : List (List Int)) (n : Nat) : ∀ i, i < n → ∀ j, j < n → mP (mT raw n n) i j = peT raw n i j := fun i hi j hj => by
  unfold mP mT rT peT
  have e : (((List.range n).map fun r => (List.range n).map fun c => if c < r then (0, []) else cP (pe raw (r * n + c))).getD i []).getD j (0, []) = if j < i then (0, []) else cP (pe raw (i * n + j)) := by
    simp [List.getD, hi, hj]
  rw [e]
  split
  · rfl
  · rw [of_cP]
theorem mM_sq (raw : List (List Int)) (n : Nat) (hn : n ≤ 4) : sqE (mM raw n n) = 0 := sqE_all (by rw [mM_len]; exact hn) fun r hr => by
  unfold mM at hr
  obtain ⟨i, _, rfl⟩ := List.mem_map.1 hr
  refine ⟨by rw [mM_len]; unfold rM; simp, fun p hp => ?_⟩
  obtain ⟨c, _, rfl⟩ := List.mem_map.1 hp
  exact pe_ok raw _
theorem mT_sq (raw : List (List Int)) (n : Nat) (hn : n ≤ 4) : sqE (mT raw n n) = 0 := sqE_all (by rw [mT_len]; exact hn) fun r hr => by
  unfold mT at hr
  obtain ⟨i, _, rfl⟩ := List.mem_map.1 hr
  refine ⟨by rw [mT_len]; unfold rT; simp, fun p hp => ?_⟩
  obtain ⟨c, _, rfl⟩ := List.mem_map.1 hp
  split
  · exact zero_ok
  · exact pe_ok raw _
theorem fct3 {n : Nat} (hn : n ≤ 3) : LP.fctP n * 200 ^ n ≤ 48000000 := by
  have : n = 0 ∨ n = 1 ∨ n = 2 ∨ n = 3 := by omega
  rcases this with h | h | h | h <;> subst h <;> decide
theorem det_rt {n : Nat} {M : Mtx LP} (hn : n ≤ 3) (h : ∀ i, i < n → ∀ j, j < n → LP.N1 (M i j) 14 200) : LP.Rt (detR n M) :=
  (LP.N1.detR h).rt (by have : n * 14 ≤ 3 * 14 := Nat.mul_le_mul_right _ hn; omega) (Nat.le_trans (fct3 hn) (by omega))
theorem detPR_rt {pss : List (List Po)} (h : sqE pss = 0) {D : LP} (hd : detR pss.length (mP pss) = D) (hr : LP.Rt D) : detPR pss = (0, (LP.canon D).1, (LP.canon D).2) := by
  unfold detPR
  rw [if_pos h, hd]
  exact LP.fit_ok hr
theorem neg_canon (x : LP) : (LP.canon (-x)).2.length = (LP.canon x).2.length := by
  by_cases h : (LP.canon x).2 = []
  · have h0 : x = 0 := by
      have h1 := LP.of_canon x
      rcases LP.canon_cano x with ⟨_, h2⟩ | h2
      · rw [h, h2] at h1
        rw [← h1]; rfl
      · exact absurd h h2.1
    rw [h0, CR.neg_zero]
  · have h1 := LP.canon_unit (LP.canon_cano x) h 0 (-1) (.inr rfl)
    rw [LP.of_canon] at h1
    have e : x * LP.term 0 (-1) = -x := by
      rw [CR.mul_comm]
      refine LP.ext fun k => ?_
      rw [LP.co_term_mul, LP.co_neg, Int.sub_zero]
      omega
    rw [e] at h1
    rw [h1]
    simp
/-- Partial products of the diagonal. -/
theorem diag_n1 (raw : List (List Int)) (n : Nat) : ∀ k, LP.N1 (diagP (peT raw n) k) (14 * k) (200 ^ k)
  | 0 => LP.N1.one
  | k + 1 => by
    have h : LP.N1 (peT raw n k k) 14 200 := by unfold peT; rw [if_neg (by omega)]; exact pe_n1 raw _
    exact ((diag_n1 raw n k).mul h).mono (by omega) (by rw [Nat.pow_succ]; exact Nat.le_refl _)
theorem diag_rt (raw : List (List Int)) (n : Nat) {k : Nat} (hk : k ≤ 3) : LP.Rt (diagP (peT raw n) k) := by
  refine (diag_n1 raw n k).rt (by omega) ?_
  have : 200 ^ k ≤ 200 ^ 3 := Nat.pow_le_pow_right (by omega) hk
  omega
end Go.Proofs.Ytldfnfhommbokaa
/- What package braid's functions are to answer. -/
namespace Go.Proofs.Ytldfnfhommbokaa
set_option linter.unusedVariables false
set_option linter.unusedSimpArgs false
open Go.RowKit

def permE (n : Int) (w : List Int) : List Int := if bfault n w = 0 then zs (endsL n.toNat w) else []
def expoB (n : Int) (w : List Int) : Int := if bfault n w = 0 then LP.expo w else 0
def invB (n : Int) (w : List Int) : List Int := if bfault n w = 0 then invw w else []
def burE (n : Int) (w : List Int) : Int := if bfault n w = 0 then (if 16 < w.length then 2 else 0) else bfault n w
noncomputable def buL (n : Nat) (w : List Int) : List (List Po) := (List.range n).map fun i => (List.range n).map fun j => cP (bu n w i j)
noncomputable def burL (n : Int) (w : List Int) : List (List Po) := if burE n w = 0 then buL n.toNat w else []
/-- A matrix and an error. -/
def GivesMP (w : World) (err : Int) (pss : List (List Po)) (e : Ending) (w' : World) : Prop :=
  ∃ A n c, e = .returned (.tuple #[.slice A n c, .int .i64 err]) ∧ SPP w' A n c pss ∧ Below w.heap.size w w'
/-- Package braid, as the document asks. -/
structure BraidC : Prop where
  check : ∀ (m : Int) (A : Option Addr) (n c : Nat) (xs : List Int) (w : World), SL w A n c xs → (Lit.int .i64 m).wf = true → Calls Try.prog 13 #[.int .i64 m, .slice A n c] w fun e w' => e = .returned (.int .i64 (bfault m xs)) ∧ Below w.heap.size w w'
  perm : ∀ (m : Int) (A : Option Addr) (n c : Nat) (xs : List Int) (w : World), SL w A n c xs → (Lit.int .i64 m).wf = true → Calls Try.prog 8 #[.int .i64 m, .slice A n c] w (GivesLE w (bfault m xs) (permE m xs))
  expo : ∀ (m : Int) (A : Option Addr) (n c : Nat) (xs : List Int) (w : World), SL w A n c xs → (Lit.int .i64 m).wf = true → Calls Try.prog 9 #[.int .i64 m, .slice A n c] w fun e w' => e = .returned (.tuple #[.int .i64 (expoB m xs), .int .i64 (bfault m xs)]) ∧ Below w.heap.size w w'
  inverse : ∀ (m : Int) (A : Option Addr) (n c : Nat) (xs : List Int) (w : World), SL w A n c xs → (Lit.int .i64 m).wf = true → Calls Try.prog 10 #[.int .i64 m, .slice A n c] w (GivesLE w (bfault m xs) (invB m xs))
  burau : ∀ (m : Int) (A : Option Addr) (n c : Nat) (xs : List Int) (w : World), SL w A n c xs → (Lit.int .i64 m).wf = true → Calls Try.prog 18 #[.int .i64 m, .slice A n c] w (GivesMP w (burE m xs) (burL m xs))

set_option maxRecDepth 100000 in
set_option maxHeartbeats 2000000 in
theorem braided_l (F : BraidC) (w : World) : Calls Try.prog 12 #[] w fun e w' => e = .returned (.bool true) ∧ Below w.heap.size w w' := by
  have HF := hide F
  clear F
  go_enter Try.func12, Try.ntmps12
  go_wp2_with fail
  have hl1 := SL.lit w [1, 2] (by decide) rfl rfl
  refine (HF.out.perm 3 _ 2 2 [1, 2] _ hl1 (by decide)).mono ?_
  rintro e w1 ⟨A1, n1, c1, rfl, hs1, hb1⟩
  rw [show bfault 3 [1, 2] = 0 from by decide]
  rw [show permE 3 [1, 2] = [2, 0, 1] from by decide] at hs1
  have hb01 := ((Below.refl w.heap.size w).alloc (Nat.le_refl _) (.cells #[.int .i64 1, .int .i64 2] 3)).trans (hb1.mono (by simp))
  have HS1 := hide hs1
  have HB01 := hide hb01
  clear hl1 hs1 hb1 hb01
  go_wp2_with fail
  have hl3 := SL.lit w1 [2, 0, 1] (by decide) rfl rfl
  have hb23 := (Below.refl w1.heap.size w1).alloc (Nat.le_refl _) (.cells #[.int .i64 2, .int .i64 0, .int .i64 1] 3)
  refine (equal_any A1 _ n1 3 c1 3 [2, 0, 1] [2, 0, 1] _ (HS1.out.il.below hb23) hl3.il).mono ?_
  rintro e w3 ⟨rfl, hb3⟩
  rw [eqB_true rfl]
  have HB03 := hide ((HB01.out.trans (hb23.mono HB01.out.size)).trans (hb3.mono (HB01.out.trans (hb23.mono HB01.out.size)).size))
  clear hb3 hb23 hl3 HS1 HB01
  go_wp2_with fail
  go_ret
  exact ⟨rfl, HB03.out⟩
set_option maxRecDepth 100000 in
set_option maxHeartbeats 2000000 in
theorem braided_k (F : BraidC) (w : World) : Calls Try.prog 28 #[] w fun e w' => e = .returned (.bool true) ∧ Below w.heap.size w w' := by
  have HF := hide F
  clear F
  go_enter Try.func28, Try.ntmps28
  go_wp2_with fail
  have hl1 := SL.lit w [1, 2] (by decide) rfl rfl
  refine (HF.out.perm 3 _ 2 2 [1, 2] _ hl1 (by decide)).mono ?_
  rintro e w1 ⟨A1, n1, c1, rfl, hs1, hb1⟩
  rw [show bfault 3 [1, 2] = 0 from by decide]
  rw [show permE 3 [1, 2] = [2, 0, 1] from by decide] at hs1
  have hb01 := ((Below.refl w.heap.size w).alloc (Nat.le_refl _) (.cells #[.int .i64 1, .int .i64 2] 3)).trans (hb1.mono (by simp))
  have HS1 := hide hs1
  have HB01 := hide hb01
  clear hl1 hs1 hb1 hb01
  go_wp2_with fail
  have hl3 := SL.lit w1 [2, 0, 1] (by decide) rfl rfl
  have hb23 := (Below.refl w1.heap.size w1).alloc (Nat.le_refl _) (.cells #[.int .i64 2, .int .i64 0, .int .i64 1] 3)
  refine (equal_any A1 _ n1 3 c1 3 [2, 0, 1] [2, 0, 1] _ (HS1.out.il.below hb23) hl3.il).mono ?_
  rintro e w3 ⟨rfl, hb3⟩
  rw [eqB_true rfl]
  have HB03 := hide ((HB01.out.trans (hb23.mono HB01.out.size)).trans (hb3.mono (HB01.out.trans (hb23.mono HB01.out.size)).size))
  clear hb3 hb23 hl3 HS1 HB01
  go_wp2_with fail
  go_ret
  exact ⟨rfl, HB03.out⟩
end Go.Proofs.Ytldfnfhommbokaa
/- slices.Compare, factorial. -/
namespace Go.Proofs.Ytldfnfhommbokaa
set_option linter.unusedVariables false
set_option linter.unusedSimpArgs false
open Go.RowKit

/-- cmp.Compare at integers. -/
def cmp1 (x y : Int) : Int := if x < y then -1 else if y < x then 1 else 0

set_option maxHeartbeats 1000000 in
theorem cmp_any (x y : Int) (w : World) : Calls Try.prog 39 #[.int .i64 x, .int .i64 y] w fun e w' => e = .returned (.int .i64 (cmp1 x y)) ∧ w = w' := by
  rcases Int.lt_trichotomy x y with h | h | h
  · have HE : Hid (cmp1 x y = -1) := if_pos h
    have hx : (x != x) = false := by simp
    have hy : (y != y) = false := by simp
    go_enter Try.func39, Try.ntmps39
    go_wp2
    go_ret
    rw [HE.out]
    exact ⟨rfl, rfl⟩
  · subst h
    have HE : Hid (cmp1 x x = 0) := by unfold cmp1; rw [if_neg (by omega), if_neg (by omega)]; exact rfl
    have hx : (x != x) = false := by simp
    go_enter Try.func39, Try.ntmps39
    go_wp2
    go_ret
    rw [HE.out]
    exact ⟨rfl, rfl⟩
  · have HE : Hid (cmp1 x y = 1) := by unfold cmp1; rw [if_neg (by omega), if_pos h]; exact rfl
    have hx : (x != x) = false := by simp
    have hy : (y != y) = false := by simp
    go_enter Try.func39, Try.ntmps39
    go_wp2
    go_ret
    rw [HE.out]
    exact ⟨rfl, rfl⟩

theorem cmpI_step {xs ys : List Int} {k : Nat} (hx : k < xs.length) (hy : k < ys.length) :
    cmpI (xs.drop k) (ys.drop k) = if xs.getD k 0 < ys.getD k 0 then -1 else if ys.getD k 0 < xs.getD k 0 then 1 else cmpI (xs.drop (k + 1)) (ys.drop (k + 1)) := by
  rw [List.drop_eq_getElem_cons hx, List.drop_eq_getElem_cons hy, cmpI]
  simp only [List.getD, List.getElem?_eq_getElem hx, List.getElem?_eq_getElem hy, Option.getD_some]

end Go.Proofs.Ytldfnfhommbokaa
