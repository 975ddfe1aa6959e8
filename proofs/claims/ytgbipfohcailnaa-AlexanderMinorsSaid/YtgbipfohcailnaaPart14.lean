/- Several texts in one. -/
import Derived.Test.YtgbipfohcailnaaPart2
import Derived.Test.YtgbipfohcailnaaPart1
import Derived.Test.YtgbipfohcailnaaPart4
import Derived.Test.YtgbipfohcailnaaBase1
/- Sums of terms as windows of coefficients; wrapping to 64 bits. -/
namespace Go.Proofs.Ytgbipfohcailnaa
set_option linter.unusedVariables false
set_option linter.unusedSimpArgs false
open Go.RowKit

def wr64 (a : Int) : Int := IntKind.i64.wrap a
theorem wr64_eq (a : Int) : wr64 a = (a + 9223372036854775808) % 18446744073709551616 - 9223372036854775808 := by unfold wr64; rw [IntKind.wrap_i64]
theorem wr64_congr {a b : Int} (h : a % 18446744073709551616 = b % 18446744073709551616) : wr64 a = wr64 b := by rw [wr64_eq, wr64_eq]; omega
theorem wr64_mod (a : Int) : wr64 a % 18446744073709551616 = a % 18446744073709551616 := by rw [wr64_eq]; omega
theorem wr64_small {a : Int} (h : a.natAbs ≤ 9223372036854775807) : wr64 a = a := by rw [wr64_eq]; omega
theorem wr64_step (a s x y : Int) : IntKind.i64.wrap (wr64 a + IntKind.i64.wrap (s * x * wr64 y)) = wr64 (a + s * x * y) := by
  show wr64 (wr64 a + wr64 (s * x * wr64 y)) = _
  apply wr64_congr
  have h : (s * x * wr64 y) % 18446744073709551616 = (s * x * y) % 18446744073709551616 := by
    rw [Int.mul_emod, wr64_mod, ← Int.mul_emod]
  have h2 := wr64_mod (s * x * wr64 y)
  have h3 := wr64_mod a
  omega
theorem map_wr64 {ys : List Int} (h : ∀ y ∈ ys, y.natAbs ≤ 9223372036854775807) : ys.map wr64 = ys := by
  conv => rhs; rw [← List.map_id ys]
  exact List.map_congr_left fun y hy => wr64_small (h y hy)
theorem getD_wr64 (ys : List Int) (j : Nat) : (ys.map wr64).getD j 0 = wr64 (ys.getD j 0) := by
  simp only [List.getD, List.getElem?_map]
  cases ys[j]? <;> rfl
theorem set_wr64 (ys : List Int) (j : Nat) (v : Int) : (ys.map wr64).set j (wr64 v) = (ys.set j v).map wr64 := by rw [List.map_set]
theorem LP.of_set {b : Int} {ys : List Int} {j : Nat} (h : j < ys.length) (c : Int) : LP.of b (ys.set j (ys.getD j 0 + c)) = LP.of b ys + LP.term (b + j) c := LP.ext fun k => by
  rw [LP.co_add, LP.co_term, LP.co_of, LP.co_of, List.length_set]
  by_cases hk : b + j = k
  · subst hk
    rw [if_pos (by omega), if_pos (by omega), if_pos rfl, show (b + (j : Int) - b).toNat = j by omega]
    simp [List.getD, h]
  · rw [if_neg hk, Int.add_zero]
    by_cases h2 : b ≤ k ∧ k < b + ys.length
    · rw [if_pos h2, if_pos h2]
      have : j ≠ (k - b).toNat := by omega
      simp [List.getD, List.getElem?_set, this]
    · rw [if_neg h2, if_neg h2]
theorem LP.of_repl (b : Int) (n : Nat) : LP.of b (List.replicate n 0) = 0 := LP.ext fun k => by
  rw [LP.co_of, LP.co_zero]
  split
  · simp [List.getD, List.getElem?_replicate]
    split <;> rfl
  · rfl
/-- What stands in the sum after i letters of p and k of the minor. -/
def apS (S : LP) (sg lo : Int) (xs : List Int) (b : Int) (ys : List Int) (i k : Nat) : LP :=
  S + LP.term 0 sg * (LP.of lo (xs.take i) * LP.of b ys) + LP.term 0 sg * (LP.term (lo + i) (xs.getD i 0) * LP.of b (ys.take k))
theorem LP.of_nil (lo : Int) : LP.of lo [] = 0 := rfl
theorem apS_zero (S : LP) (sg lo : Int) (xs : List Int) (b : Int) (ys : List Int) : apS S sg lo xs b ys 0 0 = S := by
  unfold apS
  simp only [List.take_zero, LP.of_nil, CR.zero_mul, CR.mul_zero, CR.add_zero]
theorem apS_step (S : LP) (sg lo : Int) (xs : List Int) (b : Int) {ys : List Int} (i : Nat) {k : Nat} (hk : k < ys.length) : apS S sg lo xs b ys i (k + 1) = apS S sg lo xs b ys i k + LP.term (lo + i + (b + k)) (sg * xs.getD i 0 * ys.getD k 0) := by
  unfold apS
  have e : LP.term 0 sg * (LP.term (lo + i) (xs.getD i 0) * LP.term (b + k) (ys.getD k 0)) = LP.term (lo + i + (b + k)) (sg * xs.getD i 0 * ys.getD k 0) := by
    rw [LP.term_mul, LP.term_mul, Int.mul_assoc, Int.zero_add]
  rw [LP.of_take hk, CR.mul_add, CR.mul_add, e, ← CR.add_assoc (R := LP)]
theorem apS_row (S : LP) (sg lo : Int) {xs : List Int} (b : Int) (ys : List Int) {i : Nat} (hi : i < xs.length) : apS S sg lo xs b ys i ys.length = apS S sg lo xs b ys (i + 1) 0 := by
  unfold apS
  simp only [List.take_length, List.take_zero, LP.of_nil, CR.mul_zero, CR.add_zero]
  rw [LP.of_take hi, CR.add_mul, CR.mul_add, CR.add_assoc]
theorem apS_end (S : LP) (sg lo : Int) (xs : List Int) (b : Int) (ys : List Int) : apS S sg lo xs b ys xs.length 0 = S + LP.term 0 sg * (LP.of lo xs * LP.of b ys) := by
  unfold apS
  simp only [List.take_length, List.take_zero, LP.of_nil, CR.mul_zero, CR.add_zero]
/-- The matrix of the given rows and columns. -/
def pmM (pss : List (List Po)) (cs : List Int) : Mtx LP := fun i j => LP.of ((pss.getD i []).getD (cs.getD j 0).toNat (0, [])).1 ((pss.getD i []).getD (cs.getD j 0).toNat (0, [])).2
theorem without_getD {xs : List Int} {i b : Nat} (h : i < xs.length) : (without xs i).getD b 0 = xs.getD (CR.skip i b) 0 := by
  unfold without CR.skip
  simp only [List.getD, List.getElem?_append, List.length_take, List.getElem?_take, List.getElem?_drop]
  rw [Nat.min_eq_left (by omega)]
  by_cases h1 : b < i
  · rw [if_pos h1, if_pos h1, if_pos h1]
  · rw [if_neg h1, if_neg h1, show i + 1 + (b - i) = b + 1 by omega]
theorem without_mem {xs : List Int} {i : Nat} {x : Int} (h : x ∈ without xs i) : x ∈ xs := by
  unfold without at h
  rcases List.mem_append.1 h with h | h
  · exact List.mem_of_mem_take h
  · exact List.mem_of_mem_drop h
/-- The expansion along the first row, the first k columns. -/
def pmE (pss : List (List Po)) (cs : List Int) (k n : Nat) : LP := CR.sumN k fun j => CR.sgR LP j * (pmM pss cs 0 j * detR n fun a b => pmM pss cs (a + 1) (CR.skip j b))
theorem pmE_full (pss : List (List Po)) (cs : List Int) (n : Nat) : pmE pss cs (n + 1) n = detR (n + 1) (pmM pss cs) := rfl
theorem sgR_tm0 (j : Nat) : CR.sgR LP j = LP.term 0 (CR.sgR Int j) := by
  unfold CR.sgR
  split
  · rfl
  · show -LP.term 0 1 = LP.term 0 (-1)
    refine LP.ext fun k => ?_
    rw [LP.co_neg, LP.co_term, LP.co_term]
    split <;> rfl
theorem pmE_step (ps : List Po) (pss : List (List Po)) {cs : List Int} {k : Nat} (hk : k < cs.length) {lo : Int} {xs : List Int} (hp : ps.getD (cs.getD k 0).toNat (0, []) = (lo, xs)) (n : Nat) (D : LP) (hD : D = detR n (pmM pss (without cs k))) :
    pmE (ps :: pss) cs (k + 1) n = pmE (ps :: pss) cs k n + LP.term 0 (CR.sgR Int k) * (LP.of lo xs * D) := by
  unfold pmE
  rw [CR.sumN_succ, ← sgR_tm0, hD]
  congr 1
  congr 1
  congr 1
  · unfold pmM
    show LP.of (ps.getD (cs.getD k 0).toNat (0, [])).1 _ = _
    rw [hp]
    show LP.of lo (ps.getD (cs.getD k 0).toNat (0, [])).2 = _
    rw [hp]
  · congr 1
    funext a b
    unfold pmM
    rw [without_getD hk]
    rfl
theorem sgI_cases (j : Nat) : CR.sgR Int j = 1 ∨ CR.sgR Int j = -1 := by
  unfold CR.sgR
  split
  · exact .inl rfl
  · exact .inr rfl
/-- The columns 0 to k - 1. -/
def colL (k : Nat) : List Int := (List.range k).map fun i : Nat => (i : Int)
theorem colL_succ (k : Nat) : colL (k + 1) = colL k ++ [(k : Int)] := by simp [colL, List.range_succ]
theorem colL_getD {k j : Nat} (h : j < k) : (colL k).getD j 0 = (j : Int) := by simp [colL, List.getD, h]
theorem colL_mem {k : Nat} {x : Int} (h : x ∈ colL k) : 0 ≤ x ∧ x < k := by
  unfold colL at h
  obtain ⟨i, hi, rfl⟩ := List.mem_map.1 h
  have := List.mem_range.1 hi
  omega
theorem pmM_colL (pss : List (List Po)) (n : Nat) : detR n (pmM pss (colL n)) = detR n (mP pss) := detR_congr fun i _ j hj => by
  unfold pmM mP
  rw [colL_getD hj, Int.toNat_natCast]
end Go.Proofs.Ytgbipfohcailnaa
/- Package alexander: what fits (mathematics). -/
namespace Go.Proofs.Ytgbipfohcailnaa
set_option linter.unusedVariables false
set_option linter.unusedSimpArgs false
open CR

/-- The Burau matrices of two words, and all that is made of them, fit. -/
structure AlF (N : Nat) (u v : List Int) : Prop where
  ru : ∀ i, i < N → ∀ j, j < N → LP.Rt (bu N u i j)
  rv : ∀ i, i < N → ∀ j, j < N → LP.Rt (bu N v i j)
  rp : ∀ i, i < N → ∀ k, k < N → ∀ j, j < N → LP.Rt (bu N u i k * bu N v k j)
  rs : ∀ i, i < N → ∀ j, j < N → ∀ m, m ≤ N → LP.Rt (CR.sumN m fun k => bu N u i k * bu N v k j)
  sm : ∀ i, i < N → ∀ j, j < N → LP.N1 (bu N (u ++ v) i j) 20 99999999
theorem AlF.of_RN {N E1 E2 V1 V2 : Nat} {u v : List Int} (h1 : RN N (bu N u) E1 V1) (h2 : RN N (bu N v) E2 V2) (hE : E1 + E2 ≤ 20) (hV : V1 * V2 ≤ 99999999) (a1 : V1 ≤ 100000000) (a2 : V2 ≤ 100000000) : AlF N u v := by
  refine ⟨fun i hi j hj => (h1.entry hi hj).rt (by omega) a1, fun i hi j hj => (h2.entry hi hj).rt (by omega) a2, fun i hi k hk j hj => ((h1.entry hi hk).mul (h2.entry hk hj)).rt (by omega) (by omega), fun i hi j hj m hm => (h1.part h2 hi hj hm).rt (by omega) (by omega), fun i hi j hj => ?_⟩
  rw [bu_append N u v i hi j hj]
  exact (h1.part h2 hi hj (Nat.le_refl _)).mono hE hV
theorem AlF.short {N : Nat} {u v : List Int} (hl : u.length + v.length ≤ 16) : AlF N u v := by
  have p1 : 3 ^ u.length ≤ 43046721 := pow3 (by omega)
  have p2 : 3 ^ v.length ≤ 43046721 := pow3 (by omega)
  refine AlF.of_RN (bu_rn u) (bu_rn v) (by omega) ?_ (by omega) (by omega)
  rw [← Nat.pow_add]
  have := pow3 hl
  omega
theorem rn_ten {u : List Int} (hu : okB 2 u) (hl : u.length ≤ 10) : RN 2 (bu 2 u) 10 4968 := by
  have o1 : okB 2 (u.drop 1) := fun x hx => hu x (List.mem_of_mem_drop hx)
  have h1 : RN 2 (bu 2 (u.drop 1)) 9 1656 := ⟨fun _ _ => 828, fun i hi j hj => bu_small (Nat.le_refl 2) (by omega) o1 (by simp; omega) hi hj, fun i hi => by show 0 + 828 + 828 ≤ 1656; omega⟩
  have h2 : RN 2 (bu 2 (u.take 1)) 1 3 := (bu_rn (u.take 1)).mono (by simp; omega) (by
    have : 3 ^ (u.take 1).length ≤ 3 ^ 1 := Nat.pow_le_pow_right (by omega) (by simp; omega)
    simpa using this)
  have h3 := (h2.mul h1).congr (EqM.symm (bu_append 2 (u.take 1) (u.drop 1)))
  rw [List.take_append_drop] at h3
  exact h3
theorem AlF.two {u v : List Int} (hu : okB 2 u) (hv : okB 2 v) (lu : u.length ≤ 10) (lv : v.length ≤ 10) : AlF 2 u v :=
  AlF.of_RN (rn_ten hu lu) (rn_ten hv lv) (by omega) (by decide) (by decide) (by decide)
theorem okB_one {w : List Int} (h : okB 1 w) : w = [] := by
  cases w with
  | nil => rfl
  | cons x w => have := h x (by simp); omega
theorem AlF.all {N : Nat} {w : List Int} (hw : okB N w) (h1 : 1 ≤ N) (hl : w.length ≤ 20) (hf : w.length ≤ 16 ∨ N ≤ 2) : AlF N (w.take (w.length / 2)) (w.drop (w.length / 2)) := by
  by_cases h : w.length ≤ 16
  · exact AlF.short (by rw [List.length_take, List.length_drop]; omega)
  · have h2 : N = 2 := by
      by_cases e : N = 1
      · subst e
        rw [okB_one hw] at h
        simp at h
      · omega
    subst h2
    exact AlF.two (fun x hx => hw x (List.mem_of_mem_take hx)) (fun x hx => hw x (List.mem_of_mem_drop hx)) (by rw [List.length_take]; omega) (by rw [List.length_drop]; omega)
/-- The identity matrix less a Burau matrix. -/
noncomputable def imA (N : Nat) (w : List Int) : Mtx LP := fun i j => oneM i j + -(bu N w i j)
theorem adet_im (N : Nat) (w : List Int) : adet N w = detR (N - 1) (imA N w) := rfl
theorem imA_n1 {N : Nat} {w : List Int} {i j : Nat} (h : LP.N1 (bu N w i j) 20 99999999) : LP.N1 (imA N w i j) 20 100000000 := by
  have h1 : LP.N1 ((oneM : Mtx LP) i j) 20 1 := by
    unfold oneM
    split
    · exact LP.N1.one.mono (by omega) (by omega)
    · exact LP.N1.zero.mono (by omega) (by omega)
  exact (h1.add h.neg).mono (Nat.le_refl _) (by omega)
theorem detR_1 (M : Mtx LP) : detR 1 M = M 0 0 := by
  show CR.sumN 1 (fun j => CR.sgR LP j * (M 0 j * 1)) = _
  rw [CR.sumN_succ]
  show CR.sumN 0 _ + CR.sgR LP 0 * (M 0 0 * 1) = _
  rw [CR.mul_one]
  show 0 + 1 * M 0 0 = _
  rw [CR.zero_add, CR.one_mul]
theorem CE.of_n1 {x : LP} {E V : Nat} (h : LP.N1 x E V) : CE x E V := ⟨fun k hk => h.supp hk, h.co⟩
/-- The determinant fits. -/
theorem adet_ce {N : Nat} {w : List Int} (hw : okB N w) (h1 : 1 ≤ N) (h6 : N ≤ 6) (hl : w.length ≤ 20) (hf : w.length ≤ 16 ∨ N ≤ 2) : CE (adet N w) 20 100000000 := by
  by_cases h : w.length ≤ 16
  · obtain ⟨M, rfl⟩ : ∃ M, N = M + 1 := ⟨N - 1, by omega⟩
    exact (adet_16 (by omega) hw h).mono (by omega) (by omega)
  · have h2 : N = 2 := by
      by_cases e : N = 1
      · subst e
        rw [okB_one hw] at h
        simp at h
      · omega
    subst h2
    have h3 := (AlF.all hw h1 hl hf).sm 0 (by omega) 0 (by omega)
    rw [List.take_append_drop] at h3
    rw [adet_im, show 2 - 1 = 1 from rfl, detR_1]
    exact CE.of_n1 (imA_n1 h3)
/-- The matrix as lists of polynomials. -/
noncomputable def imL (N : Nat) (w : List Int) : List (List Po) := (List.range (N - 1)).map fun i => (List.range (N - 1)).map fun j => cP (imA N w i j)
theorem tabA_at {k : Nat} {X : Mtx LP} {i j : Nat} (hi : i < k) (hj : j < k) : (((List.range k).map fun i => (List.range k).map fun j => cP (X i j)).getD i []).getD j (0, []) = cP (X i j) := by simp [List.getD, hi, hj]
theorem imL_det (N : Nat) (w : List Int) : detR (N - 1) (pmM (imL N w) (colL (N - 1))) = adet N w := by
  rw [pmM_colL, adet_im]
  refine detR_congr fun i hi j hj => ?_
  unfold mP imL
  rw [tabA_at hi hj]
  exact of_cP _
/-- The first coefficients. -/
theorem CE.take_ {b : Int} {ys : List Int} {E V : Nat} (h : CE (LP.of b ys) E V) (i : Nat) : CE (LP.of b (ys.take i)) E V := by
  have e : ∀ k, LP.co (LP.of b (ys.take i)) k = 0 ∨ LP.co (LP.of b (ys.take i)) k = LP.co (LP.of b ys) k := fun k => by
    rw [LP.co_of, LP.co_of, List.length_take]
    by_cases h1 : b ≤ k ∧ k < b + (min i ys.length : Nat)
    · rw [if_pos h1, if_pos (by omega)]
      right
      simp only [List.getD, List.getElem?_take]
      rw [if_pos (by omega)]
    · rw [if_neg h1]
      exact .inl rfl
  refine ⟨fun k hk => h.ex k ?_, fun k => ?_⟩
  · rcases e k with e1 | e1
    · exact absurd e1 hk
    · rwa [← e1]
  · rcases e k with e1 | e1
    · rw [e1]; exact Nat.zero_le _
    · rw [e1]; exact h.cf k
theorem CE.at_ {b : Int} {ys : List Int} {E V : Nat} (h : CE (LP.of b ys) E V) {i : Nat} (hi : i < ys.length) : (ys.getD i 0).natAbs ≤ V ∧ (ys.getD i 0 ≠ 0 → (b + i).natAbs ≤ E) := by
  have e : LP.co (LP.of b ys) (b + i) = ys.getD i 0 := by
    rw [LP.co_of, if_pos (by omega), show (b + (i : Int) - b).toNat = i by omega]
  refine ⟨by rw [← e]; exact h.cf _, fun h0 => h.ex _ (by rw [e]; exact h0)⟩
theorem canon_tm {e c : Int} (h : c ≠ 0) : LP.canon (LP.term e c) = (e, [c]) := LP.canon_eq (.inr ⟨by simp, by simpa using h, by simpa using h⟩) (LP.of_one e c)
/-- One coefficient more. -/
theorem canon_more {b : Int} {ys : List Int} (h : CE (LP.of b ys) 20 100000000) {i : Nat} (hi : i < ys.length) (h0 : ys.getD i 0 ≠ 0) :
    LP.addR (LP.canon (LP.of b (ys.take i))).1 (LP.canon (LP.of b (ys.take i))).2 (b + i) [ys.getD i 0] = (0, (LP.canon (LP.of b (ys.take (i + 1)))).1, (LP.canon (LP.of b (ys.take (i + 1)))).2) := by
  have r1 : LP.Rt (LP.of b (ys.take i)) := (h.take_ i).rt (by omega) (Nat.le_refl _)
  have r3 : LP.Rt (LP.of b (ys.take (i + 1))) := (h.take_ (i + 1)).rt (by omega) (Nat.le_refl _)
  obtain ⟨c1, c2⟩ := h.at_ hi
  have c3 := c2 h0
  have r2 : LP.Rt (LP.term (b + i) (ys.getD i 0)) := ((LP.N1.term (b + i) (ys.getD i 0)).mono c3 c1).rt (by omega) (Nat.le_refl _)
  have e := LP.addR_canon r1 r2 (by rw [← LP.of_take hi]; exact r3)
  rw [← LP.of_take hi, canon_tm h0] at e
  exact e
theorem canon_same {b : Int} {ys : List Int} {i : Nat} (hi : i < ys.length) (h0 : ys.getD i 0 = 0) : LP.of b (ys.take (i + 1)) = LP.of b (ys.take i) := by
  rw [LP.of_take hi, h0]
  refine LP.ext fun k => ?_
  rw [LP.co_add, LP.co_term]
  split <;> omega
theorem alP_eq {N : Nat} {w : List Int} (h : alE (N : Int) w = 0) : alP (N : Int) w = LP.normC (LP.canon (adet N w)).2 := by unfold alP; rw [if_pos h, Int.toNat_natCast]
end Go.Proofs.Ytgbipfohcailnaa
/- Package braid: Check, generator, ExponentSum, Inverse. -/
namespace Go.Proofs.Ytgbipfohcailnaa
set_option linter.unusedVariables false
set_option linter.unusedSimpArgs false
open Go.RowKit

theorem bfault_bad {m : Int} {xs : List Int} (h1 : 1 ≤ m) (h6 : m ≤ 6) (h : xs.length ≤ 30) {k : Nat} (hk : k < xs.length) (hb : okX m (xs.getD k 0) = false) : bfault m xs = 3 := by
  unfold bfault
  rw [if_neg (by omega), if_neg (by omega), if_neg]
  intro h2
  have h3 := List.all_eq_true.1 h2 _ (List.getElem_mem hk)
  rw [show xs.getD k 0 = xs[k] by simp [List.getD, hk]] at hb
  rw [hb] at h3
  cases h3
theorem bfault_all {m : Int} {xs : List Int} (h1 : 1 ≤ m) (h6 : m ≤ 6) (h : xs.length ≤ 30) (hb : ∀ k, k < xs.length → okX m (xs.getD k 0) = true) : bfault m xs = 0 := by
  unfold bfault
  rw [if_neg (by omega), if_neg (by omega), if_pos]
  rw [List.all_eq_true]
  intro x hx
  obtain ⟨k, hk, rfl⟩ := List.getElem_of_mem hx
  have := hb k hk
  rwa [show xs.getD k 0 = xs[k] by simp [List.getD, hk]] at this

set_option maxRecDepth 100000 in
set_option maxHeartbeats 4000000 in
theorem bcheck_any (m : Int) (A : Option Addr) (n c : Nat) (xs : List Int) (w : World) (ha : SL w A n c xs) (hm : (Lit.int .i64 m).wf = true) :
    Calls Try.prog 11 #[.int .i64 m, .slice A n c] w fun e w' => e = .returned (.int .i64 (bfault m xs)) ∧ w = w' := by
  have HL := hide ha.il.len
  have HA := hide ha.il
  have hns := ha.il.small
  clear ha
  by_cases h1 : m < 1
  · have HE : Hid (bfault m xs = 1) := hide (by unfold bfault; rw [if_pos (by omega)])
    go_enter Try.func11, Try.ntmps11
    go_wp2_with fail
    go_ret
    exact ⟨by rw [HE.out]; rfl, rfl⟩
  by_cases h6 : 6 < m
  · have HE : Hid (bfault m xs = 1) := hide (by unfold bfault; rw [if_pos (by omega)])
    go_enter Try.func11, Try.ntmps11
    go_wp2_with fail
    go_ret
    exact ⟨by rw [HE.out]; rfl, rfl⟩
  by_cases h30 : 30 < n
  · have HE : Hid (bfault m xs = 2) := hide (by unfold bfault; rw [if_neg (by omega), if_pos (by rw [HL.out]; exact h30)])
    go_enter Try.func11, Try.ntmps11
    go_wp2_with fail
    go_ret
    exact ⟨by rw [HE.out]; rfl, rfl⟩
  have HB : Hid (∀ k, k < n → okX m (xs.getD k 0) = false → bfault m xs = 3) := hide (fun k hk hb => bfault_bad (by omega) (by omega) (by rw [HL.out]; omega) (by rw [HL.out]; exact hk) hb)
  have HG : Hid ((∀ k, k < n → okX m (xs.getD k 0) = true) → bfault m xs = 0) := hide (fun hb => bfault_all (by omega) (by omega) (by rw [HL.out]; omega) (fun k hk => hb k (by rw [← HL.out]; exact hk)))
  have hwm : IntKind.i64.wrap (-m) = -m := by rw [IntKind.wrap_i64]; omega
  go_enter Try.func11, Try.ntmps11
  go_wp2_with fail
  go_loop [18] (fun iv => ∃ k : Nat, k ≤ n ∧ iv = .int .i64 k ∧ Hid (∀ j, j < k → okX m (xs.getD j 0) = true)) (fun iv => n - (intOf iv).toNat)
  case atStart => exact ⟨0, Nat.zero_le _, rfl, hide (fun j hj => absurd hj (by omega))⟩
  case round =>
    obtain ⟨k, hk, rfl, HP⟩ := hrel
    by_cases hlt : k < n
    · obtain ⟨ad, rfl, hx⟩ := HA.out.at_ hlt
      have HBK := hide (HB.out k hlt)
      have HN : Hid (okX m (xs.getD k 0) = true → ∀ j, j < k + 1 → okX m (xs.getD j 0) = true) := hide (fun h j hj => by
        rcases Nat.lt_or_ge j k with h2 | h2
        · exact HP.out j h2
        · rw [show j = k by omega]; exact h)
      clear HB HP
      generalize xs.getD k 0 = x at *
      by_cases hx0 : x = 0
      · have HV := hide (HBK.out (by subst hx0; unfold okX; simp))
        clear HN HBK
        subst hx0
        go_wp2_with fail
        go_ret
        exact ⟨by rw [HV.out]; rfl, rfl⟩
      by_cases hx1 : x ≤ -m
      · have HV := hide (HBK.out (by unfold okX; rw [decide_eq_false]; omega))
        have e0 : (x == 0) = false := by simpa using hx0
        clear HN HBK
        go_wp2_with fail
        go_ret
        exact ⟨by rw [HV.out]; rfl, rfl⟩
      by_cases hx2 : m ≤ x
      · have HV := hide (HBK.out (by unfold okX; rw [decide_eq_false]; omega))
        have e0 : (x == 0) = false := by simpa using hx0
        clear HN HBK
        go_wp2_with fail
        go_ret
        exact ⟨by rw [HV.out]; rfl, rfl⟩
      have HV := hide (HN.out (by unfold okX; rw [decide_eq_true]; omega))
      have e0 : (x == 0) = false := by simpa using hx0
      clear HN HBK
      go_wp2_with fail
      go_round
      case rel => exact ⟨k + 1, by omega, by go_num, HV⟩
      case measure => simp [intOf]; omega
    · have hkn : k = n := by omega
      subst hkn
      have HV := hide (HG.out HP.out)
      clear HP HG HB
      go_wp2_with fail
      go_ret
      exact ⟨by rw [HV.out]; rfl, rfl⟩

set_option maxRecDepth 100000 in
set_option maxHeartbeats 1000000 in
theorem gen_any (x : Int) (w : World) (h1 : -10 < x) (h2 : x < 10) : Calls Try.prog 61 #[.int .i64 x] w fun e w' => e = .returned (.int .i64 (x.natAbs : Int)) ∧ w = w' := by
  have hw : IntKind.i64.wrap (-x) = -x := by rw [IntKind.wrap_i64]; omega
  have HM : Hid (max x (-x) = (x.natAbs : Int)) := hide (by omega)
  go_enter Try.func61, Try.ntmps61
  go_wp2_with ((with_reducible show wpList _ _ _ (Oper.mk _ (.call { callee := .builtin .max, args := _, argTypes := _ }) _ _ _ _ :: _) _ _); refine wpList_gives rfl (gives_maxI rfl rfl rfl HM.out) ?_)
  go_ret
  exact ⟨rfl, rfl⟩

end Go.Proofs.Ytgbipfohcailnaa
/- Package braid: poly, block, sumOfProducts. -/
namespace Go.Proofs.Ytgbipfohcailnaa
set_option linter.unusedVariables false
set_option linter.unusedSimpArgs false
open Go.RowKit

set_option maxRecDepth 100000 in
set_option maxHeartbeats 2000000 in
theorem bpoly_any (lo : Int) (A : Option Addr) (n c : Nat) (w : World) : Calls Try.prog 60 #[.int .i64 lo, .slice A n c] w fun e w' => e = .returned (PV lo A n c) ∧ Below w.heap.size w w' := by
  have hb0 : Below w.heap.size w (w.alloc (.cells #[.int .i64 lo, .slice A n c] 24)) := (Below.refl _ _).alloc (Nat.le_refl _) _
  have HB0 := hide hb0
  have HK := hide (Blk.new w 24 #[.int .i64 lo, .slice A n c])
  clear hb0
  go_enter Try.func60, Try.ntmps60
  go_wp2_with fail
  refine bodyPost_ret (results_poly rfl _ rfl HK.out) rfl ?_
  exact ⟨rfl, HB0.out⟩

set_option maxRecDepth 100000 in
set_option maxHeartbeats 4000000 in
theorem sumP_any (F : PolyC) (x y z u : LP) (A : Option Addr) (n c : Nat) (B : Option Addr) (m d : Nat) (C : Option Addr) (l e : Nat) (D : Option Addr) (k f : Nat) (w : World) (ha : SL w A n c (LP.canon x).2) (hb : SL w B m d (LP.canon y).2) (hc : SL w C l e (LP.canon z).2) (hd : SL w D k f (LP.canon u).2)
    (rx : LP.Rt x) (ry : LP.Rt y) (rz : LP.Rt z) (ru : LP.Rt u) (rxy : LP.Rt (x * y)) (rzu : LP.Rt (z * u)) (rs : LP.Rt (x * y + z * u)) :
    Calls Try.prog 63 #[PV (LP.canon x).1 A n c, PV (LP.canon y).1 B m d, PV (LP.canon z).1 C l e, PV (LP.canon u).1 D k f] w (GivesP w (LP.canon (x * y + z * u)).1 (LP.canon (x * y + z * u)).2) := by
  have HM1 := hide (fun (w' : World) (h1 : SL w' A n c (LP.canon x).2) (h2 : SL w' B m d (LP.canon y).2) => F.mul (LP.canon x).1 A n c _ (LP.canon y).1 B m d _ w' h1 h2 rx.wf ry.wf)
  have HM2 := hide (fun (w' : World) (h1 : SL w' C l e (LP.canon z).2) (h2 : SL w' D k f (LP.canon u).2) => F.mul (LP.canon z).1 C l e _ (LP.canon u).1 D k f _ w' h1 h2 rz.wf ru.wf)
  have HA3 := hide (fun (w' : World) (P Q : Option Addr) (pn pc qn qc : Nat) (h1 : SL w' P pn pc (LP.canon (x * y)).2) (h2 : SL w' Q qn qc (LP.canon (z * u)).2) => F.add (LP.canon (x * y)).1 P pn pc _ (LP.canon (z * u)).1 Q qn qc _ w' h1 h2 rxy.wf rzu.wf)
  rw [LP.mulR_canon rx ry rxy] at HM1
  rw [LP.mulR_canon rz ru rzu] at HM2
  rw [LP.addR_canon rxy rzu rs] at HA3
  clear F rx ry rz ru rxy rzu rs
  generalize (LP.canon (x * y + z * u)).1 = ls at *
  generalize (LP.canon (x * y + z * u)).2 = cs at *
  generalize (LP.canon (x * y)).1 = lp at *
  generalize (LP.canon (x * y)).2 = cp at *
  generalize (LP.canon (z * u)).1 = lq at *
  generalize (LP.canon (z * u)).2 = cq at *
  generalize (LP.canon x).1 = lx at *
  generalize (LP.canon x).2 = cx at *
  generalize (LP.canon y).1 = ly at *
  generalize (LP.canon y).2 = cy at *
  generalize (LP.canon z).1 = lz at *
  generalize (LP.canon z).2 = cz at *
  generalize (LP.canon u).1 = lu at *
  generalize (LP.canon u).2 = cu at *
  obtain ⟨W0, hW0⟩ : ∃ W, ((((w.alloc (.cells #[.int .i64 lx, .slice A n c] 24)).alloc (.cells #[.int .i64 ly, .slice B m d] 24)).alloc (.cells #[.int .i64 lz, .slice C l e] 24)).alloc (.cells #[.int .i64 lu, .slice D k f] 24)).alloc (.cells #[.int .i64 0, .slice none 0 0] 24) = W := ⟨_, rfl⟩
  have hs0 : W0.heap.size = w.heap.size + 5 := by rw [← hW0]; simp
  have hb0 : Below w.heap.size w W0 := by
    rw [← hW0]
    exact (((((Below.refl _ _).alloc (Nat.le_refl _) _).alloc (by simp) _).alloc (by simp; omega) _).alloc (by simp; omega) _).alloc (by simp; omega) _
  have B1 : Blk W0 w.heap.size 24 #[.int .i64 lx, .slice A n c] := by rw [← hW0]; exact (((Blk.new w _ _).alloc _).alloc _).alloc _ |>.alloc _
  have B2 : Blk W0 (w.heap.size + 1) 24 #[.int .i64 ly, .slice B m d] := by
    rw [← hW0]
    have h := ((Blk.new (w.alloc (.cells #[.int .i64 lx, .slice A n c] 24)) 24 #[.int .i64 ly, .slice B m d]).alloc (.cells #[.int .i64 lz, .slice C l e] 24)).alloc (.cells #[.int .i64 lu, .slice D k f] 24) |>.alloc (.cells #[.int .i64 0, .slice none 0 0] 24)
    simpa using h
  have B3 : Blk W0 (w.heap.size + 1 + 1) 24 #[.int .i64 lz, .slice C l e] := by
    rw [← hW0]
    have h := (Blk.new ((w.alloc (.cells #[.int .i64 lx, .slice A n c] 24)).alloc (.cells #[.int .i64 ly, .slice B m d] 24)) 24 #[.int .i64 lz, .slice C l e]).alloc (.cells #[.int .i64 lu, .slice D k f] 24) |>.alloc (.cells #[.int .i64 0, .slice none 0 0] 24)
    simpa using h
  have B4 : Blk W0 (w.heap.size + 1 + 1 + 1) 24 #[.int .i64 lu, .slice D k f] := by
    rw [← hW0]
    have h := (Blk.new (((w.alloc (.cells #[.int .i64 lx, .slice A n c] 24)).alloc (.cells #[.int .i64 ly, .slice B m d] 24)).alloc (.cells #[.int .i64 lz, .slice C l e] 24)) 24 #[.int .i64 lu, .slice D k f]).alloc (.cells #[.int .i64 0, .slice none 0 0] 24)
    simpa using h
  have B5 : Blk W0 (w.heap.size + 1 + 1 + 1 + 1) 24 #[.int .i64 0, .slice none 0 0] := by
    rw [← hW0]
    have h := Blk.new ((((w.alloc (.cells #[.int .i64 lx, .slice A n c] 24)).alloc (.cells #[.int .i64 ly, .slice B m d] 24)).alloc (.cells #[.int .i64 lz, .slice C l e] 24)).alloc (.cells #[.int .i64 lu, .slice D k f] 24)) 24 #[.int .i64 0, .slice none 0 0]
    simpa using h
  have HS1 := hide (ha.below hb0)
  have HS2 := hide (hb.below hb0)
  have HS3 := hide (hc.below hb0)
  have HS4 := hide (hd.below hb0)
  have HW := hide hb0
  have K1 := hide B1
  have K2 := hide B2
  have K3 := hide B3
  have K4 := hide B4
  have K5 := hide B5
  clear ha hb hc hd hb0 B1 B2 B3 B4 B5
  go_enter Try.func63, Try.ntmps63
  go_upto_region 1 with fail
  clear hW0
  obtain ⟨b1, hb1⟩ : ∃ b, w.heap.size = b := ⟨_, rfl⟩
  rw [hb1] at K1 K2 K3 K4 K5 hs0 ⊢
  have HZ := hide hb1
  clear hb1
  obtain ⟨b2, hb2⟩ : ∃ b, b1 + 1 = b := ⟨_, rfl⟩
  rw [hb2] at K2 K3 K4 K5 ⊢
  obtain ⟨b3, hb3⟩ : ∃ b, b2 + 1 = b := ⟨_, rfl⟩
  rw [hb3] at K3 K4 K5 ⊢
  obtain ⟨b4, hb4⟩ : ∃ b, b3 + 1 = b := ⟨_, rfl⟩
  rw [hb4] at K4 K5 ⊢
  obtain ⟨b5, hb5⟩ : ∃ b, b4 + 1 = b := ⟨_, rfl⟩
  rw [hb5] at K5 ⊢
  have q1 : b1 < W0.heap.size := by omega
  have q2 : b2 < W0.heap.size := by omega
  have q3 : b3 < W0.heap.size := by omega
  have q4 : b4 < W0.heap.size := by omega
  have q5 : b5 < W0.heap.size := by omega
  have p1 : b1 < b5 := by omega
  have p2 : b1 ≤ b5 := by omega
  clear hb2 hb3 hb4 hb5 hs0
  have c10 := K1.out.cell 0
  have c11 := K1.out.cell 1
  have c20 := K2.out.cell 0
  have c21 := K2.out.cell 1
  simp at c10 c11 c20 c21
  go_wp2_with fail
  refine (HM1.out W0 HS1.out HS2.out).mono ?_
  rintro e1 w1 ⟨P, pn, pc, rfl, hs, hnw, hb⟩
  have HP := hide (hs.below ((Below.refl w1.heap.size w1).alloc (Nat.le_refl _) (.cells #[.int .i64 lp, .slice P pn pc] 24)))
  have hb1 := hb.trans (((Below.refl w1.heap.size w1).alloc (Nat.le_refl _) (.cells #[.int .i64 lp, .slice P pn pc] 24)).mono hb.size)
  have K6 := hide (Blk.new w1 24 #[.int .i64 lp, .slice P pn pc])
  replace K3 := hide (K3.out.below hb1 q3)
  replace K4 := hide (K4.out.below hb1 q4)
  replace K5 := hide (K5.out.below hb1 q5)
  replace HS3 := hide (HS3.out.below hb1)
  replace HS4 := hide (HS4.out.below hb1)
  replace HW := hide (HW.out.trans (hb1.mono HW.out.size))
  have r5 : b5 < w1.heap.size := by have := hb.size; omega
  have r1 : b1 ≤ w1.heap.size := by omega
  clear K1 K2 HS1 HS2 hb1 hb hs hnw c10 c11 c20 c21 HM1 q1 q2 q3 q4 q5
  go_upto_region 2 with fail
  obtain ⟨b6, hb6⟩ : ∃ b, w1.heap.size = b := ⟨_, rfl⟩
  obtain ⟨W1, hW1⟩ : ∃ W, w1.alloc (.cells #[.int .i64 lp, .slice P pn pc] 24) = W := ⟨_, rfl⟩
  have q6 : b6 < W1.heap.size := by rw [← hW1, ← hb6]; simp
  rw [hb6] at K6 r5 r1 ⊢
  rw [hW1] at K6 K3 K4 K5 HS3 HS4 HW HP ⊢
  clear hb6 hW1
  have c10 := K3.out.cell 0
  have c11 := K3.out.cell 1
  have c20 := K4.out.cell 0
  have c21 := K4.out.cell 1
  simp at c10 c11 c20 c21
  go_wp2_with fail
  refine (HM2.out W1 HS3.out HS4.out).mono ?_
  rintro e1 w2 ⟨Q, qn, qc, rfl, hs, hnw, hb⟩
  have HQ := hide (hs.below ((Below.refl w2.heap.size w2).alloc (Nat.le_refl _) (.cells #[.int .i64 lq, .slice Q qn qc] 24)))
  have hb1 := hb.trans (((Below.refl w2.heap.size w2).alloc (Nat.le_refl _) (.cells #[.int .i64 lq, .slice Q qn qc] 24)).mono hb.size)
  have K7 := hide (Blk.new w2 24 #[.int .i64 lq, .slice Q qn qc])
  replace K6 := hide (K6.out.below hb1 q6)
  replace K5 := hide (K5.out.below hb1 (by omega))
  replace HP := hide (HP.out.below hb1)
  replace HW := hide (HW.out.trans (hb1.mono HW.out.size))
  have r6 : b6 < w2.heap.size := by have := hb.size; omega
  clear K3 K4 HS3 HS4 hb1 hb hs hnw c10 c11 c20 c21 HM2 q6
  go_upto_region 3 with fail
  obtain ⟨b7, hb7⟩ : ∃ b, w2.heap.size = b := ⟨_, rfl⟩
  obtain ⟨W2, hW2⟩ : ∃ W, w2.alloc (.cells #[.int .i64 lq, .slice Q qn qc] 24) = W := ⟨_, rfl⟩
  have q7 : b7 < W2.heap.size := by rw [← hW2, ← hb7]; simp
  rw [hb7] at K7 r6 ⊢
  rw [hW2] at K7 K6 K5 HP HQ HW ⊢
  clear hb7 hW2
  have c10 := K6.out.cell 0
  have c11 := K6.out.cell 1
  have c20 := K7.out.cell 0
  have c21 := K7.out.cell 1
  simp at c10 c11 c20 c21
  go_wp2_with fail
  refine (HA3.out W2 _ _ _ _ _ _ HP.out HQ.out).mono ?_
  rintro e1 w3 ⟨R, rn, rc, rfl, hs, hnw, hb⟩
  have HR := hide (hs.below ((Below.refl w3.heap.size w3).alloc (Nat.le_refl _) (.cells #[.int .i64 ls, .slice R rn rc] 24)))
  have hb1 := hb.trans (((Below.refl w3.heap.size w3).alloc (Nat.le_refl _) (.cells #[.int .i64 ls, .slice R rn rc] 24)).mono hb.size)
  have K8 := hide (Blk.new w3 24 #[.int .i64 ls, .slice R rn rc])
  replace K5 := hide (K5.out.below hb1 (by omega))
  replace HW := hide (HW.out.trans (hb1.mono HW.out.size))
  have HN : Hid (0 < rn → ∀ ad, R = some ad → b7 < ad.block) := hide (fun h ad e => by have := hnw h ad e; omega)
  have r7 : b7 < w3.heap.size := by have := hb.size; omega
  clear K6 K7 HP HQ hb1 hb hs hnw c10 c11 c20 c21 HA3 q7
  go_upto_region 4 with fail
  obtain ⟨b8, hb8⟩ : ∃ b, w3.heap.size = b := ⟨_, rfl⟩
  obtain ⟨W3, hW3⟩ : ∃ W, w3.alloc (.cells #[.int .i64 ls, .slice R rn rc] 24) = W := ⟨_, rfl⟩
  rw [hb8] at K8 r7 ⊢
  rw [hW3] at K8 K5 HR HW ⊢
  clear hb8 hW3
  have c10 := K8.out.cell 0
  have c11 := K8.out.cell 1
  have c20 := K5.out.cell 0
  have c21 := K5.out.cell 1
  have f20 := K5.out.frozen 0
  have f21 := K5.out.frozen 1
  simp at c10 c11 c20 c21
  go_wp2_with fail
  refine bodyPost_ret (results_poly rfl _ rfl ((K5.out.set_ 0 (.int .i64 ls)).set_ 1 (.slice R rn rc))) rfl ?_
  refine ⟨R, rn, rc, rfl, ?_, fun h ad e => by have := HN.out h ad e; have := HZ.out; omega, ?_⟩
  · exact (HR.out.setCell (fun h ad e => by have := HN.out h ad e; omega) 0 _).setCell (fun h ad e => by have := HN.out h ad e; omega) 1 _
  · exact (HW.out.setCell (p := ⟨b5, 0, none⟩) (by show w.heap.size ≤ b5; rw [HZ.out]; exact p2) _).setCell (p := ⟨b5, 1, none⟩) (by show w.heap.size ≤ b5; rw [HZ.out]; exact p2) _
end Go.Proofs.Ytgbipfohcailnaa
