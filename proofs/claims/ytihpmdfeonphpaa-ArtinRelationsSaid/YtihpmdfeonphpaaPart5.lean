/- Several texts of the walk in one. -/
import Derived.Test.YtihpmdfeonphpaaPart4
import Derived.Test.YtihpmdfeonphpaaPart3
import Derived.Test.YtihpmdfeonphpaaPart2
import Derived.Test.YtihpmdfeonphpaaPart1
import Derived.Test.YtihpmdfeonphpaaBase
import Derived.Test.YtihpmdfeonphpaaProg
import Derived.WalkKit
import Derived.Deep.QuietTactic
import Derived.BigQuiet
import Derived.WalkSpells
import Derived.WalkLawsBesides
import Derived.Outline
import Derived.BigRegion
/- The matrices of timbkeep1.PolyDetRows: entries, determinants of triangular matrices. -/
namespace Go.Proofs.Ytihpmdfeonphpaa
set_option linter.unusedVariables false
set_option linter.unusedSimpArgs false

section
open CR
variable {R : Type} [CR R]
def diagP (M : Mtx R) : Nat → R
  | 0 => 1
  | k + 1 => diagP M k * M k k
theorem diagP_shift (M : Mtx R) : ∀ k, M 0 0 * diagP (fun a b => M (a + 1) (b + 1)) k = diagP M (k + 1)
  | 0 => by
    show M 0 0 * 1 = 1 * M 0 0
    rw [mul_one, one_mul]
  | k + 1 => by
    show M 0 0 * (diagP _ k * M (k + 1) (k + 1)) = diagP M (k + 1) * M (k + 1) (k + 1)
    rw [← mul_assoc, diagP_shift M k]
/-- Zeros below the diagonal. -/
theorem detC_tri : ∀ (n : Nat) (M : Mtx R), (∀ i j, i < n → j < i → M i j = 0) → detC n M = diagP M n
  | 0, _, _ => rfl
  | n + 1, M, h => by
    show sumN (n + 1) (fun i => sgR R i * (M i 0 * detC n fun a b => M (skip i a) (b + 1))) = _
    rw [sumN_single (k := 0) (by omega) (fun i hi h0 => by rw [h i 0 hi (by omega), zero_mul, mul_zero])]
    rw [sgR_zero, one_mul, show (fun a b => M (skip 0 a) (b + 1)) = fun a b => M (a + 1) (b + 1) by funext a b; rfl]
    rw [detC_tri n _ (fun i j hi hj => h (i + 1) (j + 1) (by omega) (by omega)), diagP_shift]
theorem detR_tri (n : Nat) (M : Mtx R) (h : ∀ i j, i < n → j < i → M i j = 0) : detR n M = diagP M n := by rw [← detC_eq, detC_tri n M h]
end

/-- An entry. -/
noncomputable def pe (raw : List (List Int)) (k : Nat) : LP := if k < raw.length then mkP k ((raw.getD k []).take 4) else 0
noncomputable def cP (x : LP) : Po := ((LP.canon x).1, (LP.canon x).2)
theorem of_cP (x : LP) : LP.of (cP x).1 (cP x).2 = x := LP.of_canon x
theorem rawC_take4 (r : List Int) : (rawC (r.take 4)).length ≤ 4 := by
  unfold rawC
  rw [List.length_map, List.length_take, List.length_take]
  omega
theorem pe_n1 (raw : List (List Int)) (k : Nat) : LP.N1 (pe raw k) 14 200 := by
  unfold pe
  split
  · have h := rawC_take4 (raw.getD k [])
    have h2 := rawC_le ((raw.getD k []).take 4)
    generalize hc : rawC ((raw.getD k []).take 4) = cs at *
    have h0 : (k : Int) % 21 - 10 ≤ 10 ∧ -10 ≤ (k : Int) % 21 - 10 := by omega
    unfold mkP
    rw [hc]
    exact (LP.N1.of_ cs _ 14 50 (by omega) (by omega) h2).mono (Nat.le_refl _) (by omega)
  · exact LP.N1.zero.mono (Nat.zero_le _) (Nat.zero_le _)
theorem pe_sm (raw : List (List Int)) (k : Nat) : ∃ lo : Int, -10 ≤ lo ∧ lo ≤ 10 ∧ LP.Sm (pe raw k) lo (lo + 3) 50 := by
  unfold pe
  split
  · have h := rawC_take4 (raw.getD k [])
    have h2 := rawC_le ((raw.getD k []).take 4)
    unfold mkP
    generalize hc : rawC ((raw.getD k []).take 4) = cs at *
    refine ⟨(k : Int) % 21 - 10, by omega, by omega, (LP.Sm.of_ h h2).mono (Int.le_refl _) (by omega) (Nat.le_refl _)⟩
  · exact ⟨0, by omega, by omega, LP.Sm.zero⟩
theorem pe_ok (raw : List (List Int)) (k : Nat) : polyE (cP (pe raw k)) = 0 := by
  obtain ⟨lo, h1, h2, h3⟩ := pe_sm raw k
  obtain ⟨h4, h5⟩ := LP.canon_sm h3 (by omega)
  have hr : LP.Rt (pe raw k) := (pe_n1 raw k).rt (by omega) (by omega)
  have hlow : -20 ≤ (LP.canon (pe raw k)).1 ∧ (LP.canon (pe raw k)).1 ≤ 20 := by
    rcases LP.canon_cano (pe raw k) with ⟨_, h6⟩ | h6
    · rw [h6]; decide
    · have h7 := LP.Cano.low (lo := (LP.canon (pe raw k)).1) (.inr h6) h6.1
      rw [LP.of_canon] at h7
      have := h3.supp _ h7
      omega
  unfold polyE cP
  rw [if_neg (by simp only []; exact fun h => h hr), if_neg (by simp only []; omega), if_neg]
  rw [Bool.not_eq_true, List.any_eq_false]
  intro c hc
  have := h5 c hc
  simp
  omega
theorem zero_ok : polyE (0, []) = 0 := by decide

/-- Rows of the matrix, and of the triangular one. -/
noncomputable def rM (raw : List (List Int)) (n r j : Nat) : List Po := (List.range j).map fun c => cP (pe raw (r * n + c))
noncomputable def rT (raw : List (List Int)) (n r j : Nat) : List Po := (List.range j).map fun c => if c < r then (0, []) else cP (pe raw (r * n + c))
noncomputable def mM (raw : List (List Int)) (n k : Nat) : List (List Po) := (List.range k).map fun r => rM raw n r n
noncomputable def mT (raw : List (List Int)) (n k : Nat) : List (List Po) := (List.range k).map fun r => rT raw n r n
theorem rM_succ (raw : List (List Int)) (n r j : Nat) : rM raw n r (j + 1) = rM raw n r j ++ [cP (pe raw (r * n + j))] := by unfold rM; rw [List.range_succ, List.map_append]; rfl
theorem rT_succ (raw : List (List Int)) (n r j : Nat) : rT raw n r (j + 1) = rT raw n r j ++ [if j < r then (0, []) else cP (pe raw (r * n + j))] := by unfold rT; rw [List.range_succ, List.map_append]; rfl
theorem mM_succ (raw : List (List Int)) (n k : Nat) : mM raw n (k + 1) = mM raw n k ++ [rM raw n k n] := by unfold mM; rw [List.range_succ, List.map_append]; rfl
theorem mT_succ (raw : List (List Int)) (n k : Nat) : mT raw n (k + 1) = mT raw n k ++ [rT raw n k n] := by unfold mT; rw [List.range_succ, List.map_append]; rfl
theorem mM_len (raw : List (List Int)) (n k : Nat) : (mM raw n k).length = k := by unfold mM; simp
theorem mT_len (raw : List (List Int)) (n k : Nat) : (mT raw n k).length = k := by unfold mT; simp
/-- The matrix as polynomials. -/
noncomputable def peM (raw : List (List Int)) (n : Nat) : Mtx LP := fun i j => pe raw (i * n + j)
noncomputable def peT (raw : List (List Int)) (n : Nat) : Mtx LP := fun i j => if j < i then 0 else pe raw (i * n + j)
theorem mP_mM (raw : List (List Int)) (n : Nat) : ∀ i, i < n → ∀ j, j < n → mP (mM raw n n) i j = peM raw n i j := fun i hi j hj => by
  unfold mP mM rM peM
  have e : (((List.range n).map fun r => (List.range n).map fun c => cP (pe raw (r * n + c))).getD i []).getD j (0, []) = cP (pe raw (i * n + j)) := by
    simp [List.getD, hi, hj]
  rw [e, of_cP]
theorem mP_mT (raw : List (List Int)) (n : Nat) : ∀ i, i < n → ∀ j, j < n → mP (mT raw n n) i j = peT raw n i j := fun i hi j hj => by
  unfold mP mT rT peT
  have e : (((List.range n).map fun r => (List.range n).map fun c => if c < r then (0, []) else cP (pe raw (r * n + c))).getD i []).getD j (0, []) = if j < i then (0, []) else cP (pe raw (i * n + j)) := by
    simp [List.getD, hi, hj]
  rw [e]
  split
  · rfl
  · rw [of_cP]
theorem mM_sq (raw : List (List Int)) (n : Nat) (hn : n ≤ 4) : sqE (mM raw n n) = 0 := sqE_all (by rw [mM_len]; exact hn) fun r hr => by
  unfold mM at hr
  obtain ⟨i, _, rfl⟩ := List.mem_map.1 hr
  refine ⟨by rw [mM_len]; unfold rM; simp, fun p hp => ?_⟩
  obtain ⟨c, _, rfl⟩ := List.mem_map.1 hp
  exact pe_ok raw _
theorem mT_sq (raw : List (List Int)) (n : Nat) (hn : n ≤ 4) : sqE (mT raw n n) = 0 := sqE_all (by rw [mT_len]; exact hn) fun r hr => by
  unfold mT at hr
  obtain ⟨i, _, rfl⟩ := List.mem_map.1 hr
  refine ⟨by rw [mT_len]; unfold rT; simp, fun p hp => ?_⟩
  obtain ⟨c, _, rfl⟩ := List.mem_map.1 hp
  split
  · exact zero_ok
  · exact pe_ok raw _
theorem fct3 {n : Nat} (hn : n ≤ 3) : LP.fctP n * 200 ^ n ≤ 48000000 := by
  have : n = 0 ∨ n = 1 ∨ n = 2 ∨ n = 3 := by omega
  rcases this with h | h | h | h <;> subst h <;> decide
theorem det_rt {n : Nat} {M : Mtx LP} (hn : n ≤ 3) (h : ∀ i, i < n → ∀ j, j < n → LP.N1 (M i j) 14 200) : LP.Rt (detR n M) :=
  (LP.N1.detR h).rt (by have : n * 14 ≤ 3 * 14 := Nat.mul_le_mul_right _ hn; omega) (Nat.le_trans (fct3 hn) (by omega))
theorem detPR_rt {pss : List (List Po)} (h : sqE pss = 0) {D : LP} (hd : detR pss.length (mP pss) = D) (hr : LP.Rt D) : detPR pss = (0, (LP.canon D).1, (LP.canon D).2) := by
  unfold detPR
  rw [if_pos h, hd]
  exact LP.fit_ok hr
theorem neg_canon (x : LP) : (LP.canon (-x)).2.length = (LP.canon x).2.length := by
  by_cases h : (LP.canon x).2 = []
  · have h0 : x = 0 := by
      have h1 := LP.of_canon x
      rcases LP.canon_cano x with ⟨_, h2⟩ | h2
      · rw [h, h2] at h1
        rw [← h1]; rfl
      · exact absurd h h2.1
    rw [h0, CR.neg_zero]
  · have h1 := LP.canon_unit (LP.canon_cano x) h 0 (-1) (.inr rfl)
    rw [LP.of_canon] at h1
    have e : x * LP.term 0 (-1) = -x := by
      rw [CR.mul_comm]
      refine LP.ext fun k => ?_
      rw [LP.co_term_mul, LP.co_neg, Int.sub_zero]
      omega
    rw [e] at h1
    rw [h1]
    simp
/-- Partial products of the diagonal. -/
theorem diag_n1 (raw : List (List Int)) (n : Nat) : ∀ k, LP.N1 (diagP (peT raw n) k) (14 * k) (200 ^ k)
  | 0 => LP.N1.one
  | k + 1 => by
    have h : LP.N1 (peT raw n k k) 14 200 := by unfold peT; rw [if_neg (by omega)]; exact pe_n1 raw _
    exact ((diag_n1 raw n k).mul h).mono (by omega) (by rw [Nat.pow_succ]; exact Nat.le_refl _)
theorem diag_rt (raw : List (List Int)) (n : Nat) {k : Nat} (hk : k ≤ 3) : LP.Rt (diagP (peT raw n) k) := by
  refine (diag_n1 raw n k).rt (by omega) ?_
  have : 200 ^ k ≤ 200 ^ 3 := Nat.pow_le_pow_right (by omega) hk
  omega
end Go.Proofs.Ytihpmdfeonphpaa
/- What package braid's functions are to answer. -/
namespace Go.Proofs.Ytihpmdfeonphpaa
set_option linter.unusedVariables false
set_option linter.unusedSimpArgs false
open Go.RowKit

def permE (n : Int) (w : List Int) : List Int := if bfault n w = 0 then zs (endsL n.toNat w) else []
def expoB (n : Int) (w : List Int) : Int := if bfault n w = 0 then LP.expo w else 0
def invB (n : Int) (w : List Int) : List Int := if bfault n w = 0 then invw w else []
def burE (n : Int) (w : List Int) : Int := if bfault n w = 0 then (if 16 < w.length then 2 else 0) else bfault n w
noncomputable def buL (n : Nat) (w : List Int) : List (List Po) := (List.range n).map fun i => (List.range n).map fun j => cP (bu n w i j)
noncomputable def burL (n : Int) (w : List Int) : List (List Po) := if burE n w = 0 then buL n.toNat w else []
/-- A matrix and an error. -/
def GivesMP (w : World) (err : Int) (pss : List (List Po)) (e : Ending) (w' : World) : Prop :=
  ∃ A n c, e = .returned (.tuple #[.slice A n c, .int .i64 err]) ∧ SPP w' A n c pss ∧ Below w.heap.size w w'
/-- Package braid, as the document asks. -/
structure BraidC : Prop where
  check : ∀ (m : Int) (A : Option Addr) (n c : Nat) (xs : List Int) (w : World), SL w A n c xs → (Lit.int .i64 m).wf = true → Calls Try.prog 25 #[.int .i64 m, .slice A n c] w fun e w' => e = .returned (.int .i64 (bfault m xs)) ∧ Below w.heap.size w w'
  perm : ∀ (m : Int) (A : Option Addr) (n c : Nat) (xs : List Int) (w : World), SL w A n c xs → (Lit.int .i64 m).wf = true → Calls Try.prog 15 #[.int .i64 m, .slice A n c] w (GivesLE w (bfault m xs) (permE m xs))

end Go.Proofs.Ytihpmdfeonphpaa
/- slices.Compare, factorial. -/
namespace Go.Proofs.Ytihpmdfeonphpaa
set_option linter.unusedVariables false
set_option linter.unusedSimpArgs false
open Go.RowKit

/-- cmp.Compare at integers. -/
def cmp1 (x y : Int) : Int := if x < y then -1 else if y < x then 1 else 0

theorem cmpI_step {xs ys : List Int} {k : Nat} (hx : k < xs.length) (hy : k < ys.length) :
    cmpI (xs.drop k) (ys.drop k) = if xs.getD k 0 < ys.getD k 0 then -1 else if ys.getD k 0 < xs.getD k 0 then 1 else cmpI (xs.drop (k + 1)) (ys.drop (k + 1)) := by
  rw [List.drop_eq_getElem_cons hx, List.drop_eq_getElem_cons hy, cmpI]
  simp only [List.getD, List.getElem?_eq_getElem hx, List.getElem?_eq_getElem hy, Option.getD_some]

end Go.Proofs.Ytihpmdfeonphpaa
/- Package braid: Check, generator, ExponentSum, Inverse. -/
namespace Go.Proofs.Ytihpmdfeonphpaa
set_option linter.unusedVariables false
set_option linter.unusedSimpArgs false
open Go.RowKit

theorem bfault_bad {m : Int} {xs : List Int} (h1 : 1 ≤ m) (h6 : m ≤ 6) (h : xs.length ≤ 30) {k : Nat} (hk : k < xs.length) (hb : okX m (xs.getD k 0) = false) : bfault m xs = 3 := by
  unfold bfault
  rw [if_neg (by omega), if_neg (by omega), if_neg]
  intro h2
  have h3 := List.all_eq_true.1 h2 _ (List.getElem_mem hk)
  rw [show xs.getD k 0 = xs[k] by simp [List.getD, hk]] at hb
  rw [hb] at h3
  cases h3
theorem bfault_all {m : Int} {xs : List Int} (h1 : 1 ≤ m) (h6 : m ≤ 6) (h : xs.length ≤ 30) (hb : ∀ k, k < xs.length → okX m (xs.getD k 0) = true) : bfault m xs = 0 := by
  unfold bfault
  rw [if_neg (by omega), if_neg (by omega), if_pos]
  rw [List.all_eq_true]
  intro x hx
  obtain ⟨k, hk, rfl⟩ := List.getElem_of_mem hx
  have := hb k hk
  rwa [show xs.getD k 0 = xs[k] by simp [List.getD, hk]] at this

set_option maxRecDepth 100000 in
set_option maxHeartbeats 4000000 in
theorem bcheck_any (m : Int) (A : Option Addr) (n c : Nat) (xs : List Int) (w : World) (ha : SL w A n c xs) (hm : (Lit.int .i64 m).wf = true) :
    Calls Try.prog 25 #[.int .i64 m, .slice A n c] w fun e w' => e = .returned (.int .i64 (bfault m xs)) ∧ w = w' := by
  have HL := hide ha.il.len
  have HA := hide ha.il
  have hns := ha.il.small
  clear ha
  by_cases h1 : m < 1
  · have HE : Hid (bfault m xs = 1) := hide (by unfold bfault; rw [if_pos (by omega)])
    go_enter Try.func25, Try.ntmps25
    go_wp2_with fail
    go_ret
    exact ⟨by rw [HE.out]; rfl, rfl⟩
  by_cases h6 : 6 < m
  · have HE : Hid (bfault m xs = 1) := hide (by unfold bfault; rw [if_pos (by omega)])
    go_enter Try.func25, Try.ntmps25
    go_wp2_with fail
    go_ret
    exact ⟨by rw [HE.out]; rfl, rfl⟩
  by_cases h30 : 30 < n
  · have HE : Hid (bfault m xs = 2) := hide (by unfold bfault; rw [if_neg (by omega), if_pos (by rw [HL.out]; exact h30)])
    go_enter Try.func25, Try.ntmps25
    go_wp2_with fail
    go_ret
    exact ⟨by rw [HE.out]; rfl, rfl⟩
  have HB : Hid (∀ k, k < n → okX m (xs.getD k 0) = false → bfault m xs = 3) := hide (fun k hk hb => bfault_bad (by omega) (by omega) (by rw [HL.out]; omega) (by rw [HL.out]; exact hk) hb)
  have HG : Hid ((∀ k, k < n → okX m (xs.getD k 0) = true) → bfault m xs = 0) := hide (fun hb => bfault_all (by omega) (by omega) (by rw [HL.out]; omega) (fun k hk => hb k (by rw [← HL.out]; exact hk)))
  have hwm : IntKind.i64.wrap (-m) = -m := by rw [IntKind.wrap_i64]; omega
  go_enter Try.func25, Try.ntmps25
  go_wp2_with fail
  go_loop [18] (fun iv => ∃ k : Nat, k ≤ n ∧ iv = .int .i64 k ∧ Hid (∀ j, j < k → okX m (xs.getD j 0) = true)) (fun iv => n - (intOf iv).toNat)
  case atStart => exact ⟨0, Nat.zero_le _, rfl, hide (fun j hj => absurd hj (by omega))⟩
  case round =>
    obtain ⟨k, hk, rfl, HP⟩ := hrel
    by_cases hlt : k < n
    · obtain ⟨ad, rfl, hx⟩ := HA.out.at_ hlt
      have HBK := hide (HB.out k hlt)
      have HN : Hid (okX m (xs.getD k 0) = true → ∀ j, j < k + 1 → okX m (xs.getD j 0) = true) := hide (fun h j hj => by
        rcases Nat.lt_or_ge j k with h2 | h2
        · exact HP.out j h2
        · rw [show j = k by omega]; exact h)
      clear HB HP
      generalize xs.getD k 0 = x at *
      by_cases hx0 : x = 0
      · have HV := hide (HBK.out (by subst hx0; unfold okX; simp))
        clear HN HBK
        subst hx0
        go_wp2_with fail
        go_ret
        exact ⟨by rw [HV.out]; rfl, rfl⟩
      by_cases hx1 : x ≤ -m
      · have HV := hide (HBK.out (by unfold okX; rw [decide_eq_false]; omega))
        have e0 : (x == 0) = false := by simpa using hx0
        clear HN HBK
        go_wp2_with fail
        go_ret
        exact ⟨by rw [HV.out]; rfl, rfl⟩
      by_cases hx2 : m ≤ x
      · have HV := hide (HBK.out (by unfold okX; rw [decide_eq_false]; omega))
        have e0 : (x == 0) = false := by simpa using hx0
        clear HN HBK
        go_wp2_with fail
        go_ret
        exact ⟨by rw [HV.out]; rfl, rfl⟩
      have HV := hide (HN.out (by unfold okX; rw [decide_eq_true]; omega))
      have e0 : (x == 0) = false := by simpa using hx0
      clear HN HBK
      go_wp2_with fail
      go_round
      case rel => exact ⟨k + 1, by omega, by go_num, HV⟩
      case measure => simp [intOf]; omega
    · have hkn : k = n := by omega
      subst hkn
      have HV := hide (HG.out HP.out)
      clear HP HG HB
      go_wp2_with fail
      go_ret
      exact ⟨by rw [HV.out]; rfl, rfl⟩

set_option maxRecDepth 100000 in
set_option maxHeartbeats 1000000 in
theorem gen_any (x : Int) (w : World) (h1 : -10 < x) (h2 : x < 10) : Calls Try.prog 37 #[.int .i64 x] w fun e w' => e = .returned (.int .i64 (x.natAbs : Int)) ∧ w = w' := by
  have hw : IntKind.i64.wrap (-x) = -x := by rw [IntKind.wrap_i64]; omega
  have HM : Hid (max x (-x) = (x.natAbs : Int)) := hide (by omega)
  go_enter Try.func37, Try.ntmps37
  go_wp2_with ((with_reducible show wpList _ _ _ (Oper.mk _ (.call { callee := .builtin .max, args := _, argTypes := _ }) _ _ _ _ :: _) _ _); refine wpList_gives rfl (gives_maxI rfl rfl rfl HM.out) ?_)
  go_ret
  exact ⟨rfl, rfl⟩

theorem expo_snoc (w : List Int) (x : Int) : LP.expo (w ++ [x]) = LP.expo w + Int.sign x := by
  rw [LP.expo_append, LP.expo_cons, LP.expo_nil, Int.add_zero]

theorem invw_step {xs : List Int} {k n : Nat} (hl : xs.length = n) (hk : k < n) : (List.replicate (n - k) 0 ++ invw (xs.take k)).set (n - 1 - k) (-(xs.getD k 0)) = List.replicate (n - (k + 1)) 0 ++ invw (xs.take (k + 1)) := by
  have hlx : k < xs.length := by omega
  have e1 : invw (xs.take (k + 1)) = -(xs.getD k 0) :: invw (xs.take k) := by
    rw [List.take_succ_eq_append_getElem hlx, show xs.getD k 0 = xs[k] by simp [List.getD, hlx]]
    unfold invw
    rw [List.map_append, List.reverse_append]
    rfl
  rw [e1, show n - k = (n - (k + 1)) + 1 by omega, List.replicate_succ', List.append_assoc, List.set_append_right _ _ (by simp; omega), List.length_replicate, show n - 1 - k - (n - (k + 1)) = 0 by omega]
  rfl

end Go.Proofs.Ytihpmdfeonphpaa
/- perm.Check. -/
namespace Go.Proofs.Ytihpmdfeonphpaa
set_option linter.unusedVariables false
set_option linter.unusedSimpArgs false
open Go.RowKit

/-- The array 'seen': which of 0 to 8 lie in xs. -/
def seenA (xs : List Int) : Array Value := ((List.range 9).map fun j : Nat => Value.bool (decide ((j : Int) ∈ xs))).toArray
theorem seenA_get (xs : List Int) (j : Nat) (hj : j < 9) : (seenA xs)[j]? = some (.bool (decide ((j : Int) ∈ xs))) := by
  simp [seenA, hj]
theorem seenA_set (xs : List Int) (j : Nat) : (seenA xs).setIfInBounds j (.bool true) = seenA (xs ++ [(j : Int)]) := by
  apply Array.ext_getElem?
  intro i
  by_cases hi : i < 9
  · rw [seenA_get _ i hi, Array.getElem?_setIfInBounds]
    by_cases hij : j = i
    · subst hij
      have : j < (seenA xs).size := by simp [seenA]; omega
      simp [this]
    · rw [if_neg hij, seenA_get _ i hi]
      have : ¬ ((i : Int) = (j : Int)) := by omega
      simp [this]
  · rw [Array.getElem?_eq_none (by simp [seenA]; omega), Array.getElem?_eq_none (by simp [seenA]; omega)]

theorem pf_big {xs : List Int} (h : 9 < xs.length) : pf xs = 2 := by unfold pf; rw [if_pos h]
theorem pf_small {xs : List Int} (h : xs.length ≤ 9) : pf xs = pfGo xs.length [] xs := by unfold pf; rw [if_neg (by omega)]
theorem take_snoc (xs : List Int) (k : Nat) (h : k < xs.length) : xs.take (k + 1) = xs.take k ++ [xs.getD k 0] := by
  rw [List.take_succ_eq_append_getElem h]
  simp [List.getD, List.getElem?_eq_getElem h]

set_option maxHeartbeats 1000000 in
theorem check_any (A : Option Addr) (n c : Nat) (xs : List Int) (w : World) (ha : IL w A n xs) :
    Calls Try.prog 50 #[.slice A n c] w fun e w' => e = .returned (.int .i64 (pf xs)) ∧ Below w.heap.size w w' := by
  have hna := ha.small
  have HL := hide ha.len
  by_cases h9 : 9 < n
  · have HE := hide (pf_big (xs := xs) (by have := HL.out; omega))
    clear ha
    go_enter Try.func50, Try.ntmps50
    go_wp2
    go_ret
    rw [HE.out]
    exact ⟨rfl, Below.refl _ _⟩
  · go_enter Try.func50, Try.ntmps50
    go_wp2
    go_loopw [11] (fun i wr => ∃ k : Nat, k ≤ n ∧ i = .int .i64 k ∧ Hid (pf xs = pfGo xs.length (xs.take k) (xs.drop k)) ∧ Blk wr w.heap.size 66 (seenA (xs.take k)) ∧ Below w.heap.size w wr) (fun i _ => n - (intOf i).toNat)
    case atStart => exact ⟨0, Nat.zero_le _, rfl, pf_small (by have := HL.out; omega), Blk.new _ _ _, (Below.refl _ _).alloc (Nat.le_refl _) _⟩
    case round =>
      obtain ⟨k, hk, rfl, hpf, hblk, hnx⟩ := hrel
      have ha' := ha.below hnx
      by_cases hlt : k < n
      · obtain ⟨ad, rfl, hca⟩ := ha'.at_ hlt
        have HT := hide (take_snoc xs k (by have := HL.out; omega))
        have HP := hide (pf_step (xs := xs) (k := k) (by have := HL.out; omega))
        clear ha ha'
        generalize xs.getD k 0 = x at *
        by_cases h1 : x < 0
        · have HE : Hid (pf xs = 1) := by rw [hpf.out, HP.out, if_pos (.inl h1)]; exact rfl
          go_wp2
          go_ret
          rw [HE.out]
          exact ⟨rfl, hnx⟩
        · by_cases h2 : (n : Int) ≤ x
          · have HE : Hid (pf xs = 1) := by rw [hpf.out, HP.out, if_pos (.inr (by rw [HL.out]; exact h2))]; exact rfl
            go_wp2
            go_ret
            rw [HE.out]
            exact ⟨rfl, hnx⟩
          · obtain ⟨u, rfl⟩ : ∃ u : Nat, x = (u : Int) := ⟨x.toNat, by omega⟩
            have hu9 : u < 9 := by omega
            have hun : u < n := by omega
            have hcell := (hblk.cell u).trans (seenA_get _ u hu9)
            have hfr := hblk.frozen u
            by_cases h3 : (u : Int) ∈ xs.take k
            · have HE : Hid (pf xs = 5) := by rw [hpf.out, HP.out, if_neg (by rw [HL.out]; omega), if_pos h3]; exact rfl
              rw [decide_eq_true h3] at hcell
              clear h3
              go_wp2
              go_ret
              rw [HE.out]
              exact ⟨rfl, hnx⟩
            · have HE : Hid (pf xs = pfGo xs.length (xs.take (k + 1)) (xs.drop (k + 1))) := by rw [hpf.out, HP.out, if_neg (by rw [HL.out]; omega), if_neg h3]; exact rfl
              rw [decide_eq_false h3] at hcell
              clear h3
              go_wp2
              go_roundw
              case rel => exact ⟨k + 1, by omega, by go_num, HE, by rw [HT.out, ← seenA_set]; exact hblk.set_ _ _, hnx.setCell (Nat.le_refl _) _⟩
              case measure => simp [intOf]; omega
      · have HE : Hid (pf xs = 0) := by rw [hpf.out, pf_end xs _ k (by rw [HL.out]; omega)]; exact rfl
        go_wp2
        go_ret
        rw [HE.out]
        exact ⟨rfl, hnx⟩
end Go.Proofs.Ytihpmdfeonphpaa
/- Compose, Inverse, and the law's own compose. -/
namespace Go.Proofs.Ytihpmdfeonphpaa
set_option linter.unusedVariables false
set_option linter.unusedSimpArgs false
open Go.RowKit

/-- A slice in new memory, and no error. -/
def GivesOwn0 (w : World) (xs : List Int) (e : Ending) (w' : World) : Prop :=
  ∃ A n c, e = .returned (.tuple #[.slice A n c, .int .i64 0]) ∧ OwnI w' w.heap.size A n c xs ∧ Below w.heap.size w w'

end Go.Proofs.Ytihpmdfeonphpaa
/- Inverse. -/
namespace Go.Proofs.Ytihpmdfeonphpaa
set_option linter.unusedVariables false
set_option linter.unusedSimpArgs false
open Go.RowKit

theorem inv_step {a : List Nat} (pa : isP a) {n k : Nat} (hl : a.length = n) (hk : k < n) {ps : List Int} (hp : ps.length = n) (h : ∀ j, j < k → ps.getD (a.getD j 0) 0 = (j : Int)) :
    ∀ j, j < k + 1 → (ps.set (a.getD k 0) (k : Int)).getD (a.getD j 0) 0 = (j : Int) := by
  intro j hj
  have hlk := pa.lt (j := k) (by omega)
  by_cases e : j = k
  · subst e
    simp only [List.getD, List.getElem?_set]
    simp only [List.getD] at hlk
    rw [if_pos trivial, if_pos (by omega)]
    rfl
  · have hne : a.getD k 0 ≠ a.getD j 0 := fun h1 => e (pa.inj (by omega) (by omega) h1).symm
    have := h j (by omega)
    simp only [List.getD, List.getElem?_set] at this hne ⊢
    rw [if_neg hne]
    exact this

set_option maxHeartbeats 1000000 in
theorem inverse_ok (A : Option Addr) (n c : Nat) (a : List Nat) (w : World) (ha : IL w A n (zs a)) (pa : isP a) (h9 : a.length ≤ 9) :
    Calls Try.prog 38 #[.slice A n c] w (GivesOwn0 w (zs (inv a))) := by
  have HA := hide (pa.pf h9)
  have hna := ha.small
  have HL : Hid (a.length = n) := by have := ha.len; rwa [zs_length] at this
  have HP := hide pa
  clear pa h9
  obtain ⟨i0, hi0, hz0, hz1, hz2⟩ := info_parts int_info
  go_enter Try.func38, Try.ntmps38
  go_wp2_with fail
  refine (check_any _ _ _ _ _ ha).mono ?_
  rw [HA.out]
  rintro e w1 ⟨rfl, hb1⟩
  go_wp2_with (at_make; refine wpList_make_full _ rfl _ _ 22 rfl w1.heap.size 3 i0 (.int .i64 0) 1 Try.underlying22 hi0 hz0 hz1 .i64 .i64 _ _ n rfl rfl rfl rfl (by rw [hz2]; omega) (by unfold maxLen; omega) (Nat.le_refl _) ?_; intro w2 hown2 hg2)
  have hB2 : Below w1.heap.size w1 w2 := (Below.refl _ _).grown hg2 (Nat.le_refl _) (by intro k hk; cases hk)
  have hB02 : Below w.heap.size w w2 := hb1.trans (hB2.mono hb1.size)
  have hw2 := OwnI.zero (z := #[]) hown2 (by omega)
  clear hown2 hg2
  go_loopw [18] (fun i wr => ∃ k : Nat, k ≤ n ∧ i = .int .i64 k ∧ (∃ ps : List Int, OwnI wr w1.heap.size (some ⟨w1.heap.size, 0, none⟩) n n ps ∧ Hid (∀ j, j < k → ps.getD (a.getD j 0) 0 = (j : Int))) ∧ Below w.heap.size w wr) (fun i _ => n - (intOf i).toNat)
  case atStart => exact ⟨0, Nat.zero_le _, rfl, ⟨_, hw2, fun j hj => absurd hj (by omega)⟩, hB02⟩
  case round =>
    obtain ⟨k, hk, rfl, ⟨ps, hown, hps⟩, hnx⟩ := hrel
    have ha' := ha.below hnx
    clear ha hw2 hB02 hB2
    by_cases hlt : k < n
    · obtain ⟨ad, rfl, hca⟩ := ha'.at_ hlt
      rw [zs_getD] at hca
      have hx : a.getD k 0 < n := by have := HP.out.lt (j := k) (by have := HL.out; omega); have := HL.out; omega
      have HS := hide (inv_step HP.out HL.out hlt hown.len hps.out)
      have hcell := hown.cell hx
      have hfr := hown.frozen (a.getD k 0)
      have HO := hide (hown.set_ (a.getD k 0) (k : Int))
      clear ha' hown hps
      generalize a.getD k 0 = x at *
      generalize ps.getD x 0 = z at *
      have hsz := hb1.size
      go_wp2
      go_roundw
      case rel => exact ⟨k + 1, by omega, by go_num, ⟨_, HO.out, HS.out⟩, hnx.setCell (by simpa using hsz) _⟩
      case measure => simp [intOf]; omega
    · have HF : Hid (ps = zs (inv a)) := inv_unique HP.out (hown.len.trans HL.out.symm) (fun j hj => hps.out j (by have := HL.out; omega))
      have hsz := hb1.size
      go_wp2
      go_ret2
      rw [HF.out] at hown
      exact ⟨_, _, _, rfl, hown.mono hsz, hnx⟩

set_option maxHeartbeats 1000000 in
theorem inverse_err (A : Option Addr) (n c : Nat) (xs : List Int) (w : World) (ha : IL w A n xs) (hf : pf xs ≠ 0) :
    Calls Try.prog 38 #[.slice A n c] w fun e w' => e = .returned (.tuple #[.slice none 0 0, .int .i64 (pf xs)]) ∧ Below w.heap.size w w' := by
  have h2b : (pf xs != 0) = true := by simpa using hf
  clear hf
  go_enter Try.func38, Try.ntmps38
  go_wp2_with fail
  refine (check_any _ _ _ _ _ ha).mono ?_
  rintro e w1 ⟨rfl, hb1⟩
  go_wp2
  go_ret2
  exact ⟨rfl, hb1⟩
end Go.Proofs.Ytihpmdfeonphpaa
/- Package braid: Permutation. -/
namespace Go.Proofs.Ytihpmdfeonphpaa
set_option linter.unusedVariables false
set_option linter.unusedSimpArgs false
open Go.RowKit

/-- The strands at each position, after the letters w. -/
def AtP (n : Nat) (w : List Int) (sl : List Nat) : Prop := sl.length = n ∧ ∀ p, p < n → sl.getD p 0 < n ∧ endE w (sl.getD p 0) = p
theorem AtP.start (n : Nat) : AtP n [] (List.range n) := ⟨by simp, fun p hp => by rw [range_getD hp]; exact ⟨hp, rfl⟩⟩
theorem AtP.isP {n : Nat} {w : List Int} {sl : List Nat} (h : AtP n w sl) : Proofs.Ytihpmdfeonphpaa.isP sl := isP_of (fun j hj => by rw [h.1]; exact (h.2 j (by rw [← h.1]; exact hj)).1) (fun i j hi hj he => by
  have h1 := (h.2 i (by rw [← h.1]; exact hi)).2
  have h2 := (h.2 j (by rw [← h.1]; exact hj)).2
  rw [he, h2] at h1
  exact h1.symm)
theorem AtP.inv {n : Nat} {w : List Int} {sl : List Nat} (h : AtP n w sl) : zs (Proofs.Ytihpmdfeonphpaa.inv sl) = zs (endsL n w) := by
  refine (inv_unique h.isP (ps := zs (endsL n w)) (by rw [zs_length, endsL_length, h.1]) fun j hj => ?_).symm
  obtain ⟨h1, h2⟩ := h.2 j (by rw [← h.1]; exact hj)
  rw [zs_getD]
  congr 1
  unfold endsL
  rw [getD_map_nat (by rw [List.length_range]; exact h1), range_getD h1, h2]
/-- Two positions exchanged. -/
def swapP (i : Nat) (sl : List Nat) : List Nat := (sl.set (i - 1) (sl.getD i 0)).set i (sl.getD (i - 1) 0)
theorem swapP_zs (i : Nat) (sl : List Nat) : ((zs sl).set (i - 1) ((sl.getD i 0 : Nat) : Int)).set i ((sl.getD (i - 1) 0 : Nat) : Int) = zs (swapP i sl) := by
  unfold swapP zs
  rw [List.map_set, List.map_set]
  rfl
theorem swapP_getD {i n : Nat} {x : Int} (hx : x.natAbs = i) {sl : List Nat} (hl : sl.length = n) (h1 : 1 ≤ i) (h2 : i < n) {p : Nat} (hp : p < n) : (swapP i sl).getD p 0 = sl.getD (stepE p x) 0 := by
  unfold swapP stepE
  rw [hx]
  simp only [List.getD, List.getElem?_set, List.length_set]
  grind
theorem AtP.step {n : Nat} {w : List Int} {sl : List Nat} (h : AtP n w sl) {x : Int} (h0 : x ≠ 0) (h1 : x.natAbs < n) : AtP n (w ++ [x]) (swapP x.natAbs sl) := by
  refine ⟨by unfold swapP; simp [h.1], fun p hp => ?_⟩
  rw [swapP_getD rfl h.1 (by omega) h1 hp]
  have hs := stepE_lt h0 h1 hp
  obtain ⟨h3, h4⟩ := h.2 _ hs
  exact ⟨h3, by rw [endE_snoc, h4, stepE_twice h0]⟩

set_option maxRecDepth 100000 in
set_option maxHeartbeats 4000000 in
theorem bperm_any (m : Int) (A : Option Addr) (n c : Nat) (xs : List Int) (w : World) (ha : SL w A n c xs) (hm : (Lit.int .i64 m).wf = true) :
    Calls Try.prog 15 #[.int .i64 m, .slice A n c] w (GivesLE w (bfault m xs) (permE m xs)) := by
  have HC := hide (bcheck_any m A n c xs w ha hm)
  have HL := hide ha.il.len
  have HA := hide ha.il
  have hns := ha.il.small
  clear ha
  obtain ⟨f, hf⟩ : ∃ f, bfault m xs = f := ⟨_, rfl⟩
  have HF := hide hf
  rw [hf] at HC ⊢
  clear hf
  by_cases h0 : f = 0
  case neg =>
    have HV : Hid (permE m xs = []) := hide (by unfold permE; rw [HF.out, if_neg h0])
    have hne : (f != 0) = true := by simpa using h0
    clear h0
    go_enter Try.func15, Try.ntmps15
    go_wp2_with fail
    refine HC.out.mono ?_
    rintro e w1 ⟨rfl, hww⟩
    subst hww
    go_wp2_with fail
    go_ret2
    exact ⟨none, 0, 0, rfl, by rw [HV.out]; exact SL.nil_ _, Below.refl _ _⟩
  subst h0
  have hz := bfault_zero HF.out
  obtain ⟨M, hM⟩ : ∃ M : Nat, m = (M : Int) := ⟨m.toNat, by omega⟩
  subst hM
  have hM1 : 1 ≤ M := by omega
  have hM6 : M ≤ 6 := by omega
  have HV : Hid (permE (M : Int) xs = zs (endsL M xs)) := hide (by unfold permE; rw [HF.out, if_pos rfl, Int.toNat_natCast])
  have hn30 : n ≤ 30 := by have := hz.2.2.1; rw [HL.out] at this; exact this
  have HX : Hid (∀ k, k < n → xs.getD k 0 ≠ 0 ∧ (xs.getD k 0).natAbs < M) := hide (fun k hk => by
    have hlx : k < xs.length := by rw [HL.out]; exact hk
    have := hz.2.2.2 (xs.getD k 0) (by rw [show xs.getD k 0 = xs[k] by simp [List.getD, hlx]]; exact List.getElem_mem _)
    omega)
  clear hz
  obtain ⟨i0, hi0, hz0, hz1, hz2⟩ := info_parts int_info
  go_enter Try.func15, Try.ntmps15
  go_wp2_with fail
  refine HC.out.mono ?_
  rintro e w1 ⟨rfl, hww⟩
  subst hww
  go_wp2_with (at_make; refine wpList_make_full _ rfl _ _ 22 rfl w.heap.size 3 i0 (.int .i64 0) 1 Try.underlying22 hi0 hz0 hz1 .i64 .i64 _ _ M rfl rfl rfl rfl (by rw [hz2]; omega) (by unfold maxLen; omega) (Nat.le_refl _) ?_; intro w2 hown2 hg2)
  have hB2 : Below w.heap.size w w2 := (Below.refl _ _).grown hg2 (Nat.le_refl _) (by intro k hk; cases hk)
  have hw2 := OwnI.zero (z := #[]) hown2 (by omega)
  have HO2 : Hid (OwnI w2 w.heap.size (some ⟨w.heap.size, 0, none⟩) M M (fillN (fun j => (j : Int)) M 0)) := hide (by rw [fillN_zero]; exact hw2)
  have HB2 := hide hB2
  clear hown2 hg2 hw2 hB2
  go_loopw [22] (fun i wr => ∃ k : Nat, k ≤ M ∧ i = .int .i64 k ∧ Hid (OwnI wr w.heap.size (some ⟨w.heap.size, 0, none⟩) M M (fillN (fun j => (j : Int)) M k)) ∧ Hid (Below w.heap.size w wr)) (fun i _ => M - (intOf i).toNat)
  case atStart => exact ⟨0, Nat.zero_le _, rfl, HO2, HB2⟩
  case round =>
    clear HO2 HB2
    obtain ⟨k, hk, rfl, HO, HB⟩ := hrel
    by_cases hlt : k < M
    · have hcell := HO.out.cell hlt
      have hfr := HO.out.frozen k
      have HN := hide (HO.out.set_ k (k : Int))
      rw [fillN_set (fun j => (j : Int)) M k] at HN
      generalize (fillN (fun j => (j : Int)) M k).getD k 0 = z at *
      go_wp2_with fail
      go_roundw
      case rel => exact ⟨k + 1, by omega, by go_num, HN, hide (HB.out.setCell (Nat.le_refl _) _)⟩
      case measure => simp [intOf]; omega
    · have hkn : k = M := by omega
      have HR : Hid (OwnI wr w.heap.size (some ⟨w.heap.size, 0, none⟩) M M (zs (List.range M))) := hide (by
        have h := HO.out
        rw [hkn, fillN_full (xs := zs (List.range M)) (by rw [zs_length, List.length_range]) (fun j hj => by rw [zs_getD, range_getD hj])] at h
        exact h)
      have HP0 : Hid (∃ sl, AtP M (xs.take 0) sl ∧ OwnI wr w.heap.size (some ⟨w.heap.size, 0, none⟩) M M (zs sl)) := hide ⟨_, by rw [List.take_zero]; exact AtP.start M, HR.out⟩
      have HB0 := HB
      rename World => wo
      clear hkn HO HR hk HB
      go_wp2_with fail
      go_loopw [32] (fun i wx => ∃ k : Nat, k ≤ n ∧ i = .int .i64 k ∧ Hid (∃ sl, AtP M (xs.take k) sl ∧ OwnI wx w.heap.size (some ⟨w.heap.size, 0, none⟩) M M (zs sl)) ∧ Hid (Below w.heap.size w wx)) (fun i _ => n - (intOf i).toNat)
      case atStart => exact ⟨0, Nat.zero_le _, rfl, HP0, HB0⟩
      case round =>
        clear HP0 HB0
        obtain ⟨k, hk, rfl, HP, HB⟩ := hrel
        by_cases hlt : k < n
        · obtain ⟨sl, hat, hown⟩ := HP.out
          obtain ⟨ad, rfl, hx⟩ := (HA.out.below HB.out).at_ hlt
          obtain ⟨hx0, hx1⟩ := HX.out k hlt
          have hlx : k < xs.length := by rw [HL.out]; exact hlt
          have HAT : Hid (AtP M (xs.take (k + 1)) (swapP (xs.getD k 0).natAbs sl)) := hide (by
            rw [List.take_succ_eq_append_getElem hlx, ← show xs.getD k 0 = xs[k] by simp [List.getD, hlx]]
            exact hat.step hx0 hx1)
          clear HP hat hlx
          generalize xs.getD k 0 = x at *
          have HG := hide (gen_any x wr (by omega) (by omega))
          obtain ⟨i, hi⟩ : ∃ i, x.natAbs = i := ⟨_, rfl⟩
          rw [hi] at HG HAT hx1
          have hi1 : 1 ≤ i := by omega
          clear hi hx0
          go_wp2_with fail
          refine HG.out.mono ?_
          rintro e w3 ⟨rfl, hww⟩
          subst hww
          obtain ⟨j, rfl⟩ : ∃ j, i = j + 1 := ⟨i - 1, by omega⟩
          have hB2 := HB.out
          have hc1 : wr.cell? ⟨w.heap.size, j + 1, none⟩ = some (.int .i64 (sl.getD (j + 1) 0 : Nat)) := by have := hown.cell (j := j + 1) (by omega); rw [zs_getD] at this; exact this
          have hc0 : wr.cell? ⟨w.heap.size, j, none⟩ = some (.int .i64 (sl.getD j 0 : Nat)) := by have := hown.cell (j := j) (by omega); rw [zs_getD] at this; exact this
          have hf1 := hown.frozen (j + 1)
          have hf0 := hown.frozen j
          have HN := hide ((hown.set_ j ((sl.getD (j + 1) 0 : Nat) : Int)).set_ (j + 1) ((sl.getD j 0 : Nat) : Int))
          have hsz := swapP_zs (j + 1) sl
          rw [Nat.add_sub_cancel] at hsz
          rw [hsz] at HN
          have HBN := hide ((hB2.setCell (p := ⟨w.heap.size, j, none⟩) (Nat.le_refl _) (.int .i64 ((sl.getD (j + 1) 0 : Nat) : Int))).setCell (p := ⟨w.heap.size, j + 1, none⟩) (Nat.le_refl _) (.int .i64 ((sl.getD j 0 : Nat) : Int)))
          clear hsz hown hB2 HB
          generalize ((sl.getD (j + 1) 0 : Nat) : Int) = u at *
          generalize ((sl.getD j 0 : Nat) : Int) = v at *
          have hwj : IntKind.i64.wrap (j : Int) = (j : Int) := by rw [IntKind.wrap_i64]; omega
          have hwj1 : IntKind.i64.wrap ((j : Int) + 1) = (j : Int) + 1 := by rw [IntKind.wrap_i64]; omega
          go_upto_region 14 with fail
          go_region
          go_wp2_with fail
          go_roundw
          case rel => exact ⟨k + 1, by omega, by go_num, hide ⟨_, HAT.out, HN.out.drew⟩, hide HBN.out.drew⟩
          case measure => simp [intOf]; omega
        · have hkn : k = n := by omega
          obtain ⟨sl, hat, hown⟩ := HP.out
          rw [List.take_of_length_le (by rw [HL.out]; omega)] at hat
          have hsl := hat.1
          have HI := hide (inverse_ok (some ⟨w.heap.size, 0, none⟩) M M sl wr hown.il hat.isP (by omega))
          rw [hat.inv, ← HV.out] at HI
          clear hkn HP hat hown
          go_wp2_with fail
          refine HI.out.mono ?_
          rintro e w3 ⟨B, mm, d, rfl, hs, hb⟩
          have HR := hide hs.sl
          have HBB := hide (HB.out.trans (hb.mono HB.out.size))
          clear hs hb
          go_wp2_with fail
          go_ret2
          exact ⟨_, _, _, rfl, HR.out, HBB.out⟩
end Go.Proofs.Ytihpmdfeonphpaa
