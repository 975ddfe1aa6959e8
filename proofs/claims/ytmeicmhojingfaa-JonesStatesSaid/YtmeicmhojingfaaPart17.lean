/- Several texts in one. -/
import Derived.Test.YtmeicmhojingfaaPart9
import Derived.Test.YtmeicmhojingfaaBase1
import Derived.Test.YtmeicmhojingfaaPart16
import Derived.Test.YtmeicmhojingfaaPart1
import Derived.Test.YtmeicmhojingfaaProg
import Derived.WalkKit
import Derived.Deep.QuietTactic
import Derived.BigQuiet
import Derived.WalkSpells
import Derived.WalkLawsBesides
import Derived.Outline
import Derived.BigRegion
import Derived.Test.YtmeicmhojingfaaPart12
import Derived.Test.YtmeicmhojingfaaPart8
import Derived.Maps.RangeWalk
import Derived.Maps.Keyed
import Derived.Deep.DeepCutAuto
/- Package braid: Check, generator, ExponentSum, Inverse. -/
namespace Go.Proofs.Ytmeicmhojingfaa
set_option linter.unusedVariables false
set_option linter.unusedSimpArgs false
open Go.RowKit

theorem bfault_bad {m : Int} {xs : List Int} (h1 : 1 ≤ m) (h6 : m ≤ 6) (h : xs.length ≤ 30) {k : Nat} (hk : k < xs.length) (hb : okX m (xs.getD k 0) = false) : bfault m xs = 3 := by
  unfold bfault
  rw [if_neg (by omega), if_neg (by omega), if_neg]
  intro h2
  have h3 := List.all_eq_true.1 h2 _ (List.getElem_mem hk)
  rw [show xs.getD k 0 = xs[k] by simp [List.getD, hk]] at hb
  rw [hb] at h3
  cases h3
theorem bfault_all {m : Int} {xs : List Int} (h1 : 1 ≤ m) (h6 : m ≤ 6) (h : xs.length ≤ 30) (hb : ∀ k, k < xs.length → okX m (xs.getD k 0) = true) : bfault m xs = 0 := by
  unfold bfault
  rw [if_neg (by omega), if_neg (by omega), if_pos]
  rw [List.all_eq_true]
  intro x hx
  obtain ⟨k, hk, rfl⟩ := List.getElem_of_mem hx
  have := hb k hk
  rwa [show xs.getD k 0 = xs[k] by simp [List.getD, hk]] at this

set_option maxRecDepth 100000 in
set_option maxHeartbeats 4000000 in
theorem bcheck_any (m : Int) (A : Option Addr) (n c : Nat) (xs : List Int) (w : World) (ha : SL w A n c xs) (hm : (Lit.int .i64 m).wf = true) :
    Calls Try.prog 25 #[.int .i64 m, .slice A n c] w fun e w' => e = .returned (.int .i64 (bfault m xs)) ∧ w = w' := by
  have HL := hide ha.il.len
  have HA := hide ha.il
  have hns := ha.il.small
  clear ha
  by_cases h1 : m < 1
  · have HE : Hid (bfault m xs = 1) := hide (by unfold bfault; rw [if_pos (by omega)])
    go_enter Try.func25, Try.ntmps25
    go_wp2_with fail
    go_ret
    exact ⟨by rw [HE.out]; rfl, rfl⟩
  by_cases h6 : 6 < m
  · have HE : Hid (bfault m xs = 1) := hide (by unfold bfault; rw [if_pos (by omega)])
    go_enter Try.func25, Try.ntmps25
    go_wp2_with fail
    go_ret
    exact ⟨by rw [HE.out]; rfl, rfl⟩
  by_cases h30 : 30 < n
  · have HE : Hid (bfault m xs = 2) := hide (by unfold bfault; rw [if_neg (by omega), if_pos (by rw [HL.out]; exact h30)])
    go_enter Try.func25, Try.ntmps25
    go_wp2_with fail
    go_ret
    exact ⟨by rw [HE.out]; rfl, rfl⟩
  have HB : Hid (∀ k, k < n → okX m (xs.getD k 0) = false → bfault m xs = 3) := hide (fun k hk hb => bfault_bad (by omega) (by omega) (by rw [HL.out]; omega) (by rw [HL.out]; exact hk) hb)
  have HG : Hid ((∀ k, k < n → okX m (xs.getD k 0) = true) → bfault m xs = 0) := hide (fun hb => bfault_all (by omega) (by omega) (by rw [HL.out]; omega) (fun k hk => hb k (by rw [← HL.out]; exact hk)))
  have hwm : IntKind.i64.wrap (-m) = -m := by rw [IntKind.wrap_i64]; omega
  go_enter Try.func25, Try.ntmps25
  go_wp2_with fail
  go_loop [18] (fun iv => ∃ k : Nat, k ≤ n ∧ iv = .int .i64 k ∧ Hid (∀ j, j < k → okX m (xs.getD j 0) = true)) (fun iv => n - (intOf iv).toNat)
  case atStart => exact ⟨0, Nat.zero_le _, rfl, hide (fun j hj => absurd hj (by omega))⟩
  case round =>
    obtain ⟨k, hk, rfl, HP⟩ := hrel
    by_cases hlt : k < n
    · obtain ⟨ad, rfl, hx⟩ := HA.out.at_ hlt
      have HBK := hide (HB.out k hlt)
      have HN : Hid (okX m (xs.getD k 0) = true → ∀ j, j < k + 1 → okX m (xs.getD j 0) = true) := hide (fun h j hj => by
        rcases Nat.lt_or_ge j k with h2 | h2
        · exact HP.out j h2
        · rw [show j = k by omega]; exact h)
      clear HB HP
      generalize xs.getD k 0 = x at *
      by_cases hx0 : x = 0
      · have HV := hide (HBK.out (by subst hx0; unfold okX; simp))
        clear HN HBK
        subst hx0
        go_wp2_with fail
        go_ret
        exact ⟨by rw [HV.out]; rfl, rfl⟩
      by_cases hx1 : x ≤ -m
      · have HV := hide (HBK.out (by unfold okX; rw [decide_eq_false]; omega))
        have e0 : (x == 0) = false := by simpa using hx0
        clear HN HBK
        go_wp2_with fail
        go_ret
        exact ⟨by rw [HV.out]; rfl, rfl⟩
      by_cases hx2 : m ≤ x
      · have HV := hide (HBK.out (by unfold okX; rw [decide_eq_false]; omega))
        have e0 : (x == 0) = false := by simpa using hx0
        clear HN HBK
        go_wp2_with fail
        go_ret
        exact ⟨by rw [HV.out]; rfl, rfl⟩
      have HV := hide (HN.out (by unfold okX; rw [decide_eq_true]; omega))
      have e0 : (x == 0) = false := by simpa using hx0
      clear HN HBK
      go_wp2_with fail
      go_round
      case rel => exact ⟨k + 1, by omega, by go_num, HV⟩
      case measure => simp [intOf]; omega
    · have hkn : k = n := by omega
      subst hkn
      have HV := hide (HG.out HP.out)
      clear HP HG HB
      go_wp2_with fail
      go_ret
      exact ⟨by rw [HV.out]; rfl, rfl⟩

theorem expo_snoc (w : List Int) (x : Int) : LP.expo (w ++ [x]) = LP.expo w + Int.sign x := by
  rw [LP.expo_append, LP.expo_cons, LP.expo_nil, Int.add_zero]

set_option maxRecDepth 100000 in
set_option maxHeartbeats 2000000 in
theorem bexpo_any (m : Int) (A : Option Addr) (n c : Nat) (xs : List Int) (w : World) (ha : SL w A n c xs) (hm : (Lit.int .i64 m).wf = true) :
    Calls Try.prog 30 #[.int .i64 m, .slice A n c] w fun e w' => e = .returned (.tuple #[.int .i64 (expoB m xs), .int .i64 (bfault m xs)]) ∧ Below w.heap.size w w' := by
  have HC := hide (bcheck_any m A n c xs w ha hm)
  have HL := hide ha.il.len
  have HA := hide ha.il
  have hns := ha.il.small
  clear ha
  obtain ⟨f, hf⟩ : ∃ f, bfault m xs = f := ⟨_, rfl⟩
  have HF := hide hf
  rw [hf] at HC ⊢
  clear hf
  by_cases h0 : f = 0
  case neg =>
    have HV : Hid (expoB m xs = 0) := hide (by unfold expoB; rw [HF.out, if_neg h0])
    have hne : (f != 0) = true := by simpa using h0
    clear h0
    go_enter Try.func30, Try.ntmps30
    go_wp2_with fail
    refine HC.out.mono ?_
    rintro e w1 ⟨rfl, hww⟩
    subst hww
    go_wp2_with fail
    go_ret2
    exact ⟨by rw [HV.out]; rfl, Below.refl _ _⟩
  subst h0
  have HV : Hid (expoB m xs = LP.expo xs) := hide (by unfold expoB; rw [HF.out, if_pos rfl])
  have hn30 : n ≤ 30 := by have := (bfault_zero HF.out).2.2.1; rw [HL.out] at this; exact this
  go_enter Try.func30, Try.ntmps30
  go_wp2_with fail
  refine HC.out.mono ?_
  rintro e w1 ⟨rfl, hww⟩
  subst hww
  go_wp2_with fail
  go_loop [7, 18] (fun sv iv => ∃ k : Nat, k ≤ n ∧ iv = .int .i64 k ∧ sv = .int .i64 (LP.expo (xs.take k))) (fun _ iv => n - (intOf iv).toNat)
  case atStart => exact ⟨0, Nat.zero_le _, rfl, by rw [List.take_zero]; rfl⟩
  case round =>
    obtain ⟨k, hk, rfl, rfl⟩ := hrel
    by_cases hlt : k < n
    · obtain ⟨ad, rfl, hx⟩ := HA.out.at_ hlt
      have hlx : k < xs.length := by rw [HL.out]; exact hlt
      have hget : xs.getD k 0 = xs[k] := by simp [List.getD, List.getElem?_eq_getElem hlx]
      have HT : Hid (LP.expo (xs.take (k + 1)) = LP.expo (xs.take k) + cmp1 (xs.getD k 0) 0) := hide (by
        rw [List.take_succ_eq_append_getElem hlx, expo_snoc, hget]
        congr 1
        unfold cmp1
        rcases Int.lt_trichotomy xs[k] 0 with h | h | h
        · rw [Int.sign_eq_neg_one_of_neg h, if_pos h]
        · rw [h]; rfl
        · rw [Int.sign_eq_one_of_pos h, if_neg (by omega), if_pos h])
      have hE : (LP.expo (xs.take k)).natAbs ≤ 30 := by have := LP.expo_le (xs.take k); have := List.length_take_le k xs; omega
      have hC1 : (cmp1 (xs.getD k 0) 0).natAbs ≤ 1 := by unfold cmp1; split <;> (try split) <;> decide
      clear hlx hget
      generalize xs.getD k 0 = x at *
      generalize LP.expo (xs.take k) = s at *
      have HCM := hide (cmp_any x 0 w)
      generalize cmp1 x 0 = cx at *
      have hw : IntKind.i64.wrap (s + cx) = s + cx := by rw [IntKind.wrap_i64]; omega
      go_wp2_with fail
      refine HCM.out.mono ?_
      rintro e w1 ⟨rfl, hww⟩
      subst hww
      go_wp2_with fail
      go_round
      case rel => exact ⟨k + 1, by omega, by go_num, by rw [HT.out]⟩
      case measure => simp [intOf]; omega
    · have hkn : k = n := by omega
      have HE : Hid (LP.expo (xs.take k) = expoB m xs) := hide (by rw [HV.out, List.take_of_length_le (by rw [HL.out]; omega)])
      rw [HE.out]
      clear hkn
      go_wp2_with fail
      go_ret2
      exact ⟨rfl, Below.refl _ _⟩

theorem invw_step {xs : List Int} {k n : Nat} (hl : xs.length = n) (hk : k < n) : (List.replicate (n - k) 0 ++ invw (xs.take k)).set (n - 1 - k) (-(xs.getD k 0)) = List.replicate (n - (k + 1)) 0 ++ invw (xs.take (k + 1)) := by
  have hlx : k < xs.length := by omega
  have e1 : invw (xs.take (k + 1)) = -(xs.getD k 0) :: invw (xs.take k) := by
    rw [List.take_succ_eq_append_getElem hlx, show xs.getD k 0 = xs[k] by simp [List.getD, hlx]]
    unfold invw
    rw [List.map_append, List.reverse_append]
    rfl
  rw [e1, show n - k = (n - (k + 1)) + 1 by omega, List.replicate_succ', List.append_assoc, List.set_append_right _ _ (by simp; omega), List.length_replicate, show n - 1 - k - (n - (k + 1)) = 0 by omega]
  rfl

set_option maxRecDepth 100000 in
set_option maxHeartbeats 2000000 in
theorem binv_any (m : Int) (A : Option Addr) (n c : Nat) (xs : List Int) (w : World) (ha : SL w A n c xs) (hm : (Lit.int .i64 m).wf = true) :
    Calls Try.prog 16 #[.int .i64 m, .slice A n c] w (GivesLE w (bfault m xs) (invB m xs)) := by
  have HC := hide (bcheck_any m A n c xs w ha hm)
  have HL := hide ha.il.len
  have HA := hide ha.il
  have hns := ha.il.small
  clear ha
  obtain ⟨f, hf⟩ : ∃ f, bfault m xs = f := ⟨_, rfl⟩
  have HF := hide hf
  rw [hf] at HC ⊢
  clear hf
  by_cases h0 : f = 0
  case neg =>
    have HV : Hid (invB m xs = []) := hide (by unfold invB; rw [HF.out, if_neg h0])
    have hne : (f != 0) = true := by simpa using h0
    clear h0
    go_enter Try.func16, Try.ntmps16
    go_wp2_with fail
    refine HC.out.mono ?_
    rintro e w1 ⟨rfl, hww⟩
    subst hww
    go_wp2_with fail
    go_ret2
    exact ⟨none, 0, 0, rfl, by rw [HV.out]; exact SL.nil_ _, Below.refl _ _⟩
  subst h0
  have HV : Hid (invB m xs = invw xs) := hide (by unfold invB; rw [HF.out, if_pos rfl])
  have hz := bfault_zero HF.out
  have hn30 : n ≤ 30 := by have := hz.2.2.1; rw [HL.out] at this; exact this
  have HX : Hid (∀ k, k < n → -6 < xs.getD k 0 ∧ xs.getD k 0 < 6) := hide (fun k hk => by
    have hlx : k < xs.length := by rw [HL.out]; exact hk
    have := hz.2.2.2 (xs.getD k 0) (by rw [show xs.getD k 0 = xs[k] by simp [List.getD, hlx]]; exact List.getElem_mem _)
    omega)
  clear hz
  obtain ⟨i0, hi0, hz0, hz1, hz2⟩ := info_parts int_info
  go_enter Try.func16, Try.ntmps16
  go_wp2_with fail
  refine HC.out.mono ?_
  rintro e w1 ⟨rfl, hww⟩
  subst hww
  go_wp2_with (at_make; refine wpList_make_full _ rfl _ _ 22 rfl w.heap.size 3 i0 (.int .i64 0) 1 Try.underlying22 hi0 hz0 hz1 .i64 .i64 _ _ n rfl rfl rfl rfl (by rw [hz2]; omega) (by unfold maxLen; omega) (Nat.le_refl _) ?_; intro w2 hown2 hg2)
  have hB2 : Below w.heap.size w w2 := (Below.refl _ _).grown hg2 (Nat.le_refl _) (by intro k hk; cases hk)
  have hw2 := OwnI.zero (z := #[]) hown2 (by omega)
  have HO2 : Hid (OwnI w2 w.heap.size (some ⟨w.heap.size, 0, none⟩) n n (List.replicate (n - 0) 0 ++ invw (xs.take 0))) := hide (by
    rw [List.take_zero, Nat.sub_zero, show invw ([] : List Int) = [] from rfl, List.append_nil]; exact hw2)
  have HB2 := hide hB2
  clear hown2 hg2 hw2 hB2
  go_loopw [21] (fun i wr => ∃ k : Nat, k ≤ n ∧ i = .int .i64 k ∧ Hid (OwnI wr w.heap.size (some ⟨w.heap.size, 0, none⟩) n n (List.replicate (n - k) 0 ++ invw (xs.take k))) ∧ Hid (Below w.heap.size w wr)) (fun i _ => n - (intOf i).toNat)
  case atStart => exact ⟨0, Nat.zero_le _, rfl, HO2, HB2⟩
  case round =>
    clear HO2 HB2
    obtain ⟨k, hk, rfl, HO, HB⟩ := hrel
    by_cases hlt : k < n
    · obtain ⟨ad, rfl, hx⟩ := (HA.out.below HB.out).at_ hlt
      have hxx := HX.out k hlt
      have HS := hide (invw_step HL.out hlt)
      have hcell := HO.out.cell (j := n - 1 - k) (by omega)
      have hfr := HO.out.frozen (n - 1 - k)
      have HN := hide (HO.out.set_ (n - 1 - k) (-(xs.getD k 0)))
      rw [HS.out] at HN
      generalize xs.getD k 0 = x at *
      generalize (List.replicate (n - k) 0 ++ invw (xs.take k)).getD (n - 1 - k) 0 = z at *
      have hwx : IntKind.i64.wrap (-x) = -x := by rw [IntKind.wrap_i64]; omega
      obtain ⟨q, hq⟩ : ∃ q : Nat, n - 1 - k = q := ⟨_, rfl⟩
      rw [hq] at hcell hfr HN
      have hq2 : (n : Int) - 1 - (k : Int) = (q : Int) := by omega
      have HQ := hide hq2
      have hqn : q < n := by omega
      clear hq hq2 HS
      go_wp2_with (simp only [HQ.out])
      go_roundw
      case rel => exact ⟨k + 1, by omega, by go_num, HN, hide (HB.out.setCell (Nat.le_refl _) _)⟩
      case measure => simp [intOf]; omega
    · have hkn : k = n := by omega
      have HE : Hid (OwnI wr w.heap.size (some ⟨w.heap.size, 0, none⟩) n n (invw xs)) := hide (by
        have h := HO.out
        rw [hkn, Nat.sub_self, List.replicate_zero, List.nil_append, List.take_of_length_le (by rw [HL.out]; omega)] at h
        exact h)
      clear hkn HO
      go_wp2_with fail
      go_ret2
      exact ⟨_, _, _, rfl, by rw [HV.out]; exact HE.out.sl, HB.out⟩
end Go.Proofs.Ytmeicmhojingfaa
/- Package braid: Permutation. -/
namespace Go.Proofs.Ytmeicmhojingfaa
set_option linter.unusedVariables false
set_option linter.unusedSimpArgs false
open Go.RowKit

/-- The strands at each position, after the letters w. -/
def AtP (n : Nat) (w : List Int) (sl : List Nat) : Prop := sl.length = n ∧ ∀ p, p < n → sl.getD p 0 < n ∧ endE w (sl.getD p 0) = p
theorem AtP.start (n : Nat) : AtP n [] (List.range n) := ⟨by simp, fun p hp => by rw [range_getD hp]; exact ⟨hp, rfl⟩⟩
theorem AtP.isP {n : Nat} {w : List Int} {sl : List Nat} (h : AtP n w sl) : Proofs.Ytmeicmhojingfaa.isP sl := isP_of (fun j hj => by rw [h.1]; exact (h.2 j (by rw [← h.1]; exact hj)).1) (fun i j hi hj he => by
  have h1 := (h.2 i (by rw [← h.1]; exact hi)).2
  have h2 := (h.2 j (by rw [← h.1]; exact hj)).2
  rw [he, h2] at h1
  exact h1.symm)
theorem AtP.inv {n : Nat} {w : List Int} {sl : List Nat} (h : AtP n w sl) : zs (Proofs.Ytmeicmhojingfaa.inv sl) = zs (endsL n w) := by
  refine (inv_unique h.isP (ps := zs (endsL n w)) (by rw [zs_length, endsL_length, h.1]) fun j hj => ?_).symm
  obtain ⟨h1, h2⟩ := h.2 j (by rw [← h.1]; exact hj)
  rw [zs_getD]
  congr 1
  unfold endsL
  rw [getD_map_nat (by rw [List.length_range]; exact h1), range_getD h1, h2]
/-- Two positions exchanged. -/
def swapP (i : Nat) (sl : List Nat) : List Nat := (sl.set (i - 1) (sl.getD i 0)).set i (sl.getD (i - 1) 0)
theorem swapP_getD {i n : Nat} {x : Int} (hx : x.natAbs = i) {sl : List Nat} (hl : sl.length = n) (h1 : 1 ≤ i) (h2 : i < n) {p : Nat} (hp : p < n) : (swapP i sl).getD p 0 = sl.getD (stepE p x) 0 := by
  unfold swapP stepE
  rw [hx]
  simp only [List.getD, List.getElem?_set, List.length_set]
  grind
theorem AtP.step {n : Nat} {w : List Int} {sl : List Nat} (h : AtP n w sl) {x : Int} (h0 : x ≠ 0) (h1 : x.natAbs < n) : AtP n (w ++ [x]) (swapP x.natAbs sl) := by
  refine ⟨by unfold swapP; simp [h.1], fun p hp => ?_⟩
  rw [swapP_getD rfl h.1 (by omega) h1 hp]
  have hs := stepE_lt h0 h1 hp
  obtain ⟨h3, h4⟩ := h.2 _ hs
  exact ⟨h3, by rw [endE_snoc, h4, stepE_twice h0]⟩

end Go.Proofs.Ytmeicmhojingfaa
/- Package braid keeps its contracts (those that a seat has functions for). -/
namespace Go.Proofs.Ytmeicmhojingfaa
open Go.RowKit
theorem braidC : BraidC where
  check := fun m A n c xs w h hm => (bcheck_any m A n c xs w h hm).mono fun e w' ⟨h1, h2⟩ => ⟨h1, by rw [← h2]; exact Below.refl _ _⟩
  expo := bexpo_any -- 30
  inverse := binv_any -- 16
end Go.Proofs.Ytmeicmhojingfaa
/- Package jones as landed. -/
namespace Go.Proofs.Ytmeicmhojingfaa
theorem jonesC : JonesC := jonesC_of polyC tlC braidC
end Go.Proofs.Ytmeicmhojingfaa
/- The reference's sum over states is the bracket (mathematics of stage 13). -/
namespace Go.Proofs.Ytmeicmhojingfaa
set_option linter.unusedVariables false
set_option linter.unusedSimpArgs false
open CR

def bitN (s i : Nat) : Nat := s / 2 ^ i % 2
def chG (n s i : Nat) (x : Int) : List Nat := if bitN s i = 0 then Tl.straight n else Tl.hook n x.natAbs
/-- The choices of state s for the first k letters. -/
def chP (n s : Nat) (w : List Int) (k : Nat) : List (List Nat) := (List.range k).map fun i => chG n s i (w.getD i 0)
def chV (s i : Nat) (x : Int) : Int := if bitN s i = 0 then sgx x else -sgx x
/-- The weight of these choices. -/
def chW (s : Nat) (w : List Int) : Nat → Int
  | 0 => 0
  | k + 1 => chW s w k + chV s k (w.getD k 0)
noncomputable def stV (n s : Nat) (w : List Int) : LP := LP.term (chW s w w.length) 1 * dlt (lps n (chP n s w w.length) - 1)
theorem chP_succ (n s : Nat) (w : List Int) (k : Nat) : chP n s w (k + 1) = chP n s w k ++ [chG n s k (w.getD k 0)] := by unfold chP; rw [List.range_succ, List.map_append]; rfl
theorem bit_0 (s b : Nat) (hb : b < 2) : bitN (2 * s + b) 0 = b := by unfold bitN; rw [Nat.pow_zero, Nat.div_one]; omega
theorem bit_s (s b i : Nat) (hb : b < 2) : bitN (2 * s + b) (i + 1) = bitN s i := by
  unfold bitN
  rw [Nat.pow_succ, Nat.mul_comm (2 ^ i), ← Nat.div_div_eq_div_mul, show (2 * s + b) / 2 = s by omega]
theorem chP_cons (n s b : Nat) (hb : b < 2) (x : Int) (w : List Int) (k : Nat) : chP n (2 * s + b) (x :: w) (k + 1) = (if b = 0 then Tl.straight n else Tl.hook n x.natAbs) :: chP n s w k := by
  unfold chP
  rw [List.range_succ_eq_map, List.map_cons, List.map_map]
  congr 1
  · show chG n (2 * s + b) 0 x = _
    unfold chG
    rw [bit_0 s b hb]
  · refine List.map_congr_left fun i _ => ?_
    show chG n (2 * s + b) (i + 1) (w.getD i 0) = _
    unfold chG
    rw [bit_s s b i hb]
theorem chW_cons (s b : Nat) (hb : b < 2) (x : Int) (w : List Int) : ∀ k, chW (2 * s + b) (x :: w) (k + 1) = (if b = 0 then sgx x else -sgx x) + chW s w k
  | 0 => by
    show 0 + chV (2 * s + b) 0 x = _ + 0
    unfold chV
    rw [bit_0 s b hb]
    omega
  | k + 1 => by
    show chW (2 * s + b) (x :: w) (k + 1) + chV (2 * s + b) (k + 1) (w.getD k 0) = _ + (chW s w k + chV s k (w.getD k 0))
    rw [chW_cons s b hb x w k]
    unfold chV
    rw [bit_s s b k hb]
    omega
theorem sumN_par (f : Nat → LP) : ∀ m, sumN (2 * m) f = sumN m fun j => f (2 * j) + f (2 * j + 1)
  | 0 => rfl
  | m + 1 => by
    rw [show 2 * (m + 1) = 2 * m + 1 + 1 by omega, sumN_succ, sumN_succ, sumN_succ, sumN_par f m, CR.add_assoc]
theorem states_sum (n : Nat) : ∀ (w : List Int) (F : List (List Nat) → LP), sumN (2 ^ w.length) (fun s => LP.term (chW s w w.length) 1 * F (chP n s w w.length)) = tS n F w
  | [], F => by
    show 0 + LP.term 0 1 * F [] = F []
    rw [LP.term_one, CR.one_mul, CR.zero_add]
  | x :: w, F => by
    show _ = LP.term (sgx x) 1 * tS n _ w + LP.term (-sgx x) 1 * tS n _ w
    rw [← states_sum n w, ← states_sum n w, List.length_cons, Nat.pow_succ, Nat.mul_comm, sumN_par, sumN_add, ← sumN_mul, ← sumN_mul]
    congr 1
    · refine sumN_congr fun s _ => ?_
      have h1 := chP_cons n s 0 (by omega) x w w.length
      have h2 := chW_cons s 0 (by omega) x w w.length
      rw [Nat.add_zero, if_pos rfl] at h1 h2
      rw [h1, h2, ← CR.mul_assoc, LP.term_mul]
      rfl
    · refine sumN_congr fun s _ => ?_
      have h1 := chP_cons n s 1 (by omega) x w w.length
      have h2 := chW_cons s 1 (by omega) x w w.length
      rw [if_neg (by omega)] at h1 h2
      rw [h1, h2, ← CR.mul_assoc, LP.term_mul]
      rfl
theorem states_brk (n : Nat) (w : List Int) : sumN (2 ^ w.length) (fun s => stV n s w) = brk n w := states_sum n w fun l => dlt (lps n l - 1)
theorem sgx_one (x : Int) : sgx x = 1 ∨ sgx x = -1 := by unfold sgx; split <;> simp
theorem chV_le (s i : Nat) (x : Int) : (chV s i x).natAbs ≤ 1 := by
  unfold chV
  have := sgx_one x
  split <;> omega
theorem chW_le (s : Nat) (w : List Int) : ∀ k, (chW s w k).natAbs ≤ k
  | 0 => Nat.le_refl _
  | k + 1 => by
    have h1 := chW_le s w k
    have h2 := chV_le s k (w.getD k 0)
    show (chW s w k + chV s k (w.getD k 0)).natAbs ≤ k + 1
    omega
theorem chP_length (n s : Nat) (w : List Int) (k : Nat) : (chP n s w k).length = k := by simp [chP]
theorem chP_wd {n s : Nat} {w : List Int} (hw : okB n w) {k : Nat} (hk : k ≤ w.length) : Tl.Wd n (chP n s w k) := fun g hg => by
  obtain ⟨i, hi, rfl⟩ := List.mem_map.1 hg
  have hi := List.mem_range.1 hi
  unfold chG
  split
  · exact straight_gens n
  · have hx := hw (w.getD i 0) (by rw [show w.getD i 0 = w[i]'(by omega) by simp [List.getD, List.getElem?_eq_getElem (show i < w.length by omega)]]; exact List.getElem_mem _)
    exact hook_gens (by omega) hx.2
theorem chP_lps {n s : Nat} {w : List Int} (h1 : 1 ≤ n) (h6 : n ≤ 6) (hw : okB n w) : lps n (chP n s w w.length) ≤ n + w.length := by
  have h := lps_le h1 h6 _ (chP_wd (s := s) hw (Nat.le_refl _))
  have h2 : hkN n (chP n s w w.length) ≤ (chP n s w w.length).length := List.countP_le_length
  rw [chP_length] at h2
  omega
theorem stP_n1 (s : Nat) (w : List Int) (k : Nat) : LP.N1 (LP.term (chW s w w.length) 1 * dlt k) (w.length + 2 * k) (2 ^ k) := by
  refine ((LP.N1.term _ 1).mul (dlt_n1 k)).mono ?_ (by rw [Int.natAbs_one, Nat.one_mul]; exact Nat.le_refl _)
  have := chW_le s w w.length
  omega
theorem stV_n1 {n s : Nat} {w : List Int} (h1 : 1 ≤ n) (h6 : n ≤ 6) (hw : okB n w) (h7 : w.length ≤ 7) : LP.N1 (stV n s w) 31 4096 := by
  have := chP_lps (s := s) h1 h6 hw
  exact (stP_n1 s w _).mono (by omega) (Nat.le_trans (Nat.pow_le_pow_right (by omega) (show _ ≤ 12 by omega)) (by decide))
theorem sumN_n1 {n : Nat} {w : List Int} (h1 : 1 ≤ n) (h6 : n ≤ 6) (hw : okB n w) (h7 : w.length ≤ 7) (k : Nat) : LP.N1 (sumN k fun s => stV n s w) 31 (k * 4096) := LP.N1.sumN fun i _ => stV_n1 h1 h6 hw h7
end Go.Proofs.Ytmeicmhojingfaa
/- Maps from integers to integers as lists of terms; a range over one, whatever its order. -/
namespace Go.Proofs.Ytmeicmhojingfaa
set_option linter.unusedVariables false
set_option linter.unusedSimpArgs false
open Go.RowKit Go.Maps

theorem keyI : Keyed Try.prog 3 := int_keyed Try.underlying3
theorem keyI_mk {x : Int} (h : (Lit.int .i64 x).wf = true) : keyOf Try.prog 3 (.int .i64 x) = some (.int .i64 x) := keyOf_int_mk Try.underlying3 h
theorem wfI {x : Int} (h : x.natAbs ≤ 4000000000000000000) : (Lit.int .i64 x).wf = true := by
  have h1 : IntKind.i64.min = -9223372036854775808 := by decide
  simp [Lit.wf, h1]
  omega
/-- The element at a key. -/
def lookT : List Tm → Int → Option Int
  | [], _ => none
  | (e, c) :: l, x => if e = x then some c else lookT l x
def lookV (o : List Tm) : Value → Option Value
  | .int .i64 x => (lookT o x).map (Value.int .i64)
  | _ => none
theorem lookT_none : ∀ {o : List Tm} {x : Int}, lookT o x = none ↔ ∀ p ∈ o, p.1 ≠ x
  | [], x => by simp [lookT]
  | (e, c) :: l, x => by
    unfold lookT
    by_cases h : e = x
    · rw [if_pos h]; simp [h]
    · rw [if_neg h, lookT_none]; simp [h]
theorem lookT_mem : ∀ {o : List Tm} {x c : Int}, lookT o x = some c → (x, c) ∈ o
  | [], x, c, h => by cases h
  | (e, d) :: l, x, c, h => by
    unfold lookT at h
    by_cases he : e = x
    · rw [if_pos he] at h
      injection h with h
      subst he; subst h
      exact List.mem_cons_self
    · rw [if_neg he] at h
      exact List.mem_cons_of_mem _ (lookT_mem h)
theorem lookT_of_mem : ∀ {o : List Tm} {x c : Int}, (o.map (·.1)).Nodup → (x, c) ∈ o → lookT o x = some c
  | (e, d) :: l, x, c, hn, h => by
    have hn' := List.nodup_cons.1 hn
    unfold lookT
    rcases List.mem_cons.1 h with h | h
    · injection h with h1 h2
      subst h1; subst h2
      rw [if_pos rfl]
    · have : e ≠ x := fun e' => hn'.1 (by rw [e']; exact List.mem_map.2 ⟨(x, c), h, rfl⟩)
      rw [if_neg this]
      exact lookT_of_mem hn'.2 h
theorem coefT_not {o : List Tm} {x : Int} (h : ∀ p ∈ o, p.1 ≠ x) : coefT o x = 0 := by
  induction o with
  | nil => rfl
  | cons p l ih =>
    show (if p.1 = x then p.2 else 0) + coefT l x = 0
    rw [if_neg (h p (by simp)), ih fun q hq => h q (by simp [hq])]
    rfl
theorem coefT_look : ∀ {o : List Tm} {x : Int}, (o.map (·.1)).Nodup → coefT o x = (lookT o x).getD 0
  | [], x, _ => rfl
  | (e, d) :: l, x, hn => by
    have hn' := List.nodup_cons.1 hn
    show (if e = x then d else 0) + coefT l x = _
    unfold lookT
    by_cases h : e = x
    · rw [if_pos h, if_pos h, coefT_not fun p hp e' => hn'.1 (by rw [h, ← e']; exact List.mem_map.2 ⟨p, hp, rfl⟩)]
      show d + 0 = d
      omega
    · rw [if_neg h, if_neg h, coefT_look hn'.2, Int.zero_add]
/-- v is put at x. -/
def putT : List Tm → Int → Int → List Tm
  | [], x, v => [(x, v)]
  | (e, c) :: l, x, v => if e = x then (x, v) :: l else (e, c) :: putT l x v
theorem putT_keys : ∀ (o : List Tm) (x v : Int), ∀ p ∈ putT o x v, p ∈ o ∨ p = (x, v)
  | [], x, v, p, h => .inr (by simpa [putT] using h)
  | (e, c) :: l, x, v, p, h => by
    unfold putT at h
    by_cases he : e = x
    · rw [if_pos he] at h
      rcases List.mem_cons.1 h with h | h
      · exact .inr h
      · exact .inl (List.mem_cons_of_mem _ h)
    · rw [if_neg he] at h
      rcases List.mem_cons.1 h with h | h
      · exact .inl (by rw [h]; exact List.mem_cons_self)
      · rcases putT_keys l x v p h with h | h
        · exact .inl (List.mem_cons_of_mem _ h)
        · exact .inr h
theorem putT_look : ∀ (o : List Tm) (x v y : Int), lookT (putT o x v) y = if y = x then some v else lookT o y
  | [], x, v, y => by
    show (if x = y then some v else none) = if y = x then some v else none
    by_cases h : x = y
    · rw [if_pos h, if_pos h.symm]
    · rw [if_neg h, if_neg fun e => h e.symm]
  | (e, c) :: l, x, v, y => by
    unfold putT
    by_cases he : e = x
    · rw [if_pos he]
      show (if x = y then some v else lookT l y) = if y = x then some v else if e = y then some c else lookT l y
      by_cases h : x = y
      · rw [if_pos h, if_pos h.symm]
      · rw [if_neg h, if_neg fun e' => h e'.symm, if_neg (by omega)]
    · rw [if_neg he]
      show (if e = y then some c else lookT (putT l x v) y) = if y = x then some v else if e = y then some c else lookT l y
      rw [putT_look l x v y]
      by_cases h : e = y
      · rw [if_pos h, if_pos h, if_neg (by omega)]
      · rw [if_neg h, if_neg h]
theorem putT_nodup : ∀ (o : List Tm) (x v : Int), (o.map (·.1)).Nodup → ((putT o x v).map (·.1)).Nodup
  | [], x, v, _ => by simp [putT]
  | (e, c) :: l, x, v, h => by
    have h' := List.nodup_cons.1 h
    unfold putT
    by_cases he : e = x
    · rw [if_pos he]
      subst he
      exact h
    · rw [if_neg he]
      refine List.nodup_cons.2 ⟨fun hm => ?_, putT_nodup l x v h'.2⟩
      obtain ⟨p, hp, e1⟩ := List.mem_map.1 hm
      rcases putT_keys l x v p hp with h1 | h1
      · exact h'.1 (by rw [← show p.1 = e from e1]; exact List.mem_map.2 ⟨p, h1, rfl⟩)
      · rw [h1] at e1
        exact he e1.symm
theorem putT_length : ∀ (o : List Tm) (x v : Int), (putT o x v).length = if (lookT o x).isSome then o.length else o.length + 1
  | [], x, v => rfl
  | (e, c) :: l, x, v => by
    unfold putT lookT
    by_cases he : e = x
    · rw [if_pos he, if_pos he]; rfl
    · rw [if_neg he, if_neg he]
      show (putT l x v).length + 1 = _
      rw [putT_length l x v]
      split <;> rfl
theorem coefT_put {o : List Tm} {x v : Int} (h : (o.map (·.1)).Nodup) (y : Int) : coefT (putT o x v) y = if y = x then v else coefT o y := by
  rw [coefT_look (putT_nodup o x v h), putT_look, coefT_look h]
  split <;> rfl
/-- Distinct keys from a small range are few. -/
theorem nodup_leT {o : List Tm} {E : Nat} (h : (o.map (·.1)).Nodup) (hk : ∀ p ∈ o, p.1.natAbs ≤ E) : o.length ≤ 2 * E + 1 := by
  have h1 : (o.map fun p : Tm => (p.1 + (E : Int)).toNat).Nodup := by
    rw [show (o.map fun p : Tm => (p.1 + (E : Int)).toNat) = (o.map (·.1)).map fun x : Int => (x + (E : Int)).toNat by rw [List.map_map]; rfl]
    unfold List.Nodup at h ⊢
    rw [List.pairwise_map]
    refine h.imp_of_mem fun {a b} ha hb hne e => hne ?_
    obtain ⟨p, hp, rfl⟩ := List.mem_map.1 ha
    obtain ⟨q, hq, rfl⟩ := List.mem_map.1 hb
    have := hk p hp
    have := hk q hq
    have e : (p.1 + (E : Int)).toNat = (q.1 + (E : Int)).toNat := e
    show p.1 = q.1
    omega
  have h2 := nodup_length_le (2 * E + 1) _ h1 fun x hx => by
    obtain ⟨p, hp, rfl⟩ := List.mem_map.1 hx
    have := hk p hp
    show (p.1 + (E : Int)).toNat < 2 * E + 1
    omega
  simpa using h2

/-- Block b is a map with just the entries o. -/
structure MapI (w : World) (b : Nat) (o : List Tm) : Prop where
  dict : Dict Try.prog 3 w b o.length (lookV o)
  nodup : (o.map (·.1)).Nodup
section
variable {w w' : World} {b : Nat} {o : List Tm}
theorem MapI.lt (h : MapI w b o) : b < w.heap.size := h.dict.lt
theorem MapI.below (h : MapI w b o) (hb : Below w.heap.size w w') : MapI w' b o := ⟨h.dict.below hb, h.nodup⟩
theorem MapI.kept {row : Option Nat} (h : MapI w b o) (hg : w.grownBy w' row) (hne : some b ≠ row) : MapI w' b o := ⟨h.dict.kept hg hne, h.nodup⟩
theorem MapI.made (w : World) : MapI (w.alloc (.map #[] 0)) w.heap.size [] := ⟨(Dict.made w _ _).congr rfl fun key kl _ => by unfold lookV; split <;> rfl, List.nodup_nil⟩
theorem MapI.look (h : MapI w b o) {t : TypeId} (ht : Try.prog.underlying t = some (.map 3 3)) {x : Int} (hx : (Lit.int .i64 x).wf = true) :
    (Instr.lookup t (.map (some b)) (.int .i64 x) false).run Try.prog w = .ok (.int .i64 (coefT o x)) w := by
  rw [h.dict.look keyI ht (z := .int .i64 0) (by kernel_rfl) (keyI_mk hx), coefT_look h.nodup]
  have e : lookV o (.int .i64 x) = (lookT o x).map (Value.int .i64) := rfl
  rw [e]
  cases lookT o x <;> rfl
theorem MapI.store (h : MapI w b o) {t : TypeId} (ht : Try.prog.underlying t = some (.map 3 3)) {x v : Int} (hx : (Lit.int .i64 x).wf = true) (hn : o.length < 1000000) :
    ∃ w', (Instr.mapUpdate t (.map (some b)) (.int .i64 x) (.int .i64 v)).run Try.prog w = .ok () w' ∧ MapI w' b (putT o x v) ∧ w.grownBy w' (some b) ∧ w'.heap.size = w.heap.size := by
  obtain ⟨w', h1, h2, h3, h4⟩ := h.dict.store keyI ht (by unfold maxLen; omega) (keyI_mk hx) (.int .i64 v) (f' := lookV (putT o x v)) (by
    show ((lookT (putT o x v) x).map _) = _
    rw [putT_look, if_pos rfl]; rfl) (fun y l hy hne => by
    obtain ⟨z, rfl, _, _⟩ := keyOf_int_inv Try.underlying3 hy
    show ((lookT (putT o x v) z).map _) = (lookT o z).map _
    rw [putT_look, if_neg fun e => hne (by rw [e])])
  refine ⟨w', h1, ⟨h2.congr ?_ fun _ _ _ => rfl, putT_nodup o x v h.nodup⟩, h3, h4⟩
  rw [putT_length]
  show (if ((lookT o x).map (Value.int .i64)).isSome = true then _ else _) = _
  rw [Option.isSome_map]
end

/-! ### a range -/
/-- A range over the map with entries T: done and rem(aining). -/
structure RangeI (w : World) (b r : Nat) (T done rem : List Tm) (cnt : Nat) : Prop where
  nodup : (T.map (·.1)).Nodup
  perm : (done ++ rem).Perm T
  run : ∃ (n : Nat) (D : DataW Value) (left : Lit → Bool), w.ranges Try.prog 3 HR b r n D left cnt ∧ (∀ p ∈ T, ∀ z, D.atKey (.int .i64 p.1) z = .held (.int .i64 p.2)) ∧ (∀ x : Int, (Lit.int .i64 x).wf = true → (left (.int .i64 x) = true ↔ ∃ c, (x, c) ∈ rem)) ∧ ∀ p ∈ T, (Lit.int .i64 p.1).wf = true
section
variable {w w' : World} {b r cnt : Nat} {T done rem : List Tm}
theorem RangeI.kept {row : Option Nat} (h : RangeI w b r T done rem cnt) (hg : w.grownBy w' row) (hb : some b ≠ row) (hr : some r ≠ row) : RangeI w' b r T done rem cnt := by
  obtain ⟨n, D, left, h1, h2⟩ := h.run
  exact ⟨h.nodup, h.perm, n, D, left, h1.kept hg hb hr, h2⟩
theorem RangeI.left_eq (h : RangeI w b r T done rem cnt) : w.rangeLeft b r = cnt := by
  obtain ⟨n, D, left, h1, _⟩ := h.run
  exact h1.left_eq
theorem RangeI.lt (h : RangeI w b r T done rem cnt) : r < w.heap.size := by
  obtain ⟨n, D, left, h1, _⟩ := h.run
  exact h1.lt
theorem RangeI.mem (h : RangeI w b r T done rem cnt) : ∀ p ∈ done, p ∈ T := fun p hp => h.perm.subset (List.mem_append_left _ hp)
end
section
variable (w : World) {ops : Array Oper} {rest : List Oper} {o : Oper} {a : Act} {Q : Exit → Act → World → Prop}
theorem wpList_rangeI (hg : o.guard = none) (m : Operand) (t : TypeId) (hop : o.op = Op.range t m) (ht : Try.prog.underlying t = some (.map 3 3)) (b : Nat) (T : List Tm) (hm : a.eval m = .map (some b)) (h : MapI w b T) (hwf : ∀ p ∈ T, (Lit.int .i64 p.1).wf = true)
    (hK : ∀ w' cnt, RangeI w' b w.heap.size T [] T cnt → w.grownBy w' none → w'.heap.size = w.heap.size + 1 → wpList Try.prog ops Q rest (a.put o.dst (.pointer (some ⟨w.heap.size, 0, none⟩))) w') :
    wpList Try.prog ops Q (o :: rest) a w := by
  obtain ⟨D, hD, hT, hs, hf⟩ := h.dict.own
  refine wpList_range_own w hg m t hop 3 3 keyI ht HR b _ D hm hD fun w' hr hgr hsz => hK w' _ ⟨h.nodup, by simp, _, D, Maps.has D, hr, fun p hp z => ?_, fun x hx => ?_, hwf⟩ hgr hsz
  · have := hf (.int .i64 p.1) _ (keyI_mk (hwf p hp))
    have e : lookV T (.int .i64 p.1) = some (.int .i64 p.2) := by
      show (lookT T p.1).map _ = _
      rw [lookT_of_mem h.nodup (show (p.1, p.2) ∈ T from hp)]; rfl
    rw [e] at this
    exact this.2 z
  · have := hf (.int .i64 x) _ (keyI_mk hx)
    have e : lookV T (.int .i64 x) = (lookT T x).map (Value.int .i64) := rfl
    rw [e] at this
    cases hl : lookT T x with
    | none =>
      rw [hl] at this
      have this : Maps.has D (.int .i64 x) = false := this
      rw [this]
      have h0 := lookT_none.1 hl
      exact ⟨fun h => (by cases h), fun ⟨c, hc⟩ => absurd rfl (h0 _ hc)⟩
    | some c =>
      rw [hl] at this
      have this : Maps.has D (.int .i64 x) = true ∧ _ := this
      exact ⟨fun _ => ⟨c, lookT_mem hl⟩, fun _ => this.1⟩
theorem wpList_nextI (hg : o.guard = none) (it : Operand) (hop : o.op = Op.next it false) (b r : Nat) (T done rem : List Tm) (cnt : Nat) (hit : a.eval it = .pointer (some ⟨r, 0, none⟩)) (h : RangeI w b r T done rem cnt)
    (hDone : rem = [] → wpList Try.prog ops Q rest (a.put o.dst (.tuple #[.bool false])) w)
    (hMore : ∀ (x c : Int) (rem' : List Tm) (w' : World) (cnt' : Nat), rem.Perm ((x, c) :: rem') → RangeI w' b r T (done ++ [(x, c)]) rem' cnt' → cnt' < cnt → w.grownBy w' (some r) → w'.heap.size = w.heap.size →
      (Instr.entry (.pointer (some ⟨r, 0, none⟩))).run Try.prog w' = .ok (.tuple #[.int .i64 x, .int .i64 c]) w' → wpList Try.prog ops Q rest (a.put o.dst (.tuple #[.bool true, .int .i64 x, .int .i64 c])) w') :
    wpList Try.prog ops Q (o :: rest) a w := by
  obtain ⟨n, D, left, h1, h2, h3, h4⟩ := h.run
  refine wpList_next_ranges w hg it hop 3 keyI HR (fun v : Value => v) (fun v : Value => v) (fun key kl _ => ⟨key, rfl⟩) (fun v y _ => ⟨v, rfl⟩) b r n D left cnt hit h1 (fun _ hl => hDone ?_) ?_
  · match rem, h3, h.perm with
    | [], _, _ => rfl
    | (x, c) :: l, h3, hp =>
      have hx := h4 _ (hp.subset (List.mem_append_right _ List.mem_cons_self))
      have := (h3 x hx).2 ⟨c, List.mem_cons_self⟩
      rw [hl] at this
      cases this
  · intro key v kl y w' cnt' hkey hlk hv hat hrg hlt hgr hsz hen
    obtain ⟨x, rfl, rfl, hx⟩ := keyOf_int_inv Try.underlying3 hkey
    obtain ⟨c, hc⟩ := (h3 x hx).1 hlk
    have hmT : (x, c) ∈ T := h.perm.subset (List.mem_append_right _ hc)
    have hvy := HR_inv (v := v) (d := y.1) (ps := y.2) hv
    have e1 := h2 _ hmT (.held v)
    rw [hat, hvy] at e1
    injection e1 with e1
    subst e1
    obtain ⟨l1, l2, hl⟩ := List.append_of_mem hc
    have hp2 : rem.Perm ((x, c) :: (l1 ++ l2)) := by rw [hl]; exact List.perm_middle
    have hperm : (done ++ [(x, c)] ++ (l1 ++ l2)).Perm T := by
      refine List.Perm.trans ?_ h.perm
      rw [List.append_assoc]
      exact List.Perm.append_left done hp2.symm
    have hnd : ((done ++ [(x, c)] ++ (l1 ++ l2)).map (·.1)).Nodup := (hperm.map (·.1)).nodup_iff.2 h.nodup
    refine hMore x c (l1 ++ l2) w' cnt' hp2 ⟨h.nodup, hperm, n, D, _, hrg, h2, fun z hz => ?_, h4⟩ hlt hgr hsz hen
    show (left (.int .i64 z) && !(Lit.int .i64 z).sameKey (.int .i64 x)) = true ↔ _
    have hnx : ∀ d, (x, d) ∉ l1 ++ l2 := fun d hd => by
      rw [List.map_append, List.map_append] at hnd
      have h5 := (List.nodup_append.1 hnd).2.2 x (List.mem_append_right _ (by simp)) x (List.mem_map.2 ⟨(x, d), hd, rfl⟩)
      exact h5 rfl
    by_cases e : z = x
    · subst e
      have : (Lit.int .i64 z).sameKey (.int .i64 z) = true := by simp [Lit.sameKey]
      rw [this]
      simp only [Bool.not_true, Bool.and_false]
      exact ⟨fun h => (by cases h), fun ⟨d, hd⟩ => absurd hd (hnx d)⟩
    · have : (Lit.int .i64 z).sameKey (.int .i64 x) = false := by simp [Lit.sameKey, e]
      rw [this]
      simp only [Bool.not_false, Bool.and_true]
      rw [h3 z hz]
      constructor
      · rintro ⟨d, hd⟩
        refine ⟨d, ?_⟩
        rcases List.mem_cons.1 (hp2.subset hd) with h | h
        · injection h with h _; exact absurd h e
        · exact h
      · rintro ⟨d, hd⟩
        exact ⟨d, hp2.symm.subset (List.mem_cons_of_mem _ hd)⟩
end
end Go.Proofs.Ytmeicmhojingfaa
/- timbref1.Split; the walk's laws for a map of terms. -/
namespace Go.Proofs.Ytmeicmhojingfaa
set_option linter.unusedVariables false
set_option linter.unusedSimpArgs false
open Go.RowKit Go.Maps

theorem ut : Try.prog.underlying 31 = some (.map 3 3) := Try.underlying31
theorem MapI.setCell {w : World} {b : Nat} {o : List Tm} (h : MapI w b o) {g : Addr} (hg : b ≠ g.block) (v : Value) : MapI (w.setCell g v) b o := ⟨h.dict.setCell hg v, h.nodup⟩
/-- What is in a map of terms is the coefficient. -/
theorem MapI.val {w : World} {b : Nat} {o : List Tm} (h : MapI w b o) {x c : Int} (hm : (x, c) ∈ o) : coefT o x = c := by rw [coefT_look h.nodup, lookT_of_mem h.nodup hm]; rfl
section
variable (w : World) {ops : Array Oper} {rest : List Oper} {o : Oper} {a : Act} {Q : Exit → Act → World → Prop}
theorem wpList_lookI (hg : o.guard = none) (m x : Operand) (t : TypeId) (hop : o.op = Op.lookup t m x false) (ht : Try.prog.underlying t = some (.map 3 3)) (b : Nat) (T : List Tm) (y : Int) (hm : a.eval m = .map (some b)) (h : MapI w b T) (hx : a.eval x = .int .i64 y) (hy : (Lit.int .i64 y).wf = true)
    (hK : wpList Try.prog ops Q rest (a.put o.dst (.int .i64 (coefT T y))) w) : wpList Try.prog ops Q (o :: rest) a w := by
  refine wpList_plain hg fun K' hK' => ?_
  unfold Oper.wp
  simp [execOp, hop, hm, hx, h.look ht hy, Result.andThen]
  exact hK' _ _ hK
theorem wpList_putI (hg : o.guard = none) (m x v : Operand) (t : TypeId) (hop : o.op = Op.mapUpdate t m x v) (ht : Try.prog.underlying t = some (.map 3 3)) (b : Nat) (T : List Tm) (y z : Int) (hm : a.eval m = .map (some b)) (h : MapI w b T) (hn : T.length < 1000000) (hx : a.eval x = .int .i64 y) (hv : a.eval v = .int .i64 z) (hy : (Lit.int .i64 y).wf = true)
    (hK : ∀ w', MapI w' b (putT T y z) → w.grownBy w' (some b) → w'.heap.size = w.heap.size → wpList Try.prog ops Q rest (a.put o.dst undef) w') : wpList Try.prog ops Q (o :: rest) a w := by
  refine wpList_plain hg fun K' hK' => ?_
  obtain ⟨w', hrun, r1, r2, r3⟩ := h.store ht hy (v := z) hn
  unfold Oper.wp
  simp [execOp, hop, hm, hx, hv, hrun, Result.andThen]
  exact hK' _ _ (hK w' r1 r2 r3)
theorem wpList_insI (hg : o.guard = none) (m x v : Operand) (t : TypeId) (hop : o.op = Op.insert t m x v) (ht : Try.prog.underlying t = some (.map 3 3)) (b : Nat) (T : List Tm) (y z : Int) (hm : a.eval m = .map (some b)) (h : MapI w b T) (hn : T.length < 1000000) (hx : a.eval x = .int .i64 y) (hv : a.eval v = .int .i64 z) (hy : (Lit.int .i64 y).wf = true)
    (hK : ∀ w', MapI w' b (putT T y z) → w.grownBy w' (some b) → w'.heap.size = w.heap.size → wpList Try.prog ops Q rest (a.put o.dst undef) w') : wpList Try.prog ops Q (o :: rest) a w := by
  refine wpList_plain hg fun K' hK' => ?_
  obtain ⟨w', hrun, r1, r2, r3⟩ := h.store ht hy (v := z) hn
  unfold Oper.wp
  simp [execOp, hop, hm, hx, hv, hrun, Result.andThen]
  exact hK' _ _ (hK w' r1 r2 r3)
end
/-- A new map of terms that reads as x; its keys are not far off. -/
def GivesT (w : World) (x : LP) (E : Nat) (e : Ending) (w' : World) : Prop :=
  ∃ b o, e = .returned (.map (some b)) ∧ w.heap.size ≤ b ∧ MapI w' b o ∧ LP.mk o = x ∧ (∀ p ∈ o, p.1.natAbs ≤ E) ∧ Below w.heap.size w w'
theorem putT_mk {o : List Tm} (hn : (o.map (·.1)).Nodup) {x : LP} (hx : LP.mk o = x) (e v : Int) (c : Int) (hv : v = coefT o e + c) : LP.mk (putT o e v) = x + LP.term e c := LP.ext fun k => by
  subst hx hv
  rw [LP.co_add, LP.co_term, LP.co_mk, LP.co_mk, coefT_put hn]
  by_cases h : k = e
  · rw [if_pos h, if_pos h.symm, h]
  · rw [if_neg h, if_neg (fun e => h e.symm), Int.add_zero]
end Go.Proofs.Ytmeicmhojingfaa
