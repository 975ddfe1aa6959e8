/- Several texts in one. -/
import Derived.Test.YtmeicmhojingfaaPart7
import Derived.Test.YtmeicmhojingfaaBase1
import Derived.Test.YtmeicmhojingfaaPart15
import Derived.Test.YtmeicmhojingfaaPart1
import Derived.Test.YtmeicmhojingfaaProg
import Derived.WalkKit
import Derived.Deep.QuietTactic
import Derived.BigQuiet
import Derived.WalkSpells
import Derived.WalkLawsBesides
import Derived.Outline
import Derived.BigRegion
import Derived.Test.YtmeicmhojingfaaPart8
import Derived.Test.YtmeicmhojingfaaPart11
import Derived.Maps.RangeWalk
import Derived.Maps.Keyed
import Derived.Test.YtmeicmhojingfaaPart6
import Derived.Deep.DeepCutAuto
import Derived.Test.YtmeicmhojingfaaPart2
/- Package braid: Check, generator, ExponentSum, Inverse. -/
namespace Go.Proofs.Ytmeicmhojingfaa
set_option linter.unusedVariables false
set_option linter.unusedSimpArgs false
open Go.RowKit

theorem bfault_bad {m : Int} {xs : List Int} (h1 : 1 ≤ m) (h6 : m ≤ 6) (h : xs.length ≤ 30) {k : Nat} (hk : k < xs.length) (hb : okX m (xs.getD k 0) = false) : bfault m xs = 3 := by
  unfold bfault
  rw [if_neg (by omega), if_neg (by omega), if_neg]
  intro h2
  have h3 := List.all_eq_true.1 h2 _ (List.getElem_mem hk)
  rw [show xs.getD k 0 = xs[k] by simp [List.getD, hk]] at hb
  rw [hb] at h3
  cases h3
theorem bfault_all {m : Int} {xs : List Int} (h1 : 1 ≤ m) (h6 : m ≤ 6) (h : xs.length ≤ 30) (hb : ∀ k, k < xs.length → okX m (xs.getD k 0) = true) : bfault m xs = 0 := by
  unfold bfault
  rw [if_neg (by omega), if_neg (by omega), if_pos]
  rw [List.all_eq_true]
  intro x hx
  obtain ⟨k, hk, rfl⟩ := List.getElem_of_mem hx
  have := hb k hk
  rwa [show xs.getD k 0 = xs[k] by simp [List.getD, hk]] at this

set_option maxRecDepth 100000 in
set_option maxHeartbeats 4000000 in
theorem bcheck_any (m : Int) (A : Option Addr) (n c : Nat) (xs : List Int) (w : World) (ha : SL w A n c xs) (hm : (Lit.int .i64 m).wf = true) :
    Calls Try.prog 25 #[.int .i64 m, .slice A n c] w fun e w' => e = .returned (.int .i64 (bfault m xs)) ∧ w = w' := by
  have HL := hide ha.il.len
  have HA := hide ha.il
  have hns := ha.il.small
  clear ha
  by_cases h1 : m < 1
  · have HE : Hid (bfault m xs = 1) := hide (by unfold bfault; rw [if_pos (by omega)])
    go_enter Try.func25, Try.ntmps25
    go_wp2_with fail
    go_ret
    exact ⟨by rw [HE.out]; rfl, rfl⟩
  by_cases h6 : 6 < m
  · have HE : Hid (bfault m xs = 1) := hide (by unfold bfault; rw [if_pos (by omega)])
    go_enter Try.func25, Try.ntmps25
    go_wp2_with fail
    go_ret
    exact ⟨by rw [HE.out]; rfl, rfl⟩
  by_cases h30 : 30 < n
  · have HE : Hid (bfault m xs = 2) := hide (by unfold bfault; rw [if_neg (by omega), if_pos (by rw [HL.out]; exact h30)])
    go_enter Try.func25, Try.ntmps25
    go_wp2_with fail
    go_ret
    exact ⟨by rw [HE.out]; rfl, rfl⟩
  have HB : Hid (∀ k, k < n → okX m (xs.getD k 0) = false → bfault m xs = 3) := hide (fun k hk hb => bfault_bad (by omega) (by omega) (by rw [HL.out]; omega) (by rw [HL.out]; exact hk) hb)
  have HG : Hid ((∀ k, k < n → okX m (xs.getD k 0) = true) → bfault m xs = 0) := hide (fun hb => bfault_all (by omega) (by omega) (by rw [HL.out]; omega) (fun k hk => hb k (by rw [← HL.out]; exact hk)))
  have hwm : IntKind.i64.wrap (-m) = -m := by rw [IntKind.wrap_i64]; omega
  go_enter Try.func25, Try.ntmps25
  go_wp2_with fail
  go_loop [18] (fun iv => ∃ k : Nat, k ≤ n ∧ iv = .int .i64 k ∧ Hid (∀ j, j < k → okX m (xs.getD j 0) = true)) (fun iv => n - (intOf iv).toNat)
  case atStart => exact ⟨0, Nat.zero_le _, rfl, hide (fun j hj => absurd hj (by omega))⟩
  case round =>
    obtain ⟨k, hk, rfl, HP⟩ := hrel
    by_cases hlt : k < n
    · obtain ⟨ad, rfl, hx⟩ := HA.out.at_ hlt
      have HBK := hide (HB.out k hlt)
      have HN : Hid (okX m (xs.getD k 0) = true → ∀ j, j < k + 1 → okX m (xs.getD j 0) = true) := hide (fun h j hj => by
        rcases Nat.lt_or_ge j k with h2 | h2
        · exact HP.out j h2
        · rw [show j = k by omega]; exact h)
      clear HB HP
      generalize xs.getD k 0 = x at *
      by_cases hx0 : x = 0
      · have HV := hide (HBK.out (by subst hx0; unfold okX; simp))
        clear HN HBK
        subst hx0
        go_wp2_with fail
        go_ret
        exact ⟨by rw [HV.out]; rfl, rfl⟩
      by_cases hx1 : x ≤ -m
      · have HV := hide (HBK.out (by unfold okX; rw [decide_eq_false]; omega))
        have e0 : (x == 0) = false := by simpa using hx0
        clear HN HBK
        go_wp2_with fail
        go_ret
        exact ⟨by rw [HV.out]; rfl, rfl⟩
      by_cases hx2 : m ≤ x
      · have HV := hide (HBK.out (by unfold okX; rw [decide_eq_false]; omega))
        have e0 : (x == 0) = false := by simpa using hx0
        clear HN HBK
        go_wp2_with fail
        go_ret
        exact ⟨by rw [HV.out]; rfl, rfl⟩
      have HV := hide (HN.out (by unfold okX; rw [decide_eq_true]; omega))
      have e0 : (x == 0) = false := by simpa using hx0
      clear HN HBK
      go_wp2_with fail
      go_round
      case rel => exact ⟨k + 1, by omega, by go_num, HV⟩
      case measure => simp [intOf]; omega
    · have hkn : k = n := by omega
      subst hkn
      have HV := hide (HG.out HP.out)
      clear HP HG HB
      go_wp2_with fail
      go_ret
      exact ⟨by rw [HV.out]; rfl, rfl⟩

theorem expo_snoc (w : List Int) (x : Int) : LP.expo (w ++ [x]) = LP.expo w + Int.sign x := by
  rw [LP.expo_append, LP.expo_cons, LP.expo_nil, Int.add_zero]

set_option maxRecDepth 100000 in
set_option maxHeartbeats 2000000 in
theorem bexpo_any (m : Int) (A : Option Addr) (n c : Nat) (xs : List Int) (w : World) (ha : SL w A n c xs) (hm : (Lit.int .i64 m).wf = true) :
    Calls Try.prog 30 #[.int .i64 m, .slice A n c] w fun e w' => e = .returned (.tuple #[.int .i64 (expoB m xs), .int .i64 (bfault m xs)]) ∧ Below w.heap.size w w' := by
  have HC := hide (bcheck_any m A n c xs w ha hm)
  have HL := hide ha.il.len
  have HA := hide ha.il
  have hns := ha.il.small
  clear ha
  obtain ⟨f, hf⟩ : ∃ f, bfault m xs = f := ⟨_, rfl⟩
  have HF := hide hf
  rw [hf] at HC ⊢
  clear hf
  by_cases h0 : f = 0
  case neg =>
    have HV : Hid (expoB m xs = 0) := hide (by unfold expoB; rw [HF.out, if_neg h0])
    have hne : (f != 0) = true := by simpa using h0
    clear h0
    go_enter Try.func30, Try.ntmps30
    go_wp2_with fail
    refine HC.out.mono ?_
    rintro e w1 ⟨rfl, hww⟩
    subst hww
    go_wp2_with fail
    go_ret2
    exact ⟨by rw [HV.out]; rfl, Below.refl _ _⟩
  subst h0
  have HV : Hid (expoB m xs = LP.expo xs) := hide (by unfold expoB; rw [HF.out, if_pos rfl])
  have hn30 : n ≤ 30 := by have := (bfault_zero HF.out).2.2.1; rw [HL.out] at this; exact this
  go_enter Try.func30, Try.ntmps30
  go_wp2_with fail
  refine HC.out.mono ?_
  rintro e w1 ⟨rfl, hww⟩
  subst hww
  go_wp2_with fail
  go_loop [7, 18] (fun sv iv => ∃ k : Nat, k ≤ n ∧ iv = .int .i64 k ∧ sv = .int .i64 (LP.expo (xs.take k))) (fun _ iv => n - (intOf iv).toNat)
  case atStart => exact ⟨0, Nat.zero_le _, rfl, by rw [List.take_zero]; rfl⟩
  case round =>
    obtain ⟨k, hk, rfl, rfl⟩ := hrel
    by_cases hlt : k < n
    · obtain ⟨ad, rfl, hx⟩ := HA.out.at_ hlt
      have hlx : k < xs.length := by rw [HL.out]; exact hlt
      have hget : xs.getD k 0 = xs[k] := by simp [List.getD, List.getElem?_eq_getElem hlx]
      have HT : Hid (LP.expo (xs.take (k + 1)) = LP.expo (xs.take k) + cmp1 (xs.getD k 0) 0) := hide (by
        rw [List.take_succ_eq_append_getElem hlx, expo_snoc, hget]
        congr 1
        unfold cmp1
        rcases Int.lt_trichotomy xs[k] 0 with h | h | h
        · rw [Int.sign_eq_neg_one_of_neg h, if_pos h]
        · rw [h]; rfl
        · rw [Int.sign_eq_one_of_pos h, if_neg (by omega), if_pos h])
      have hE : (LP.expo (xs.take k)).natAbs ≤ 30 := by have := LP.expo_le (xs.take k); have := List.length_take_le k xs; omega
      have hC1 : (cmp1 (xs.getD k 0) 0).natAbs ≤ 1 := by unfold cmp1; split <;> (try split) <;> decide
      clear hlx hget
      generalize xs.getD k 0 = x at *
      generalize LP.expo (xs.take k) = s at *
      have HCM := hide (cmp_any x 0 w)
      generalize cmp1 x 0 = cx at *
      have hw : IntKind.i64.wrap (s + cx) = s + cx := by rw [IntKind.wrap_i64]; omega
      go_wp2_with fail
      refine HCM.out.mono ?_
      rintro e w1 ⟨rfl, hww⟩
      subst hww
      go_wp2_with fail
      go_round
      case rel => exact ⟨k + 1, by omega, by go_num, by rw [HT.out]⟩
      case measure => simp [intOf]; omega
    · have hkn : k = n := by omega
      have HE : Hid (LP.expo (xs.take k) = expoB m xs) := hide (by rw [HV.out, List.take_of_length_le (by rw [HL.out]; omega)])
      rw [HE.out]
      clear hkn
      go_wp2_with fail
      go_ret2
      exact ⟨rfl, Below.refl _ _⟩

theorem invw_step {xs : List Int} {k n : Nat} (hl : xs.length = n) (hk : k < n) : (List.replicate (n - k) 0 ++ invw (xs.take k)).set (n - 1 - k) (-(xs.getD k 0)) = List.replicate (n - (k + 1)) 0 ++ invw (xs.take (k + 1)) := by
  have hlx : k < xs.length := by omega
  have e1 : invw (xs.take (k + 1)) = -(xs.getD k 0) :: invw (xs.take k) := by
    rw [List.take_succ_eq_append_getElem hlx, show xs.getD k 0 = xs[k] by simp [List.getD, hlx]]
    unfold invw
    rw [List.map_append, List.reverse_append]
    rfl
  rw [e1, show n - k = (n - (k + 1)) + 1 by omega, List.replicate_succ', List.append_assoc, List.set_append_right _ _ (by simp; omega), List.length_replicate, show n - 1 - k - (n - (k + 1)) = 0 by omega]
  rfl

set_option maxRecDepth 100000 in
set_option maxHeartbeats 2000000 in
theorem binv_any (m : Int) (A : Option Addr) (n c : Nat) (xs : List Int) (w : World) (ha : SL w A n c xs) (hm : (Lit.int .i64 m).wf = true) :
    Calls Try.prog 16 #[.int .i64 m, .slice A n c] w (GivesLE w (bfault m xs) (invB m xs)) := by
  have HC := hide (bcheck_any m A n c xs w ha hm)
  have HL := hide ha.il.len
  have HA := hide ha.il
  have hns := ha.il.small
  clear ha
  obtain ⟨f, hf⟩ : ∃ f, bfault m xs = f := ⟨_, rfl⟩
  have HF := hide hf
  rw [hf] at HC ⊢
  clear hf
  by_cases h0 : f = 0
  case neg =>
    have HV : Hid (invB m xs = []) := hide (by unfold invB; rw [HF.out, if_neg h0])
    have hne : (f != 0) = true := by simpa using h0
    clear h0
    go_enter Try.func16, Try.ntmps16
    go_wp2_with fail
    refine HC.out.mono ?_
    rintro e w1 ⟨rfl, hww⟩
    subst hww
    go_wp2_with fail
    go_ret2
    exact ⟨none, 0, 0, rfl, by rw [HV.out]; exact SL.nil_ _, Below.refl _ _⟩
  subst h0
  have HV : Hid (invB m xs = invw xs) := hide (by unfold invB; rw [HF.out, if_pos rfl])
  have hz := bfault_zero HF.out
  have hn30 : n ≤ 30 := by have := hz.2.2.1; rw [HL.out] at this; exact this
  have HX : Hid (∀ k, k < n → -6 < xs.getD k 0 ∧ xs.getD k 0 < 6) := hide (fun k hk => by
    have hlx : k < xs.length := by rw [HL.out]; exact hk
    have := hz.2.2.2 (xs.getD k 0) (by rw [show xs.getD k 0 = xs[k] by simp [List.getD, hlx]]; exact List.getElem_mem _)
    omega)
  clear hz
  obtain ⟨i0, hi0, hz0, hz1, hz2⟩ := info_parts int_info
  go_enter Try.func16, Try.ntmps16
  go_wp2_with fail
  refine HC.out.mono ?_
  rintro e w1 ⟨rfl, hww⟩
  subst hww
  go_wp2_with (at_make; refine wpList_make_full _ rfl _ _ 22 rfl w.heap.size 3 i0 (.int .i64 0) 1 Try.underlying22 hi0 hz0 hz1 .i64 .i64 _ _ n rfl rfl rfl rfl (by rw [hz2]; omega) (by unfold maxLen; omega) (Nat.le_refl _) ?_; intro w2 hown2 hg2)
  have hB2 : Below w.heap.size w w2 := (Below.refl _ _).grown hg2 (Nat.le_refl _) (by intro k hk; cases hk)
  have hw2 := OwnI.zero (z := #[]) hown2 (by omega)
  have HO2 : Hid (OwnI w2 w.heap.size (some ⟨w.heap.size, 0, none⟩) n n (List.replicate (n - 0) 0 ++ invw (xs.take 0))) := hide (by
    rw [List.take_zero, Nat.sub_zero, show invw ([] : List Int) = [] from rfl, List.append_nil]; exact hw2)
  have HB2 := hide hB2
  clear hown2 hg2 hw2 hB2
  go_loopw [21] (fun i wr => ∃ k : Nat, k ≤ n ∧ i = .int .i64 k ∧ Hid (OwnI wr w.heap.size (some ⟨w.heap.size, 0, none⟩) n n (List.replicate (n - k) 0 ++ invw (xs.take k))) ∧ Hid (Below w.heap.size w wr)) (fun i _ => n - (intOf i).toNat)
  case atStart => exact ⟨0, Nat.zero_le _, rfl, HO2, HB2⟩
  case round =>
    clear HO2 HB2
    obtain ⟨k, hk, rfl, HO, HB⟩ := hrel
    by_cases hlt : k < n
    · obtain ⟨ad, rfl, hx⟩ := (HA.out.below HB.out).at_ hlt
      have hxx := HX.out k hlt
      have HS := hide (invw_step HL.out hlt)
      have hcell := HO.out.cell (j := n - 1 - k) (by omega)
      have hfr := HO.out.frozen (n - 1 - k)
      have HN := hide (HO.out.set_ (n - 1 - k) (-(xs.getD k 0)))
      rw [HS.out] at HN
      generalize xs.getD k 0 = x at *
      generalize (List.replicate (n - k) 0 ++ invw (xs.take k)).getD (n - 1 - k) 0 = z at *
      have hwx : IntKind.i64.wrap (-x) = -x := by rw [IntKind.wrap_i64]; omega
      obtain ⟨q, hq⟩ : ∃ q : Nat, n - 1 - k = q := ⟨_, rfl⟩
      rw [hq] at hcell hfr HN
      have hq2 : (n : Int) - 1 - (k : Int) = (q : Int) := by omega
      have HQ := hide hq2
      have hqn : q < n := by omega
      clear hq hq2 HS
      go_wp2_with (simp only [HQ.out])
      go_roundw
      case rel => exact ⟨k + 1, by omega, by go_num, HN, hide (HB.out.setCell (Nat.le_refl _) _)⟩
      case measure => simp [intOf]; omega
    · have hkn : k = n := by omega
      have HE : Hid (OwnI wr w.heap.size (some ⟨w.heap.size, 0, none⟩) n n (invw xs)) := hide (by
        have h := HO.out
        rw [hkn, Nat.sub_self, List.replicate_zero, List.nil_append, List.take_of_length_le (by rw [HL.out]; omega)] at h
        exact h)
      clear hkn HO
      go_wp2_with fail
      go_ret2
      exact ⟨_, _, _, rfl, by rw [HV.out]; exact HE.out.sl, HB.out⟩
end Go.Proofs.Ytmeicmhojingfaa
/- Package braid: Permutation. -/
namespace Go.Proofs.Ytmeicmhojingfaa
set_option linter.unusedVariables false
set_option linter.unusedSimpArgs false
open Go.RowKit

/-- The strands at each position, after the letters w. -/
def AtP (n : Nat) (w : List Int) (sl : List Nat) : Prop := sl.length = n ∧ ∀ p, p < n → sl.getD p 0 < n ∧ endE w (sl.getD p 0) = p
theorem AtP.start (n : Nat) : AtP n [] (List.range n) := ⟨by simp, fun p hp => by rw [range_getD hp]; exact ⟨hp, rfl⟩⟩
theorem AtP.isP {n : Nat} {w : List Int} {sl : List Nat} (h : AtP n w sl) : Proofs.Ytmeicmhojingfaa.isP sl := isP_of (fun j hj => by rw [h.1]; exact (h.2 j (by rw [← h.1]; exact hj)).1) (fun i j hi hj he => by
  have h1 := (h.2 i (by rw [← h.1]; exact hi)).2
  have h2 := (h.2 j (by rw [← h.1]; exact hj)).2
  rw [he, h2] at h1
  exact h1.symm)
theorem AtP.inv {n : Nat} {w : List Int} {sl : List Nat} (h : AtP n w sl) : zs (Proofs.Ytmeicmhojingfaa.inv sl) = zs (endsL n w) := by
  refine (inv_unique h.isP (ps := zs (endsL n w)) (by rw [zs_length, endsL_length, h.1]) fun j hj => ?_).symm
  obtain ⟨h1, h2⟩ := h.2 j (by rw [← h.1]; exact hj)
  rw [zs_getD]
  congr 1
  unfold endsL
  rw [getD_map_nat (by rw [List.length_range]; exact h1), range_getD h1, h2]
/-- Two positions exchanged. -/
def swapP (i : Nat) (sl : List Nat) : List Nat := (sl.set (i - 1) (sl.getD i 0)).set i (sl.getD (i - 1) 0)
theorem swapP_getD {i n : Nat} {x : Int} (hx : x.natAbs = i) {sl : List Nat} (hl : sl.length = n) (h1 : 1 ≤ i) (h2 : i < n) {p : Nat} (hp : p < n) : (swapP i sl).getD p 0 = sl.getD (stepE p x) 0 := by
  unfold swapP stepE
  rw [hx]
  simp only [List.getD, List.getElem?_set, List.length_set]
  grind
theorem AtP.step {n : Nat} {w : List Int} {sl : List Nat} (h : AtP n w sl) {x : Int} (h0 : x ≠ 0) (h1 : x.natAbs < n) : AtP n (w ++ [x]) (swapP x.natAbs sl) := by
  refine ⟨by unfold swapP; simp [h.1], fun p hp => ?_⟩
  rw [swapP_getD rfl h.1 (by omega) h1 hp]
  have hs := stepE_lt h0 h1 hp
  obtain ⟨h3, h4⟩ := h.2 _ hs
  exact ⟨h3, by rw [endE_snoc, h4, stepE_twice h0]⟩

end Go.Proofs.Ytmeicmhojingfaa
/- Package braid keeps its contracts (those that a seat has functions for). -/
namespace Go.Proofs.Ytmeicmhojingfaa
open Go.RowKit
theorem braidC : BraidC where
  check := fun m A n c xs w h hm => (bcheck_any m A n c xs w h hm).mono fun e w' ⟨h1, h2⟩ => ⟨h1, by rw [← h2]; exact Below.refl _ _⟩
  expo := bexpo_any -- 30
  inverse := binv_any -- 16
end Go.Proofs.Ytmeicmhojingfaa
/- Package jones as landed. -/
namespace Go.Proofs.Ytmeicmhojingfaa
theorem jonesC : JonesC := jonesC_of polyC tlC braidC
end Go.Proofs.Ytmeicmhojingfaa
/- timbmake.Strands for any greatest number; slices.Concat of two slices. -/
namespace Go.Proofs.Ytmeicmhojingfaa
set_option linter.unusedVariables false
set_option linter.unusedSimpArgs false
open Go.RowKit

set_option maxRecDepth 100000 in
theorem strands_gen (n : Int) (K : Nat) (kz : Int) (hkz : kz = (K : Int) + 1) (h1 : 1 ≤ K) (hK : K ≤ 10) (w : World) : Calls Try.prog 14 #[.int .i64 n, .int .i64 kz] w fun e w' => ∃ T : Nat, 1 ≤ T ∧ T ≤ K ∧ e = .returned (.int .i64 ((T : Int) + 1)) ∧ w = w' := by
  subst hkz
  obtain ⟨p, hp⟩ : ∃ p : Nat, n % (K : Int) = (p : Int) := ⟨(n % (K : Int)).toNat, by have := Int.emod_nonneg n (show (K : Int) ≠ 0 by omega); omega⟩
  have hp5 : p < K := by have := Int.emod_lt_of_pos n (show (0 : Int) < (K : Int) by omega); omega
  have HP := hide hp
  have hadd : IntKind.i64.wrap (2 + (p : Int)) = ((p + 1 : Nat) : Int) + 1 := by rw [IntKind.wrap_i64]; omega
  have HA := hide hadd
  have hs1 : (K : Int) + 1 - 1 = (K : Int) := by omega
  have hs2 : IntKind.i64.wrap (K : Int) = (K : Int) := by rw [IntKind.wrap_i64]; omega
  clear hp hadd
  go_enter Try.func14, Try.ntmps14
  go_wp2_with fail
  refine (mbelow_any n K _ h1 (by omega)).mono ?_
  rintro e w1 ⟨rfl, hww⟩
  subst hww
  rw [HP.out]
  go_wp2_with ((with_reducible show wpList _ _ _ (Oper.mk _ (.binOp .add _ _ _) _ _ _ _ :: _) _ _); refine wpList_gives rfl (gives_add rfl rfl rfl HA.out) ?_)
  go_ret
  exact ⟨p + 1, by omega, by omega, by
    have e : IntKind.i64.wrap (2 + (p : Int)) = ((p + 1 : Nat) : Int) + 1 := HA.out
    first | rfl | (simp; omega) | (simp [e]; omega), rfl⟩
end Go.Proofs.Ytmeicmhojingfaa
/- Maps from integers to integers as lists of terms; a range over one, whatever its order. -/
namespace Go.Proofs.Ytmeicmhojingfaa
set_option linter.unusedVariables false
set_option linter.unusedSimpArgs false
open Go.RowKit Go.Maps

theorem keyI : Keyed Try.prog 3 := int_keyed Try.underlying3
theorem keyI_mk {x : Int} (h : (Lit.int .i64 x).wf = true) : keyOf Try.prog 3 (.int .i64 x) = some (.int .i64 x) := keyOf_int_mk Try.underlying3 h
theorem wfI {x : Int} (h : x.natAbs ≤ 4000000000000000000) : (Lit.int .i64 x).wf = true := by
  have h1 : IntKind.i64.min = -9223372036854775808 := by decide
  simp [Lit.wf, h1]
  omega
/-- The element at a key. -/
def lookT : List Tm → Int → Option Int
  | [], _ => none
  | (e, c) :: l, x => if e = x then some c else lookT l x
def lookV (o : List Tm) : Value → Option Value
  | .int .i64 x => (lookT o x).map (Value.int .i64)
  | _ => none
theorem coefT_not {o : List Tm} {x : Int} (h : ∀ p ∈ o, p.1 ≠ x) : coefT o x = 0 := by
  induction o with
  | nil => rfl
  | cons p l ih =>
    show (if p.1 = x then p.2 else 0) + coefT l x = 0
    rw [if_neg (h p (by simp)), ih fun q hq => h q (by simp [hq])]
    rfl
theorem coefT_look : ∀ {o : List Tm} {x : Int}, (o.map (·.1)).Nodup → coefT o x = (lookT o x).getD 0
  | [], x, _ => rfl
  | (e, d) :: l, x, hn => by
    have hn' := List.nodup_cons.1 hn
    show (if e = x then d else 0) + coefT l x = _
    unfold lookT
    by_cases h : e = x
    · rw [if_pos h, if_pos h, coefT_not fun p hp e' => hn'.1 (by rw [h, ← e']; exact List.mem_map.2 ⟨p, hp, rfl⟩)]
      show d + 0 = d
      omega
    · rw [if_neg h, if_neg h, coefT_look hn'.2, Int.zero_add]
/-- v is put at x. -/
def putT : List Tm → Int → Int → List Tm
  | [], x, v => [(x, v)]
  | (e, c) :: l, x, v => if e = x then (x, v) :: l else (e, c) :: putT l x v
theorem putT_keys : ∀ (o : List Tm) (x v : Int), ∀ p ∈ putT o x v, p ∈ o ∨ p = (x, v)
  | [], x, v, p, h => .inr (by simpa [putT] using h)
  | (e, c) :: l, x, v, p, h => by
    unfold putT at h
    by_cases he : e = x
    · rw [if_pos he] at h
      rcases List.mem_cons.1 h with h | h
      · exact .inr h
      · exact .inl (List.mem_cons_of_mem _ h)
    · rw [if_neg he] at h
      rcases List.mem_cons.1 h with h | h
      · exact .inl (by rw [h]; exact List.mem_cons_self)
      · rcases putT_keys l x v p h with h | h
        · exact .inl (List.mem_cons_of_mem _ h)
        · exact .inr h
theorem putT_look : ∀ (o : List Tm) (x v y : Int), lookT (putT o x v) y = if y = x then some v else lookT o y
  | [], x, v, y => by
    show (if x = y then some v else none) = if y = x then some v else none
    by_cases h : x = y
    · rw [if_pos h, if_pos h.symm]
    · rw [if_neg h, if_neg fun e => h e.symm]
  | (e, c) :: l, x, v, y => by
    unfold putT
    by_cases he : e = x
    · rw [if_pos he]
      show (if x = y then some v else lookT l y) = if y = x then some v else if e = y then some c else lookT l y
      by_cases h : x = y
      · rw [if_pos h, if_pos h.symm]
      · rw [if_neg h, if_neg fun e' => h e'.symm, if_neg (by omega)]
    · rw [if_neg he]
      show (if e = y then some c else lookT (putT l x v) y) = if y = x then some v else if e = y then some c else lookT l y
      rw [putT_look l x v y]
      by_cases h : e = y
      · rw [if_pos h, if_pos h, if_neg (by omega)]
      · rw [if_neg h, if_neg h]
theorem putT_nodup : ∀ (o : List Tm) (x v : Int), (o.map (·.1)).Nodup → ((putT o x v).map (·.1)).Nodup
  | [], x, v, _ => by simp [putT]
  | (e, c) :: l, x, v, h => by
    have h' := List.nodup_cons.1 h
    unfold putT
    by_cases he : e = x
    · rw [if_pos he]
      subst he
      exact h
    · rw [if_neg he]
      refine List.nodup_cons.2 ⟨fun hm => ?_, putT_nodup l x v h'.2⟩
      obtain ⟨p, hp, e1⟩ := List.mem_map.1 hm
      rcases putT_keys l x v p hp with h1 | h1
      · exact h'.1 (by rw [← show p.1 = e from e1]; exact List.mem_map.2 ⟨p, h1, rfl⟩)
      · rw [h1] at e1
        exact he e1.symm
theorem putT_length : ∀ (o : List Tm) (x v : Int), (putT o x v).length = if (lookT o x).isSome then o.length else o.length + 1
  | [], x, v => rfl
  | (e, c) :: l, x, v => by
    unfold putT lookT
    by_cases he : e = x
    · rw [if_pos he, if_pos he]; rfl
    · rw [if_neg he, if_neg he]
      show (putT l x v).length + 1 = _
      rw [putT_length l x v]
      split <;> rfl
/-- Block b is a map with just the entries o. -/
structure MapI (w : World) (b : Nat) (o : List Tm) : Prop where
  dict : Dict Try.prog 3 w b o.length (lookV o)
  nodup : (o.map (·.1)).Nodup
section
variable {w w' : World} {b : Nat} {o : List Tm}
theorem MapI.lt (h : MapI w b o) : b < w.heap.size := h.dict.lt
theorem MapI.below (h : MapI w b o) (hb : Below w.heap.size w w') : MapI w' b o := ⟨h.dict.below hb, h.nodup⟩
theorem MapI.kept {row : Option Nat} (h : MapI w b o) (hg : w.grownBy w' row) (hne : some b ≠ row) : MapI w' b o := ⟨h.dict.kept hg hne, h.nodup⟩
theorem MapI.made (w : World) : MapI (w.alloc (.map #[] 0)) w.heap.size [] := ⟨(Dict.made w _ _).congr rfl fun key kl _ => by unfold lookV; split <;> rfl, List.nodup_nil⟩
theorem MapI.look (h : MapI w b o) {t : TypeId} (ht : Try.prog.underlying t = some (.map 3 3)) {x : Int} (hx : (Lit.int .i64 x).wf = true) :
    (Instr.lookup t (.map (some b)) (.int .i64 x) false).run Try.prog w = .ok (.int .i64 (coefT o x)) w := by
  rw [h.dict.look keyI ht (z := .int .i64 0) (by kernel_rfl) (keyI_mk hx), coefT_look h.nodup]
  have e : lookV o (.int .i64 x) = (lookT o x).map (Value.int .i64) := rfl
  rw [e]
  cases lookT o x <;> rfl
theorem MapI.store (h : MapI w b o) {t : TypeId} (ht : Try.prog.underlying t = some (.map 3 3)) {x v : Int} (hx : (Lit.int .i64 x).wf = true) (hn : o.length < 1000000) :
    ∃ w', (Instr.mapUpdate t (.map (some b)) (.int .i64 x) (.int .i64 v)).run Try.prog w = .ok () w' ∧ MapI w' b (putT o x v) ∧ w.grownBy w' (some b) ∧ w'.heap.size = w.heap.size := by
  obtain ⟨w', h1, h2, h3, h4⟩ := h.dict.store keyI ht (by unfold maxLen; omega) (keyI_mk hx) (.int .i64 v) (f' := lookV (putT o x v)) (by
    show ((lookT (putT o x v) x).map _) = _
    rw [putT_look, if_pos rfl]; rfl) (fun y l hy hne => by
    obtain ⟨z, rfl, _, _⟩ := keyOf_int_inv Try.underlying3 hy
    show ((lookT (putT o x v) z).map _) = (lookT o z).map _
    rw [putT_look, if_neg fun e => hne (by rw [e])])
  refine ⟨w', h1, ⟨h2.congr ?_ fun _ _ _ => rfl, putT_nodup o x v h.nodup⟩, h3, h4⟩
  rw [putT_length]
  show (if ((lookT o x).map (Value.int .i64)).isSome = true then _ else _) = _
  rw [Option.isSome_map]
end

/-! ### a range -/
/-- A range over the map with entries T: done and rem(aining). -/
structure RangeI (w : World) (b r : Nat) (T done rem : List Tm) (cnt : Nat) : Prop where
  nodup : (T.map (·.1)).Nodup
  perm : (done ++ rem).Perm T
  run : ∃ (n : Nat) (D : DataW Value) (left : Lit → Bool), w.ranges Try.prog 3 HR b r n D left cnt ∧ (∀ p ∈ T, ∀ z, D.atKey (.int .i64 p.1) z = .held (.int .i64 p.2)) ∧ (∀ x : Int, (Lit.int .i64 x).wf = true → (left (.int .i64 x) = true ↔ ∃ c, (x, c) ∈ rem)) ∧ ∀ p ∈ T, (Lit.int .i64 p.1).wf = true
section
variable {w w' : World} {b r cnt : Nat} {T done rem : List Tm}
theorem RangeI.kept {row : Option Nat} (h : RangeI w b r T done rem cnt) (hg : w.grownBy w' row) (hb : some b ≠ row) (hr : some r ≠ row) : RangeI w' b r T done rem cnt := by
  obtain ⟨n, D, left, h1, h2⟩ := h.run
  exact ⟨h.nodup, h.perm, n, D, left, h1.kept hg hb hr, h2⟩
theorem RangeI.left_eq (h : RangeI w b r T done rem cnt) : w.rangeLeft b r = cnt := by
  obtain ⟨n, D, left, h1, _⟩ := h.run
  exact h1.left_eq
theorem RangeI.lt (h : RangeI w b r T done rem cnt) : r < w.heap.size := by
  obtain ⟨n, D, left, h1, _⟩ := h.run
  exact h1.lt
theorem RangeI.mem (h : RangeI w b r T done rem cnt) : ∀ p ∈ done, p ∈ T := fun p hp => h.perm.subset (List.mem_append_left _ hp)
end
section
variable (w : World) {ops : Array Oper} {rest : List Oper} {o : Oper} {a : Act} {Q : Exit → Act → World → Prop}
end
end Go.Proofs.Ytmeicmhojingfaa
/- timbkeep1.jonesed, timbkeep1.JonesMirror, for packages that answer as they should. -/
namespace Go.Proofs.Ytmeicmhojingfaa
set_option linter.unusedVariables false
set_option linter.unusedSimpArgs false
open Go.RowKit

theorem keep_same (x : LP) (w : World) (A : Option Addr) (n c : Nat) (B : Option Addr) (m d : Nat) (ha : SL w A n c (LP.canon x).2) (hb : SL w B m d (LP.canon x).2) :
    Calls Try.prog 19 #[PV (LP.canon x).1 A n c, PV (LP.canon x).1 B m d] w fun e w' => e = .returned (.bool true) ∧ Below w.heap.size w w' := by
  have h := same_k (LP.canon x).1 A n c (LP.canon x).2 (LP.canon x).1 B m d (LP.canon x).2 w ha hb
  rw [show (decide ((LP.canon x).1 = (LP.canon x).1) && eqB (LP.canon x).2 (LP.canon x).2) = true by rw [eqB_true rfl]; simp] at h
  exact h
theorem keep_lit (la : Int) (xs : List Int) (w : World) (A : Option Addr) (n c : Nat) (B : Option Addr) (m d : Nat) (ha : SL w A n c xs) (hb : SL w B m d xs) :
    Calls Try.prog 19 #[PV la A n c, PV la B m d] w fun e w' => e = .returned (.bool true) ∧ Below w.heap.size w w' := by
  have h := same_k la A n c xs la B m d xs w ha hb
  rw [show (decide (la = la) && eqB xs xs) = true by rw [eqB_true rfl]; simp] at h
  exact h

set_option maxRecDepth 100000 in
set_option maxHeartbeats 4000000 in
theorem jonesed_any (F : JonesC) (w : World) : Calls Try.prog 18 #[] w fun e w' => e = .returned (.bool true) ∧ Below w.heap.size w w' := by
  have HF := hide F
  have HW := hide ((Below.refl w.heap.size w).alloc (Nat.le_refl _) (.cells #[.int .i64 1] 3))
  have HS := hide (SL.lit w [1] (by simp) (cs := #[.int .i64 1]) rfl (m := 1) rfl)
  clear F
  go_enter Try.func18, Try.ntmps18
  go_upto_region 1 with fail
  go_wp2_with fail
  refine (HF.out.poly 2 _ 1 1 [1] _ HS.out (by decide)).mono ?_
  rintro e w1 ⟨P, pn, pc, rfl, hs, hn, hb⟩
  dsimp only at hs ⊢
  rw [joE_21, joP_21.1]
  rw [joP_21.2] at hs
  replace HW := hide (HW.out.trans (hb.mono HW.out.size))
  have SP := hide hs
  clear hs hn hb HS
  go_upto_region 2 with fail
  have hb : Below w1.heap.size w1 (w1.alloc (.cells #[.int .i64 0, .slice P pn pc] 24)) := (Below.refl _ _).alloc (Nat.le_refl _) _
  have BP := hide (Blk.new w1 24 #[.int .i64 0, .slice P pn pc])
  replace HW := hide (HW.out.trans (hb.mono HW.out.size))
  replace SP := hide (SP.out.below hb)
  obtain ⟨bp, hq⟩ : ∃ q, w1.heap.size = q := ⟨_, rfl⟩
  obtain ⟨w2, hw⟩ : ∃ x, w1.alloc (.cells #[.int .i64 0, .slice P pn pc] 24) = x := ⟨_, rfl⟩
  rw [hw] at BP HW SP ⊢
  rw [hq] at BP ⊢
  clear hb hq hw
  have hb : Below w2.heap.size w2 (w2.alloc (.cells #[.int .i64 1] 3)) := (Below.refl _ _).alloc (Nat.le_refl _) _
  have HS := hide (SL.lit w2 [1] (by simp) (cs := #[.int .i64 1]) rfl (m := 1) rfl)
  replace HW := hide (HW.out.trans (hb.mono HW.out.size))
  replace SP := hide (SP.out.below hb)
  replace BP := hide (BP.out.below hb BP.out.lt)
  clear hb
  go_wp2_with fail
  refine (HF.out.bracket 2 _ 1 1 [1] _ HS.out (by decide)).mono ?_
  rintro e w3 ⟨Q, qn, qc, rfl, hs, hn, hb⟩
  dsimp only at hs ⊢
  rw [joE_21, joB_21.1]
  rw [joB_21.2] at hs
  replace HW := hide (HW.out.trans (hb.mono HW.out.size))
  replace SP := hide (SP.out.below hb)
  replace BP := hide (BP.out.below hb BP.out.lt)
  have SQ := hide hs
  clear hs hn hb HS
  go_upto_region 3 with fail
  have hb : Below w3.heap.size w3 (w3.alloc (.cells #[.int .i64 3, .slice Q qn qc] 24)) := (Below.refl _ _).alloc (Nat.le_refl _) _
  have BQ := hide (Blk.new w3 24 #[.int .i64 3, .slice Q qn qc])
  replace HW := hide (HW.out.trans (hb.mono HW.out.size))
  replace SP := hide (SP.out.below hb)
  replace SQ := hide (SQ.out.below hb)
  replace BP := hide (BP.out.below hb BP.out.lt)
  obtain ⟨bq, hq⟩ : ∃ q, w3.heap.size = q := ⟨_, rfl⟩
  obtain ⟨w4, hw⟩ : ∃ x, w3.alloc (.cells #[.int .i64 3, .slice Q qn qc] 24) = x := ⟨_, rfl⟩
  rw [hw] at BP BQ HW SP SQ ⊢
  rw [hq] at BQ ⊢
  clear hb hq hw
  have hb : Below w4.heap.size w4 (w4.alloc (.cells #[.int .i64 1] 3)) := (Below.refl _ _).alloc (Nat.le_refl _) _
  have HS := hide (SL.lit w4 [1] (by simp) (cs := #[.int .i64 1]) rfl (m := 1) rfl)
  have hp0 := BP.out.cell 0
  have hp1 := BP.out.cell 1
  simp at hp0 hp1
  replace HW := hide (HW.out.trans (hb.mono HW.out.size))
  replace SP := hide (SP.out.below hb)
  replace SQ := hide (SQ.out.below hb)
  replace BQ := hide (BQ.out.below hb BQ.out.lt)
  clear hb BP
  go_wp2_with fail
  refine (keep_lit 0 [1] _ P pn pc _ 1 1 SP.out HS.out).mono ?_
  rintro e w5 ⟨rfl, hb⟩
  replace HW := hide (HW.out.trans (hb.mono HW.out.size))
  replace SQ := hide (SQ.out.below hb)
  replace BQ := hide (BQ.out.below hb BQ.out.lt)
  clear hb HS SP hp0 hp1
  have hb : Below w5.heap.size w5 (w5.alloc (.cells #[.int .i64 (-1)] 3)) := (Below.refl _ _).alloc (Nat.le_refl _) _
  have HS := hide (SL.lit w5 [-1] (by simp) (cs := #[.int .i64 (-1)]) rfl (m := 1) rfl)
  have hp0 := BQ.out.cell 0
  have hp1 := BQ.out.cell 1
  simp at hp0 hp1
  replace HW := hide (HW.out.trans (hb.mono HW.out.size))
  replace SQ := hide (SQ.out.below hb)
  clear hb BQ
  go_wp2_with fail
  refine (keep_lit 3 [-1] _ Q qn qc _ 1 1 SQ.out HS.out).mono ?_
  rintro e w6 ⟨rfl, hb⟩
  replace HW := hide (HW.out.trans (hb.mono HW.out.size))
  clear hb HS SQ hp0 hp1
  go_wp2_with fail
  go_ret
  exact ⟨rfl, HW.out⟩
end Go.Proofs.Ytmeicmhojingfaa
/- JONES's relation for polynomials of three words (mathematics of stage 13). -/
namespace Go.Proofs.Ytmeicmhojingfaa
set_option linter.unusedVariables false
set_option linter.unusedSimpArgs false

theorem expo_mid (u v : List Int) (x : Int) : LP.expo (u ++ x :: v) = LP.expo (u ++ v) + Int.sign x := by
  induction u with
  | nil => rw [List.nil_append, List.nil_append, LP.expo_cons]; omega
  | cons y u ih => rw [List.cons_append, List.cons_append, LP.expo_cons, LP.expo_cons, ih]; omega
theorem pull4 {R : Type} [CR R] (a b t s c : R) (h : a * t = s * c) : a * (b * t) = s * b * c := by
  rw [← CR.mul_assoc, CR.mul_comm a b, CR.mul_assoc, h, ← CR.mul_assoc, CR.mul_comm b s]
/-- A^4 times the polynomial with a positive letter, less A^-4 times that with a negative one, is (A^-2 - A^2) times that without. -/
theorem jon_skein {n i : Nat} (h1 : 1 ≤ n) (h6 : n ≤ 6) (hi : 1 ≤ i) {u v : List Int} (hu : ∀ x ∈ u, x ≠ 0 ∧ x.natAbs < n) :
    LP.term 4 1 * jon n (u ++ (i : Int) :: v) + -(LP.term (-4) 1 * jon n (u ++ -(i : Int) :: v)) = (LP.term (-2) 1 + -LP.term 2 1) * jon n (u ++ v) := by
  have h := brk_skein (n := n) h1 h6 hi (v := v) hu
  unfold jon
  have e1 := expo_mid u v (i : Int)
  have e2 := expo_mid u v (-(i : Int))
  rw [Int.sign_eq_one_of_pos (by omega)] at e1
  rw [Int.sign_eq_neg_one_of_neg (by omega)] at e2
  rw [e1, e2]
  generalize LP.expo (u ++ v) = e at *
  generalize brk n (u ++ (i : Int) :: v) = X at *
  generalize brk n (u ++ -(i : Int) :: v) = Y at *
  generalize brk n (u ++ v) = Z at *
  obtain ⟨s, hs⟩ : ∃ s : Int, (if e % 2 = 0 then (1 : Int) else -1) = s := ⟨_, rfl⟩
  have hs1 : (if (e + 1) % 2 = 0 then (1 : Int) else -1) = -s := by rw [← hs]; split <;> split <;> omega
  have hs2 : (if (e + -1) % 2 = 0 then (1 : Int) else -1) = -s := by rw [← hs]; split <;> split <;> omega
  rw [hs, hs1, hs2]
  have k1 : LP.term 4 1 * LP.term (-3 * (e + 1)) (-s) = LP.term 1 1 * LP.term (-3 * e) (-s) := by
    rw [LP.term_mul, LP.term_mul]
    congr 1
    omega
  have k2 : LP.term (-4) 1 * LP.term (-3 * (e + -1)) (-s) = LP.term (-1) 1 * LP.term (-3 * e) (-s) := by
    rw [LP.term_mul, LP.term_mul]
    congr 1
    omega
  rw [pull4 _ _ _ _ _ k1, pull4 _ _ _ _ _ k2, ← CR.neg_mul, ← CR.add_mul, h]
  have k3 : LP.term (-3 * e) (-s) = -LP.term (-3 * e) s := LP.ext fun k => by
    rw [LP.co_neg, LP.co_term, LP.co_term]
    split <;> omega
  rw [k3, CR.mul_neg, CR.mul_assoc, ← CR.neg_mul]
  congr 1
  exact LP.ext fun k => by
    rw [LP.co_neg, LP.co_add, LP.co_add, LP.co_neg, LP.co_neg]
    omega
end Go.Proofs.Ytmeicmhojingfaa
/- timbkeep1's mul, add, same and multiplied in drawn regions. -/
namespace Go.Proofs.Ytmeicmhojingfaa
set_option linter.unusedVariables false
set_option linter.unusedSimpArgs false
open Go.RowKit

theorem eMulK : ∀ args w, (callFunc 23 args).run Try.prog w = .ok (.enter 23 args) w := enters (fn := Try.f23) (by kernel_rfl) (by kernel_rfl) (by kernel_rfl)
/-- The product of two polynomials, as the laws reckon it. -/
theorem mul_c (F : PolyC) {x y z : LP} (hx : LP.Rt x) (hy : LP.Rt y) (hz : LP.Rt z) (e : x * y = z) (w : World) (A : Option Addr) (n c : Nat) (B : Option Addr) (m d : Nat) (ha : SL w A n c (LP.canon x).2) (hb : SL w B m d (LP.canon y).2) :
    Calls Try.prog 23 #[PV (LP.canon x).1 A n c, PV (LP.canon y).1 B m d] w (GivesP w (LP.canon z).1 (LP.canon z).2) := by
  subst e
  have h := mul_k F (LP.canon x).1 A n c (LP.canon x).2 (LP.canon y).1 B m d (LP.canon y).2 w ha hb hx.wf hy.wf
  rw [LP.mulR_canon hx hy hz] at h
  exact h
theorem gives_build {P : Program} {o : Oper} {a : Act} {w : World} {t : TypeId} {l : List (Nat × Operand)} {cells : Array Value} (vs : List (Nat × Value)) (ho : o.op = .build t l.toArray) (hv : (l.map fun (i, x) => (i, a.eval x)) = vs) (hb : P.built t vs = some cells) : Gives P o a w (.agg cells) := by
  subst hv
  unfold Gives execOp
  rw [ho]
  have e : ((l.toArray.map fun (i, x) => (i, a.eval x)).toList) = l.map fun (i, x) => (i, a.eval x) := by simp
  have := run_build (P := P) w t (l.toArray.map fun (i, x) => (i, a.eval x)) cells (by rw [e]; exact hb)
  simp only [Sem.run_bind, this, Result.andThen_ok, Sem.run_pure]
end Go.Proofs.Ytmeicmhojingfaa
