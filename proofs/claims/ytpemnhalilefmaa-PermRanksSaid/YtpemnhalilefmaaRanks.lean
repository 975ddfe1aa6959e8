/- timblaw1.PermRanks. -/
import Derived.Test.YtpemnhalilefmaaIndex
import Derived.Test.YtpemnhalilefmaaChecks
import Derived.Test.YtpemnhalilefmaaUnrank
namespace Go.Proofs.Ytpemnhalilefmaa
open Go.RowKit

/-- The error of Unrank. -/
def unErr (n r : Int) : Int := if n < 0 ∨ 9 < n then 1 else if r < 0 ∨ (fct n.toNat : Int) ≤ r then 4 else 0
/-- The list of Unrank. -/
def unList (n r : Int) : List Nat := if unErr n r = 0 then unr n.toNat (List.range n.toNat) r.toNat else []

set_option maxHeartbeats 1000000 in
theorem unrank_any (n r : Int) (w : World) :
    Calls Try.prog 29 #[.int .i64 n, .int .i64 r] w fun e w' => ∃ (B : Option Addr) (m d : Nat), e = .returned (.tuple #[.slice B m d, .int .i64 (unErr n r)]) ∧ IL w' B m (zs (unList n r)) ∧ m ≤ d ∧ Below w.heap.size w w' := by
  by_cases h1 : n < 0 ∨ 9 < n
  · have HE : Hid (unErr n r = 1) := by unfold unErr; rw [if_pos h1]; exact rfl
    have HL : Hid (unList n r = []) := by unfold unList; rw [HE.out, if_neg (by decide)]; exact rfl
    rcases h1 with h1 | h1
    all_goals
      go_enter Try.func29, Try.ntmps29
      go_wp2
      go_ret2
      rw [HE.out, HL.out]
      exact ⟨none, 0, 0, rfl, IL.nil_ _, Nat.le_refl _, Below.refl _ _⟩
  · obtain ⟨k, rfl⟩ : ∃ k : Nat, n = (k : Int) := ⟨n.toNat, by omega⟩
    have hk9 : k ≤ 9 := by omega
    have hk0 : ¬ (k : Int) < 0 := by omega
    have hk1 : ¬ 9 < (k : Int) := by omega
    by_cases h2 : r < 0 ∨ (fct k : Int) ≤ r
    · have HE : Hid (unErr (k : Int) r = 4) := by unfold unErr; rw [if_neg (by omega), if_pos (by simpa using h2)]; exact rfl
      have HL : Hid (unList (k : Int) r = []) := by unfold unList; rw [HE.out, if_neg (by decide)]; exact rfl
      have HF := hide (factorial_any k w hk9)
      rcases h2 with h2 | h2
      all_goals
        generalize fct k = F at *
        go_enter Try.func29, Try.ntmps29
        go_wp2_with fail
        refine HF.out.mono ?_
        rintro e w' ⟨rfl, rfl⟩
        go_wp2
        go_ret2
        rw [HE.out, HL.out]
        exact ⟨none, 0, 0, rfl, IL.nil_ _, Nat.le_refl _, Below.refl _ _⟩
    · obtain ⟨q, rfl⟩ : ∃ q : Nat, r = (q : Int) := ⟨r.toNat, by omega⟩
      have HE : Hid (unErr (k : Int) (q : Int) = 0) := by unfold unErr; rw [if_neg (by omega), if_neg (by simpa using h2)]; exact rfl
      have HL : Hid (unList (k : Int) (q : Int) = unr k (List.range k) q) := by unfold unList; rw [HE.out, if_pos rfl]; exact rfl
      refine (unrank_ok k q w hk9 (by omega)).mono ?_
      rintro e w' ⟨B, m, d, rfl, ho, hb⟩
      rw [HE.out, HL.out]
      exact ⟨B, m, d, rfl, ho.il, ho.cap, hb⟩

set_option maxHeartbeats 4000000 in
theorem permRanks_any (A : Option Addr) (la ca : Nat) (xs : List Int) (n r : Int) (w : World) (ha : IL w A la xs) (hca : la ≤ ca) :
    Calls Try.prog 6 #[.slice A la ca, .int .i64 n, .int .i64 r] w fun e w' => e = .returned (.bool true) ∧ Below w.heap.size w w' := by
  have HU := hide (unrank_any n r)
  by_cases hf : pf xs = 0
  · obtain ⟨h9, a, rfl, pa⟩ := (pf_zero xs).1 hf
    rw [zs_length] at h9
    have HF := hide hf
    have HP := hide (And.intro pa h9)
    have hrl := rankN_lt h9
    clear hf pa h9
    go_enter Try.func6, Try.ntmps6
    go_wp2_with fail
    refine (rank_ok A la ca a _ ha hca HP.out.1 HP.out.2).mono ?_
    generalize hR : rankN a = R at *
    have HR := hide hR
    clear hR
    rintro e w1 ⟨rfl, hb01⟩
    replace ha := ha.below hb01
    go_wp2_with fail
    refine (HU.out _).mono ?_
    rintro e w2 ⟨B, m, d, rfl, hp, -, hb2⟩
    replace ha := ha.below hb2
    have hb02 := hb01.trans (hb2.mono hb01.size)
    clear hb2 hb01
    go_wp2_with fail
    refine (fault_any _ _ _ _ _ ha).mono ?_
    rw [HF.out]
    rintro e w3 ⟨rfl, hb3⟩
    replace ha := ha.below hb3
    replace hp := hp.below hb3
    have hb03 := hb02.trans (hb3.mono hb02.size)
    clear hb3 hb02
    go_wp2_with fail
    refine (number_ok _ _ _ a _ ha HP.out.1 HP.out.2).mono ?_
    rw [HR.out]
    rintro e w4 ⟨rfl, hb4⟩
    replace hp := hp.below hb4
    have hb04 := hb03.trans (hb4.mono hb03.size)
    clear hb4 hb03 ha
    go_wp2_with fail
    refine (lpermuted_any _).mono ?_
    rintro e w5 ⟨rfl, hb5⟩
    replace hp := hp.below hb5
    have hb05 := hb04.trans (hb5.mono hb04.size)
    clear hb5 hb04
    by_cases h1 : n < 0 ∨ 9 < n
    · have HE : Hid (unErr n r = 1) := by unfold unErr; rw [if_pos h1]; exact rfl
      have HL : Hid (unList n r = []) := by unfold unList; rw [HE.out, if_neg (by decide)]; exact rfl
      rw [HE.out]
      have hm : m = 0 := by
        have := hp.len
        rw [HL.out] at this
        exact this.symm
      subst hm
      clear hp
      rcases h1 with h1 | h1
      all_goals
        go_wp2
        go_ret
        exact ⟨rfl, hb05⟩
    · obtain ⟨k, rfl⟩ : ∃ k : Nat, n = (k : Int) := ⟨n.toNat, by omega⟩
      have hk9 : k ≤ 9 := by omega
      have hk0 : ¬ (k : Int) < 0 := by omega
      have hk1 : ¬ 9 < (k : Int) := by omega
      have HERR : Hid (unErr (k : Int) r = if r < 0 ∨ (fct k : Int) ≤ r then 4 else 0) := by unfold unErr; rw [if_neg (by omega)]; exact rfl
      generalize hE : unErr (k : Int) r = E at *
      have HEE := hide hE
      clear hE h1
      go_wp2
      go_loop [13, 14] (fun fv i => ∃ j : Nat, 1 ≤ j ∧ (j ≤ k ∨ j = 1) ∧ i = .int .i64 ((j : Int) + 1) ∧ fv = .int .i64 (fct j : Nat)) (fun _ i => k + 1 - (intOf i).toNat)
      case atStart => exact ⟨1, by omega, .inr rfl, rfl, rfl⟩
      case round =>
        obtain ⟨j, hj1, hj, rfl, rfl⟩ := hrel
        have hj9 : j ≤ 9 := by omega
        have hfs := fct_small j (by omega)
        by_cases hlt : j + 1 ≤ k
        · have hfs2 := fct_small (j + 1) (by omega)
          have HFJ : Hid (((fct (j + 1) : Nat) : Int) = (fct j : Nat) * ((j : Int) + 1)) := by
            rw [fct, Nat.mul_comm]
            exact Int.natCast_mul _ _
          have hp0 : (0 : Int) ≤ (fct j : Nat) * ((j : Int) + 1) := by rw [← HFJ.out]; omega
          have hp1 : (fct j : Nat) * ((j : Int) + 1) ≤ 362880 := by rw [← HFJ.out]; omega
          clear hfs2 hp
          generalize fct j = fj at *
          go_wp2
          go_round
          case rel => exact ⟨j + 1, by omega, .inl hlt, by go_num, by rw [HFJ.out]⟩
          case measure => simp [intOf]; omega
        · have HFE : Hid (fct j = fct k) := by
            rcases hj with h | h
            · rw [show j = k from by omega]; exact rfl
            · subst h
              rcases (show k = 0 ∨ k = 1 by omega) with rfl | rfl <;> exact rfl
          rw [← HFE.out] at HERR
          by_cases h2 : r < 0 ∨ (fct j : Int) ≤ r
          · have hE4 : E = 4 := by rw [HERR.out, if_pos h2]
            subst hE4
            have HL : Hid (unList (k : Int) r = []) := by unfold unList; rw [HEE.out, if_neg (by decide)]; exact rfl
            have hm : m = 0 := by
              have := hp.len
              rw [HL.out] at this
              exact this.symm
            subst hm
            clear hp
            generalize fct j = fj at *
            rcases h2 with h2 | h2
            all_goals
              go_wp2
              go_ret
              exact ⟨rfl, hb05⟩
          · have hE0 : E = 0 := by rw [HERR.out, if_neg h2]
            subst hE0
            obtain ⟨q, rfl⟩ : ∃ q : Nat, r = (q : Int) := ⟨r.toNat, by omega⟩
            have hq : q < fct j := by omega
            have hq0 : ¬ (q : Int) < 0 := by omega
            have hq1 : ¬ ((fct j : Nat) : Int) ≤ (q : Int) := by omega
            have HL : Hid (unList (k : Int) (q : Int) = unr k (List.range k) q) := by unfold unList; rw [HEE.out, if_pos rfl]; exact rfl
            have HSP := hide (unr_spec k (us := List.range k) (r := q) (by simp) (range_sorted k) (by rw [← HFE.out]; exact hq))
            rw [HL.out] at hp
            generalize unr k (List.range k) q = l at *
            have HLP : Hid (isP l ∧ l.length = k) := isP_of_perm HSP.out.1
            have HLR : Hid (rankN l = q) := by rw [rankN_eq]; exact HSP.out.2
            have hmk : m = k := by
              have := hp.len
              rw [zs_length, HLP.out.2] at this
              exact this.symm
            subst hmk
            have HPF := hide (HLP.out.1.pf (by rw [HLP.out.2]; exact hk9))
            clear h2 hq
            generalize fct j = fj at *
            go_wp2_with fail
            refine (fault_any _ _ _ _ _ hp).mono ?_
            rw [HPF.out]
            rintro e w6 ⟨rfl, hb6⟩
            replace hp := hp.below hb6
            have hb06 := hb05.trans (hb6.mono hb05.size)
            clear hb6
            go_wp2_with fail
            refine (number_ok _ _ _ l _ hp HLP.out.1 (by rw [HLP.out.2]; exact hk9)).mono ?_
            rw [HLR.out]
            rintro e w7 ⟨rfl, hb7⟩
            have hb07 := hb06.trans (hb7.mono hb06.size)
            clear hb7
            go_wp2
            go_ret
            exact ⟨rfl, hb07⟩
  · have hfb : (pf xs == 0) = false := by simpa using hf
    have HF := hide hf
    clear hf
    go_enter Try.func6, Try.ntmps6
    go_wp2_with fail
    refine (rank_err A la ca xs _ ha HF.out).mono ?_
    rintro e w1 ⟨rfl, hb01⟩
    replace ha := ha.below hb01
    go_wp2_with fail
    refine (HU.out _).mono ?_
    rintro e w2 ⟨B, m, d, rfl, hp, -, hb2⟩
    replace ha := ha.below hb2
    have hb02 := hb01.trans (hb2.mono hb01.size)
    clear hb2 hb01
    go_wp2_with fail
    refine (fault_any _ _ _ _ _ ha).mono ?_
    generalize pf xs = f at *
    rintro e w3 ⟨rfl, hb3⟩
    replace hp := hp.below hb3
    have hb03 := hb02.trans (hb3.mono hb02.size)
    clear hb3 hb02 ha
    go_wp2_with fail
    refine (lpermuted_any _).mono ?_
    rintro e w5 ⟨rfl, hb5⟩
    replace hp := hp.below hb5
    have hb05 := hb03.trans (hb5.mono hb03.size)
    clear hb5 hb03
    by_cases h1 : n < 0 ∨ 9 < n
    · have HE : Hid (unErr n r = 1) := by unfold unErr; rw [if_pos h1]; exact rfl
      have HL : Hid (unList n r = []) := by unfold unList; rw [HE.out, if_neg (by decide)]; exact rfl
      rw [HE.out]
      have hm : m = 0 := by
        have := hp.len
        rw [HL.out] at this
        exact this.symm
      subst hm
      clear hp
      rcases h1 with h1 | h1
      all_goals
        go_wp2
        go_ret
        exact ⟨rfl, hb05⟩
    · obtain ⟨k, rfl⟩ : ∃ k : Nat, n = (k : Int) := ⟨n.toNat, by omega⟩
      have hk9 : k ≤ 9 := by omega
      have hk0 : ¬ (k : Int) < 0 := by omega
      have hk1 : ¬ 9 < (k : Int) := by omega
      have HERR : Hid (unErr (k : Int) r = if r < 0 ∨ (fct k : Int) ≤ r then 4 else 0) := by unfold unErr; rw [if_neg (by omega)]; exact rfl
      generalize hE : unErr (k : Int) r = E at *
      have HEE := hide hE
      clear hE h1
      go_wp2
      go_loop [13, 14] (fun fv i => ∃ j : Nat, 1 ≤ j ∧ (j ≤ k ∨ j = 1) ∧ i = .int .i64 ((j : Int) + 1) ∧ fv = .int .i64 (fct j : Nat)) (fun _ i => k + 1 - (intOf i).toNat)
      case atStart => exact ⟨1, by omega, .inr rfl, rfl, rfl⟩
      case round =>
        obtain ⟨j, hj1, hj, rfl, rfl⟩ := hrel
        have hj9 : j ≤ 9 := by omega
        have hfs := fct_small j (by omega)
        by_cases hlt : j + 1 ≤ k
        · have hfs2 := fct_small (j + 1) (by omega)
          have HFJ : Hid (((fct (j + 1) : Nat) : Int) = (fct j : Nat) * ((j : Int) + 1)) := by
            rw [fct, Nat.mul_comm]
            exact Int.natCast_mul _ _
          have hp0 : (0 : Int) ≤ (fct j : Nat) * ((j : Int) + 1) := by rw [← HFJ.out]; omega
          have hp1 : (fct j : Nat) * ((j : Int) + 1) ≤ 362880 := by rw [← HFJ.out]; omega
          clear hfs2 hp
          generalize fct j = fj at *
          go_wp2
          go_round
          case rel => exact ⟨j + 1, by omega, .inl hlt, by go_num, by rw [HFJ.out]⟩
          case measure => simp [intOf]; omega
        · have HFE : Hid (fct j = fct k) := by
            rcases hj with h | h
            · rw [show j = k from by omega]; exact rfl
            · subst h
              rcases (show k = 0 ∨ k = 1 by omega) with rfl | rfl <;> exact rfl
          rw [← HFE.out] at HERR
          by_cases h2 : r < 0 ∨ (fct j : Int) ≤ r
          · have hE4 : E = 4 := by rw [HERR.out, if_pos h2]
            subst hE4
            have HL : Hid (unList (k : Int) r = []) := by unfold unList; rw [HEE.out, if_neg (by decide)]; exact rfl
            have hm : m = 0 := by
              have := hp.len
              rw [HL.out] at this
              exact this.symm
            subst hm
            clear hp
            generalize fct j = fj at *
            rcases h2 with h2 | h2
            all_goals
              go_wp2
              go_ret
              exact ⟨rfl, hb05⟩
          · have hE0 : E = 0 := by rw [HERR.out, if_neg h2]
            subst hE0
            obtain ⟨q, rfl⟩ : ∃ q : Nat, r = (q : Int) := ⟨r.toNat, by omega⟩
            have hq : q < fct j := by omega
            have hq0 : ¬ (q : Int) < 0 := by omega
            have hq1 : ¬ ((fct j : Nat) : Int) ≤ (q : Int) := by omega
            have HL : Hid (unList (k : Int) (q : Int) = unr k (List.range k) q) := by unfold unList; rw [HEE.out, if_pos rfl]; exact rfl
            have HSP := hide (unr_spec k (us := List.range k) (r := q) (by simp) (range_sorted k) (by rw [← HFE.out]; exact hq))
            rw [HL.out] at hp
            generalize unr k (List.range k) q = l at *
            have HLP : Hid (isP l ∧ l.length = k) := isP_of_perm HSP.out.1
            have HLR : Hid (rankN l = q) := by rw [rankN_eq]; exact HSP.out.2
            have hmk : m = k := by
              have := hp.len
              rw [zs_length, HLP.out.2] at this
              exact this.symm
            subst hmk
            have HPF := hide (HLP.out.1.pf (by rw [HLP.out.2]; exact hk9))
            clear h2 hq
            generalize fct j = fj at *
            go_wp2_with fail
            refine (fault_any _ _ _ _ _ hp).mono ?_
            rw [HPF.out]
            rintro e w6 ⟨rfl, hb6⟩
            replace hp := hp.below hb6
            have hb06 := hb05.trans (hb6.mono hb05.size)
            clear hb6
            go_wp2_with fail
            refine (number_ok _ _ _ l _ hp HLP.out.1 (by rw [HLP.out.2]; exact hk9)).mono ?_
            rw [HLR.out]
            rintro e w7 ⟨rfl, hb7⟩
            have hb07 := hb06.trans (hb7.mono hb06.size)
            clear hb7
            go_wp2
            go_ret
            exact ⟨rfl, hb07⟩
end Go.Proofs.Ytpemnhalilefmaa
