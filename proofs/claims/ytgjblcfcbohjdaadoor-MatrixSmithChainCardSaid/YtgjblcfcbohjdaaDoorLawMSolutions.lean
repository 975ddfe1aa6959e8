/- timblaw1.MatrixSolutions, for a package intmatrix that answers as it should. -/
import Derived.Test.YtgjblcfcbohjdaaDoorLawMDets
import Derived.Test.YtgjblcfcbohjdaaDoorZeros
namespace Go.Proofs.YtgjblcfcbohjdaaDoor
set_option linter.unusedVariables false
set_option linter.unusedSimpArgs false
open Go.RowKit

theorem solV_nil (q : Int) (h : solE [] q = 0) : solV [] q = 1 := by
  unfold solV
  rw [if_pos h, show colsM [] = 0 from rfl]
  unfold solN
  rw [Nat.pow_zero]
  rfl

set_option maxRecDepth 100000 in
set_option maxHeartbeats 4000000 in
theorem matrixSolutions_any (F : MatC) (A : Option Addr) (n c : Nat) (xss : List (List Int)) (q : Int) (w : World) (ha : SLL w A n c xss) (hT : TabW w) (hwf : (Lit.int .i64 q).wf = true) :
    Calls Tryd.prog 5 #[.slice A n c, .int .i64 q] w fun e w' => e = .returned (.bool true) ∧ Below w.heap.size w w' := by
  have HF := hide F
  have HTW := hide hT
  clear hT
  have HA := hide ha
  have HWF := hide hwf
  have hln := ha.len
  have hns := ha.small
  clear F ha
  by_cases hx : solE xss q = 0
  · have hf : mfault xss = 0 := by
      by_cases h : mfault xss = 0
      · exact h
      · unfold solE at hx; rw [if_neg h] at hx; exact absurd hx h
    have hqq : ¬ (q < 1 ∨ 13 < q) := by
      intro h
      unfold solE at hx
      rw [if_pos hf, if_pos h] at hx
      exact absurd hx (by decide)
    obtain ⟨k, rfl⟩ : ∃ k : Nat, q = k := ⟨q.toNat, by omega⟩
    have hk0 : 0 < k := by omega
    have hk1 : k ≤ 13 := by omega
    have hd1 : decide ((k : Int) < 1) = false := decide_eq_false (by omega)
    have hd2 : decide ((13 : Int) < (k : Int)) = false := decide_eq_false (by omega)
    have HFZ := hide hf
    have HEX := hide hx
    have HV : Hid (solV xss k = (solN xss (colsM xss) k : Nat)) := hide (by unfold solV; rw [if_pos hx]; rfl)
    clear hx hf hwf
    go_enter Tryd.func5, Tryd.ntmps5
    go_wp2_with fail
    refine (matFault_any A n c xss _ HA.out.ill).mono ?_
    rintro e w3 ⟨rfl, rfl⟩
    rw [HFZ.out]
    go_wp2_with fail
    refine (HF.out.solutions A n c xss k _ HA.out HTW.out HWF.out).mono ?_
    rintro e w1 ⟨rfl, hb⟩
    rw [HEX.out]
    have HW := hide hb
    replace HA := hide (HA.out.below hb)
    clear hb
    obtain ⟨V, hV⟩ : ∃ V, solV xss k = V := ⟨_, rfl⟩
    rw [hV] at HV ⊢
    have HVV := hide hV
    clear hV
    go_wp2_with fail
    refine (reckoned_any HF.out _ (HTW.out.below HW.out)).mono ?_
    rintro e w4 ⟨rfl, hb⟩
    replace HA := hide (HA.out.below hb)
    replace HW := hide (HW.out.trans (hb.mono HW.out.size))
    clear hb
    by_cases hn0 : n = 0
    · have hv1 : (V == 1) = true := by
        have hxs : xss = [] := List.eq_nil_of_length_eq_zero (by omega)
        have h := solV_nil k (by rw [← hxs]; exact HEX.out)
        rw [← hxs, HVV.out] at h
        simp [h]
      subst hn0
      go_wp2_with fail
      go_ret
      exact ⟨rfl, HW.out⟩
    · have hnz : ((n : Int) == 0) = false := by simp; omega
      obtain ⟨ad, B0, m0, d0, hAe, hrow0, hsl0⟩ := HA.out.at_ (show 0 < n by omega)
      subst hAe
      rw [show ad.add 0 = ad by unfold Addr.add; simp] at hrow0
      have hm0 : m0 = colsM xss := by rw [← hsl0.il.len]; rfl
      have hm6 : m0 ≤ 6 := by rw [hm0]; exact (mat_rows HFZ.out).2.1
      have HMC := hide hm0
      clear hm0 hsl0
      go_wp2_with fail
      go_loop [8, 47] (fun av iv => ∃ i : Nat, i ≤ m0 ∧ iv = .int .i64 i ∧ av = .int .i64 ((k ^ i : Nat) : Int)) (fun _ iv => m0 - (intOf iv).toNat)
      case atStart => exact ⟨0, Nat.zero_le _, rfl, rfl⟩
      case round =>
        obtain ⟨i, hi, rfl, rfl⟩ := hrel
        have hpb : k ^ i ≤ 4826809 := Nat.le_trans (Nat.pow_le_pow_left hk1 i) (Nat.le_trans (Nat.pow_le_pow_right (by omega) (show i ≤ 6 by omega)) (by decide))
        by_cases hlt : i < m0
        · have HP : Hid (((k ^ (i + 1) : Nat) : Int) = ((k ^ i : Nat) : Int) * (k : Int)) := hide (by rw [Nat.pow_succ]; push_cast; rfl)
          generalize k ^ i = P at *
          have hpk : P * k ≤ 4826809 * 13 := Nat.mul_le_mul hpb hk1
          have hwp : IntKind.i64.wrap ((P : Int) * (k : Int)) = (P : Int) * (k : Int) := by rw [show (P : Int) * (k : Int) = ((P * k : Nat) : Int) by push_cast; rfl, IntKind.wrap_i64]; omega
          clear hpk
          go_wp2_with fail
          go_round
          case rel => exact ⟨i + 1, by omega, by go_num, by rw [HP.out]⟩
          case measure => simp [intOf]; omega
        · generalize k ^ i = P at *
          by_cases hbig : (20000 : Int) < (P : Int)
          · have hd3 : decide ((20000 : Int) < (P : Int)) = true := decide_eq_true hbig
            go_wp2_with fail
            go_ret
            exact ⟨rfl, HW.out⟩
          · have hd3 : decide ((20000 : Int) < (P : Int)) = false := decide_eq_false hbig
            have hve : (V == ((solN xss m0 k : Nat) : Int)) = true := by rw [HV.out, HMC.out]; simp
            have HZ := hide (zeros_any (some ad) n c m0 k xss _ HA.out HFZ.out (by omega) HMC.out.symm hk0 hk1)
            go_wp2_with fail
            refine HZ.out.mono ?_
            rintro e w5 ⟨rfl, hb⟩
            replace HW := hide (HW.out.trans (hb.mono HW.out.size))
            clear hb HZ
            go_wp2_with fail
            go_ret
            exact ⟨rfl, HW.out⟩
  · have HV0 : Hid (solV xss q = 0) := hide (by unfold solV; rw [if_neg hx])
    obtain ⟨E, hE⟩ : ∃ E, solE xss q = E := ⟨_, rfl⟩
    rw [hE] at hx
    have HEE := hide hE
    by_cases hf : mfault xss = 0
    · have hqq : q < 1 ∨ 13 < q := by
        by_cases h : q < 1 ∨ 13 < q
        · exact h
        · unfold solE at hE; rw [if_pos hf, if_neg h] at hE; exact absurd hE.symm hx
      have hE1 : E = 1 := by rw [← hE]; unfold solE; rw [if_pos hf, if_pos hqq]
      subst hE1
      have HFZ := hide hf
      have hcase : decide (q < 1) = true ∨ (decide (q < 1) = false ∧ decide (13 < q) = true) := by
        by_cases h : q < 1
        · exact .inl (decide_eq_true h)
        · exact .inr ⟨decide_eq_false h, decide_eq_true (by omega)⟩
      clear hE hx hf hln hqq
      rcases hcase with hd1 | ⟨hd1, hd2⟩
      all_goals
        go_enter Tryd.func5, Tryd.ntmps5
        go_wp2_with fail
        refine (matFault_any A n c xss _ HA.out.ill).mono ?_
        rintro e w3 ⟨rfl, rfl⟩
        rw [HFZ.out]
        go_wp2_with fail
        refine (HF.out.solutions A n c xss q _ HA.out HTW.out HWF.out).mono ?_
        rintro e w1 ⟨rfl, hb⟩
        rw [HEE.out, HV0.out]
        have HW := hide hb
        clear hb
        go_wp2_with fail
        refine (reckoned_any HF.out _ (HTW.out.below HW.out)).mono ?_
        rintro e w4 ⟨rfl, hb⟩
        replace HW := hide (HW.out.trans (hb.mono HW.out.size))
        clear hb
        go_wp2_with fail
        go_ret
        exact ⟨rfl, HW.out⟩
    · have hE1 : mfault xss = E := by rw [← hE]; unfold solE; rw [if_neg hf]
      have HFZ := hide hE1
      have hb0 : (E == 0) = false := by simpa using hx
      clear hE hx hf hln hE1
      go_enter Tryd.func5, Tryd.ntmps5
      go_wp2_with fail
      refine (matFault_any A n c xss _ HA.out.ill).mono ?_
      rintro e w3 ⟨rfl, rfl⟩
      rw [HFZ.out]
      go_wp2_with fail
      refine (HF.out.solutions A n c xss q _ HA.out HTW.out HWF.out).mono ?_
      rintro e w1 ⟨rfl, hb⟩
      rw [HEE.out, HV0.out]
      have HW := hide hb
      clear hb
      have hee : (E == E) = true := by simp
      go_wp2_with fail
      refine (reckoned_any HF.out _ (HTW.out.below HW.out)).mono ?_
      rintro e w4 ⟨rfl, hb⟩
      replace HW := hide (HW.out.trans (hb.mono HW.out.size))
      clear hb
      go_wp2_with fail
      go_ret
      exact ⟨rfl, HW.out⟩
end Go.Proofs.YtgjblcfcbohjdaaDoor
