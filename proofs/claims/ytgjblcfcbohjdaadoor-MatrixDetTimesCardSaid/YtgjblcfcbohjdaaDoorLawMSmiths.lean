/- timblaw1.MatrixSmiths, for a package intmatrix that answers as it should. -/
import Derived.Test.YtgjblcfcbohjdaaDoorLawMDets
import Derived.Test.YtgjblcfcbohjdaaDoorFacRef2
namespace Go.Proofs.YtgjblcfcbohjdaaDoor
set_option linter.unusedVariables false
set_option linter.unusedSimpArgs false
open Go.RowKit

theorem cnt_take {xs : List Int} {k : Nat} (hk : k < xs.length) : (xs.take (k + 1)).countP (fun x => !(x == 0)) = (xs.take k).countP (fun x => !(x == 0)) + if xs.getD k 0 == 0 then 0 else 1 := by
  rw [List.take_succ_eq_append_getElem hk, List.countP_append]
  congr 1
  simp [List.getD, List.getElem?_eq_getElem hk, List.countP_cons]

set_option maxRecDepth 100000 in
set_option maxHeartbeats 4000000 in
theorem matrixSmiths_any (F : MatC) (A : Option Addr) (n c : Nat) (xss : List (List Int)) (w : World) (ha : SLL w A n c xss) (hT : TabW w) :
    Calls Tryd.prog 4 #[.slice A n c] w fun e w' => e = .returned (.bool true) ∧ Below w.heap.size w w' := by
  have HF := hide F
  have HTW := hide hT
  clear hT
  have HA := hide ha
  have HRK : Hid (rankV xss = ((smithL xss).countP fun x => !(x == 0) : Nat)) := rfl
  clear F ha
  go_enter Tryd.func4, Tryd.ntmps4
  go_wp2_with fail
  refine (HF.out.smith A n c xss _ HA.out HTW.out).mono ?_
  rintro e w1 ⟨Lp, ln, lc, rfl, hs, hb⟩
  have HL := hide hs
  have HW := hide hb
  replace HA := hide (HA.out.below hb)
  clear hs hb
  go_wp2_with fail
  refine (HF.out.rank A n c xss _ HA.out (HTW.out.below HW.out)).mono ?_
  rintro e w2 ⟨rfl, hb⟩
  replace HA := hide (HA.out.below hb)
  replace HL := hide (HL.out.below hb)
  replace HW := hide (HW.out.trans (hb.mono HW.out.size))
  clear hb
  go_wp2_with fail
  refine (matFault_any A n c xss _ HA.out.ill).mono ?_
  rintro e w3 ⟨rfl, rfl⟩
  by_cases hf : mfault xss = 0
  · have HFZ := hide hf
    rw [hf]
    clear hf
    go_wp2_with fail
    refine (factors_any A n c xss _ HA.out HFZ.out).mono ?_
    rintro e w3 ⟨Wp, wn, wc, rfl, hs, hb⟩
    have HWT := hide hs
    have hwl := hs.il.len
    have HWL := hide hwl
    have hws := hs.il.small
    replace HL := hide (HL.out.below hb)
    replace HW := hide (HW.out.trans (hb.mono HW.out.size))
    clear hs hb hwl HA
    obtain ⟨xs, hxs⟩ : ∃ xs, smithL xss = xs := ⟨_, rfl⟩
    rw [hxs] at HWT HL HRK HWL
    clear hxs
    obtain ⟨rk, hrk⟩ : ∃ rk, rankV xss = rk := ⟨_, rfl⟩
    rw [hrk] at HRK ⊢
    clear hrk
    go_wp2_with fail
    go_loop [9, 30] (fun sv iv => ∃ k : Nat, k ≤ wn ∧ iv = .int .i64 k ∧ sv = .int .i64 (((xs.take k).countP fun x => !(x == 0) : Nat) : Int)) (fun _ iv => wn - (intOf iv).toNat)
    case atStart => exact ⟨0, Nat.zero_le _, rfl, rfl⟩
    case round =>
      obtain ⟨k, hk, rfl, rfl⟩ := hrel
      have hle : (xs.take k).countP (fun x => !(x == 0)) ≤ k := Nat.le_trans List.countP_le_length (List.length_take_le _ _)
      by_cases hlt : k < wn
      · obtain ⟨ad, rfl, hcl⟩ := HWT.out.il.at_ hlt
        have HT := hide (cnt_take (xs := xs) (k := k) (by rw [HWL.out]; exact hlt))
        generalize (xs.take k).countP (fun x => !(x == 0)) = s at *
        obtain ⟨x, hx⟩ : ∃ x, xs.getD k 0 = x := ⟨_, rfl⟩
        rw [hx] at hcl HT
        clear hx
        by_cases hz : x = 0
        · have HT2 : Hid ((xs.take (k + 1)).countP (fun x => !(x == 0)) = s) := hide (by rw [HT.out, hz]; rfl)
          have hb0 : (x != 0) = false := by simp [hz]
          clear hz HT
          go_wp2_with fail
          go_round
          case rel => exact ⟨k + 1, by omega, by go_num, by rw [HT2.out]⟩
          case measure => simp [intOf]; omega
        · have HT2 : Hid ((xs.take (k + 1)).countP (fun x => !(x == 0)) = s + 1) := hide (by rw [HT.out, if_neg (by simpa using hz)])
          have hb0 : (x != 0) = true := by simpa using hz
          clear hz HT
          go_wp2_with fail
          go_round
          case rel => exact ⟨k + 1, by omega, by go_num, by rw [HT2.out]; go_num⟩
          case measure => simp [intOf]; omega
      · have HE : Hid ((((xs.take k).countP fun x => !(x == 0) : Nat) : Int) = rk) := hide (by rw [List.take_of_length_le (by rw [HWL.out]; omega)]; exact HRK.out.symm)
        rw [HE.out]
        clear HE hle
        go_wp2_with fail
        refine (reckoned_any HF.out _ (HTW.out.below HW.out)).mono ?_
        rintro e w4 ⟨rfl, hb⟩
        replace HL := hide (HL.out.below hb)
        replace HWT := hide (HWT.out.below hb)
        replace HW := hide (HW.out.trans (hb.mono HW.out.size))
        clear hb
        have hrr : (rk == rk) = true := by simp
        go_wp2_with fail
        refine (equal_any Lp Wp ln wn lc wc _ _ _ HL.out.il HWT.out.il).mono ?_
        rintro e w5 ⟨rfl, hb⟩
        rw [eqB_true rfl]
        replace HW := hide (HW.out.trans (hb.mono HW.out.size))
        clear hb
        go_wp2_with fail
        go_ret
        exact ⟨by simp, HW.out⟩
  · have hsm : smithL xss = [] := by unfold smithL; rw [if_neg hf]
    have hrk : rankV xss = 0 := by rw [HRK.out, hsm]; rfl
    rw [hrk]
    rw [hsm] at HL
    obtain ⟨f, hfe⟩ : ∃ f, mfault xss = f := ⟨_, rfl⟩
    rw [hfe] at hf ⊢
    have hb0 : (f == 0) = false := by simpa using hf
    have hff : (f == f) = true := by simp
    have hl0 := HL.out.il.len
    simp at hl0
    subst hl0
    clear hf hfe hrk hsm HRK
    go_wp2_with fail
    refine wp_loop_rounds 1 ?_
    rw [rounds_succ]
    go_wp2_with fail
    refine (reckoned_any HF.out _ (HTW.out.below HW.out)).mono ?_
    rintro e w4 ⟨rfl, hb⟩
    replace HL := hide (HL.out.below hb)
    replace HW := hide (HW.out.trans (hb.mono HW.out.size))
    clear hb
    go_wp2_with fail
    refine (equal_any Lp none 0 0 lc 0 [] [] _ HL.out.il (IL.nil_ _)).mono ?_
    rintro e w5 ⟨rfl, hb⟩
    rw [eqB_true rfl]
    replace HW := hide (HW.out.trans (hb.mono HW.out.size))
    clear hb
    go_wp2_with fail
    go_ret
    exact ⟨by simp, HW.out⟩
end Go.Proofs.YtgjblcfcbohjdaaDoor
