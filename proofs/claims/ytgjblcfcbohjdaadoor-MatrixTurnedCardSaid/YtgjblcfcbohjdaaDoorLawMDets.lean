/- timblaw1.MatrixDets, for a package intmatrix that answers as it should. -/
import Derived.Test.YtgjblcfcbohjdaaDoorMRec
namespace Go.Proofs.YtgjblcfcbohjdaaDoor
set_option linter.unusedVariables false
set_option linter.unusedSimpArgs false
open Go.RowKit

theorem determinant_sq (A : Option Addr) (n c : Nat) (xss : List (List Int)) (w : World) (hm : SLL w A n c xss) (hf : mfault xss = 0) (hsq : 0 < n → colsM xss = n) :
    Calls Tryd.prog 14 #[.slice A n c] w fun e w' => e = .returned (.int .i64 (detR n (matF xss))) ∧ Below w.heap.size w w' := by
  obtain ⟨h1, h2, h3, h4⟩ := mat_rows hf
  have hl := hm.len
  exact determinant_any A n c xss w hm (fun i hi => by rw [h3 i (by omega), hsq (by omega)]) (fun i _ j _ => h4 i j) (by omega)

set_option maxRecDepth 100000 in
set_option maxHeartbeats 4000000 in
theorem matrixDets_any (F : MatC) (A : Option Addr) (n c : Nat) (xss : List (List Int)) (w : World) (ha : SLL w A n c xss) (hT : TabW w) :
    Calls Tryd.prog 3 #[.slice A n c] w fun e w' => e = .returned (.bool true) ∧ Below w.heap.size w w' := by
  have HF := hide F
  have HTW := hide hT
  clear hT
  have HA := hide ha
  have hl := ha.len
  have HL := hide hl
  have HDE : Hid (detE xss = if mfault xss = 0 then (if 0 < xss.length ∧ colsM xss ≠ xss.length then 3 else 0) else mfault xss) := rfl
  have HDV : Hid (detV xss = if detE xss = 0 then detR xss.length (matF xss) else 0) := rfl
  have hsm := ha.small
  clear F ha hl
  go_enter Tryd.func3, Tryd.ntmps3
  go_wp2_with fail
  refine (HF.out.det A n c xss _ HA.out HTW.out).mono ?_
  rintro e w1 ⟨rfl, hb1⟩
  have HA1 := hide (HA.out.below hb1)
  have HB1 := hide hb1
  clear hb1 HA
  go_wp2_with fail
  refine (matFault_any A n c xss _ HA1.out.ill).mono ?_
  rintro e w2 ⟨rfl, rfl⟩
  go_wp2_with fail
  refine (reckoned_any HF.out _ (HTW.out.below HB1.out)).mono ?_
  rintro e w2 ⟨rfl, hb2⟩
  have HA2 := hide (HA1.out.below hb2)
  have HB2 := hide (HB1.out.trans (hb2.mono HB1.out.size))
  clear hb2 HA1 HB1
  have HCK := hide (HF.out.check A n c xss w2 HA2.out)
  by_cases hf : mfault xss = 0
  · have HFZ := hide hf
    rw [hf] at HCK ⊢
    by_cases hn : n = 0
    · subst hn
      have HE0 : Hid (detE xss = 0) := hide (by rw [HDE.out, if_pos hf, if_neg (by rw [HL.out]; omega)])
      have HV0 : Hid (detV xss = detR 0 (matF xss)) := hide (by rw [HDV.out, if_pos HE0.out, HL.out])
      rw [HE0.out, HV0.out]
      clear hf HDE HDV
      go_wp2_with fail
      refine HCK.out.mono ?_
      rintro e w3 ⟨rfl, hb3⟩
      have HA3 := hide (HA2.out.below hb3)
      have HB3 := hide (HB2.out.trans (hb3.mono HB2.out.size))
      clear hb3 HA2 HB2 HCK
      go_wp2_with fail
      refine (determinant_sq A 0 c xss _ HA3.out HFZ.out (fun h => absurd h (by omega))).mono ?_
      rintro e w4 ⟨rfl, hb4⟩
      have HB4 := hide (HB3.out.trans (hb4.mono HB3.out.size))
      clear hb4 HA3 HB3
      generalize detR 0 (matF xss) = d at *
      go_wp2_with fail
      go_ret
      exact ⟨by simp, HB4.out⟩
    · obtain ⟨ad, B, m, d, rfl, hcl, hsl⟩ := HA2.out.at_ (k := 0) (by omega)
      rw [show ad.add 0 = ad by unfold Addr.add; simp] at hcl
      have hmc : colsM xss = m := hsl.il.len
      have hms := hsl.il.small
      have hlt := World.block_lt_of_cell? w2 _ hcl
      clear hsl
      by_cases hmn : m = n
      · subst hmn
        have HE0 : Hid (detE xss = 0) := hide (by rw [HDE.out, if_pos hf, if_neg (by rw [HL.out, hmc]; omega)])
        have HV0 : Hid (detV xss = detR m (matF xss)) := hide (by rw [HDV.out, if_pos HE0.out, HL.out])
        have HMC := hide hmc
        rw [HE0.out, HV0.out]
        have hne : ((m : Int) != (m : Int)) = false := by simp
        have hpos : decide ((0 : Int) < (m : Int)) = true := decide_eq_true (by omega)
        clear hf HDE HDV hmc
        go_wp2_with fail
        refine HCK.out.mono ?_
        rintro e w3 ⟨rfl, hb3⟩
        have HA3 := hide (HA2.out.below hb3)
        have hcl3 : w3.cell? ad = some (.slice B m d) := by rw [hb3.cell hlt]; exact hcl
        have HB3 := hide (HB2.out.trans (hb3.mono HB2.out.size))
        clear hb3 HA2 HB2 HCK hcl hlt
        go_wp2_with fail
        refine (determinant_sq _ m c xss _ HA3.out HFZ.out (fun h => HMC.out)).mono ?_
        rintro e w4 ⟨rfl, hb4⟩
        have HB4 := hide (HB3.out.trans (hb4.mono HB3.out.size))
        clear hb4 HA3 HB3
        generalize detR m (matF xss) = dd at *
        go_wp2_with fail
        go_ret
        exact ⟨by simp, HB4.out⟩
      · have HE0 : Hid (detE xss = 3) := hide (by rw [HDE.out, if_pos hf, if_pos (by rw [HL.out, hmc]; omega)])
        have HV0 : Hid (detV xss = 0) := hide (by rw [HDV.out, HE0.out]; exact if_neg (by decide))
        rw [HE0.out, HV0.out]
        have hne : ((m : Int) != (n : Int)) = true := by simp; omega
        have hpos : decide ((0 : Int) < (n : Int)) = true := decide_eq_true (by omega)
        clear hf HDE HDV hmc hmn
        go_wp2_with fail
        refine HCK.out.mono ?_
        rintro e w3 ⟨rfl, hb3⟩
        have hcl3 : w3.cell? ad = some (.slice B m d) := by rw [hb3.cell hlt]; exact hcl
        have HB3 := hide (HB2.out.trans (hb3.mono HB2.out.size))
        clear hb3 HA2 HB2 HCK hcl hlt
        go_wp2_with fail
        go_ret
        exact ⟨by simp, HB3.out⟩
  · have HE0 : Hid (detE xss = mfault xss) := hide (by rw [HDE.out, if_neg hf])
    have HV0 : Hid (detV xss = 0) := hide (by rw [HDV.out, HE0.out, if_neg hf])
    rw [HE0.out, HV0.out]
    obtain ⟨f, hfe⟩ : ∃ f, mfault xss = f := ⟨_, rfl⟩
    rw [hfe] at HCK hf ⊢
    have hb0 : (f == 0) = false := by simpa using hf
    have hff : (f != f) = false := by simp
    have hff2 : (f == f) = true := by simp
    clear hf HDE HDV HE0 HV0 hfe
    go_wp2_with fail
    refine HCK.out.mono ?_
    rintro e w3 ⟨rfl, hb3⟩
    have HB3 := hide (HB2.out.trans (hb3.mono HB2.out.size))
    clear hb3 HA2 HB2 HCK
    go_wp2_with fail
    go_ret
    exact ⟨by simp, HB3.out⟩
end Go.Proofs.YtgjblcfcbohjdaaDoor
