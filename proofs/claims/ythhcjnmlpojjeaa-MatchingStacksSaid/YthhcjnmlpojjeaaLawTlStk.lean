/- timbkeep1.MatchingStacks, for a package temperleylieb that answers as it should. (Written by tools/gen_tlstk.py.) -/
import Derived.Test.YthhcjnmlpojjeaaTlZ
import Derived.Test.YthhcjnmlpojjeaaBase1
import Derived.Test.YthhcjnmlpojjeaaStr
namespace Go.Proofs.Ythhcjnmlpojjeaa
set_option linter.unusedVariables false
set_option linter.unusedSimpArgs false
open Go.RowKit

theorem cir_le (n : Nat) (d : List Nat) : Tl.cir n d ≤ 2 * n := by
  unfold Tl.cir Tl.cnt
  refine Nat.le_trans List.countP_le_length ?_
  rw [List.length_range, Tl.joins_length, List.length_range]
  exact Nat.le_refl _
set_option maxRecDepth 100000 in
set_option maxHeartbeats 8000000 in
theorem matchingStacks_any (F : TlC) (m : Int) (A : Option Addr) (n c : Nat) (xs : List Int) (B : Option Addr) (k d : Nat) (ys : List Int) (C : Option Addr) (l e0 : Nat) (vs : List Int) (w : World) (ha : SL w A n c xs) (hb : SL w B k d ys) (hc : SL w C l e0 vs) :
    Calls Try.prog 7 #[.int .i64 m, .slice A n c, .slice B k d, .slice C l e0] w fun e w' => e = .returned (.bool true) ∧ Below w.heap.size w w' := by
  have HF := hide F
  have HA := hide ha
  have HB := hide hb
  have HC := hide hc
  have HW := hide (Below.refl w.heap.size w)
  clear F ha hb hc
  have hnt := Bool.not_true
  go_enter Try.func7, Try.ntmps7
  go_wp2_with fail
  refine (strands_gen m 5 6 (by decide) (by omega) (by omega) _).mono ?_
  rintro e w1 ⟨T, hT1, hT5, rfl, hww⟩
  subst hww
  obtain ⟨N, hN⟩ : ∃ N, T + 1 = N := ⟨_, rfl⟩
  have hNi : (T : Int) + 1 = (N : Int) := by omega
  rw [hNi]
  have n2 : 2 ≤ N := by omega
  have n1 : 1 ≤ N := by omega
  have n6 : N ≤ 6 := by omega
  clear hNi hN
  have HCK : Hid (∀ (w : World) (D : Option Addr) (dn dc : Nat) (x : List Nat), x ∈ Tl.plan N → SL w D dn dc (zs x) → Calls Try.prog 12 #[.int .i64 (N : Int), .slice D dn dc] w fun e w' => e = .returned (.int .i64 0) ∧ Below w.heap.size w w') := hide (fun w D dn dc x hx h => by
    have := HF.out.check (N : Int) D dn dc _ w h (wf_nat (by omega))
    rwa [plan_fault n1 n6 hx] at this)
  have HPR : Hid (∀ (w : World) (D : Option Addr) (dn dc : Nat) (x : List Nat) (E : Option Addr) (en ec : Nat) (y : List Nat), Tl.IsW N x → Tl.IsW N y → SL w D dn dc (zs x) → SL w E en ec (zs y) → Calls Try.prog 17 #[.int .i64 (N : Int), .slice D dn dc, .slice E en ec] w (GivesTLK w 0 ((Tl.mul N x y).2 : Nat) (zs (Tl.mul N x y).1))) := hide (fun w D dn dc x E en ec y hx hy h1 h2 => by
    have hP := HF.out.product (N : Int) D dn dc _ E en ec _ w h1 h2 (wf_nat (by omega))
    obtain ⟨e2, e3⟩ := prL_ok n1 n6 (hx.plan n1 n6) (hy.plan n1 n6)
    rw [prE_ok n1 n6 (hx.plan n1 n6) (hy.plan n1 n6), e2, e3] at hP
    exact hP)
  have HCL : Hid (∀ (w : World) (D : Option Addr) (dn dc : Nat) (x : List Nat), Tl.IsW N x → SL w D dn dc (zs x) → Calls Try.prog 18 #[.int .i64 (N : Int), .slice D dn dc] w fun e w' => e = .returned (.tuple #[.int .i64 (Tl.cir N x : Nat), .int .i64 0]) ∧ Below w.heap.size w w') := hide (fun w D dn dc x hx h => by
    have := HF.out.closure (N : Int) D dn dc _ w h (wf_nat (by omega))
    rwa [plan_fault n1 n6 (hx.plan n1 n6), clK_ok n1 n6 (hx.plan n1 n6)] at this)
  go_wp2_with fail
  refine (generators_any N A n c 8 _ _ HA.out.il HA.out.cap n2 (by omega) (by omega)).mono ?_
  rintro e w1 ⟨ksX, GX, gnX, gcX, rfl, hs, hks, hg8, hb⟩
  replace HA := hide (HA.out.below hb)
  replace HB := hide (HB.out.below hb)
  replace HC := hide (HC.out.below hb)
  replace HW := hide (HW.out.trans (hb.mono HW.out.size))
  have HGX := hide hs
  have HKSX := hide hks
  clear hs hks
  clear hb
  go_wp2_with fail
  refine (stacked_any HF.out N GX gnX gcX ksX _ HGX.out HKSX.out n1 n6 (by omega)).mono ?_
  rintro e w2 ⟨DX, dnX, dcX, rfl, hs, hb⟩
  replace HA := hide (HA.out.below hb)
  replace HB := hide (HB.out.below hb)
  replace HC := hide (HC.out.below hb)
  replace HW := hide (HW.out.trans (hb.mono HW.out.size))
  replace HGX := hide (HGX.out.below hb)
  have HSX := hide hs
  have HIX := hide (stkd_isW HKSX.out)
  generalize (stkd N ksX).1 = x at *
  generalize (stkd N ksX).2 = loX at *
  clear hs hg8
  clear hb
  clear HGX
  go_wp2_with fail
  refine (generators_any N B k d 8 _ _ HB.out.il HB.out.cap n2 (by omega) (by omega)).mono ?_
  rintro e w3 ⟨ksY, GY, gnY, gcY, rfl, hs, hks, hg8, hb⟩
  replace HA := hide (HA.out.below hb)
  replace HB := hide (HB.out.below hb)
  replace HC := hide (HC.out.below hb)
  replace HW := hide (HW.out.trans (hb.mono HW.out.size))
  replace HSX := hide (HSX.out.below hb)
  have HGY := hide hs
  have HKSY := hide hks
  clear hs hks
  clear hb
  go_wp2_with fail
  refine (stacked_any HF.out N GY gnY gcY ksY _ HGY.out HKSY.out n1 n6 (by omega)).mono ?_
  rintro e w4 ⟨DY, dnY, dcY, rfl, hs, hb⟩
  replace HA := hide (HA.out.below hb)
  replace HB := hide (HB.out.below hb)
  replace HC := hide (HC.out.below hb)
  replace HW := hide (HW.out.trans (hb.mono HW.out.size))
  replace HSX := hide (HSX.out.below hb)
  replace HGY := hide (HGY.out.below hb)
  have HSY := hide hs
  have HIY := hide (stkd_isW HKSY.out)
  generalize (stkd N ksY).1 = y at *
  generalize (stkd N ksY).2 = loY at *
  clear hs hg8
  clear hb
  clear HGY
  go_wp2_with fail
  refine (generators_any N C l e0 8 _ _ HC.out.il HC.out.cap n2 (by omega) (by omega)).mono ?_
  rintro e w5 ⟨ksZ, GZ, gnZ, gcZ, rfl, hs, hks, hg8, hb⟩
  replace HA := hide (HA.out.below hb)
  replace HB := hide (HB.out.below hb)
  replace HC := hide (HC.out.below hb)
  replace HW := hide (HW.out.trans (hb.mono HW.out.size))
  replace HSX := hide (HSX.out.below hb)
  replace HSY := hide (HSY.out.below hb)
  have HGZ := hide hs
  have HKSZ := hide hks
  clear hs hks
  clear hb
  go_wp2_with fail
  refine (stacked_any HF.out N GZ gnZ gcZ ksZ _ HGZ.out HKSZ.out n1 n6 (by omega)).mono ?_
  rintro e w6 ⟨DZ, dnZ, dcZ, rfl, hs, hb⟩
  replace HA := hide (HA.out.below hb)
  replace HB := hide (HB.out.below hb)
  replace HC := hide (HC.out.below hb)
  replace HW := hide (HW.out.trans (hb.mono HW.out.size))
  replace HSX := hide (HSX.out.below hb)
  replace HSY := hide (HSY.out.below hb)
  replace HGZ := hide (HGZ.out.below hb)
  have HSZ := hide hs
  have HIZ := hide (stkd_isW HKSZ.out)
  generalize (stkd N ksZ).1 = z at *
  generalize (stkd N ksZ).2 = loZ at *
  clear hs hg8
  clear hb
  clear HGZ
  obtain ⟨as1, as2⟩ := Tl.mul_assoc n1 n6 (HIX.out.plan n1 n6) HIY.out HIZ.out
  have tr := Tl.trc_comm n1 n6 HIY.out HIX.out
  unfold Tl.trc at tr
  have HIXY := hide (HIX.out.mul n1 n6 HIY.out)
  have HIYZ := hide (HIY.out.mul n1 n6 HIZ.out)
  have HIYX := hide (HIY.out.mul n1 n6 HIX.out)
  have HIL := hide (HIXY.out.mul n1 n6 HIZ.out)
  have b1 := mul_le N x y
  have b2 := mul_le N (Tl.mul N x y).1 z
  have b3 := mul_le N y z
  have b4 := mul_le N x (Tl.mul N y z).1
  have b5 := mul_le N y x
  have b6 := cir_le N (Tl.mul N x y).1
  have b7 := cir_le N (Tl.mul N y x).1
  have P1 := hide (fun w h1 h2 => HPR.out w DX dnX dcX x DY dnY dcY y HIX.out HIY.out h1 h2)
  have P2 := hide (fun (w : World) (E : Option Addr) (en ec : Nat) h1 h2 => HPR.out w E en ec _ DZ dnZ dcZ z HIXY.out HIZ.out h1 h2)
  have P3 := hide (fun w h1 h2 => HPR.out w DY dnY dcY y DZ dnZ dcZ z HIY.out HIZ.out h1 h2)
  have P4 := hide (fun (w : World) (E : Option Addr) (en ec : Nat) h1 h2 => HPR.out w DX dnX dcX x E en ec _ HIX.out HIYZ.out h1 h2)
  have P5 := hide (fun w h1 h2 => HPR.out w DY dnY dcY y DX dnX dcX x HIY.out HIX.out h1 h2)
  have P6 := hide (fun (w : World) (E : Option Addr) (en ec : Nat) h => HCL.out w E en ec _ HIXY.out h)
  have P7 := hide (fun (w : World) (E : Option Addr) (en ec : Nat) h => HCL.out w E en ec _ HIYX.out h)
  have P8 := hide (fun (w : World) (E : Option Addr) (en ec : Nat) h => HCK.out w E en ec _ (HIL.out.plan n1 n6) h)
  rw [as1] at P2 P8
  generalize (Tl.mul N (Tl.mul N x y).1 z).2 = j2 at *
  generalize (Tl.mul N x (Tl.mul N y z).1).2 = j4 at *
  generalize (Tl.mul N x (Tl.mul N y z).1).1 = u at *
  generalize Tl.cir N (Tl.mul N x y).1 = c6 at *
  generalize Tl.cir N (Tl.mul N y x).1 = c7 at *
  generalize (Tl.mul N x y).2 = j1 at *
  generalize (Tl.mul N y z).2 = j3 at *
  generalize (Tl.mul N y x).2 = j5 at *
  generalize (Tl.mul N x y).1 = xy at *
  generalize (Tl.mul N y z).1 = yz at *
  generalize (Tl.mul N y x).1 = yx at *
  obtain ⟨r1, hr1⟩ : ∃ r, j1 + j2 = r := ⟨_, rfl⟩
  obtain ⟨r2, hr2⟩ : ∃ r, c6 + j1 = r := ⟨_, rfl⟩
  have v1 : IntKind.i64.wrap ((j1 : Int) + (j2 : Int)) = (r1 : Int) := by rw [IntKind.wrap_i64]; omega
  have v2 : IntKind.i64.wrap ((j3 : Int) + (j4 : Int)) = (r1 : Int) := by rw [IntKind.wrap_i64]; omega
  have v3 : IntKind.i64.wrap ((c6 : Int) + (j1 : Int)) = (r2 : Int) := by rw [IntKind.wrap_i64]; omega
  have v4 : IntKind.i64.wrap ((c7 : Int) + (j5 : Int)) = (r2 : Int) := by rw [IntKind.wrap_i64]; omega
  have e1 : ((r1 : Int) == (r1 : Int)) = true := by simp
  have e2 : ((r2 : Int) == (r2 : Int)) = true := by simp
  clear as1 as2 tr b1 b2 b3 b4 b5 b6 b7 hr1 hr2 HIX HIY HIZ HIXY HIYZ HIYX HIL HKSX HKSY HKSZ HCK HPR HCL
  go_wp2_with fail
  refine (P1.out _ HSX.out HSY.out).mono ?_
  rintro e w7 ⟨E1, en1, ec1, rfl, hs, hb⟩
  replace HA := hide (HA.out.below hb)
  replace HB := hide (HB.out.below hb)
  replace HC := hide (HC.out.below hb)
  replace HW := hide (HW.out.trans (hb.mono HW.out.size))
  replace HSX := hide (HSX.out.below hb)
  replace HSY := hide (HSY.out.below hb)
  replace HSZ := hide (HSZ.out.below hb)
  have HR1 := hide hs
  clear hs
  clear hb
  go_wp2_with fail
  refine (P2.out _ E1 en1 ec1 HR1.out HSZ.out).mono ?_
  rintro e w8 ⟨E2, en2, ec2, rfl, hs, hb⟩
  replace HA := hide (HA.out.below hb)
  replace HB := hide (HB.out.below hb)
  replace HC := hide (HC.out.below hb)
  replace HW := hide (HW.out.trans (hb.mono HW.out.size))
  replace HSX := hide (HSX.out.below hb)
  replace HSY := hide (HSY.out.below hb)
  replace HSZ := hide (HSZ.out.below hb)
  replace HR1 := hide (HR1.out.below hb)
  have HR2 := hide hs
  clear hs
  clear hb
  go_wp2_with fail
  refine (P3.out _ HSY.out HSZ.out).mono ?_
  rintro e w9 ⟨E3, en3, ec3, rfl, hs, hb⟩
  replace HA := hide (HA.out.below hb)
  replace HB := hide (HB.out.below hb)
  replace HC := hide (HC.out.below hb)
  replace HW := hide (HW.out.trans (hb.mono HW.out.size))
  replace HSX := hide (HSX.out.below hb)
  replace HSY := hide (HSY.out.below hb)
  replace HSZ := hide (HSZ.out.below hb)
  replace HR1 := hide (HR1.out.below hb)
  replace HR2 := hide (HR2.out.below hb)
  have HR3 := hide hs
  clear hs
  clear hb
  go_wp2_with fail
  refine (P4.out _ E3 en3 ec3 HSX.out HR3.out).mono ?_
  rintro e w10 ⟨E4, en4, ec4, rfl, hs, hb⟩
  replace HA := hide (HA.out.below hb)
  replace HB := hide (HB.out.below hb)
  replace HC := hide (HC.out.below hb)
  replace HW := hide (HW.out.trans (hb.mono HW.out.size))
  replace HSX := hide (HSX.out.below hb)
  replace HSY := hide (HSY.out.below hb)
  replace HSZ := hide (HSZ.out.below hb)
  replace HR1 := hide (HR1.out.below hb)
  replace HR2 := hide (HR2.out.below hb)
  replace HR3 := hide (HR3.out.below hb)
  have HR4 := hide hs
  clear hs
  clear hb
  go_wp2_with fail
  refine (P5.out _ HSY.out HSX.out).mono ?_
  rintro e w11 ⟨E5, en5, ec5, rfl, hs, hb⟩
  replace HA := hide (HA.out.below hb)
  replace HB := hide (HB.out.below hb)
  replace HC := hide (HC.out.below hb)
  replace HW := hide (HW.out.trans (hb.mono HW.out.size))
  replace HSX := hide (HSX.out.below hb)
  replace HSY := hide (HSY.out.below hb)
  replace HSZ := hide (HSZ.out.below hb)
  replace HR1 := hide (HR1.out.below hb)
  replace HR2 := hide (HR2.out.below hb)
  replace HR3 := hide (HR3.out.below hb)
  replace HR4 := hide (HR4.out.below hb)
  have HR5 := hide hs
  clear hs
  clear hb
  go_wp2_with fail
  refine (P6.out _ E1 en1 ec1 HR1.out).mono ?_
  rintro e w12 ⟨rfl, hb⟩
  replace HA := hide (HA.out.below hb)
  replace HB := hide (HB.out.below hb)
  replace HC := hide (HC.out.below hb)
  replace HW := hide (HW.out.trans (hb.mono HW.out.size))
  replace HSX := hide (HSX.out.below hb)
  replace HSY := hide (HSY.out.below hb)
  replace HSZ := hide (HSZ.out.below hb)
  replace HR1 := hide (HR1.out.below hb)
  replace HR2 := hide (HR2.out.below hb)
  replace HR3 := hide (HR3.out.below hb)
  replace HR4 := hide (HR4.out.below hb)
  replace HR5 := hide (HR5.out.below hb)
  clear hb
  go_wp2_with fail
  refine (P7.out _ E5 en5 ec5 HR5.out).mono ?_
  rintro e w13 ⟨rfl, hb⟩
  replace HA := hide (HA.out.below hb)
  replace HB := hide (HB.out.below hb)
  replace HC := hide (HC.out.below hb)
  replace HW := hide (HW.out.trans (hb.mono HW.out.size))
  replace HSX := hide (HSX.out.below hb)
  replace HSY := hide (HSY.out.below hb)
  replace HSZ := hide (HSZ.out.below hb)
  replace HR1 := hide (HR1.out.below hb)
  replace HR2 := hide (HR2.out.below hb)
  replace HR3 := hide (HR3.out.below hb)
  replace HR4 := hide (HR4.out.below hb)
  replace HR5 := hide (HR5.out.below hb)
  clear hb
  go_wp2_with fail
  refine (matched_k HF.out _).mono ?_
  rintro e w14 ⟨rfl, hb⟩
  replace HA := hide (HA.out.below hb)
  replace HB := hide (HB.out.below hb)
  replace HC := hide (HC.out.below hb)
  replace HW := hide (HW.out.trans (hb.mono HW.out.size))
  replace HSX := hide (HSX.out.below hb)
  replace HSY := hide (HSY.out.below hb)
  replace HSZ := hide (HSZ.out.below hb)
  replace HR1 := hide (HR1.out.below hb)
  replace HR2 := hide (HR2.out.below hb)
  replace HR3 := hide (HR3.out.below hb)
  replace HR4 := hide (HR4.out.below hb)
  replace HR5 := hide (HR5.out.below hb)
  clear hb
  have hQ := equal_any E2 E4 en2 en4 ec2 ec4 _ _ w14 HR2.out.il HR4.out.il
  rw [eqB_true rfl] at hQ
  go_wp2_with fail
  refine (hQ).mono ?_
  rintro e w15 ⟨rfl, hb⟩
  replace HA := hide (HA.out.below hb)
  replace HB := hide (HB.out.below hb)
  replace HC := hide (HC.out.below hb)
  replace HW := hide (HW.out.trans (hb.mono HW.out.size))
  replace HSX := hide (HSX.out.below hb)
  replace HSY := hide (HSY.out.below hb)
  replace HSZ := hide (HSZ.out.below hb)
  replace HR1 := hide (HR1.out.below hb)
  replace HR2 := hide (HR2.out.below hb)
  replace HR3 := hide (HR3.out.below hb)
  replace HR4 := hide (HR4.out.below hb)
  replace HR5 := hide (HR5.out.below hb)
  clear hb hQ
  go_wp2_with fail
  refine (P8.out _ E2 en2 ec2 HR2.out).mono ?_
  rintro e w16 ⟨rfl, hb⟩
  replace HA := hide (HA.out.below hb)
  replace HB := hide (HB.out.below hb)
  replace HC := hide (HC.out.below hb)
  replace HW := hide (HW.out.trans (hb.mono HW.out.size))
  replace HSX := hide (HSX.out.below hb)
  replace HSY := hide (HSY.out.below hb)
  replace HSZ := hide (HSZ.out.below hb)
  replace HR1 := hide (HR1.out.below hb)
  replace HR2 := hide (HR2.out.below hb)
  replace HR3 := hide (HR3.out.below hb)
  replace HR4 := hide (HR4.out.below hb)
  replace HR5 := hide (HR5.out.below hb)
  clear hb
  go_wp2_with fail
  go_ret
  exact ⟨rfl, HW.out⟩
end Go.Proofs.Ythhcjnmlpojjeaa
