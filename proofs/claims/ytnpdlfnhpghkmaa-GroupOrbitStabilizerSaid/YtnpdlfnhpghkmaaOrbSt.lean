/- timbkeep1.GroupOrbitStabilizer. -/
import Derived.Test.YtnpdlfnhpghkmaaStab
import Derived.Test.YtnpdlfnhpghkmaaLagr
namespace Go.Proofs.Ytnpdlfnhpghkmaa
open Go.RowKit Go.Maps

/-- The points of the first i orbits. -/
def ptsTo (oss : List (List Nat)) (i : Nat) : Nat := (oss.take i).flatten.length
theorem ptsTo_zero (oss : List (List Nat)) : ptsTo oss 0 = 0 := by simp [ptsTo]
theorem ptsTo_succ {oss : List (List Nat)} {i : Nat} (h : i < oss.length) : ptsTo oss (i + 1) = ptsTo oss i + (oss.getD i []).length := by
  unfold ptsTo
  rw [List.take_succ_eq_append_getElem h, List.flatten_append, List.length_append]
  simp [List.getD, List.getElem?_eq_getElem h]
theorem ptsTo_le (oss : List (List Nat)) (i : Nat) : ptsTo oss i ≤ oss.flatten.length := by
  unfold ptsTo
  have := List.take_append_drop i oss
  have e : oss.flatten.length = (oss.take i).flatten.length + (oss.drop i).flatten.length := by
    rw [← List.length_append, ← List.flatten_append, this]
  omega
theorem ptsTo_all (oss : List (List Nat)) {i : Nat} (h : oss.length ≤ i) : ptsTo oss i = oss.flatten.length := by
  unfold ptsTo
  rw [List.take_of_length_le h]

set_option maxRecDepth 100000 in
set_option maxHeartbeats 4000000 in
theorem groupOrbitStabilizer_any (n : Int) (A : Option Addr) (l c : Nat) (xss : List (List Int)) (w : World) (hx : ILL w A l xss) (hc : l ≤ c) :
    Calls Try.prog 7 #[.int .i64 n, .slice A l c] w fun e w' => e = .returned (.bool true) ∧ Below w.heap.size w w' := by
  obtain ⟨m, hm, hnm⟩ := below_zero (n := n) (m := 8) (by omega)
  have HM : Hid (∀ w, Calls Try.prog 27 #[.int .i64 n, .int .i64 8] w fun e w' => e = .returned (.int .i64 m) ∧ w = w') := fun w => by
    have := mbelow_any n 8 w (by omega) (by omega)
    rw [hnm] at this
    exact this
  have HX := hide hx
  clear hnm hx
  go_enter Try.func7, Try.ntmps7
  go_wp2_with fail
  refine (HM.out _).mono ?_
  rintro e w0 ⟨rfl, rfl⟩
  go_wp2_with fail
  refine (perms_any A m l c xss 3 w HX.out hc (by omega) (by omega)).mono ?_
  rintro e w1 ⟨gl, B, q, d, rfl, hill, hqd, hq4, hP, hb1⟩
  have hgl : gl.length = q := by have := hill.len; simpa [zss] using this
  have HGL := hide hgl
  have HP := hide hP
  have HI := hide hill
  clear hill hP hgl
  go_wp2_with fail
  refine (gorder_ok B m q d gl w1 HI.out (by omega) (by rw [HGL.out]; omega) HP.out).mono ?_
  rintro e w2 ⟨xs, hxs, hx9, rfl, hb2⟩
  have HXS := hide hxs
  have HI2 := hide (HI.out.below hb2)
  have hb02 := hb1.trans (hb2.mono hb1.size)
  clear hxs hb1 hb2
  obtain ⟨a, ha⟩ : ∃ a, xs.length = a := ⟨_, rfl⟩
  rw [ha] at hx9 ⊢
  have HA := hide ha
  clear ha
  go_wp2_with fail
  refine (orbits_ok B m q d gl w2 HI2.out (by omega) (by rw [HGL.out]; omega) HP.out).mono ?_
  rintro e w3 ⟨oss, O, r, od, hot, rfl, hol, hrd, hb3⟩
  have hlr : oss.length = r := by have := hol.len; simpa [zss] using this
  have HLR := hide hlr
  have HOT := hide hot
  have HOL := hide hol
  have HI3 := hide (HI2.out.below hb3)
  have hb03 := hb02.trans (hb3.mono hb02.size)
  have hr1 := hol.small
  clear hot hol hb02 hb3 hlr
  go_wp2
  go_loopw [10, 36] (fun mv iv wr => ∃ i : Nat, i ≤ r ∧ iv = .int .i64 i ∧ mv = .int .i64 (ptsTo oss i : Nat) ∧ Below w3.heap.size w3 wr) (fun _ iv _ => r - (intOf iv).toNat)
  case atStart => exact ⟨0, Nat.zero_le _, rfl, by rw [ptsTo_zero]; exact rfl, Below.refl _ _⟩
  case round =>
    obtain ⟨i, hi, rfl, rfl, hnx⟩ := hrel
    by_cases hlt : i < r
    · have hio : i < oss.length := by rw [HLR.out]; exact hlt
      obtain ⟨ad, Q, p, pd, rfl, hcl, hil⟩ := (HOL.out.below hnx).at_ hlt
      rw [zss_getD hio] at hil
      have hmem : oss.getD i [] ∈ oss := getD_mem' hio
      obtain ⟨x, hxm, hisx⟩ := HOT.out.each _ hmem
      have hpl : (oss.getD i []).length = p := by have := hil.len; rwa [zs_length] at this
      have HSUC : Hid (ptsTo oss (i + 1) = ptsTo oss i + p) := by rw [← hpl]; exact ptsTo_succ hio
      have HPL := hide hpl
      have htot := ptsTo_le oss (i + 1)
      rw [HOT.out.total HP.out, HSUC.out] at htot
      obtain ⟨os, hos⟩ : ∃ os, oss.getD i [] = os := ⟨_, rfl⟩
      have HPL2 : Hid (os.length = p) := by rw [← hos]; exact hpl
      rw [hos] at hil hisx
      have HISX := hide hisx
      have HIL := hide hil
      clear hil hisx hmem hio hos hpl HPL
      obtain ⟨t, ht⟩ : ∃ t, ptsTo oss i = t := ⟨_, rfl⟩
      rw [ht] at htot ⊢
      have HSUC2 : Hid (ptsTo oss (i + 1) = t + p) := by rw [← ht]; exact HSUC.out
      clear ht HSUC
      go_wp2
      rename World => wo
      go_loopw [10, 42] (fun mv jv wr => ∃ j : Nat, j ≤ p ∧ jv = .int .i64 j ∧ mv = .int .i64 ((t + j : Nat) : Int) ∧ Below w3.heap.size w3 wr ∧ Hid (IL wr Q p (zs os))) (fun _ jv _ => p - (intOf jv).toNat)
      case atStart => exact ⟨0, Nat.zero_le _, rfl, rfl, hnx, HIL⟩
      case round =>
        clear hnx HIL
        obtain ⟨j, hj, rfl, rfl, hnx, HIL⟩ := hrel
        by_cases hjp : j < p
        · obtain ⟨ad2, rfl, hca⟩ := HIL.out.at_ hjp
          rw [zs_getD] at hca
          have hjo : j < os.length := by rw [HPL2.out]; exact hjp
          have hy := getD_mem hjo
          generalize os.getD j 0 = y at *
          have hxy := (HISX.out.mem y).1 hy
          have hym : y < m := hxy.lt HP.out hxm
          have hiy : IsOrb m gl y os := ⟨HISX.out.so, fun z => by
            rw [HISX.out.mem]
            exact ⟨fun h => (hxy.symm HP.out hxm).trans HP.out hym h, fun h => hxy.trans HP.out hxm h⟩⟩
          have HIY := hide hiy
          clear hjo hy hxy hiy
          go_wp2_with fail
          refine (stabo_ok B m q d y gl _ (HI3.out.below hnx) (by omega) (by rw [HGL.out]; omega) HP.out hym xs HXS.out os HIY.out).mono ?_
          rintro e w5 ⟨s, hs, -, rfl, hb5⟩
          have hnx5 := hnx.trans (hb5.mono hnx.size)
          have HIL5 := hide (HIL.out.below hb5)
          rw [HA.out, HPL2.out] at hs
          have hsp : (s : Int) * (p : Int) = a := by rw [hs, Nat.mul_comm]; simp
          have h0 : (0 : Int) ≤ (s : Int) * (p : Int) := by rw [hsp]; omega
          have h1 : (s : Int) * (p : Int) ≤ 387420489 := by rw [hsp]; omega
          have hsl : s ≤ 387420489 := by
            have : s ≤ p * s := Nat.le_mul_of_pos_left s (by omega)
            omega
          have hb : (((s : Int) * (p : Int)) != (a : Int)) = false := by simp [hsp]
          clear hb5 hs
          go_wp2
          go_roundw
          case rel => exact ⟨j + 1, by omega, by go_num, by go_num, hnx5, HIL5⟩
          case measure => simp [intOf]; omega
        · have hjp' : j = p := by omega
          have HE : Hid (ptsTo oss (i + 1) = t + j) := by rw [hjp']; exact HSUC2.out
          go_wp2
          go_roundw
          case rel => exact ⟨i + 1, by omega, by go_num, by rw [HE.out], hnx⟩
          case measure => simp [intOf]; omega
    · have HE : Hid (ptsTo oss i = m) := by
        rw [ptsTo_all oss (by rw [HLR.out]; omega), HOT.out.total HP.out]; exact rfl
      rw [HE.out]
      have hb0r := hb03.trans (hnx.mono hb03.size)
      go_wp2_with fail
      refine (kgrouped_any _).mono ?_
      rintro e w6 ⟨rfl, hb6⟩
      have hb06 := hb0r.trans (hb6.mono hb0r.size)
      go_wp2
      go_ret
      exact ⟨rfl, hb06⟩
end Go.Proofs.Ytnpdlfnhpghkmaa
