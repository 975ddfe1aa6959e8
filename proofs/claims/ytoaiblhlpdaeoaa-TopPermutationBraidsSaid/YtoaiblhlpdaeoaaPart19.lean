/- Several texts in one. -/
import Derived.Test.YtoaiblhlpdaeoaaPart18
import Derived.Test.YtoaiblhlpdaeoaaPart9
import Derived.BigQuiet
import Derived.Test.YtoaiblhlpdaeoaaPart2
/- TopPermutationBraids. -/
namespace Go.Proofs.Ytoaiblhlpdaeoaa
set_option linter.unusedVariables false
set_option linter.unusedSimpArgs false
open Go.RowKit Gar

theorem ePosL : ∀ args w, (callFunc 43 args).run Try.prog w = .ok (.enter 43 args) w := enters (fn := Try.f43) (by kernel_rfl) (by kernel_rfl) (by kernel_rfl)
set_option maxRecDepth 100000 in
theorem posL_any (x : Int) (w : World) : Calls Try.prog 43 #[.int .i64 x] w fun e w' => e = .returned (.bool (decide (x < 1))) ∧ w = w' := by
  go_enter Try.func43, Try.ntmps43
  go_wp2_with fail
  go_ret
  exact ⟨rfl, rfl⟩
theorem any_pos {p : List Nat} : (wrd p).any (fun x => decide (x < 1)) = false := by
  rw [List.any_eq_false]
  intro x hx
  have := wrd_pos x hx
  simp
  omega
theorem inv_succ (f : Nat → Nat) (i : Nat) : Gar.inv f (i + 1) = Gar.inv f i + Gar.cnt f (f i) i := rfl
theorem cnt_succ (f : Nat → Nat) (v k : Nat) : Gar.cnt f v (k + 1) = Gar.cnt f v k + if v < f k then 1 else 0 := rfl
theorem cnt_le (f : Nat → Nat) (v : Nat) : ∀ k, Gar.cnt f v k ≤ k
  | 0 => Nat.le_refl _
  | k + 1 => by rw [cnt_succ]; have := cnt_le f v k; split <;> omega
theorem inv_le6 (f : Nat → Nat) : ∀ i, Gar.inv f i ≤ i * i
  | 0 => Nat.le_refl _
  | i + 1 => by rw [inv_succ]; have := inv_le6 f i; have := cnt_le f (f i) i; rw [Nat.add_mul, Nat.mul_add]; omega

set_option maxRecDepth 100000 in
set_option maxHeartbeats 16000000 in
theorem topPermutationBraids_any (F : GarC) (G : ArtinC) (FB : BraidC) (nn : Int) (A : Option Addr) (n c : Nat) (us : List Int) (w : World) (ha : SL w A n c us) :
    Calls Try.prog 11 #[.int .i64 nn, .slice A n c] w fun e w' => e = .returned (.bool true) ∧ Below w.heap.size w w' := by
  have HEQ := hide (equal_top F G)
  have HF := hide F
  have HFB := hide FB
  have HA := hide ha
  clear F G FB ha
  have hnt := Bool.not_false
  go_enter Try.func11, Try.ntmps11
  go_wp2_with fail
  refine (strands_gen nn 5 6 rfl (by omega) (by omega) w).mono ?_
  rintro e w0 ⟨T, hT1, hT5, rfl, hww⟩
  subst hww
  obtain ⟨N, hN⟩ : ∃ N, T + 1 = N := ⟨_, rfl⟩
  have hTi : (T : Int) + 1 = (N : Int) := by omega
  rw [hTi]
  have hN2 : 2 ≤ N := by omega
  have hN6 : N ≤ 6 := by omega
  clear hN hTi hT1 hT5
  go_wp2_with fail
  refine (mperm_any N A n c us w HA.out.il (by omega)).mono ?_
  rintro e w1 ⟨p, hp, hpl, _, P, pn, pc, rfl, ho, hb⟩
  have hpn : pn = N := by have := ho.len; rw [zs_length, hpl] at this; exact this.symm
  subst hpn
  have SP := hide ho.sl
  have HW := hide hb
  have HP := hide hp
  have HPL := hide hpl
  obtain ⟨f, hf⟩ : ∃ f : Nat → Nat, (fun s => p.getD s 0) = f := ⟨_, rfl⟩
  have HFF : Hid (∀ s, p.getD s 0 = f s) := hide (fun s => by rw [← hf])
  have HVV : Hid (Gar.inv f pn = invP pn p) := hide (by rw [← hf]; rfl)
  clear ho hb HA hp hpl hf
  go_wp2_with fail
  go_loopw [6, 25] (fun ov iv wr => ∃ i : Nat, i ≤ pn ∧ iv = .int .i64 i ∧ ov = .int .i64 (Gar.inv f i : Nat) ∧ Hid (Below w.heap.size w wr) ∧ Hid (SL wr P pn pc (zs p))) (fun _ iv _ => pn - (intOf iv).toNat)
  case atStart => exact ⟨0, Nat.zero_le _, rfl, rfl, HW, SP⟩
  case round =>
    clear HW SP
    obtain ⟨i, hi, rfl, rfl, HW, SP⟩ := hrel
    by_cases hlt : i < pn
    · have hvi := inv_le6 f i
      have hii : i * i ≤ 36 := by have := Nat.mul_le_mul (show i ≤ 6 by omega) (show i ≤ 6 by omega); omega
      have HIS := hide (inv_succ f i)
      have HLT := hide hlt
      generalize Gar.inv f i = v at *
      rename World => wo
      have HI := hide hi
      clear hi
      go_wp2_with fail
      clear hlt
      go_loopw [6, 29] (fun ov kv wr => ∃ k : Nat, k ≤ i ∧ kv = .int .i64 k ∧ ov = .int .i64 ((v + Gar.cnt f (f i) k : Nat) : Int) ∧ Hid (Below w.heap.size w wr) ∧ Hid (SL wr P pn pc (zs p))) (fun _ kv _ => i - (intOf kv).toNat)
      case atStart => exact ⟨0, Nat.zero_le _, rfl, rfl, HW, SP⟩
      case round =>
        clear HW SP
        obtain ⟨k, hk, rfl, rfl, HW, SP⟩ := hrel
        have hin := HLT.out
        by_cases hki : k < i
        · obtain ⟨ad, rfl, hc0⟩ := SP.out.il.at_ (k := k) (by omega)
          obtain ⟨_, e1, hc1⟩ := SP.out.il.at_ (k := i) hin
          injection e1 with e1
          subst e1
          rw [zs_getD, HFF.out] at hc0 hc1
          have HCS := hide (cnt_succ f (f i) k)
          have hck := cnt_le f (f i) k
          generalize Gar.cnt f (f i) k = cn at *
          generalize f k = x at *
          generalize f i = y at *
          have hkn : k < pn := by omega
          by_cases hxy : y < x
          · have hd : decide ((y : Int) < (x : Int)) = true := decide_eq_true (by omega)
            have HC2 : Hid (v + (cn + 1) = v + cn + 1) := hide (by omega)
            rw [if_pos hxy] at HCS
            go_upto_region 10 with fail
            go_quiet (fail)
            have HW2 := hide (below_drewN HW.out nq)
            have SP2 : Hid (SL (wr.drewN nq) (some ad) pn pc (zs p)) := SP.out.below (below_drewN (Below.refl _ _) nq)
            clear HW SP hc0 hc1
            go_wp2_with fail
            go_roundw
            case rel => exact ⟨k + 1, by omega, by go_num, by rw [HCS.out, HC2.out]; go_num, HW2, SP2⟩
            case measure => simp [intOf]; omega
          · have hd : decide ((y : Int) < (x : Int)) = false := decide_eq_false (by omega)
            rw [if_neg hxy, Nat.add_zero] at HCS
            go_upto_region 10 with fail
            go_quiet (fail)
            have HW2 := hide (below_drewN HW.out nq)
            have SP2 : Hid (SL (wr.drewN nq) (some ad) pn pc (zs p)) := SP.out.below (below_drewN (Below.refl _ _) nq)
            clear HW SP hc0 hc1
            go_wp2_with fail
            go_roundw
            case rel => exact ⟨k + 1, by omega, by go_num, by rw [HCS.out]; rfl, HW2, SP2⟩
            case measure => simp [intOf]; omega
        · have hki2 : k = i := by omega
          have HE : Hid (v + Gar.cnt f (f i) k = Gar.inv f (i + 1)) := hide (by rw [HIS.out, hki2])
          obtain ⟨v2, hv2⟩ : ∃ v2, Gar.inv f (i + 1) = v2 := ⟨_, rfl⟩
          rw [HE.out, hv2]
          have HV2 := hide hv2
          clear hki2 HE hv2
          go_wp2_with fail
          go_roundw
          case rel => exact ⟨i + 1, by omega, by go_num, by rw [HV2.out], HW, SP⟩
          case measure => simp [intOf]; omega
    · have hin : i = pn := by omega
      obtain ⟨vv, hvv⟩ : ∃ vv, Gar.inv f i = vv := ⟨_, rfl⟩
      have HVE : Hid (invP pn p = vv) := hide (by rw [← HVV.out, ← hin]; exact hvv)
      have hv18 : vv ≤ 18 := by rw [← HVE.out]; exact inv_le18 hN6 p
      rw [hvv]
      obtain ⟨tri, htri⟩ : ∃ tri : Nat, pn * (pn - 1) / 2 = tri := ⟨_, rfl⟩
      have htri2 : 2 * tri = pn * (pn - 1) := by
        have : pn = 2 ∨ pn = 3 ∨ pn = 4 ∨ pn = 5 ∨ pn = 6 := by omega
        rcases this with h | h | h | h | h <;> subst h <;> omega
      have hm1 : IntKind.i64.wrap ((pn : Int) - 1) = (pn : Int) - 1 := by rw [IntKind.wrap_i64]; omega
      obtain ⟨dd, hdd⟩ : ∃ dd, pn * (pn - 1) = dd := ⟨_, rfl⟩
      have htr15 : tri ≤ 15 := by
        have : pn = 2 ∨ pn = 3 ∨ pn = 4 ∨ pn = 5 ∨ pn = 6 := by omega
        rcases this with h | h | h | h | h <;> subst h <;> omega
      have hdd30 : dd ≤ 30 := by omega
      have hm0 : (pn : Int) * ((pn : Int) - 1) = (dd : Int) := by
        rw [← hdd, show (pn : Int) - 1 = ((pn - 1 : Nat) : Int) by omega]
        rfl
      have hm9 : ((pn : Int) * ((pn : Int) - 1)).tdiv 2 = (tri : Int) := by
        rw [hm0, show ((dd : Int)).tdiv 2 = ((dd / 2 : Nat) : Int) from rfl]
        congr 1
        omega
      have hm2 : IntKind.i64.wrap ((pn : Int) * ((pn : Int) - 1)) = (pn : Int) * ((pn : Int) - 1) := by rw [hm0, IntKind.wrap_i64]; omega
      have hm3 : IntKind.i64.wrap (((pn : Int) * ((pn : Int) - 1)).tdiv 2) = ((pn : Int) * ((pn : Int) - 1)).tdiv 2 := by rw [hm9, IntKind.wrap_i64]; omega
      have HM9 := hide hm9
      have HTRI := hide htri2
      have hal : Below wr.heap.size wr (wr.alloc (.cells #[.slice P pn pc] 22)) := (Below.refl _ _).alloc (Nat.le_refl _) _
      have HAL := hide hal
      have HSL1 := hide (SLL.lit (w := wr) (vs := [.slice P pn pc]) (xss := [zs p]) rfl (by simp) (fun j hj => by
        match j, hj with
        | 0, _ => exact ⟨_, _, _, rfl, SP.out⟩) (cs := #[.slice P pn pc]) rfl (m := 1) rfl)
      clear hin hvv htri htri2 hm0 hm9 hal hdd htr15 hdd30
      by_cases hv0 : vv = 0
      · have hb0 : ((vv : Int) == 0) = true := by simpa using hv0
        have HV0 := hide hv0
        have SL1 : Hid (SLL (wr.alloc (.cells #[.slice P pn pc] 22)) none 0 0 (([] : List (List Nat)).map zs)) := hide ⟨rfl, by omega, fun _ => ⟨rfl, rfl⟩, Nat.le_refl _, fun h => absurd h (by omega)⟩
        clear hv0
        have HWM := hide (wfI (x := (pn : Int)) (by omega))
        have HT := hide (tits_zero hN2 hN6 HP.out HPL.out (by rw [HVE.out]; exact HV0.out))
        have hbf : bfault (pn : Int) (wrd p) = 0 := bf_ok (by omega) hN6 (okB_wrd HP.out HPL.out) (by rw [wrd_inv HP.out HPL.out]; have := inv_le18 hN6 p; omega)
        have HBF := hide hbf
        have hpe : permE (pn : Int) (wrd p) = zs p := by unfold permE; rw [if_pos hbf, Int.toNat_natCast, ends_wrd HP.out HPL.out]
        have HPE := hide hpe
        have HLEN : Hid ((wrd p).length = vv) := hide (by rw [wrd_inv HP.out HPL.out]; exact HVE.out)
        clear hbf hpe
        go_upto_region 20 with fail
        go_wp2_with fail
        refine (HF.out.word (pn : Int) 0 none _ _ (([] : List (List Nat)).map zs) _ SL1.out HWM.out (by decide)).mono ?_
        rintro e w2 ⟨R, rn, rc, rfl, hs, hb⟩
        rw [HT.out.we]
        rw [HT.out.wl] at hs
        have SR := hide hs
        have hrn : rn = vv := by rw [← HLEN.out]; exact hs.il.len.symm
        subst hrn
        replace SP := hide (SP.out.below (HAL.out.trans (hb.mono (HAL.out).size)))
        replace HW := hide (HW.out.trans ((HAL.out.trans (hb.mono (HAL.out).size)).mono HW.out.size))
        clear hs hb SL1
        go_upto_region 21 with fail
        go_wp2_with fail
        refine (HFB.out.perm (pn : Int) R rn rc _ w2 SR.out HWM.out).mono ?_
        rintro e w3 ⟨Q, qn, qc, rfl, hs, hb⟩
        rw [HBF.out]
        rw [HPE.out] at hs
        have SQ := hide hs
        replace SP := hide (SP.out.below hb)
        replace SR := hide (SR.out.below hb)
        replace HW := hide (HW.out.trans (hb.mono HW.out.size))
        clear hs hb
        go_upto_region 22 with fail
        go_wp2_with fail
        refine (HF.out.normal (pn : Int) R rn rc _ w3 SR.out HWM.out).mono ?_
        rintro e w4 ⟨k2, l2, M2, m2, mc2, rfl, hs, hb, g, _⟩
        rw [HBF.out]
        have hnf := g HBF.out
        rw [Int.toNat_natCast] at hnf
        obtain ⟨rfl, rfl⟩ := hnf.unique hN2 HT.out.nf rfl
        have hm2 := hs.len
        simp at hm2
        subst hm2
        replace SP := hide (SP.out.below hb)
        replace SR := hide (SR.out.below hb)
        replace SQ := hide (SQ.out.below hb)
        replace HW := hide (HW.out.trans (hb.mono HW.out.size))
        clear hs hb g hnf
        go_upto_region 23 with fail
        go_wp2_with fail
        refine (HEQ.out w4).mono ?_
        rintro e w5 ⟨rfl, hb⟩
        replace SP := hide (SP.out.below hb)
        replace SR := hide (SR.out.below hb)
        replace SQ := hide (SQ.out.below hb)
        replace HW := hide (HW.out.trans (hb.mono HW.out.size))
        have HCI := hide (containsI_any (caps := []) (fun x => decide (x < 1)) ePosL R rn rc _ w5 SR.out.il (fun x w' => posL_any x w'))
        rw [any_pos] at HCI
        have hrr : ((rn : Int) == (rn : Int)) = true := by simp
        clear hb
        go_wp2_with fail
        refine HCI.out.mono ?_
        rintro e w6 ⟨rfl, hww⟩
        subst hww
        clear HCI
        go_wp2_with fail
        refine (equal_any P Q pn qn pc qc _ _ w5 SP.out.il SQ.out.il).mono ?_
        rintro e w7 ⟨rfl, hb⟩
        rw [eqB_true rfl]
        replace HW := hide (HW.out.trans (hb.mono HW.out.size))
        clear hb
        go_wp2_with fail
        go_ret
        exact ⟨rfl, HW.out⟩
      · have hb0 : ((vv : Int) == 0) = false := by simpa using hv0
        by_cases hvt : vv = tri
        · have hb1 : ((vv : Int) == ((pn : Int) * ((pn : Int) - 1)).tdiv 2) = true := by rw [HM9.out]; simp; omega
          have HVT := hide hvt
          have SL1 : Hid (SLL (wr.alloc (.cells #[.slice P pn pc] 22)) none 0 0 (([] : List (List Nat)).map zs)) := hide ⟨rfl, by omega, fun _ => ⟨rfl, rfl⟩, Nat.le_refl _, fun h => absurd h (by omega)⟩
          clear hvt hv0
          have HWM := hide (wfI (x := (pn : Int)) (by omega))
          have HT := hide (tits_full hN2 hN6 HP.out HPL.out (by rw [HVE.out, HVT.out]; exact HTRI.out))
          have hbf : bfault (pn : Int) (wrd p) = 0 := bf_ok (by omega) hN6 (okB_wrd HP.out HPL.out) (by rw [wrd_inv HP.out HPL.out]; have := inv_le18 hN6 p; omega)
          have HBF := hide hbf
          have hpe : permE (pn : Int) (wrd p) = zs p := by unfold permE; rw [if_pos hbf, Int.toNat_natCast, ends_wrd HP.out HPL.out]
          have HPE := hide hpe
          have HLEN : Hid ((wrd p).length = vv) := hide (by rw [wrd_inv HP.out HPL.out]; exact HVE.out)
          clear hbf hpe
          go_upto_region 20 with fail
          go_wp2_with fail
          refine (HF.out.word (pn : Int) 1 none _ _ (([] : List (List Nat)).map zs) _ SL1.out HWM.out (by decide)).mono ?_
          rintro e w2 ⟨R, rn, rc, rfl, hs, hb⟩
          rw [HT.out.we]
          rw [HT.out.wl] at hs
          have SR := hide hs
          have hrn : rn = vv := by rw [← HLEN.out]; exact hs.il.len.symm
          subst hrn
          replace SP := hide (SP.out.below (HAL.out.trans (hb.mono (HAL.out).size)))
          replace HW := hide (HW.out.trans ((HAL.out.trans (hb.mono (HAL.out).size)).mono HW.out.size))
          clear hs hb SL1
          go_upto_region 21 with fail
          go_wp2_with fail
          refine (HFB.out.perm (pn : Int) R rn rc _ w2 SR.out HWM.out).mono ?_
          rintro e w3 ⟨Q, qn, qc, rfl, hs, hb⟩
          rw [HBF.out]
          rw [HPE.out] at hs
          have SQ := hide hs
          replace SP := hide (SP.out.below hb)
          replace SR := hide (SR.out.below hb)
          replace HW := hide (HW.out.trans (hb.mono HW.out.size))
          clear hs hb
          go_upto_region 22 with fail
          go_wp2_with fail
          refine (HF.out.normal (pn : Int) R rn rc _ w3 SR.out HWM.out).mono ?_
          rintro e w4 ⟨k2, l2, M2, m2, mc2, rfl, hs, hb, g, _⟩
          rw [HBF.out]
          have hnf := g HBF.out
          rw [Int.toNat_natCast] at hnf
          obtain ⟨rfl, rfl⟩ := hnf.unique hN2 HT.out.nf rfl
          have hm2 := hs.len
          simp at hm2
          subst hm2
          replace SP := hide (SP.out.below hb)
          replace SR := hide (SR.out.below hb)
          replace SQ := hide (SQ.out.below hb)
          replace HW := hide (HW.out.trans (hb.mono HW.out.size))
          clear hs hb g hnf
          go_upto_region 23 with fail
          go_wp2_with fail
          refine (HEQ.out w4).mono ?_
          rintro e w5 ⟨rfl, hb⟩
          replace SP := hide (SP.out.below hb)
          replace SR := hide (SR.out.below hb)
          replace SQ := hide (SQ.out.below hb)
          replace HW := hide (HW.out.trans (hb.mono HW.out.size))
          have HCI := hide (containsI_any (caps := []) (fun x => decide (x < 1)) ePosL R rn rc _ w5 SR.out.il (fun x w' => posL_any x w'))
          rw [any_pos] at HCI
          have hrr : ((rn : Int) == (rn : Int)) = true := by simp
          clear hb
          go_wp2_with fail
          refine HCI.out.mono ?_
          rintro e w6 ⟨rfl, hww⟩
          subst hww
          clear HCI
          go_wp2_with fail
          refine (equal_any P Q pn qn pc qc _ _ w5 SP.out.il SQ.out.il).mono ?_
          rintro e w7 ⟨rfl, hb⟩
          rw [eqB_true rfl]
          replace HW := hide (HW.out.trans (hb.mono HW.out.size))
          clear hb
          go_wp2_with fail
          go_ret
          exact ⟨rfl, HW.out⟩
        · have hb1 : ((vv : Int) == ((pn : Int) * ((pn : Int) - 1)).tdiv 2) = false := by rw [HM9.out]; simp; omega
          have HVT := hide hvt
          have HV0 := hide hv0
          have SL1 : Hid (SLL (wr.alloc (.cells #[.slice P pn pc] 22)) (some ⟨wr.heap.size, 0, none⟩) 1 1 ([p].map zs)) := HSL1
          clear hvt hv0
          have HWM := hide (wfI (x := (pn : Int)) (by omega))
          have HT := hide (tits_one hN2 hN6 HP.out HPL.out (by rw [HVE.out]; exact HV0.out) (by rw [HVE.out]; have h1 := HVT.out; have h2 := HTRI.out; omega))
          have hbf : bfault (pn : Int) (wrd p) = 0 := bf_ok (by omega) hN6 (okB_wrd HP.out HPL.out) (by rw [wrd_inv HP.out HPL.out]; have := inv_le18 hN6 p; omega)
          have HBF := hide hbf
          have hpe : permE (pn : Int) (wrd p) = zs p := by unfold permE; rw [if_pos hbf, Int.toNat_natCast, ends_wrd HP.out HPL.out]
          have HPE := hide hpe
          have HLEN : Hid ((wrd p).length = vv) := hide (by rw [wrd_inv HP.out HPL.out]; exact HVE.out)
          clear hbf hpe
          go_upto_region 20 with fail
          go_wp2_with fail
          refine (HF.out.word (pn : Int) 0 (some ⟨wr.heap.size, 0, none⟩) _ _ ([p].map zs) _ SL1.out HWM.out (by decide)).mono ?_
          rintro e w2 ⟨R, rn, rc, rfl, hs, hb⟩
          rw [HT.out.we]
          rw [HT.out.wl] at hs
          have SR := hide hs
          have hrn : rn = vv := by rw [← HLEN.out]; exact hs.il.len.symm
          subst hrn
          replace SP := hide (SP.out.below (HAL.out.trans (hb.mono (HAL.out).size)))
          replace HW := hide (HW.out.trans ((HAL.out.trans (hb.mono (HAL.out).size)).mono HW.out.size))
          clear hs hb SL1
          go_upto_region 21 with fail
          go_wp2_with fail
          refine (HFB.out.perm (pn : Int) R rn rc _ w2 SR.out HWM.out).mono ?_
          rintro e w3 ⟨Q, qn, qc, rfl, hs, hb⟩
          rw [HBF.out]
          rw [HPE.out] at hs
          have SQ := hide hs
          replace SP := hide (SP.out.below hb)
          replace SR := hide (SR.out.below hb)
          replace HW := hide (HW.out.trans (hb.mono HW.out.size))
          clear hs hb
          go_upto_region 22 with fail
          go_wp2_with fail
          refine (HF.out.normal (pn : Int) R rn rc _ w3 SR.out HWM.out).mono ?_
          rintro e w4 ⟨k2, l2, M2, m2, mc2, rfl, hs, hb, g, _⟩
          rw [HBF.out]
          have hnf := g HBF.out
          rw [Int.toNat_natCast] at hnf
          obtain ⟨rfl, rfl⟩ := hnf.unique hN2 HT.out.nf rfl
          have hm2 := hs.len
          simp at hm2
          subst hm2
          replace SP := hide (SP.out.below hb)
          replace SR := hide (SR.out.below hb)
          replace SQ := hide (SQ.out.below hb)
          replace HW := hide (HW.out.trans (hb.mono HW.out.size))
          clear hs hb g hnf
          go_upto_region 23 with fail
          go_wp2_with fail
          refine (HEQ.out w4).mono ?_
          rintro e w5 ⟨rfl, hb⟩
          replace SP := hide (SP.out.below hb)
          replace SR := hide (SR.out.below hb)
          replace SQ := hide (SQ.out.below hb)
          replace HW := hide (HW.out.trans (hb.mono HW.out.size))
          have HCI := hide (containsI_any (caps := []) (fun x => decide (x < 1)) ePosL R rn rc _ w5 SR.out.il (fun x w' => posL_any x w'))
          rw [any_pos] at HCI
          have hrr : ((rn : Int) == (rn : Int)) = true := by simp
          clear hb
          go_wp2_with fail
          refine HCI.out.mono ?_
          rintro e w6 ⟨rfl, hww⟩
          subst hww
          clear HCI
          go_wp2_with fail
          refine (equal_any P Q pn qn pc qc _ _ w5 SP.out.il SQ.out.il).mono ?_
          rintro e w7 ⟨rfl, hb⟩
          rw [eqB_true rfl]
          replace HW := hide (HW.out.trans (hb.mono HW.out.size))
          clear hb
          go_wp2_with fail
          go_ret
          exact ⟨rfl, HW.out⟩
end Go.Proofs.Ytoaiblhlpdaeoaa
