/- timbkeep1.FreeRoots, for a package freegroup that answers as it should. -/
import Derived.Test.YtbckgomidoelaaaLawFGroup
import Derived.Test.YtbckgomidoelaaaBase
namespace Go.Proofs.Ytbckgomidoelaaa
set_option linter.unusedVariables false
set_option linter.unusedSimpArgs false
open Go.RowKit

theorem ffault_rep {x : List Int} {k : Nat} (hx : ffault x = 0) (hl : x.length ≤ 12) (hk : k ≤ 4) : ffault (nf (rep x k)) = 0 := by
  have h1 := nf_rep_len x k
  have h2 := Nat.mul_le_mul hk hl
  exact ffault_ok (by omega) fun a ha => (ffault_zero hx).2 a (mem_rep (nf_mem ha))

set_option maxRecDepth 100000 in
set_option maxHeartbeats 4000000 in
theorem freeRoots_any (F : FreeC) (A : Option Addr) (n c : Nat) (xs : List Int) (k0 : Int) (w : World) (ha : SL w A n c xs) :
    Calls Try.prog 6 #[.slice A n c, .int .i64 k0] w fun e w' => e = .returned (.bool true) ∧ Below w.heap.size w w' := by
  have HF := hide F
  have HA := hide ha
  obtain ⟨j, hj, hj2⟩ : ∃ j : Nat, j < 4 ∧ k0 % ((4 : Nat) : Int) = (j : Int) := ⟨(k0 % 4).toNat, by omega, by omega⟩
  have HM : Hid (∀ w, Calls Try.prog 26 #[.int .i64 k0, .int .i64 4] w fun e w' => e = .returned (.int .i64 j) ∧ w = w') := fun w => by
    have h := mbelow_any k0 4 w (by omega) (by omega)
    rw [hj2] at h
    exact h
  clear F ha hj2
  go_enter Try.func6, Try.ntmps6
  go_wp2_with fail
  refine (word_sl A 3 n c 12 xs w HA.out (by omega) (by omega) (by omega)).mono ?_
  rintro e w1 ⟨x, Xp, xn, xc, rfl, hs, hf, hlen, hb⟩
  have HX := hide hs
  have HEX := hide hf
  have HLX := hide hlen
  have HW := hide hb
  clear HA hs hf hlen hb
  go_wp2_with fail
  refine (HM.out _).mono ?_
  rintro e w' ⟨rfl, rfl⟩
  go_wp2_with fail
  refine (HF.out.root Xp xn xc x _ HX.out).mono ?_
  rintro e w2 ⟨Up, un, uc, rs, kk, rfl, hs, hro, hb⟩
  replace HX := hide (HX.out.below hb)
  replace HW := hide (HW.out.trans (hb.mono HW.out.size))
  have HRO := hide hro
  have HU := hide hs
  clear hs hro hb
  go_wp2_with fail
  refine (HF.out.reduce Xp xn xc x _ HX.out).mono ?_
  rintro e w3 ⟨Rp, rn, rc, rfl, hs, hb⟩
  rw [HEX.out]
  rw [show redL x = nf x by unfold redL; rw [if_pos HEX.out]] at hs
  replace HX := hide (HX.out.below hb)
  replace HU := hide (HU.out.below hb)
  replace HW := hide (HW.out.trans (hb.mono HW.out.size))
  have hlr := hs.il.len
  clear hs hb
  by_cases hne : nf x = []
  · have hr0 : rn = 0 := by rw [← hlr, hne]; rfl
    have hre : rootE x = 4 := by unfold rootE; rw [if_pos HEX.out, if_pos hne]
    rw [hre]
    subst hr0
    clear hlr hne hre
    go_wp2_with fail
    refine (reduced_any HF.out _).mono ?_
    rintro e w4 ⟨rfl, hb⟩
    replace HW := hide (HW.out.trans (hb.mono HW.out.size))
    clear hb
    go_wp2_with fail
    go_ret
    exact ⟨rfl, HW.out⟩
  · have hr0 : 0 < rn := by rw [← hlr]; exact List.length_pos_iff.2 hne
    have hre : rootE x = 0 := by unfold rootE; rw [if_pos HEX.out, if_neg hne]
    obtain ⟨d, t, hroot, hrs, hkk⟩ := HRO.out.1 hre
    have hP := rootP (fun a ha => ((ffault_zero HEX.out).2 a ha).1) hne hroot
    obtain ⟨u, hu⟩ : ∃ u, (core (nf x)).2 ++ d ++ invw (core (nf x)).2 = u := ⟨_, rfl⟩
    have hul : u.length ≤ 12 := by
      have h1 := hP.mid 1 hP.pos
      rw [rep_one, nf_of_red hP.red, hu] at h1
      have h2 := nf_len_le x
      have h3 := HLX.out
      omega
    have huf : ffault u = 0 := ffault_ok (by omega) fun a ha => (ffault_zero HEX.out).2 a (nf_mem (hP.mem a (by rw [hu]; exact ha)))
    have hmid : ∀ i, i ≤ t → (nf (rep u i)).length ≤ 12 := fun i hi => by
      have h1 := hP.mid i hi
      rw [hu] at h1
      have h2 := nf_len_le x
      have h3 := HLX.out
      omega
    have hback : nf (rep u t) = nf x := by rw [← hu]; exact hP.back
    have ht0 := hP.pos
    have ht12 : t ≤ 12 := by
      have h1 := rep_length d t
      rw [← hroot.eq] at h1
      have h2 := core_len (nf x)
      have h3 := nf_len_le x
      have h4 := HLX.out
      have h5 : 0 < d.length := by
        rcases Nat.eq_zero_or_pos d.length with e | e
        · rw [e, Nat.mul_zero] at h1
          exact absurd (List.eq_nil_of_length_eq_zero h1) (core_ne (nf_red x) hne)
        · exact e
      have h6 := Nat.le_mul_of_pos_right t h5
      omega
    rw [hrs, hu] at HU
    rw [hre, hkk]
    have hrb : ((rn : Int) == 0) = false := beq_eq_false_iff_ne.2 (by omega)
    have HP := hide hP
    have HUU := hide hu
    have HUL := hide hul
    have HUF := hide huf
    have HMID := hide hmid
    have HBACK := hide hback
    have HNE := hide hne
    clear hlr hne hre hroot hrs hkk hP hu hul huf hmid hback HRO
    go_wp2_with fail
    go_loopw [11, 43] (fun pv iv wr => ∃ (i pn pc : Nat) (P : Option Addr), pv = .slice P pn pc ∧ iv = .int .i64 i ∧ i ≤ j + 1 ∧ SL wr P pn pc (nf (rep x i)) ∧ SL wr Xp xn xc x ∧ SL wr Up un uc u ∧ Below w.heap.size w wr) (fun _ iv _ => j + 1 - (intOf iv).toNat)
    case atStart => exact ⟨0, 0, 0, none, rfl, rfl, by omega, SL.nil_ _, HX.out, HU.out, HW.out⟩
    case round =>
      clear HX HU HW
      obtain ⟨i, pn, pc, P, rfl, rfl, hi, hp, hx, hu, hb⟩ := hrel
      have HX := hide hx
      have HU := hide hu
      have HW := hide hb
      have HQ := hide hp
      clear hx hu hb hp
      by_cases hlt : i < j + 1
      · have HT := hide (times_f HF.out P Xp pn pc xn xc _ x _ HQ.out HX.out)
        rw [prodL_ok (ffault_rep HEX.out HLX.out (by omega)) HEX.out (by have h1 := nf_rep_len x i; have h2 := HLX.out; have h3 := Nat.mul_le_mul (show i ≤ 3 by omega) h2; omega), nf_rep_succ] at HT
        go_wp2_with fail
        refine HT.out.mono ?_
        rintro e w5 ⟨P2, n2, c2, rfl, hs, hb⟩
        have hx5 := HX.out.below hb
        have hu5 := HU.out.below hb
        have hb5 := HW.out.trans (hb.mono HW.out.size)
        have HX5 := hide hx5
        have HU5 := hide hu5
        have HW5 := hide hb5
        have HQ5 := hide hs
        clear hx5 hu5 hb5 hs hb HT HX HU HW HQ
        go_wp2_with fail
        go_roundw
        case rel => exact ⟨i + 1, n2, c2, P2, rfl, by go_num, by omega, HQ5.out, HX5.out, HU5.out, HW5.out⟩
        case measure => simp [intOf]; omega
      · obtain rfl : i = j + 1 := by omega
        clear hlt hi
        have hpf := ffault_rep (k := j + 1) HEX.out HLX.out (by omega)
        obtain ⟨p1, p2, p3⟩ := HP.out.pow (j + 1) (by omega)
        have hcore := HUU.out
        rw [← p2] at hcore
        have hpp : nf (nf (rep x (j + 1))) = nf (rep x (j + 1)) := nf_nf _
        obtain ⟨p, hp⟩ : ∃ p, nf (rep x (j + 1)) = p := ⟨_, rfl⟩
        rw [hp] at hpf p1 p2 p3 hpp hcore HQ
        have hre2 : rootE p = 0 := by unfold rootE; rw [if_pos hpf, hpp, if_neg p1]
        have hneg : ¬ (((j + 1 : Nat) : Int) < 1 + (j : Int)) := by omega
        have hdec : decide (((j + 1 : Nat) : Int) < 1 + (j : Int)) = false := decide_eq_false hneg
        have HROOT2 := hide (HF.out.root P pn pc p _ HQ.out)
        rw [hre2] at HROOT2
        have HPF := hide hpf
        have HP1 := hide p1
        have HP3 := hide p3
        have HPP := hide hpp
        have HCO := hide hcore
        have HRE2 := hide hre2
        clear hpf p1 p2 p3 hpp hp hcore hre2 hneg
        go_wp2_with fail
        refine HROOT2.out.mono ?_
        rintro e w5 ⟨Vp, vn, vc, vs, mm, rfl, hs, hro, hb⟩
        obtain ⟨d2, t2, hroot2, hvs, hmm⟩ := hro.1 HRE2.out
        rw [HPP.out] at hroot2 hvs
        obtain ⟨rfl, rfl⟩ := hroot2.unique HP3.out (by rw [← HPP.out]; exact core_ne (nf_red p) (by rw [HPP.out]; exact HP1.out))
        rw [HCO.out] at hvs
        rw [hvs] at hs
        obtain ⟨M, hM⟩ : ∃ M : Nat, t * (j + 1) = M := ⟨_, rfl⟩
        rw [hM] at hmm
        rw [hmm]
        have hM48 : M ≤ 48 := by
          have h6 := Nat.mul_le_mul ht12 (show j + 1 ≤ 4 by omega)
          omega
        have hmul : (t : Int) * (1 + (j : Int)) = (M : Int) := by
          rw [← hM, Int.natCast_mul]
          congr 1
          omega
        clear hM
        have HV := hide hs
        have HX5 := hide (HX.out.below hb)
        have HU5 := hide (HU.out.below hb)
        have HW5 := hide (HW.out.trans (hb.mono HW.out.size))
        clear hs hro hb hroot2 hvs hmm HX HU HW HQ HROOT2 HPF HP1 HP3 HPP HCO HRE2
        go_wp2_with fail
        go_loopw [15, 56] (fun qv iv wr => ∃ (i qn qc : Nat) (Q : Option Addr), qv = .slice Q qn qc ∧ iv = .int .i64 i ∧ i ≤ t ∧ SL wr Q qn qc (nf (rep u i)) ∧ SL wr Xp xn xc x ∧ SL wr Up un uc u ∧ SL wr Vp vn vc u ∧ Below w.heap.size w wr) (fun _ iv _ => t - (intOf iv).toNat)
        case atStart => exact ⟨0, 0, 0, none, rfl, rfl, by omega, SL.nil_ _, HX5.out, HU5.out, HV.out, HW5.out⟩
        case round =>
          clear HX5 HU5 HW5 HV
          rename_i wq
          obtain ⟨i, qn, qc, Q, rfl, rfl, hi, hq, hx, hu, hv, hb⟩ := hrel
          have HX := hide hx
          have HU := hide hu
          have HV := hide hv
          have HW := hide hb
          have HQ := hide hq
          clear hx hu hv hb hq
          by_cases hlt : i < t
          · have hqf : ffault (nf (rep u i)) = 0 := ffault_ok (by have := HMID.out i hi; omega) fun a ha => (ffault_zero HUF.out).2 a (mem_rep (nf_mem ha))
            have HT := hide (times_f HF.out Q Up qn qc un uc _ u _ HQ.out HU.out)
            rw [prodL_ok hqf HUF.out (by have h1 := HMID.out i hi; have h2 := HUL.out; omega), nf_rep_succ] at HT
            clear hqf hmul
            go_wp2_with fail
            refine HT.out.mono ?_
            rintro e w7 ⟨P2, n2, c2, rfl, hs, hb⟩
            have HX5 := hide (HX.out.below hb)
            have HU5 := hide (HU.out.below hb)
            have HV5 := hide (HV.out.below hb)
            have HW5 := hide (HW.out.trans (hb.mono HW.out.size))
            have HQ5 := hide hs
            clear hs hb HT HX HU HW HQ HV
            go_wp2_with fail
            go_roundw
            case rel => exact ⟨i + 1, n2, c2, P2, rfl, by go_num, by omega, HQ5.out, HX5.out, HU5.out, HV5.out, HW5.out⟩
            case measure => simp [intOf]; omega
          · obtain rfl : i = t := by omega
            rw [HBACK.out] at HQ
            clear hlt hi
            go_wp2_with fail
            refine (HF.out.reduce Xp xn xc x _ HX.out).mono ?_
            rintro e w7 ⟨Gp, gn, gc, rfl, hs, hb⟩
            rw [HEX.out]
            rw [show redL x = nf x by unfold redL; rw [if_pos HEX.out]] at hs
            replace HU := hide (HU.out.below hb)
            replace HV := hide (HV.out.below hb)
            replace HQ := hide (HQ.out.below hb)
            replace HW := hide (HW.out.trans (hb.mono HW.out.size))
            have HG := hide hs
            clear hs hb HX
            go_wp2_with fail
            refine (reduced_any HF.out _).mono ?_
            rintro e w8 ⟨rfl, hb⟩
            replace HU := hide (HU.out.below hb)
            replace HV := hide (HV.out.below hb)
            replace HQ := hide (HQ.out.below hb)
            replace HG := hide (HG.out.below hb)
            replace HW := hide (HW.out.trans (hb.mono HW.out.size))
            clear hb
            go_wp2_with fail
            refine (equal_any Up Vp un vn uc vc _ _ _ HU.out.il HV.out.il).mono ?_
            rintro e w9 ⟨rfl, hb⟩
            rw [eqB_true rfl]
            replace HQ := hide (HQ.out.below hb)
            replace HG := hide (HG.out.below hb)
            replace HW := hide (HW.out.trans (hb.mono HW.out.size))
            clear hb
            go_wp2_with fail
            refine (equal_any Q Gp qn gn qc gc _ _ _ HQ.out.il HG.out.il).mono ?_
            rintro e w10 ⟨rfl, hb⟩
            rw [eqB_true rfl]
            replace HW := hide (HW.out.trans (hb.mono HW.out.size))
            clear hb
            go_wp2_with fail
            go_ret
            exact ⟨rfl, HW.out⟩
end Go.Proofs.Ytbckgomidoelaaa
