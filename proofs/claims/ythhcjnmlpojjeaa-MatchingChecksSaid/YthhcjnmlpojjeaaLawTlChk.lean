/- timblaw1.MatchingChecks, for a package temperleylieb that answers as it should. (Written by tools/gen_tlchk.py.) -/
import Derived.Test.YthhcjnmlpojjeaaTlX
namespace Go.Proofs.Ythhcjnmlpojjeaa
set_option linter.unusedVariables false
set_option linter.unusedSimpArgs false
open Go.RowKit

set_option maxRecDepth 100000 in
set_option maxHeartbeats 8000000 in
theorem matchingChecks_any (F : TlC) (m : Int) (A : Option Addr) (n c : Nat) (d : List Int) (i : Int) (w : World) (ha : SL w A n c d) (wm : (Lit.int .i64 m).wf = true) (wi : (Lit.int .i64 i).wf = true) :
    Calls Try.prog 3 #[.int .i64 m, .slice A n c, .int .i64 i] w fun e w' => e = .returned (.bool true) ∧ Below w.heap.size w w' := by
  have HF := hide F
  have HA := hide ha
  have HI := hide (F.ident m w wm)
  have HG := hide (fun w => F.gener m i w wm wi)
  have HC := hide (fun (w : World) (h : SL w A n c d) => F.check m A n c d w h wm)
  have HM := hide (fun (w : World) (h : SL w A n c d) => mfault_any m A n c d w h.il wm)
  obtain ⟨R, hR⟩ : ∃ R, Tl.mtF m d = R := ⟨_, rfl⟩
  rw [hR] at HC HM
  have hRR : (R != R) = false := by simp
  have hnt := Bool.not_true
  have hnf := Bool.not_false
  clear F ha wm wi hR
  by_cases h1 : m < 1 ∨ 6 < m
  · have e1 : tlE m = 1 := by unfold tlE; rw [if_pos h1]
    have e2 : idL m = [] := by unfold idL; rw [e1]; rfl
    have e3 : geE m i = 1 := by unfold geE; rw [if_pos (.inl (by rw [e1]; decide))]
    have e4 : geL m i = [] := by unfold geL; rw [e3]; rfl
    rw [e1, e2] at HI
    rw [e3, e4] at HG
    clear e1 e2 e3 e4
    by_cases h2 : m < 1
    · have hd1 : decide (m < 1) = true := decide_eq_true h2
      clear h1 h2
      go_enter Try.func3, Try.ntmps3
      go_wp2_with fail
      refine HI.out.mono ?_
      rintro e w1 ⟨A1, n1, c1, rfl, hs, hb⟩
      have HS1 := hide hs
      have HW := hide hb
      replace HA := hide (HA.out.below hb)
      clear hs hb
      go_wp2_with fail
      refine (HG.out w1).mono ?_
      rintro e w2 ⟨A2, n2, c2, rfl, hs, hb⟩
      have HS2 := hide hs
      replace HW := hide (HW.out.trans (hb.mono HW.out.size))
      replace HA := hide (HA.out.below hb)
      replace HS1 := hide (HS1.out.below hb)
      clear hs hb
      go_wp2_with fail
      refine (matched_l HF.out w2).mono ?_
      rintro e w3 ⟨rfl, hb⟩
      replace HW := hide (HW.out.trans (hb.mono HW.out.size))
      replace HA := hide (HA.out.below hb)
      replace HS1 := hide (HS1.out.below hb)
      replace HS2 := hide (HS2.out.below hb)
      clear hb
      go_wp2_with fail
      refine (HC.out w3 HA.out).mono ?_
      rintro e w4 ⟨rfl, hb⟩
      replace HW := hide (HW.out.trans (hb.mono HW.out.size))
      replace HA := hide (HA.out.below hb)
      replace HS1 := hide (HS1.out.below hb)
      replace HS2 := hide (HS2.out.below hb)
      clear hb
      go_wp2_with fail
      refine (HM.out w4 HA.out).mono ?_
      rintro e w5 ⟨rfl, hb⟩
      replace HW := hide (HW.out.trans (hb.mono HW.out.size))
      replace HS1 := hide (HS1.out.below hb)
      replace HS2 := hide (HS2.out.below hb)
      clear hb
      have z1 : n1 = 0 := by have := HS1.out.il.len; simpa using this.symm
      have z2 : n2 = 0 := by have := HS2.out.il.len; simpa using this.symm
      subst z1
      subst z2
      go_wp2_with fail
      go_ret
      exact ⟨rfl, HW.out⟩
    · have hd1 : decide (m < 1) = false := decide_eq_false (by omega)
      have hd2 : decide (6 < m) = true := decide_eq_true (by omega)
      clear h1 h2
      go_enter Try.func3, Try.ntmps3
      go_wp2_with fail
      refine HI.out.mono ?_
      rintro e w1 ⟨A1, n1, c1, rfl, hs, hb⟩
      have HS1 := hide hs
      have HW := hide hb
      replace HA := hide (HA.out.below hb)
      clear hs hb
      go_wp2_with fail
      refine (HG.out w1).mono ?_
      rintro e w2 ⟨A2, n2, c2, rfl, hs, hb⟩
      have HS2 := hide hs
      replace HW := hide (HW.out.trans (hb.mono HW.out.size))
      replace HA := hide (HA.out.below hb)
      replace HS1 := hide (HS1.out.below hb)
      clear hs hb
      go_wp2_with fail
      refine (matched_l HF.out w2).mono ?_
      rintro e w3 ⟨rfl, hb⟩
      replace HW := hide (HW.out.trans (hb.mono HW.out.size))
      replace HA := hide (HA.out.below hb)
      replace HS1 := hide (HS1.out.below hb)
      replace HS2 := hide (HS2.out.below hb)
      clear hb
      go_wp2_with fail
      refine (HC.out w3 HA.out).mono ?_
      rintro e w4 ⟨rfl, hb⟩
      replace HW := hide (HW.out.trans (hb.mono HW.out.size))
      replace HA := hide (HA.out.below hb)
      replace HS1 := hide (HS1.out.below hb)
      replace HS2 := hide (HS2.out.below hb)
      clear hb
      go_wp2_with fail
      refine (HM.out w4 HA.out).mono ?_
      rintro e w5 ⟨rfl, hb⟩
      replace HW := hide (HW.out.trans (hb.mono HW.out.size))
      replace HS1 := hide (HS1.out.below hb)
      replace HS2 := hide (HS2.out.below hb)
      clear hb
      have z1 : n1 = 0 := by have := HS1.out.il.len; simpa using this.symm
      have z2 : n2 = 0 := by have := HS2.out.il.len; simpa using this.symm
      subst z1
      subst z2
      go_wp2_with fail
      go_ret
      exact ⟨rfl, HW.out⟩
  obtain ⟨k, hk⟩ : ∃ k : Nat, m = (k : Int) := ⟨m.toNat, by omega⟩
  subst hk
  have hk1 : 1 ≤ k := by omega
  have hk6 : k ≤ 6 := by omega
  have hd1 : decide ((k : Int) < 1) = false := decide_eq_false (by omega)
  have hd2 : decide (6 < (k : Int)) = false := decide_eq_false (by omega)
  have e1 := tlE_ok hk1 hk6
  have e2 := idL_ok hk1 hk6
  rw [e1, e2] at HI
  by_cases h2 : i < 1 ∨ (k : Int) ≤ i
  · have e3 : geE (k : Int) i = 1 := by unfold geE; rw [if_pos (.inr h2)]
    have e4 : geL (k : Int) i = [] := by unfold geL; rw [e3]; rfl
    rw [e3, e4] at HG
    clear e1 e2 e3 e4 h1
    by_cases h3 : i < 1
    · have hd3 : decide (i < 1) = true := decide_eq_true h3
      clear h2 h3
      go_enter Try.func3, Try.ntmps3
      go_wp2_with fail
      refine HI.out.mono ?_
      rintro e w1 ⟨A1, n1, c1, rfl, hs, hb⟩
      have HS1 := hide hs
      have HW := hide hb
      replace HA := hide (HA.out.below hb)
      clear hs hb
      go_wp2_with fail
      refine (HG.out w1).mono ?_
      rintro e w2 ⟨A2, n2, c2, rfl, hs, hb⟩
      have HS2 := hide hs
      replace HW := hide (HW.out.trans (hb.mono HW.out.size))
      replace HA := hide (HA.out.below hb)
      replace HS1 := hide (HS1.out.below hb)
      clear hs hb
      go_wp2_with fail
      refine (matched_l HF.out w2).mono ?_
      rintro e w3 ⟨rfl, hb⟩
      replace HW := hide (HW.out.trans (hb.mono HW.out.size))
      replace HA := hide (HA.out.below hb)
      replace HS1 := hide (HS1.out.below hb)
      replace HS2 := hide (HS2.out.below hb)
      clear hb
      go_wp2_with fail
      refine (HC.out w3 HA.out).mono ?_
      rintro e w4 ⟨rfl, hb⟩
      replace HW := hide (HW.out.trans (hb.mono HW.out.size))
      replace HA := hide (HA.out.below hb)
      replace HS1 := hide (HS1.out.below hb)
      replace HS2 := hide (HS2.out.below hb)
      clear hb
      go_wp2_with fail
      refine (HM.out w4 HA.out).mono ?_
      rintro e w5 ⟨rfl, hb⟩
      replace HW := hide (HW.out.trans (hb.mono HW.out.size))
      replace HS1 := hide (HS1.out.below hb)
      replace HS2 := hide (HS2.out.below hb)
      clear hb
      go_wp2_with fail
      refine (straight_any k w5 hk1 (by omega)).mono ?_
      rintro e w6 ⟨A6, n6, c6, rfl, ho, hb⟩
      have HE := hide (equal_any A1 A6 n1 n6 c1 c6 _ _ w6 (HS1.out.below hb).il ho.il)
      rw [eqB_true rfl] at HE
      replace HW := hide (HW.out.trans (hb.mono HW.out.size))
      replace HS2 := hide (HS2.out.below hb)
      clear hb ho
      go_wp2_with fail
      refine HE.out.mono ?_
      rintro e w7 ⟨rfl, hb⟩
      replace HW := hide (HW.out.trans (hb.mono HW.out.size))
      replace HS2 := hide (HS2.out.below hb)
      clear hb HE
      have z2 : n2 = 0 := by have := HS2.out.il.len; simpa using this.symm
      subst z2
      go_wp2_with fail
      go_ret
      exact ⟨rfl, HW.out⟩
    · have hd3 : decide (i < 1) = false := decide_eq_false h3
      have hd4 : decide ((k : Int) ≤ i) = true := decide_eq_true (by omega)
      clear h2 h3
      go_enter Try.func3, Try.ntmps3
      go_wp2_with fail
      refine HI.out.mono ?_
      rintro e w1 ⟨A1, n1, c1, rfl, hs, hb⟩
      have HS1 := hide hs
      have HW := hide hb
      replace HA := hide (HA.out.below hb)
      clear hs hb
      go_wp2_with fail
      refine (HG.out w1).mono ?_
      rintro e w2 ⟨A2, n2, c2, rfl, hs, hb⟩
      have HS2 := hide hs
      replace HW := hide (HW.out.trans (hb.mono HW.out.size))
      replace HA := hide (HA.out.below hb)
      replace HS1 := hide (HS1.out.below hb)
      clear hs hb
      go_wp2_with fail
      refine (matched_l HF.out w2).mono ?_
      rintro e w3 ⟨rfl, hb⟩
      replace HW := hide (HW.out.trans (hb.mono HW.out.size))
      replace HA := hide (HA.out.below hb)
      replace HS1 := hide (HS1.out.below hb)
      replace HS2 := hide (HS2.out.below hb)
      clear hb
      go_wp2_with fail
      refine (HC.out w3 HA.out).mono ?_
      rintro e w4 ⟨rfl, hb⟩
      replace HW := hide (HW.out.trans (hb.mono HW.out.size))
      replace HA := hide (HA.out.below hb)
      replace HS1 := hide (HS1.out.below hb)
      replace HS2 := hide (HS2.out.below hb)
      clear hb
      go_wp2_with fail
      refine (HM.out w4 HA.out).mono ?_
      rintro e w5 ⟨rfl, hb⟩
      replace HW := hide (HW.out.trans (hb.mono HW.out.size))
      replace HS1 := hide (HS1.out.below hb)
      replace HS2 := hide (HS2.out.below hb)
      clear hb
      go_wp2_with fail
      refine (straight_any k w5 hk1 (by omega)).mono ?_
      rintro e w6 ⟨A6, n6, c6, rfl, ho, hb⟩
      have HE := hide (equal_any A1 A6 n1 n6 c1 c6 _ _ w6 (HS1.out.below hb).il ho.il)
      rw [eqB_true rfl] at HE
      replace HW := hide (HW.out.trans (hb.mono HW.out.size))
      replace HS2 := hide (HS2.out.below hb)
      clear hb ho
      go_wp2_with fail
      refine HE.out.mono ?_
      rintro e w7 ⟨rfl, hb⟩
      replace HW := hide (HW.out.trans (hb.mono HW.out.size))
      replace HS2 := hide (HS2.out.below hb)
      clear hb HE
      have z2 : n2 = 0 := by have := HS2.out.il.len; simpa using this.symm
      subst z2
      go_wp2_with fail
      go_ret
      exact ⟨rfl, HW.out⟩
  · obtain ⟨j, hj⟩ : ∃ j : Nat, i = (j : Int) := ⟨i.toNat, by omega⟩
    subst hj
    have hj1 : 1 ≤ j := by omega
    have hjk : j < k := by omega
    have e3 := geE_ok hj1 hjk hk6
    have e4 := geL_ok hj1 hjk hk6
    rw [e3, e4] at HG
    have hd3 : decide ((j : Int) < 1) = false := decide_eq_false (by omega)
    have hd4 : decide ((k : Int) ≤ (j : Int)) = false := decide_eq_false (by omega)
    have hd5 : decide (k ≤ j) = false := decide_eq_false (by omega)
    clear e1 e2 e3 e4 h1 h2
    go_enter Try.func3, Try.ntmps3
    go_wp2_with fail
    refine HI.out.mono ?_
    rintro e w1 ⟨A1, n1, c1, rfl, hs, hb⟩
    have HS1 := hide hs
    have HW := hide hb
    replace HA := hide (HA.out.below hb)
    clear hs hb
    go_wp2_with fail
    refine (HG.out w1).mono ?_
    rintro e w2 ⟨A2, n2, c2, rfl, hs, hb⟩
    have HS2 := hide hs
    replace HW := hide (HW.out.trans (hb.mono HW.out.size))
    replace HA := hide (HA.out.below hb)
    replace HS1 := hide (HS1.out.below hb)
    clear hs hb
    go_wp2_with fail
    refine (matched_l HF.out w2).mono ?_
    rintro e w3 ⟨rfl, hb⟩
    replace HW := hide (HW.out.trans (hb.mono HW.out.size))
    replace HA := hide (HA.out.below hb)
    replace HS1 := hide (HS1.out.below hb)
    replace HS2 := hide (HS2.out.below hb)
    clear hb
    go_wp2_with fail
    refine (HC.out w3 HA.out).mono ?_
    rintro e w4 ⟨rfl, hb⟩
    replace HW := hide (HW.out.trans (hb.mono HW.out.size))
    replace HA := hide (HA.out.below hb)
    replace HS1 := hide (HS1.out.below hb)
    replace HS2 := hide (HS2.out.below hb)
    clear hb
    go_wp2_with fail
    refine (HM.out w4 HA.out).mono ?_
    rintro e w5 ⟨rfl, hb⟩
    replace HW := hide (HW.out.trans (hb.mono HW.out.size))
    replace HS1 := hide (HS1.out.below hb)
    replace HS2 := hide (HS2.out.below hb)
    clear hb
    go_wp2_with fail
    refine (straight_any k w5 hk1 (by omega)).mono ?_
    rintro e w6 ⟨A6, n6, c6, rfl, ho, hb⟩
    have HE := hide (equal_any A1 A6 n1 n6 c1 c6 _ _ w6 (HS1.out.below hb).il ho.il)
    rw [eqB_true rfl] at HE
    replace HW := hide (HW.out.trans (hb.mono HW.out.size))
    replace HS2 := hide (HS2.out.below hb)
    clear hb ho
    go_wp2_with fail
    refine HE.out.mono ?_
    rintro e w7 ⟨rfl, hb⟩
    replace HW := hide (HW.out.trans (hb.mono HW.out.size))
    replace HS2 := hide (HS2.out.below hb)
    clear hb HE
    go_wp2_with fail
    refine (hook_any k j w7 hj1 hjk (by omega)).mono ?_
    rintro e w8 ⟨A8, n8, c8, rfl, ho, hb⟩
    have HE := hide (equal_any A2 A8 n2 n8 c2 c8 _ _ w8 (HS2.out.below hb).il ho.il)
    rw [eqB_true rfl] at HE
    replace HW := hide (HW.out.trans (hb.mono HW.out.size))
    clear hb ho
    go_wp2_with fail
    refine HE.out.mono ?_
    rintro e w9 ⟨rfl, hb⟩
    replace HW := hide (HW.out.trans (hb.mono HW.out.size))
    clear hb HE
    go_wp2_with fail
    go_ret
    exact ⟨rfl, HW.out⟩
end Go.Proofs.Ythhcjnmlpojjeaa
