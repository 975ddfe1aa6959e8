/- timblaw1.MatchingProducts, for a package temperleylieb that answers as it should. (Written by tools/gen_tlpro.py.) -/
import Derived.Test.YthhcjnmlpojjeaaTlS
namespace Go.Proofs.Ythhcjnmlpojjeaa
set_option linter.unusedVariables false
set_option linter.unusedSimpArgs false
open Go.RowKit

set_option maxRecDepth 100000 in
set_option maxHeartbeats 8000000 in
theorem matchingProducts_any (F : TlC) (m : Int) (A : Option Addr) (n c : Nat) (a : List Int) (B : Option Addr) (k d : Nat) (b : List Int) (w : World) (ha : SL w A n c a) (hb : SL w B k d b) (wm : (Lit.int .i64 m).wf = true) :
    Calls Try.prog 4 #[.int .i64 m, .slice A n c, .slice B k d] w fun e w' => e = .returned (.bool true) ∧ Below w.heap.size w w' := by
  have HF := hide F
  have HA := hide ha
  have HB := hide hb
  have HW := hide (Below.refl w.heap.size w)
  have HP := hide (F.product m A n c a B k d b w ha hb wm)
  have HC := hide (fun (w : World) (h : SL w A n c a) => F.closure m A n c a w h wm)
  have HM := hide (fun (w : World) (h : SL w A n c a) => mfault_any m A n c a w h.il wm)
  have HN := hide (fun (w : World) (h : SL w B k d b) => mfault_any m B k d b w h.il wm)
  obtain ⟨fa, hfa⟩ : ∃ R, Tl.mtF m a = R := ⟨_, rfl⟩
  obtain ⟨fb, hfb⟩ : ∃ R, Tl.mtF m b = R := ⟨_, rfl⟩
  have HFA := hide hfa
  have HFB := hide hfb
  rw [hfa] at HC HM
  rw [hfb] at HN
  have hnt := Bool.not_true
  have hnf := Bool.not_false
  have hxa : (fa == fa) = true := by simp
  have hxb : (fb == fb) = true := by simp
  clear F ha hb wm hfa hfb
  by_cases h1 : fa = 0
  case neg =>
    have e1 : prE m a b = fa := by unfold prE; rw [HFA.out, if_pos h1]
    have e2 : prL m a b = [] := by unfold prL; rw [e1, if_neg h1]
    have e3 : prK m a b = 0 := by unfold prK; rw [e1, if_neg h1]
    have e4 : clK m a = 0 := by unfold clK; rw [HFA.out, if_neg h1]
    rw [e1, e2, e3] at HP
    rw [e4] at HC
    have hne : (fa == 0) = false := by simpa using h1
    clear e1 e2 e3 e4 h1
    go_enter Try.func4, Try.ntmps4
    go_wp2_with fail
    refine HP.out.mono ?_
    rintro e w1 ⟨D, dn, dc, rfl, hs, hb⟩
    have HS := hide hs
    replace HW := hide (HW.out.trans (hb.mono HW.out.size))
    replace HA := hide (HA.out.below hb)
    replace HB := hide (HB.out.below hb)
    clear hs hb
    go_wp2_with fail
    refine (HC.out w1 HA.out).mono ?_
    rintro e w2 ⟨rfl, hb⟩
    replace HW := hide (HW.out.trans (hb.mono HW.out.size))
    replace HA := hide (HA.out.below hb)
    replace HB := hide (HB.out.below hb)
    replace HS := hide (HS.out.below hb)
    clear hb
    go_wp2_with fail
    refine (HM.out w2 HA.out).mono ?_
    rintro e w3 ⟨rfl, hb⟩
    replace HW := hide (HW.out.trans (hb.mono HW.out.size))
    replace HA := hide (HA.out.below hb)
    replace HB := hide (HB.out.below hb)
    replace HS := hide (HS.out.below hb)
    clear hb
    go_wp2_with fail
    refine (matched_l HF.out w3).mono ?_
    rintro e w7 ⟨rfl, hb⟩
    replace HW := hide (HW.out.trans (hb.mono HW.out.size))
    replace HA := hide (HA.out.below hb)
    replace HB := hide (HB.out.below hb)
    replace HS := hide (HS.out.below hb)
    clear hb
    have HE := hide (equal_any D none dn 0 dc 0 _ _ w7 HS.out.il (IL.nil_ w7))
    rw [eqB_true rfl] at HE
    go_wp2_with fail
    refine HE.out.mono ?_
    rintro e w8 ⟨rfl, hb⟩
    replace HW := hide (HW.out.trans (hb.mono HW.out.size))
    clear hb HE
    go_wp2_with fail
    go_ret
    exact ⟨rfl, HW.out⟩
  subst h1
  obtain ⟨q, rfl, hq1, hq6, x, hx, rfl⟩ := valid_plan HFA.out
  have HBX := hide (Tl.plan_base hq6 hx)
  have e4 := clK_ok hq1 hq6 hx
  rw [e4] at HC
  by_cases h2 : fb = 0
  case neg =>
    have e1 : prE (q : Int) (zs x) b = fb := by unfold prE; rw [HFA.out, if_neg (by simp), HFB.out]
    have e2 : prL (q : Int) (zs x) b = [] := by unfold prL; rw [e1, if_neg h2]
    have e3 : prK (q : Int) (zs x) b = 0 := by unfold prK; rw [e1, if_neg h2]
    rw [e1, e2, e3] at HP
    have hne : (fb == 0) = false := by simpa using h2
    clear e1 e2 e3 e4 h2
    go_enter Try.func4, Try.ntmps4
    go_wp2_with fail
    refine HP.out.mono ?_
    rintro e w1 ⟨D, dn, dc, rfl, hs, hb⟩
    have HS := hide hs
    replace HW := hide (HW.out.trans (hb.mono HW.out.size))
    replace HA := hide (HA.out.below hb)
    replace HB := hide (HB.out.below hb)
    clear hs hb
    go_wp2_with fail
    refine (HC.out w1 HA.out).mono ?_
    rintro e w2 ⟨rfl, hb⟩
    replace HW := hide (HW.out.trans (hb.mono HW.out.size))
    replace HA := hide (HA.out.below hb)
    replace HB := hide (HB.out.below hb)
    replace HS := hide (HS.out.below hb)
    clear hb
    go_wp2_with fail
    refine (HM.out w2 HA.out).mono ?_
    rintro e w3 ⟨rfl, hb⟩
    replace HW := hide (HW.out.trans (hb.mono HW.out.size))
    replace HA := hide (HA.out.below hb)
    replace HB := hide (HB.out.below hb)
    replace HS := hide (HS.out.below hb)
    clear hb
    go_wp2_with fail
    refine (HN.out w3 HB.out).mono ?_
    rintro e w4 ⟨rfl, hb⟩
    replace HW := hide (HW.out.trans (hb.mono HW.out.size))
    replace HA := hide (HA.out.below hb)
    replace HB := hide (HB.out.below hb)
    replace HS := hide (HS.out.below hb)
    clear hb
    go_wp2_with fail
    refine (circles_any q A n c x w4 HA.out.il HBX.out.mat.ok hq1 (by omega)).mono ?_
    rintro e w6 ⟨rfl, hb⟩
    replace HW := hide (HW.out.trans (hb.mono HW.out.size))
    replace HA := hide (HA.out.below hb)
    replace HB := hide (HB.out.below hb)
    replace HS := hide (HS.out.below hb)
    clear hb
    go_wp2_with fail
    refine (matched_l HF.out w6).mono ?_
    rintro e w7 ⟨rfl, hb⟩
    replace HW := hide (HW.out.trans (hb.mono HW.out.size))
    replace HA := hide (HA.out.below hb)
    replace HB := hide (HB.out.below hb)
    replace HS := hide (HS.out.below hb)
    clear hb
    have HE := hide (equal_any D none dn 0 dc 0 _ _ w7 HS.out.il (IL.nil_ w7))
    rw [eqB_true rfl] at HE
    go_wp2_with fail
    refine HE.out.mono ?_
    rintro e w8 ⟨rfl, hb⟩
    replace HW := hide (HW.out.trans (hb.mono HW.out.size))
    clear hb HE
    go_wp2_with fail
    go_ret
    exact ⟨rfl, HW.out⟩
  subst h2
  obtain ⟨q2, hqq, _, _, y, hy, rfl⟩ := valid_plan HFB.out
  have hq2 : q = q2 := by omega
  subst hq2
  have HBY := hide (Tl.plan_base hq6 hy)
  have e1 := prE_ok hq1 hq6 hx hy
  obtain ⟨e2, e3⟩ := prL_ok hq1 hq6 hx hy
  rw [e1, e2, e3] at HP
  generalize hlo : (Tl.mul q x y).2 = lo at HP
  have HLO := hide hlo
  clear e1 e2 e3 e4 hqq hlo
  go_enter Try.func4, Try.ntmps4
  go_wp2_with fail
  refine HP.out.mono ?_
  rintro e w1 ⟨D, dn, dc, rfl, hs, hb⟩
  have HS := hide hs
  replace HW := hide (HW.out.trans (hb.mono HW.out.size))
  replace HA := hide (HA.out.below hb)
  replace HB := hide (HB.out.below hb)
  clear hs hb
  go_wp2_with fail
  refine (HC.out w1 HA.out).mono ?_
  rintro e w2 ⟨rfl, hb⟩
  replace HW := hide (HW.out.trans (hb.mono HW.out.size))
  replace HA := hide (HA.out.below hb)
  replace HB := hide (HB.out.below hb)
  replace HS := hide (HS.out.below hb)
  clear hb
  go_wp2_with fail
  refine (HM.out w2 HA.out).mono ?_
  rintro e w3 ⟨rfl, hb⟩
  replace HW := hide (HW.out.trans (hb.mono HW.out.size))
  replace HA := hide (HA.out.below hb)
  replace HB := hide (HB.out.below hb)
  replace HS := hide (HS.out.below hb)
  clear hb
  go_wp2_with fail
  refine (HN.out w3 HB.out).mono ?_
  rintro e w4 ⟨rfl, hb⟩
  replace HW := hide (HW.out.trans (hb.mono HW.out.size))
  replace HA := hide (HA.out.below hb)
  replace HB := hide (HB.out.below hb)
  replace HS := hide (HS.out.below hb)
  clear hb
  have HLIT := hide (show ILL (w4.alloc (.cells #[.slice A n c, .slice B k d] 22)) (some ⟨w4.heap.size, 0, none⟩) 2 [zs x, zs y] from
    ILL.lit (vs := [.slice A n c, .slice B k d]) rfl (by simp) (fun j hj => by
      match j, hj with
      | 0, _ => exact ⟨_, _, _, rfl, HA.out.il⟩
      | 1, _ => exact ⟨_, _, _, rfl, HB.out.il⟩
      | j + 2, h => exact absurd h (by simp)) rfl rfl)
  have hal : Below w4.heap.size w4 (w4.alloc (.cells #[.slice A n c, .slice B k d] 22)) := (Below.refl _ _).alloc (Nat.le_refl _) _
  have hST := (stack_any q (some ⟨w4.heap.size, 0, none⟩) 2 2 [x, y] _ ⟨(by exact HLIT.out : ILL _ _ 2 ([x, y].map zs)), fun z hz => by
    rcases List.mem_cons.1 hz with rfl | hz
    · exact HBX.out.mat.ok
    · rw [List.mem_singleton.1 hz]; exact HBY.out.mat.ok⟩ hq1 (by omega) (by omega) (by omega) (Tl.two_le HBX.out HBY.out))
  rw [show (Tl.stk q [x, y]).2 = lo from HLO.out] at hST
  have HST := hide hST
  clear hST
  go_wp2_with fail
  refine HST.out.mono ?_
  rintro e w5 ⟨E, en, ec, rfl, ho, hb0⟩
  have hb := hal.trans (hb0.mono hal.size)
  replace HW := hide (HW.out.trans (hb.mono HW.out.size))
  replace HA := hide (HA.out.below hb)
  replace HB := hide (HB.out.below hb)
  replace HS := hide (HS.out.below hb)
  have HE5 := hide ho.il
  clear ho hb hb0 hal HLIT HST
  go_wp2_with fail
  refine (circles_any q A n c x w5 HA.out.il HBX.out.mat.ok hq1 (by omega)).mono ?_
  rintro e w6 ⟨rfl, hb⟩
  replace HW := hide (HW.out.trans (hb.mono HW.out.size))
  replace HA := hide (HA.out.below hb)
  replace HB := hide (HB.out.below hb)
  replace HS := hide (HS.out.below hb)
  replace HE5 := hide (HE5.out.below hb)
  clear hb
  go_wp2_with fail
  refine (matched_l HF.out w6).mono ?_
  rintro e w7 ⟨rfl, hb⟩
  replace HW := hide (HW.out.trans (hb.mono HW.out.size))
  replace HA := hide (HA.out.below hb)
  replace HB := hide (HB.out.below hb)
  replace HS := hide (HS.out.below hb)
  replace HE5 := hide (HE5.out.below hb)
  clear hb
  have HE := hide (equal_any D E dn en dc ec _ _ w7 HS.out.il HE5.out)
  rw [eqB_true rfl] at HE
  go_wp2_with fail
  refine HE.out.mono ?_
  rintro e w8 ⟨rfl, hb⟩
  replace HW := hide (HW.out.trans (hb.mono HW.out.size))
  clear hb HE
  go_wp2_with fail
  go_ret
  exact ⟨rfl, HW.out⟩
end Go.Proofs.Ythhcjnmlpojjeaa
