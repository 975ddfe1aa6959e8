/- timblaw1.FreeCycles, for a package freegroup that answers as it should. -/
import Derived.Test.YtbckgomidoelaaaFreeC
namespace Go.Proofs.Ytbckgomidoelaaa
set_option linter.unusedVariables false
set_option linter.unusedSimpArgs false
open Go.RowKit

theorem RootOf.is {xs rs d : List Int} {k : Int} {j : Nat} (h : RootOf xs rs k) (hx : ffault xs = 0) (hne : nf xs ≠ []) (hr : IsRoot (core (nf xs)).1 d j) : rs = (core (nf xs)).2 ++ d ++ invw (core (nf xs)).2 ∧ k = j := by
  have h0 : rootE xs = 0 := by unfold rootE; rw [if_pos hx, if_neg hne]
  obtain ⟨d', j', hr', hrs, hk⟩ := h.1 h0
  obtain ⟨rfl, rfl⟩ := hr'.unique hr (core_ne (nf_red xs) hne)
  exact ⟨hrs, hk⟩

set_option maxRecDepth 100000 in
set_option maxHeartbeats 4000000 in
theorem freeCycles_any (F : FreeC) (A B : Option Addr) (n c m d : Nat) (xs ys : List Int) (w : World) (ha : SL w A n c xs) (hb : SL w B m d ys) :
    Calls Try.prog 4 #[.slice A n c, .slice B m d] w fun e w' => e = .returned (.bool true) ∧ Below w.heap.size w w' := by
  have HF := hide F
  have HA := hide ha
  have HB := hide hb
  have HW := hide (Below.refl w.heap.size w)
  clear F ha hb
  go_enter Try.func4, Try.ntmps4
  go_wp2_with fail
  refine (HF.out.cyclic A n c xs _ (HA.out.below HW.out)).mono ?_
  rintro e w101 ⟨Cp, c1, c2, Up, u1, u2, rfl, hc, hu, hb⟩
  replace HW := hide (HW.out.trans (hb.mono HW.out.size))
  have HCC := hide hc
  have HUU := hide hu
  clear hb hc hu 
  go_wp2_with fail
  refine (HF.out.conjugate A B n c m d xs ys _ (HA.out.below HW.out) (HB.out.below HW.out)).mono ?_
  rintro e w102 ⟨rfl, hb⟩
  replace HCC := hide (HCC.out.below hb)
  replace HUU := hide (HUU.out.below hb)
  replace HW := hide (HW.out.trans (hb.mono HW.out.size))
  clear hb  
  go_wp2_with fail
  refine (HF.out.root A n c xs _ (HA.out.below HW.out)).mono ?_
  rintro e w103 ⟨Rp, r1, r2, rs, k, rfl, hr, hroot, hb⟩
  replace HCC := hide (HCC.out.below hb)
  replace HUU := hide (HUU.out.below hb)
  replace HW := hide (HW.out.trans (hb.mono HW.out.size))
  have HRO := hide hroot
  have HRR := hide hr
  clear hb hr hroot
  go_wp2_with fail
  refine (free_fault_any A n c xs _ (HA.out.below HW.out).il).mono ?_
  rintro e w' ⟨rfl, rfl⟩
  by_cases hx : ffault xs = 0
  · have hz := ffault_zero hx
    have HX : Hid (∀ x ∈ xs, -1000 ≤ x ∧ x ≤ 1000) := hide fun x h => by have := hz.2 x h; omega
    have HX1 : Hid (∀ x ∈ nf xs, -1000 ≤ x ∧ x ≤ 1000) := hide fun x h => HX.out x (nf_mem h)
    have HN : Hid (n ≤ 1000) := hide (by have h1 := HA.out.il.len; have h2 := hz.1; omega)
    have HXZ := hide hx
    have e1 : cycL xs = (core (nf xs)).1 := by unfold cycL; rw [if_pos hx]
    have e2 : cycU xs = (core (nf xs)).2 := by unfold cycU; rw [if_pos hx]
    rw [e1] at HCC
    rw [e2] at HUU
    have HFF := hide (fun w (h : SL w B m d ys) => free_fault_any B m d ys w h.il)
    have eb : bothE xs ys = ffault ys := by unfold bothE; rw [if_pos hx]
    rw [eb]
    clear e1 e2 hz eb
    by_cases hy : ffault ys = 0
    · have hz := ffault_zero hy
      have HY : Hid (∀ x ∈ ys, -1000 ≤ x ∧ x ≤ 1000) := hide fun x h => by have := hz.2 x h; omega
      have HM : Hid (m ≤ 1000) := hide (by have h1 := HB.out.il.len; have h2 := hz.1; omega)
      have ec : conB xs ys = conjB (core (nf xs)).1 (core (nf ys)).1 := by unfold conB bothE; rw [if_pos hx, if_pos hy]
      rw [ec, hy]
      rw [hy] at HFF
      clear hz ec hy
      by_cases hne : nf xs = []
      · have HNF := hide hne
        have hre : rootE xs = 4 := by unfold rootE; rw [if_pos hx, if_pos hne]
        rw [hre, hx]
        clear hne hre hx
        go_wp2_with fail
        refine (HFF.out _ (HB.out.below HW.out)).mono ?_
        rintro e w' ⟨rfl, rfl⟩
        go_wp2_with fail
        refine (short_any A n c xs _ (HA.out.below HW.out).il HA.out.nil HX.out).mono ?_
        rintro e w104 ⟨T1, t1, tc1, rfl, ho, hb⟩
        replace HCC := hide (HCC.out.below hb)
        replace HUU := hide (HUU.out.below hb)
        replace HRR := hide (HRR.out.below hb)
        replace HW := hide (HW.out.trans (hb.mono HW.out.size))
        have ht1 := ho.len
        clear hb  ho
        have ht0 : t1 = 0 := by rw [← ht1, HNF.out]; rfl
        subst ht0
        clear ht1
        go_wp2_with fail
        refine (short_any A n c xs _ (HA.out.below HW.out).il HA.out.nil HX.out).mono ?_
        rintro e w105 ⟨T2, t2, tc2, rfl, ho, hb⟩
        replace HCC := hide (HCC.out.below hb)
        replace HUU := hide (HUU.out.below hb)
        replace HRR := hide (HRR.out.below hb)
        replace HW := hide (HW.out.trans (hb.mono HW.out.size))
        have HT2 := hide ho
        clear hb ho 
        go_wp2_with fail
        refine (core_any t2 T2 t2 tc2 (nf xs) _ (Nat.le_refl _) HT2.out.il HT2.out.nil HT2.out.cap HT2.out.capMax HX1.out).mono ?_
        rintro e w106 ⟨Dp, d1, d2, Vp, v1, v2, rfl, hd, -, -, hv, -, -, -, hb⟩
        replace HCC := hide (HCC.out.below hb)
        replace HUU := hide (HUU.out.below hb)
        replace HRR := hide (HRR.out.below hb)
        replace HW := hide (HW.out.trans (hb.mono HW.out.size))
        have HDD := hide hd
        have HVV := hide hv
        clear hb hd hv HT2
        obtain ⟨hrs, hk⟩ := HRO.out.2 (by unfold rootE; rw [if_pos HXZ.out, if_pos HNF.out]; decide)
        rw [hrs] at HRR
        subst hk
        clear hrs HRO
        go_wp2_with fail
        refine (free_any HF.out _).mono ?_
        rintro e w107 ⟨rfl, hb⟩
        replace HCC := hide (HCC.out.below hb)
        replace HUU := hide (HUU.out.below hb)
        replace HRR := hide (HRR.out.below hb)
        replace HDD := hide (HDD.out.below hb)
        replace HVV := hide (HVV.out.below hb)
        replace HW := hide (HW.out.trans (hb.mono HW.out.size))
        clear hb  
        go_wp2_with fail
        refine (equal_any Cp _ c1 _ c2 _ _ _ _ HCC.out.il HDD.out).mono ?_
        rintro e w108 ⟨rfl, hb⟩
        replace HCC := hide (HCC.out.below hb)
        replace HUU := hide (HUU.out.below hb)
        replace HRR := hide (HRR.out.below hb)
        replace HDD := hide (HDD.out.below hb)
        replace HVV := hide (HVV.out.below hb)
        replace HW := hide (HW.out.trans (hb.mono HW.out.size))
        rw [eqB_true rfl]
        clear hb  
        go_wp2_with fail
        refine (equal_any Up _ u1 _ u2 _ _ _ _ HUU.out.il HVV.out).mono ?_
        rintro e w109 ⟨rfl, hb⟩
        replace HCC := hide (HCC.out.below hb)
        replace HUU := hide (HUU.out.below hb)
        replace HRR := hide (HRR.out.below hb)
        replace HDD := hide (HDD.out.below hb)
        replace HVV := hide (HVV.out.below hb)
        replace HW := hide (HW.out.trans (hb.mono HW.out.size))
        rw [eqB_true rfl]
        clear hb  
        go_wp2_with fail
        refine (conj_any A B n c m d xs ys _ (HA.out.below HW.out).il HA.out.nil HX.out HN.out (HB.out.below HW.out).il HB.out.nil HY.out HM.out).mono ?_
        rintro e w110 ⟨rfl, hb⟩
        replace HCC := hide (HCC.out.below hb)
        replace HUU := hide (HUU.out.below hb)
        replace HRR := hide (HRR.out.below hb)
        replace HDD := hide (HDD.out.below hb)
        replace HVV := hide (HVV.out.below hb)
        replace HW := hide (HW.out.trans (hb.mono HW.out.size))
        clear hb  
        go_wp2_with fail
        refine (equal_any Rp _ r1 _ r2 _ _ _ _ HRR.out.il (IL.nil_ _)).mono ?_
        rintro e w111 ⟨rfl, hb⟩
        replace HCC := hide (HCC.out.below hb)
        replace HUU := hide (HUU.out.below hb)
        replace HRR := hide (HRR.out.below hb)
        replace HDD := hide (HDD.out.below hb)
        replace HVV := hide (HVV.out.below hb)
        replace HW := hide (HW.out.trans (hb.mono HW.out.size))
        rw [eqB_true rfl]
        clear hb  
        go_wp2_with fail
        go_ret
        exact ⟨rfl, HW.out⟩
      · have HNF := hide hne
        have hre : rootE xs = 0 := by unfold rootE; rw [if_pos hx, if_neg hne]
        rw [hre, hx]
        clear hne hre hx
        go_wp2_with fail
        refine (HFF.out _ (HB.out.below HW.out)).mono ?_
        rintro e w' ⟨rfl, rfl⟩
        go_wp2_with fail
        refine (short_any A n c xs _ (HA.out.below HW.out).il HA.out.nil HX.out).mono ?_
        rintro e w112 ⟨T1, t1, tc1, rfl, ho, hb⟩
        replace HCC := hide (HCC.out.below hb)
        replace HUU := hide (HUU.out.below hb)
        replace HRR := hide (HRR.out.below hb)
        replace HW := hide (HW.out.trans (hb.mono HW.out.size))
        have ht1 := ho.len
        clear hb  ho
        have ht0 : 0 < t1 := by rw [← ht1]; exact List.length_pos_iff.2 HNF.out
        clear ht1
        go_wp2_with fail
        refine (short_any A n c xs _ (HA.out.below HW.out).il HA.out.nil HX.out).mono ?_
        rintro e w113 ⟨T2, t2, tc2, rfl, ho, hb⟩
        replace HCC := hide (HCC.out.below hb)
        replace HUU := hide (HUU.out.below hb)
        replace HRR := hide (HRR.out.below hb)
        replace HW := hide (HW.out.trans (hb.mono HW.out.size))
        have HT2 := hide ho
        clear hb ho 
        go_wp2_with fail
        refine (core_any t2 T2 t2 tc2 (nf xs) _ (Nat.le_refl _) HT2.out.il HT2.out.nil HT2.out.cap HT2.out.capMax HX1.out).mono ?_
        rintro e w114 ⟨Dp, d1, d2, Vp, v1, v2, rfl, hd, -, -, hv, -, -, -, hb⟩
        replace HCC := hide (HCC.out.below hb)
        replace HUU := hide (HUU.out.below hb)
        replace HRR := hide (HRR.out.below hb)
        replace HW := hide (HW.out.trans (hb.mono HW.out.size))
        have HDD := hide hd
        have HVV := hide hv
        clear hb hd hv HT2
        go_wp2_with fail
        refine (rooted_any A n c xs _ (HA.out.below HW.out).il HA.out.nil HX.out HN.out HNF.out).mono ?_
        rintro e w115 ⟨dd, kk, Qp, q1, q2, hir, rfl, ho, hb⟩
        replace HCC := hide (HCC.out.below hb)
        replace HUU := hide (HUU.out.below hb)
        replace HRR := hide (HRR.out.below hb)
        replace HDD := hide (HDD.out.below hb)
        replace HVV := hide (HVV.out.below hb)
        replace HW := hide (HW.out.trans (hb.mono HW.out.size))
        obtain ⟨hrs, hk⟩ := HRO.out.is HXZ.out HNF.out hir
        rw [hrs] at HRR
        subst hk
        have HQQ := hide ho.il
        clear hb hir hrs ho HRO
        go_wp2_with fail
        refine (free_any HF.out _).mono ?_
        rintro e w116 ⟨rfl, hb⟩
        replace HCC := hide (HCC.out.below hb)
        replace HUU := hide (HUU.out.below hb)
        replace HRR := hide (HRR.out.below hb)
        replace HDD := hide (HDD.out.below hb)
        replace HVV := hide (HVV.out.below hb)
        replace HQQ := hide (HQQ.out.below hb)
        replace HW := hide (HW.out.trans (hb.mono HW.out.size))
        clear hb  
        go_wp2_with fail
        refine (equal_any Cp _ c1 _ c2 _ _ _ _ HCC.out.il HDD.out).mono ?_
        rintro e w117 ⟨rfl, hb⟩
        replace HCC := hide (HCC.out.below hb)
        replace HUU := hide (HUU.out.below hb)
        replace HRR := hide (HRR.out.below hb)
        replace HDD := hide (HDD.out.below hb)
        replace HVV := hide (HVV.out.below hb)
        replace HQQ := hide (HQQ.out.below hb)
        replace HW := hide (HW.out.trans (hb.mono HW.out.size))
        rw [eqB_true rfl]
        clear hb  
        go_wp2_with fail
        refine (equal_any Up _ u1 _ u2 _ _ _ _ HUU.out.il HVV.out).mono ?_
        rintro e w118 ⟨rfl, hb⟩
        replace HCC := hide (HCC.out.below hb)
        replace HUU := hide (HUU.out.below hb)
        replace HRR := hide (HRR.out.below hb)
        replace HDD := hide (HDD.out.below hb)
        replace HVV := hide (HVV.out.below hb)
        replace HQQ := hide (HQQ.out.below hb)
        replace HW := hide (HW.out.trans (hb.mono HW.out.size))
        rw [eqB_true rfl]
        clear hb  
        go_wp2_with fail
        refine (conj_any A B n c m d xs ys _ (HA.out.below HW.out).il HA.out.nil HX.out HN.out (HB.out.below HW.out).il HB.out.nil HY.out HM.out).mono ?_
        rintro e w119 ⟨rfl, hb⟩
        replace HCC := hide (HCC.out.below hb)
        replace HUU := hide (HUU.out.below hb)
        replace HRR := hide (HRR.out.below hb)
        replace HDD := hide (HDD.out.below hb)
        replace HVV := hide (HVV.out.below hb)
        replace HQQ := hide (HQQ.out.below hb)
        replace HW := hide (HW.out.trans (hb.mono HW.out.size))
        clear hb  
        go_wp2_with fail
        refine (equal_any Rp _ r1 _ r2 _ _ _ _ HRR.out.il HQQ.out).mono ?_
        rintro e w120 ⟨rfl, hb⟩
        replace HCC := hide (HCC.out.below hb)
        replace HUU := hide (HUU.out.below hb)
        replace HRR := hide (HRR.out.below hb)
        replace HDD := hide (HDD.out.below hb)
        replace HVV := hide (HVV.out.below hb)
        replace HQQ := hide (HQQ.out.below hb)
        replace HW := hide (HW.out.trans (hb.mono HW.out.size))
        rw [eqB_true rfl]
        clear hb  
        go_wp2_with fail
        go_ret
        exact ⟨rfl, HW.out⟩
    · have ec : conB xs ys = false := by unfold conB bothE; rw [if_pos hx, if_neg hy]
      have hyb : (ffault ys == 0) = false := by simpa using hy
      rw [ec]
      generalize ffault ys = f at *
      clear ec hy
      by_cases hne : nf xs = []
      · have HNF := hide hne
        have hre : rootE xs = 4 := by unfold rootE; rw [if_pos hx, if_pos hne]
        rw [hre, hx]
        clear hne hre hx
        go_wp2_with fail
        refine (HFF.out _ (HB.out.below HW.out)).mono ?_
        rintro e w' ⟨rfl, rfl⟩
        go_wp2_with fail
        refine (short_any A n c xs _ (HA.out.below HW.out).il HA.out.nil HX.out).mono ?_
        rintro e w121 ⟨T1, t1, tc1, rfl, ho, hb⟩
        replace HCC := hide (HCC.out.below hb)
        replace HUU := hide (HUU.out.below hb)
        replace HRR := hide (HRR.out.below hb)
        replace HW := hide (HW.out.trans (hb.mono HW.out.size))
        have ht1 := ho.len
        clear hb  ho
        have ht0 : t1 = 0 := by rw [← ht1, HNF.out]; rfl
        subst ht0
        clear ht1
        go_wp2_with fail
        refine (short_any A n c xs _ (HA.out.below HW.out).il HA.out.nil HX.out).mono ?_
        rintro e w122 ⟨T2, t2, tc2, rfl, ho, hb⟩
        replace HCC := hide (HCC.out.below hb)
        replace HUU := hide (HUU.out.below hb)
        replace HRR := hide (HRR.out.below hb)
        replace HW := hide (HW.out.trans (hb.mono HW.out.size))
        have HT2 := hide ho
        clear hb ho 
        go_wp2_with fail
        refine (core_any t2 T2 t2 tc2 (nf xs) _ (Nat.le_refl _) HT2.out.il HT2.out.nil HT2.out.cap HT2.out.capMax HX1.out).mono ?_
        rintro e w123 ⟨Dp, d1, d2, Vp, v1, v2, rfl, hd, -, -, hv, -, -, -, hb⟩
        replace HCC := hide (HCC.out.below hb)
        replace HUU := hide (HUU.out.below hb)
        replace HRR := hide (HRR.out.below hb)
        replace HW := hide (HW.out.trans (hb.mono HW.out.size))
        have HDD := hide hd
        have HVV := hide hv
        clear hb hd hv HT2
        obtain ⟨hrs, hk⟩ := HRO.out.2 (by unfold rootE; rw [if_pos HXZ.out, if_pos HNF.out]; decide)
        rw [hrs] at HRR
        subst hk
        clear hrs HRO
        go_wp2_with fail
        refine (free_any HF.out _).mono ?_
        rintro e w124 ⟨rfl, hb⟩
        replace HCC := hide (HCC.out.below hb)
        replace HUU := hide (HUU.out.below hb)
        replace HRR := hide (HRR.out.below hb)
        replace HDD := hide (HDD.out.below hb)
        replace HVV := hide (HVV.out.below hb)
        replace HW := hide (HW.out.trans (hb.mono HW.out.size))
        clear hb  
        go_wp2_with fail
        refine (equal_any Cp _ c1 _ c2 _ _ _ _ HCC.out.il HDD.out).mono ?_
        rintro e w125 ⟨rfl, hb⟩
        replace HCC := hide (HCC.out.below hb)
        replace HUU := hide (HUU.out.below hb)
        replace HRR := hide (HRR.out.below hb)
        replace HDD := hide (HDD.out.below hb)
        replace HVV := hide (HVV.out.below hb)
        replace HW := hide (HW.out.trans (hb.mono HW.out.size))
        rw [eqB_true rfl]
        clear hb  
        go_wp2_with fail
        refine (equal_any Up _ u1 _ u2 _ _ _ _ HUU.out.il HVV.out).mono ?_
        rintro e w126 ⟨rfl, hb⟩
        replace HCC := hide (HCC.out.below hb)
        replace HUU := hide (HUU.out.below hb)
        replace HRR := hide (HRR.out.below hb)
        replace HDD := hide (HDD.out.below hb)
        replace HVV := hide (HVV.out.below hb)
        replace HW := hide (HW.out.trans (hb.mono HW.out.size))
        rw [eqB_true rfl]
        clear hb  
        go_wp2_with fail
        refine (equal_any Rp _ r1 _ r2 _ _ _ _ HRR.out.il (IL.nil_ _)).mono ?_
        rintro e w127 ⟨rfl, hb⟩
        replace HCC := hide (HCC.out.below hb)
        replace HUU := hide (HUU.out.below hb)
        replace HRR := hide (HRR.out.below hb)
        replace HDD := hide (HDD.out.below hb)
        replace HVV := hide (HVV.out.below hb)
        replace HW := hide (HW.out.trans (hb.mono HW.out.size))
        rw [eqB_true rfl]
        clear hb  
        go_wp2_with fail
        go_ret
        exact ⟨rfl, HW.out⟩
      · have HNF := hide hne
        have hre : rootE xs = 0 := by unfold rootE; rw [if_pos hx, if_neg hne]
        rw [hre, hx]
        clear hne hre hx
        go_wp2_with fail
        refine (HFF.out _ (HB.out.below HW.out)).mono ?_
        rintro e w' ⟨rfl, rfl⟩
        go_wp2_with fail
        refine (short_any A n c xs _ (HA.out.below HW.out).il HA.out.nil HX.out).mono ?_
        rintro e w128 ⟨T1, t1, tc1, rfl, ho, hb⟩
        replace HCC := hide (HCC.out.below hb)
        replace HUU := hide (HUU.out.below hb)
        replace HRR := hide (HRR.out.below hb)
        replace HW := hide (HW.out.trans (hb.mono HW.out.size))
        have ht1 := ho.len
        clear hb  ho
        have ht0 : 0 < t1 := by rw [← ht1]; exact List.length_pos_iff.2 HNF.out
        clear ht1
        go_wp2_with fail
        refine (short_any A n c xs _ (HA.out.below HW.out).il HA.out.nil HX.out).mono ?_
        rintro e w129 ⟨T2, t2, tc2, rfl, ho, hb⟩
        replace HCC := hide (HCC.out.below hb)
        replace HUU := hide (HUU.out.below hb)
        replace HRR := hide (HRR.out.below hb)
        replace HW := hide (HW.out.trans (hb.mono HW.out.size))
        have HT2 := hide ho
        clear hb ho 
        go_wp2_with fail
        refine (core_any t2 T2 t2 tc2 (nf xs) _ (Nat.le_refl _) HT2.out.il HT2.out.nil HT2.out.cap HT2.out.capMax HX1.out).mono ?_
        rintro e w130 ⟨Dp, d1, d2, Vp, v1, v2, rfl, hd, -, -, hv, -, -, -, hb⟩
        replace HCC := hide (HCC.out.below hb)
        replace HUU := hide (HUU.out.below hb)
        replace HRR := hide (HRR.out.below hb)
        replace HW := hide (HW.out.trans (hb.mono HW.out.size))
        have HDD := hide hd
        have HVV := hide hv
        clear hb hd hv HT2
        go_wp2_with fail
        refine (rooted_any A n c xs _ (HA.out.below HW.out).il HA.out.nil HX.out HN.out HNF.out).mono ?_
        rintro e w131 ⟨dd, kk, Qp, q1, q2, hir, rfl, ho, hb⟩
        replace HCC := hide (HCC.out.below hb)
        replace HUU := hide (HUU.out.below hb)
        replace HRR := hide (HRR.out.below hb)
        replace HDD := hide (HDD.out.below hb)
        replace HVV := hide (HVV.out.below hb)
        replace HW := hide (HW.out.trans (hb.mono HW.out.size))
        obtain ⟨hrs, hk⟩ := HRO.out.is HXZ.out HNF.out hir
        rw [hrs] at HRR
        subst hk
        have HQQ := hide ho.il
        clear hb hir hrs ho HRO
        go_wp2_with fail
        refine (free_any HF.out _).mono ?_
        rintro e w132 ⟨rfl, hb⟩
        replace HCC := hide (HCC.out.below hb)
        replace HUU := hide (HUU.out.below hb)
        replace HRR := hide (HRR.out.below hb)
        replace HDD := hide (HDD.out.below hb)
        replace HVV := hide (HVV.out.below hb)
        replace HQQ := hide (HQQ.out.below hb)
        replace HW := hide (HW.out.trans (hb.mono HW.out.size))
        clear hb  
        go_wp2_with fail
        refine (equal_any Cp _ c1 _ c2 _ _ _ _ HCC.out.il HDD.out).mono ?_
        rintro e w133 ⟨rfl, hb⟩
        replace HCC := hide (HCC.out.below hb)
        replace HUU := hide (HUU.out.below hb)
        replace HRR := hide (HRR.out.below hb)
        replace HDD := hide (HDD.out.below hb)
        replace HVV := hide (HVV.out.below hb)
        replace HQQ := hide (HQQ.out.below hb)
        replace HW := hide (HW.out.trans (hb.mono HW.out.size))
        rw [eqB_true rfl]
        clear hb  
        go_wp2_with fail
        refine (equal_any Up _ u1 _ u2 _ _ _ _ HUU.out.il HVV.out).mono ?_
        rintro e w134 ⟨rfl, hb⟩
        replace HCC := hide (HCC.out.below hb)
        replace HUU := hide (HUU.out.below hb)
        replace HRR := hide (HRR.out.below hb)
        replace HDD := hide (HDD.out.below hb)
        replace HVV := hide (HVV.out.below hb)
        replace HQQ := hide (HQQ.out.below hb)
        replace HW := hide (HW.out.trans (hb.mono HW.out.size))
        rw [eqB_true rfl]
        clear hb  
        go_wp2_with fail
        refine (equal_any Rp _ r1 _ r2 _ _ _ _ HRR.out.il HQQ.out).mono ?_
        rintro e w135 ⟨rfl, hb⟩
        replace HCC := hide (HCC.out.below hb)
        replace HUU := hide (HUU.out.below hb)
        replace HRR := hide (HRR.out.below hb)
        replace HDD := hide (HDD.out.below hb)
        replace HVV := hide (HVV.out.below hb)
        replace HQQ := hide (HQQ.out.below hb)
        replace HW := hide (HW.out.trans (hb.mono HW.out.size))
        rw [eqB_true rfl]
        clear hb  
        go_wp2_with fail
        go_ret
        exact ⟨rfl, HW.out⟩
  · have hxb : (ffault xs == 0) = false := by simpa using hx
    have e1 : cycL xs = [] := by unfold cycL; rw [if_neg hx]
    have e2 : cycU xs = [] := by unfold cycU; rw [if_neg hx]
    have eb : bothE xs ys = ffault xs := by unfold bothE; rw [if_neg hx]
    have ec : conB xs ys = false := by unfold conB; rw [eb, if_neg hx]
    have er : rootE xs = ffault xs := by unfold rootE; rw [if_neg hx]
    obtain ⟨hrs, hk⟩ := HRO.out.2 (by rw [er]; exact hx)
    rw [e1] at HCC
    rw [e2] at HUU
    rw [hrs] at HRR
    rw [eb, ec, er]
    subst hk
    clear HRO
    generalize ffault xs = f at *
    clear e1 e2 eb ec er hrs hx
    go_wp2_with fail
    refine (free_any HF.out _).mono ?_
    rintro e w136 ⟨rfl, hb⟩
    replace HCC := hide (HCC.out.below hb)
    replace HUU := hide (HUU.out.below hb)
    replace HRR := hide (HRR.out.below hb)
    replace HW := hide (HW.out.trans (hb.mono HW.out.size))
    clear hb  
    go_wp2_with fail
    refine (equal_any Cp _ c1 _ c2 _ _ _ _ HCC.out.il (IL.nil_ _)).mono ?_
    rintro e w137 ⟨rfl, hb⟩
    replace HCC := hide (HCC.out.below hb)
    replace HUU := hide (HUU.out.below hb)
    replace HRR := hide (HRR.out.below hb)
    replace HW := hide (HW.out.trans (hb.mono HW.out.size))
    rw [eqB_true rfl]
    clear hb  
    go_wp2_with fail
    refine (equal_any Up _ u1 _ u2 _ _ _ _ HUU.out.il (IL.nil_ _)).mono ?_
    rintro e w138 ⟨rfl, hb⟩
    replace HCC := hide (HCC.out.below hb)
    replace HUU := hide (HUU.out.below hb)
    replace HRR := hide (HRR.out.below hb)
    replace HW := hide (HW.out.trans (hb.mono HW.out.size))
    rw [eqB_true rfl]
    clear hb  
    go_wp2_with fail
    refine (equal_any Rp _ r1 _ r2 _ _ _ _ HRR.out.il (IL.nil_ _)).mono ?_
    rintro e w139 ⟨rfl, hb⟩
    replace HCC := hide (HCC.out.below hb)
    replace HUU := hide (HUU.out.below hb)
    replace HRR := hide (HRR.out.below hb)
    replace HW := hide (HW.out.trans (hb.mono HW.out.size))
    rw [eqB_true rfl]
    clear hb  
    go_wp2_with fail
    go_ret
    exact ⟨rfl, HW.out⟩
end Go.Proofs.Ytbckgomidoelaaa
