/- timblaw1.FreeReduces, for a package freegroup that answers as it should. -/
import Derived.Test.YtbckgomidoelaaaFreeC
namespace Go.Proofs.Ytbckgomidoelaaa
set_option linter.unusedVariables false
set_option linter.unusedSimpArgs false
open Go.RowKit

set_option maxRecDepth 100000 in
set_option maxHeartbeats 4000000 in
theorem freeReduces_any (F : FreeC) (A B : Option Addr) (n c m d : Nat) (xs ys : List Int) (w : World) (ha : SL w A n c xs) (hb : SL w B m d ys) :
    Calls Try.prog 3 #[.slice A n c, .slice B m d] w fun e w' => e = .returned (.bool true) ∧ Below w.heap.size w w' := by
  have HF := hide F
  have HA := hide ha
  have HB := hide hb
  clear F ha hb
  go_enter Try.func3, Try.ntmps3
  go_wp2_with fail
  refine (HF.out.reduce A n c xs _ HA.out).mono ?_
  rintro e w1 ⟨A1, n1, c1, rfl, hs1, hb1⟩
  have HB1 := hide hb1
  have HS1 := hide hs1
  clear hs1 hb1
  go_wp2_with fail
  refine (HF.out.product A B n c m d xs ys _ (HA.out.below HB1.out) (HB.out.below HB1.out)).mono ?_
  rintro e w2 ⟨A2, n2, c2, rfl, hs2, hb2⟩
  have HB2 := hide (HB1.out.trans (hb2.mono HB1.out.size))
  have HS12 := hide (HS1.out.below hb2)
  have HS2 := hide hs2
  clear hs2 hb2 HB1 HS1
  go_wp2_with fail
  refine (HF.out.inverse A n c xs _ (HA.out.below HB2.out)).mono ?_
  rintro e w3 ⟨A3, n3, c3, rfl, hs3, hb3⟩
  have HB3 := hide (HB2.out.trans (hb3.mono HB2.out.size))
  have HS1 := hide (HS12.out.below hb3)
  replace HS2 := hide (HS2.out.below hb3)
  have HS3 := hide hs3
  clear hs3 hb3 HB2 HS12
  go_wp2_with fail
  refine (free_fault_any A n c xs _ (HA.out.below HB3.out).il).mono ?_
  rintro e w' ⟨rfl, rfl⟩
  by_cases hx : ffault xs = 0
  · have e1 : redL xs = nf xs := by unfold redL; rw [if_pos hx]
    have e3 : invL xs = invw (nf xs) := by unfold invL; rw [if_pos hx]
    rw [e1] at HS1
    rw [e3] at HS3
    have hz := ffault_zero hx
    have HX : Hid (∀ x ∈ xs, -1000 ≤ x ∧ x ≤ 1000) := hide fun x h => by have := hz.2 x h; omega
    have HX1 : Hid (∀ x ∈ nf xs, -1000 ≤ x ∧ x ≤ 1000) := hide fun x h => HX.out x (nf_mem h)
    have HXL := hide hz.1
    have HCH := hide (fun w (h : SL w A n c xs) => HF.out.check A n c xs w h)
    have HFF := hide (fun w (h : SL w B m d ys) => free_fault_any B m d ys w h.il)
    have hE : prodE xs ys = if ffault ys = 0 then (if 60 < (nf (xs ++ ys)).length then 2 else 0) else ffault ys := by unfold prodE; rw [if_pos hx]
    rw [hx] at HCH ⊢
    clear hz e1 e3 hx
    by_cases hy : ffault ys = 0
    · have hz := ffault_zero hy
      have HXY : Hid (∀ x ∈ xs ++ ys, -1000 ≤ x ∧ x ≤ 1000) := hide fun x h => by
        rcases List.mem_append.1 h with h | h
        · exact HX.out x h
        · have := hz.2 x h; omega
      have HYL := hide hz.1
      rw [if_pos hy] at hE
      rw [hy] at HFF
      have HE := hide hE
      clear hz hy hE
      go_wp2_with fail
      go_wp2_with fail
      refine (HFF.out _ (HB.out.below HB3.out)).mono ?_
      rintro e w' ⟨rfl, rfl⟩
      go_wp2_with fail
      refine (short_any A n c xs _ (HA.out.below HB3.out).il HA.out.nil HX.out).mono ?_
      rintro e w102 ⟨T1, t1, tc1, rfl, ho, hb⟩
      replace HS1 := hide (HS1.out.below hb)
      replace HS2 := hide (HS2.out.below hb)
      replace HS3 := hide (HS3.out.below hb)
      replace HB3 := hide (HB3.out.trans (hb.mono HB3.out.size))
      have HT1 := hide ho.sl
      clear ho hb
      go_wp2_with fail
      refine (opposite_any T1 t1 tc1 _ _ HT1.out.il HX1.out).mono ?_
      rintro e w103 ⟨T3, t3, tc3, rfl, ho, hb⟩
      replace HS1 := hide (HS1.out.below hb)
      replace HS2 := hide (HS2.out.below hb)
      replace HS3 := hide (HS3.out.below hb)
      replace HT1 := hide (HT1.out.below hb)
      replace HB3 := hide (HB3.out.trans (hb.mono HB3.out.size))
      have HT3 := hide ho.sl
      clear ho hb
      go_wp2_with fail
      have HI := hide (show ILL ((w103).alloc (.cells #[.slice A n c, .slice B m d] 22)) (some ⟨(w103).heap.size, 0, none⟩) 2 [xs, ys] from
        ILL.lit (vs := [.slice A n c, .slice B m d]) rfl (by simp) (fun j hj => by
          match j, hj with
          | 0, _ => exact ⟨_, _, _, rfl, (HA.out.below HB3.out).il⟩
          | 1, _ => exact ⟨_, _, _, rfl, (HB.out.below HB3.out).il⟩
          | j + 2, h => exact absurd h (by simp)) rfl rfl)
      have hal : Below (w103).heap.size (w103) ((w103).alloc (.cells #[.slice A n c, .slice B m d] 22)) := (Below.refl _ _).alloc (Nat.le_refl _) _
      refine (concat_any (some ⟨(w103).heap.size, 0, none⟩) 2 2 _ _ HI.out (by
        simp only [List.flatten_cons, List.flatten_nil, List.length_append, List.length_nil]
        have h1 := HXL.out
        have h2 := HYL.out
        omega)).mono ?_
      rintro e w104 ⟨P, pn, pc, rfl, ho, hb0⟩
      have hb := hal.trans (hb0.mono hal.size)
      rw [show [xs, ys].flatten = xs ++ ys by simp] at ho
      replace HS1 := hide (HS1.out.below hb)
      replace HS2 := hide (HS2.out.below hb)
      replace HS3 := hide (HS3.out.below hb)
      replace HT1 := hide (HT1.out.below hb)
      replace HT3 := hide (HT3.out.below hb)
      replace HB3 := hide (HB3.out.trans (hb.mono HB3.out.size))
      have HP := hide ho.sl
      clear ho hb hb0 hal HI
      go_wp2_with fail
      refine (short_any P pn pc (xs ++ ys) _ HP.out.il HP.out.nil HXY.out).mono ?_
      rintro e w105 ⟨T2, t2, tc2, rfl, ho, hb⟩
      replace HS1 := hide (HS1.out.below hb)
      replace HS2 := hide (HS2.out.below hb)
      replace HS3 := hide (HS3.out.below hb)
      replace HT1 := hide (HT1.out.below hb)
      replace HT3 := hide (HT3.out.below hb)
      replace HB3 := hide (HB3.out.trans (hb.mono HB3.out.size))
      have HT2 := hide ho.sl
      have hl2 := ho.len
      clear ho hb HP
      by_cases h60 : 60 < t2
      · have hE2 : prodE xs ys = 2 := by rw [HE.out, if_pos (by rw [hl2]; exact h60)]
        have e2 : prodL xs ys = [] := by unfold prodL; rw [hE2]; rfl
        rw [e2] at HS2
        rw [hE2]
        clear HE hE2 e2 hl2
        go_wp2_with fail
        refine (free_any HF.out _).mono ?_
        rintro e w106 ⟨rfl, hb⟩
        replace HS1 := hide (HS1.out.below hb)
        replace HS2 := hide (HS2.out.below hb)
        replace HS3 := hide (HS3.out.below hb)
        replace HT1 := hide (HT1.out.below hb)
        replace HT3 := hide (HT3.out.below hb)
        replace HB3 := hide (HB3.out.trans (hb.mono HB3.out.size))
        clear hb
        go_wp2_with fail
        refine (HCH.out _ (HA.out.below HB3.out)).mono ?_
        rintro e w107 ⟨rfl, hb⟩
        replace HS1 := hide (HS1.out.below hb)
        replace HS2 := hide (HS2.out.below hb)
        replace HS3 := hide (HS3.out.below hb)
        replace HT1 := hide (HT1.out.below hb)
        replace HT3 := hide (HT3.out.below hb)
        replace HB3 := hide (HB3.out.trans (hb.mono HB3.out.size))
        clear hb
        go_wp2_with fail
        refine (equal_any A1 _ n1 _ c1 _ _ _ _ HS1.out.il HT1.out.il).mono ?_
        rintro e w108 ⟨rfl, hb⟩
        replace HS1 := hide (HS1.out.below hb)
        replace HS2 := hide (HS2.out.below hb)
        replace HS3 := hide (HS3.out.below hb)
        replace HT1 := hide (HT1.out.below hb)
        replace HT3 := hide (HT3.out.below hb)
        replace HB3 := hide (HB3.out.trans (hb.mono HB3.out.size))
        rw [eqB_true rfl]
        clear hb
        go_wp2_with fail
        refine (equal_any A2 _ n2 _ c2 _ _ _ _ HS2.out.il (IL.nil_ _)).mono ?_
        rintro e w109 ⟨rfl, hb⟩
        replace HS1 := hide (HS1.out.below hb)
        replace HS2 := hide (HS2.out.below hb)
        replace HS3 := hide (HS3.out.below hb)
        replace HT1 := hide (HT1.out.below hb)
        replace HT3 := hide (HT3.out.below hb)
        replace HB3 := hide (HB3.out.trans (hb.mono HB3.out.size))
        rw [eqB_true rfl]
        clear hb
        go_wp2_with fail
        refine (equal_any A3 _ n3 _ c3 _ _ _ _ HS3.out.il HT3.out.il).mono ?_
        rintro e w110 ⟨rfl, hb⟩
        replace HS1 := hide (HS1.out.below hb)
        replace HS2 := hide (HS2.out.below hb)
        replace HS3 := hide (HS3.out.below hb)
        replace HT1 := hide (HT1.out.below hb)
        replace HT3 := hide (HT3.out.below hb)
        replace HB3 := hide (HB3.out.trans (hb.mono HB3.out.size))
        rw [eqB_true rfl]
        clear hb
        go_wp2_with fail
        go_ret
        exact ⟨rfl, HB3.out⟩
      · have hE2 : prodE xs ys = 0 := by rw [HE.out, if_neg (by rw [hl2]; exact h60)]
        have e2 : prodL xs ys = nf (xs ++ ys) := by unfold prodL; rw [hE2]; rfl
        rw [e2] at HS2
        rw [hE2]
        clear HE hE2 e2 hl2
        go_wp2_with fail
        refine (free_any HF.out _).mono ?_
        rintro e w111 ⟨rfl, hb⟩
        replace HS1 := hide (HS1.out.below hb)
        replace HS2 := hide (HS2.out.below hb)
        replace HS3 := hide (HS3.out.below hb)
        replace HT1 := hide (HT1.out.below hb)
        replace HT2 := hide (HT2.out.below hb)
        replace HT3 := hide (HT3.out.below hb)
        replace HB3 := hide (HB3.out.trans (hb.mono HB3.out.size))
        clear hb
        go_wp2_with fail
        refine (HCH.out _ (HA.out.below HB3.out)).mono ?_
        rintro e w112 ⟨rfl, hb⟩
        replace HS1 := hide (HS1.out.below hb)
        replace HS2 := hide (HS2.out.below hb)
        replace HS3 := hide (HS3.out.below hb)
        replace HT1 := hide (HT1.out.below hb)
        replace HT2 := hide (HT2.out.below hb)
        replace HT3 := hide (HT3.out.below hb)
        replace HB3 := hide (HB3.out.trans (hb.mono HB3.out.size))
        clear hb
        go_wp2_with fail
        refine (equal_any A1 _ n1 _ c1 _ _ _ _ HS1.out.il HT1.out.il).mono ?_
        rintro e w113 ⟨rfl, hb⟩
        replace HS1 := hide (HS1.out.below hb)
        replace HS2 := hide (HS2.out.below hb)
        replace HS3 := hide (HS3.out.below hb)
        replace HT1 := hide (HT1.out.below hb)
        replace HT2 := hide (HT2.out.below hb)
        replace HT3 := hide (HT3.out.below hb)
        replace HB3 := hide (HB3.out.trans (hb.mono HB3.out.size))
        rw [eqB_true rfl]
        clear hb
        go_wp2_with fail
        refine (equal_any A2 _ n2 _ c2 _ _ _ _ HS2.out.il HT2.out.il).mono ?_
        rintro e w114 ⟨rfl, hb⟩
        replace HS1 := hide (HS1.out.below hb)
        replace HS2 := hide (HS2.out.below hb)
        replace HS3 := hide (HS3.out.below hb)
        replace HT1 := hide (HT1.out.below hb)
        replace HT2 := hide (HT2.out.below hb)
        replace HT3 := hide (HT3.out.below hb)
        replace HB3 := hide (HB3.out.trans (hb.mono HB3.out.size))
        rw [eqB_true rfl]
        clear hb
        go_wp2_with fail
        refine (equal_any A3 _ n3 _ c3 _ _ _ _ HS3.out.il HT3.out.il).mono ?_
        rintro e w115 ⟨rfl, hb⟩
        replace HS1 := hide (HS1.out.below hb)
        replace HS2 := hide (HS2.out.below hb)
        replace HS3 := hide (HS3.out.below hb)
        replace HT1 := hide (HT1.out.below hb)
        replace HT2 := hide (HT2.out.below hb)
        replace HT3 := hide (HT3.out.below hb)
        replace HB3 := hide (HB3.out.trans (hb.mono HB3.out.size))
        rw [eqB_true rfl]
        clear hb
        go_wp2_with fail
        go_ret
        exact ⟨rfl, HB3.out⟩
    · rw [if_neg hy] at hE
      have e2 : prodL xs ys = [] := by unfold prodL; rw [hE, if_neg hy]
      have hyb : (ffault ys == 0) = false := by simpa using hy
      rw [e2] at HS2
      rw [hE]
      generalize ffault ys = f at *
      clear hE e2 hy
      go_wp2_with fail
      refine (HFF.out _ (HB.out.below HB3.out)).mono ?_
      rintro e w' ⟨rfl, rfl⟩
      go_wp2_with fail
      refine (short_any A n c xs _ (HA.out.below HB3.out).il HA.out.nil HX.out).mono ?_
      rintro e w116 ⟨T1, t1, tc1, rfl, ho, hb⟩
      replace HS1 := hide (HS1.out.below hb)
      replace HS2 := hide (HS2.out.below hb)
      replace HS3 := hide (HS3.out.below hb)
      replace HB3 := hide (HB3.out.trans (hb.mono HB3.out.size))
      have HT1 := hide ho.sl
      clear ho hb
      go_wp2_with fail
      refine (opposite_any T1 t1 tc1 _ _ HT1.out.il HX1.out).mono ?_
      rintro e w117 ⟨T3, t3, tc3, rfl, ho, hb⟩
      replace HS1 := hide (HS1.out.below hb)
      replace HS2 := hide (HS2.out.below hb)
      replace HS3 := hide (HS3.out.below hb)
      replace HT1 := hide (HT1.out.below hb)
      replace HB3 := hide (HB3.out.trans (hb.mono HB3.out.size))
      have HT3 := hide ho.sl
      clear ho hb
      go_wp2_with fail
      refine (free_any HF.out _).mono ?_
      rintro e w118 ⟨rfl, hb⟩
      replace HS1 := hide (HS1.out.below hb)
      replace HS2 := hide (HS2.out.below hb)
      replace HS3 := hide (HS3.out.below hb)
      replace HT1 := hide (HT1.out.below hb)
      replace HT3 := hide (HT3.out.below hb)
      replace HB3 := hide (HB3.out.trans (hb.mono HB3.out.size))
      clear hb
      go_wp2_with fail
      refine (HCH.out _ (HA.out.below HB3.out)).mono ?_
      rintro e w119 ⟨rfl, hb⟩
      replace HS1 := hide (HS1.out.below hb)
      replace HS2 := hide (HS2.out.below hb)
      replace HS3 := hide (HS3.out.below hb)
      replace HT1 := hide (HT1.out.below hb)
      replace HT3 := hide (HT3.out.below hb)
      replace HB3 := hide (HB3.out.trans (hb.mono HB3.out.size))
      clear hb
      go_wp2_with fail
      refine (equal_any A1 _ n1 _ c1 _ _ _ _ HS1.out.il HT1.out.il).mono ?_
      rintro e w120 ⟨rfl, hb⟩
      replace HS1 := hide (HS1.out.below hb)
      replace HS2 := hide (HS2.out.below hb)
      replace HS3 := hide (HS3.out.below hb)
      replace HT1 := hide (HT1.out.below hb)
      replace HT3 := hide (HT3.out.below hb)
      replace HB3 := hide (HB3.out.trans (hb.mono HB3.out.size))
      rw [eqB_true rfl]
      clear hb
      go_wp2_with fail
      refine (equal_any A2 _ n2 _ c2 _ _ _ _ HS2.out.il (IL.nil_ _)).mono ?_
      rintro e w121 ⟨rfl, hb⟩
      replace HS1 := hide (HS1.out.below hb)
      replace HS2 := hide (HS2.out.below hb)
      replace HS3 := hide (HS3.out.below hb)
      replace HT1 := hide (HT1.out.below hb)
      replace HT3 := hide (HT3.out.below hb)
      replace HB3 := hide (HB3.out.trans (hb.mono HB3.out.size))
      rw [eqB_true rfl]
      clear hb
      go_wp2_with fail
      refine (equal_any A3 _ n3 _ c3 _ _ _ _ HS3.out.il HT3.out.il).mono ?_
      rintro e w122 ⟨rfl, hb⟩
      replace HS1 := hide (HS1.out.below hb)
      replace HS2 := hide (HS2.out.below hb)
      replace HS3 := hide (HS3.out.below hb)
      replace HT1 := hide (HT1.out.below hb)
      replace HT3 := hide (HT3.out.below hb)
      replace HB3 := hide (HB3.out.trans (hb.mono HB3.out.size))
      rw [eqB_true rfl]
      clear hb
      go_wp2_with fail
      go_ret
      exact ⟨rfl, HB3.out⟩
  · have hE : prodE xs ys = ffault xs := by unfold prodE; rw [if_neg hx]
    have e1 : redL xs = [] := by unfold redL; rw [if_neg hx]
    have e2 : prodL xs ys = [] := by unfold prodL; rw [hE, if_neg hx]
    have e3 : invL xs = [] := by unfold invL; rw [if_neg hx]
    rw [hE]
    rw [e1] at HS1
    rw [e2] at HS2
    rw [e3] at HS3
    have HCH := hide (fun w (h : SL w A n c xs) => HF.out.check A n c xs w h)
    have hxb : (ffault xs == 0) = false := by simpa using hx
    generalize ffault xs = f at *
    clear hx hE e1 e2 e3
    go_wp2_with fail
    refine (free_any HF.out _).mono ?_
    rintro e w123 ⟨rfl, hb⟩
    replace HS1 := hide (HS1.out.below hb)
    replace HS2 := hide (HS2.out.below hb)
    replace HS3 := hide (HS3.out.below hb)
    replace HB3 := hide (HB3.out.trans (hb.mono HB3.out.size))
    clear hb
    go_wp2_with fail
    refine (HCH.out _ (HA.out.below HB3.out)).mono ?_
    rintro e w124 ⟨rfl, hb⟩
    replace HS1 := hide (HS1.out.below hb)
    replace HS2 := hide (HS2.out.below hb)
    replace HS3 := hide (HS3.out.below hb)
    replace HB3 := hide (HB3.out.trans (hb.mono HB3.out.size))
    clear hb
    go_wp2_with fail
    refine (equal_any A1 _ n1 _ c1 _ _ _ _ HS1.out.il (IL.nil_ _)).mono ?_
    rintro e w125 ⟨rfl, hb⟩
    replace HS1 := hide (HS1.out.below hb)
    replace HS2 := hide (HS2.out.below hb)
    replace HS3 := hide (HS3.out.below hb)
    replace HB3 := hide (HB3.out.trans (hb.mono HB3.out.size))
    rw [eqB_true rfl]
    clear hb
    go_wp2_with fail
    refine (equal_any A2 _ n2 _ c2 _ _ _ _ HS2.out.il (IL.nil_ _)).mono ?_
    rintro e w126 ⟨rfl, hb⟩
    replace HS1 := hide (HS1.out.below hb)
    replace HS2 := hide (HS2.out.below hb)
    replace HS3 := hide (HS3.out.below hb)
    replace HB3 := hide (HB3.out.trans (hb.mono HB3.out.size))
    rw [eqB_true rfl]
    clear hb
    go_wp2_with fail
    refine (equal_any A3 _ n3 _ c3 _ _ _ _ HS3.out.il (IL.nil_ _)).mono ?_
    rintro e w127 ⟨rfl, hb⟩
    replace HS1 := hide (HS1.out.below hb)
    replace HS2 := hide (HS2.out.below hb)
    replace HS3 := hide (HS3.out.below hb)
    replace HB3 := hide (HB3.out.trans (hb.mono HB3.out.size))
    rw [eqB_true rfl]
    clear hb
    go_wp2_with fail
    go_ret
    exact ⟨rfl, HB3.out⟩
end Go.Proofs.Ytbckgomidoelaaa
