/- timbkeep1.FreeGroup, for a package freegroup that answers as it should. -/
import Derived.Test.YtbckgomidoelaaaFreeC
namespace Go.Proofs.Ytbckgomidoelaaa
set_option linter.unusedVariables false
set_option linter.unusedSimpArgs false
open Go.RowKit

theorem ffault_nf {xs : List Int} (h : ffault xs = 0) : ffault (nf xs) = 0 := by
  obtain ⟨h1, h2⟩ := ffault_zero h
  have := nf_len_le xs
  exact ffault_ok (by omega) fun x hx => h2 x (nf_mem hx)
theorem ffault_invw {xs : List Int} (h : ffault xs = 0) : ffault (invw xs) = 0 := by
  obtain ⟨h1, h2⟩ := ffault_zero h
  refine ffault_ok (by rw [invw_length]; exact h1) fun x hx => ?_
  unfold invw at hx
  rw [List.mem_reverse, List.mem_map] at hx
  obtain ⟨y, hy, rfl⟩ := hx
  have := h2 y hy
  omega
theorem prodE_ok {xs ys : List Int} (hx : ffault xs = 0) (hy : ffault ys = 0) (h : xs.length + ys.length ≤ 60) : prodE xs ys = 0 := by
  have := nf_len_le (xs ++ ys)
  rw [List.length_append] at this
  unfold prodE
  rw [if_pos hx, if_pos hy, if_neg (by omega)]
theorem prodL_ok {xs ys : List Int} (hx : ffault xs = 0) (hy : ffault ys = 0) (h : xs.length + ys.length ≤ 60) : prodL xs ys = nf (xs ++ ys) := by
  unfold prodL
  rw [if_pos (prodE_ok hx hy h)]
theorem nf_app_len (xs ys : List Int) : (nf (xs ++ ys)).length ≤ xs.length + ys.length := by
  have := nf_len_le (xs ++ ys)
  rwa [List.length_append] at this
theorem ffault_prod {xs ys : List Int} (hx : ffault xs = 0) (hy : ffault ys = 0) (h : xs.length + ys.length ≤ 60) : ffault (nf (xs ++ ys)) = 0 := by
  have h1 := nf_app_len xs ys
  refine ffault_ok (by omega) fun x hx' => ?_
  rcases List.mem_append.1 (nf_mem hx') with h2 | h2
  · exact (ffault_zero hx).2 x h2
  · exact (ffault_zero hy).2 x h2
/-- A slice. -/
def GivesS (w : World) (xs : List Int) (e : Ending) (w' : World) : Prop := ∃ A n c, e = .returned (.slice A n c) ∧ SL w' A n c xs ∧ Below w.heap.size w w'
/-- A word of M.Word. -/
theorem word_sl (A : Option Addr) (k l c L : Nat) (xs : List Int) (w : World) (hx : SL w A l c xs) (h0 : 0 < k) (hk : k ≤ 6) (hL : L ≤ 60) :
    Calls Try.prog 23 #[.int .i64 k, .slice A l c, .int .i64 L] w fun e w' => ∃ us B m d, e = .returned (.slice B m d) ∧ SL w' B m d us ∧ ffault us = 0 ∧ us.length ≤ L ∧ Below w.heap.size w w' := by
  refine (word_any A k l c L xs w hx.il hx.cap h0 (by omega) (by omega)).mono ?_
  rintro e w' ⟨us, B, m, d, rfl, ho, hok, hm, hb⟩
  have hl := ho.len
  exact ⟨us, B, m, d, rfl, ho.sl, ffault_ok (by omega) (fun x hx => by have := hok x hx; omega), by omega, hb⟩

set_option maxRecDepth 100000 in
set_option maxHeartbeats 2000000 in
theorem times_f (F : FreeC) (A B : Option Addr) (n c m d : Nat) (xs ys : List Int) (w : World) (ha : SL w A n c xs) (hb : SL w B m d ys) :
    Calls Try.prog 25 #[.slice A n c, .slice B m d] w (GivesS w (prodL xs ys)) := by
  have HF := hide (F.product A B n c m d xs ys w ha hb)
  clear F ha hb
  go_enter Try.func25, Try.ntmps25
  go_wp2_with fail
  refine HF.out.mono ?_
  rintro e w1 ⟨A1, n1, c1, rfl, hs1, hb1⟩
  clear HF
  have HS := hide hs1
  have HB := hide hb1
  clear hs1 hb1
  go_wp2_with fail
  go_ret
  exact ⟨A1, n1, c1, rfl, HS.out, HB.out⟩

set_option maxRecDepth 100000 in
set_option maxHeartbeats 2000000 in
theorem reduced_any (F : FreeC) (w : World) : Calls Try.prog 24 #[] w fun e w' => e = .returned (.bool true) ∧ Below w.heap.size w w' := by
  have HF := hide F
  clear F
  go_enter Try.func24, Try.ntmps24
  go_wp2_with fail
  have hl1 := SL.lit w [1, 2] (by decide) rfl rfl
  have ha1 : Below w.heap.size w (w.alloc (.cells #[.int .i64 1, .int .i64 2] 3)) := (Below.refl w.heap.size w).alloc (Nat.le_refl _) _
  have ha2 := (Below.refl (w.alloc (.cells #[.int .i64 1, .int .i64 2] 3)).heap.size _).alloc (Nat.le_refl _) (.cells #[.int .i64 (-2), .int .i64 3] 3)
  have hl2 := SL.lit (w.alloc (.cells #[.int .i64 1, .int .i64 2] 3)) [-2, 3] (by decide) rfl rfl
  have hal := ha1.trans (ha2.mono ha1.size)
  rw [World.size_alloc] at hl2
  refine (HF.out.product _ _ 2 2 2 2 [1, 2] [-2, 3] _ (hl1.below ha2) hl2).mono ?_
  rintro e w1 ⟨A1, n1, c1, rfl, hs1, hb1⟩
  rw [show prodE [1, 2] [-2, 3] = 0 from by decide]
  rw [show prodL [1, 2] [-2, 3] = [1, 3] from by decide] at hs1
  have HB1 := hide (hal.trans (hb1.mono hal.size))
  have HS1 := hide hs1
  clear hl1 hl2 ha1 ha2 hal hs1 hb1
  go_wp2_with fail
  have hl3 := SL.lit w1 [1, 3] (by decide) rfl rfl
  have hb13 := (Below.refl w1.heap.size w1).alloc (Nat.le_refl _) (.cells #[.int .i64 1, .int .i64 3] 3)
  refine (equal_any A1 _ n1 2 c1 2 [1, 3] [1, 3] _ (HS1.out.il.below hb13) hl3.il).mono ?_
  rintro e w3 ⟨rfl, hb3⟩
  rw [eqB_true rfl]
  have HB3 := hide ((HB1.out.trans (hb13.mono HB1.out.size)).trans (hb3.mono (HB1.out.trans (hb13.mono HB1.out.size)).size))
  clear hb3 hb13 hl3 HS1 HB1
  go_wp2_with fail
  go_ret
  exact ⟨rfl, HB3.out⟩

set_option maxRecDepth 100000 in
set_option maxHeartbeats 4000000 in
theorem freeGroup_any (F : FreeC) (A B C : Option Addr) (n c m d r q : Nat) (xs ys zs : List Int) (w : World) (ha : SL w A n c xs) (hb : SL w B m d ys) (hc : SL w C r q zs) :
    Calls Try.prog 5 #[.slice A n c, .slice B m d, .slice C r q] w fun e w' => e = .returned (.bool true) ∧ Below w.heap.size w w' := by
  have HF := hide F
  have HA := hide ha
  have HB := hide hb
  have HC := hide hc
  have HW := hide (Below.refl w.heap.size w)
  clear F ha hb hc
  go_enter Try.func5, Try.ntmps5
  go_wp2_with fail
  refine (word_sl A 6 n c 20 _ _ (HA.out.below HW.out) (by omega) (by omega) (by omega)).mono ?_
  rintro e w101 ⟨x, Xp, xn, xc, rfl, hs, hf, hlen, hb⟩
  replace HW := hide (HW.out.trans (hb.mono HW.out.size))
  have HEX := hide hf
  have HLX := hide hlen
  have HX := hide hs
  clear hb hs hf hlen
  go_wp2_with fail
  refine (word_sl B 6 m d 20 _ _ (HB.out.below HW.out) (by omega) (by omega) (by omega)).mono ?_
  rintro e w102 ⟨y, Yp, yn, yc, rfl, hs, hf, hlen, hb⟩
  replace HX := hide (HX.out.below hb)
  replace HW := hide (HW.out.trans (hb.mono HW.out.size))
  have HEY := hide hf
  have HLY := hide hlen
  have HY := hide hs
  clear hb hs hf hlen
  go_wp2_with fail
  refine (word_sl C 6 r q 20 _ _ (HC.out.below HW.out) (by omega) (by omega) (by omega)).mono ?_
  rintro e w103 ⟨z, Zp, zn, zc, rfl, hs, hf, hlen, hb⟩
  replace HX := hide (HX.out.below hb)
  replace HY := hide (HY.out.below hb)
  replace HW := hide (HW.out.trans (hb.mono HW.out.size))
  have HEZ := hide hf
  have HLZ := hide hlen
  have HZ := hide hs
  clear hb hs hf hlen
  clear HA HB HC
  go_wp2_with fail
  refine (HF.out.inverse Xp xn xc x _ HX.out).mono ?_
  rintro e w104 ⟨Ip, i1, i2, rfl, hs, hb⟩
  replace HX := hide (HX.out.below hb)
  replace HY := hide (HY.out.below hb)
  replace HZ := hide (HZ.out.below hb)
  replace HW := hide (HW.out.trans (hb.mono HW.out.size))
  rw [HEX.out]
  rw [show invL x = invw (nf x) by unfold invL; rw [if_pos HEX.out]] at hs
  have HI := hide hs
  clear hb hs
  go_wp2_with fail
  refine (HF.out.reduce Xp xn xc x _ HX.out).mono ?_
  rintro e w105 ⟨Rp, r1, r2, rfl, hs, hb⟩
  replace HX := hide (HX.out.below hb)
  replace HY := hide (HY.out.below hb)
  replace HZ := hide (HZ.out.below hb)
  replace HI := hide (HI.out.below hb)
  replace HW := hide (HW.out.trans (hb.mono HW.out.size))
  rw [HEX.out]
  rw [show redL x = nf x by unfold redL; rw [if_pos HEX.out]] at hs
  have HR := hide hs
  clear hb hs
  go_wp2_with fail
  refine (HF.out.reduce Rp r1 r2 (nf x) _ HR.out).mono ?_
  rintro e w106 ⟨Sp, s1, s2, rfl, hs, hb⟩
  replace HX := hide (HX.out.below hb)
  replace HY := hide (HY.out.below hb)
  replace HZ := hide (HZ.out.below hb)
  replace HI := hide (HI.out.below hb)
  replace HR := hide (HR.out.below hb)
  replace HW := hide (HW.out.trans (hb.mono HW.out.size))
  rw [ffault_nf HEX.out]
  rw [show redL (nf x) = nf x by unfold redL; rw [if_pos (ffault_nf HEX.out), nf_nf]] at hs
  have HS := hide hs
  clear hb hs
  go_wp2_with fail
  refine (reduced_any HF.out _).mono ?_
  rintro e w107 ⟨rfl, hb⟩
  replace HX := hide (HX.out.below hb)
  replace HY := hide (HY.out.below hb)
  replace HZ := hide (HZ.out.below hb)
  replace HI := hide (HI.out.below hb)
  replace HR := hide (HR.out.below hb)
  replace HS := hide (HS.out.below hb)
  replace HW := hide (HW.out.trans (hb.mono HW.out.size))
  clear hb 
  go_wp2_with fail
  refine (equal_any Rp Sp r1 s1 r2 s2 _ _ _ HR.out.il HS.out.il).mono ?_
  rintro e w108 ⟨rfl, hb⟩
  replace HX := hide (HX.out.below hb)
  replace HY := hide (HY.out.below hb)
  replace HZ := hide (HZ.out.below hb)
  replace HI := hide (HI.out.below hb)
  replace HR := hide (HR.out.below hb)
  replace HS := hide (HS.out.below hb)
  replace HW := hide (HW.out.trans (hb.mono HW.out.size))
  rw [eqB_true rfl]
  clear hb 
  clear HR HS
  go_wp2_with fail
  refine (times_f HF.out Xp Yp xn xc yn yc x y _ HX.out HY.out).mono ?_
  rintro e w109 ⟨P1, p1, q1, rfl, hs, hb⟩
  replace HX := hide (HX.out.below hb)
  replace HY := hide (HY.out.below hb)
  replace HZ := hide (HZ.out.below hb)
  replace HI := hide (HI.out.below hb)
  replace HW := hide (HW.out.trans (hb.mono HW.out.size))
  rw [prodL_ok HEX.out HEY.out (by have h1 := HLX.out; have h2 := HLY.out; have h3 := HLZ.out; omega)] at hs
  have HP1 := hide hs
  clear hb hs
  go_wp2_with fail
  refine (times_f HF.out P1 Zp p1 q1 zn zc _ z _ HP1.out HZ.out).mono ?_
  rintro e w110 ⟨P2, p2, q2, rfl, hs, hb⟩
  replace HX := hide (HX.out.below hb)
  replace HY := hide (HY.out.below hb)
  replace HZ := hide (HZ.out.below hb)
  replace HI := hide (HI.out.below hb)
  replace HP1 := hide (HP1.out.below hb)
  replace HW := hide (HW.out.trans (hb.mono HW.out.size))
  rw [prodL_ok (ffault_prod HEX.out HEY.out (by have h1 := HLX.out; have h2 := HLY.out; have h3 := HLZ.out; omega)) HEZ.out (by have h1 := HLX.out; have h2 := HLY.out; have h3 := HLZ.out; have h4 := nf_app_len x y; omega), nf_assoc] at hs
  have HP2 := hide hs
  clear hb hs
  go_wp2_with fail
  refine (times_f HF.out Yp Zp yn yc zn zc y z _ HY.out HZ.out).mono ?_
  rintro e w111 ⟨P3, p3, q3, rfl, hs, hb⟩
  replace HX := hide (HX.out.below hb)
  replace HY := hide (HY.out.below hb)
  replace HZ := hide (HZ.out.below hb)
  replace HI := hide (HI.out.below hb)
  replace HP1 := hide (HP1.out.below hb)
  replace HP2 := hide (HP2.out.below hb)
  replace HW := hide (HW.out.trans (hb.mono HW.out.size))
  rw [prodL_ok HEY.out HEZ.out (by have h1 := HLX.out; have h2 := HLY.out; have h3 := HLZ.out; omega)] at hs
  have HP3 := hide hs
  clear hb hs
  go_wp2_with fail
  refine (times_f HF.out Xp P3 xn xc p3 q3 x _ _ HX.out HP3.out).mono ?_
  rintro e w112 ⟨P4, p4, q4, rfl, hs, hb⟩
  replace HX := hide (HX.out.below hb)
  replace HY := hide (HY.out.below hb)
  replace HZ := hide (HZ.out.below hb)
  replace HI := hide (HI.out.below hb)
  replace HP1 := hide (HP1.out.below hb)
  replace HP2 := hide (HP2.out.below hb)
  replace HP3 := hide (HP3.out.below hb)
  replace HW := hide (HW.out.trans (hb.mono HW.out.size))
  rw [prodL_ok HEX.out (ffault_prod HEY.out HEZ.out (by have h1 := HLX.out; have h2 := HLY.out; have h3 := HLZ.out; omega)) (by have h1 := HLX.out; have h2 := HLY.out; have h3 := HLZ.out; have h4 := nf_app_len y z; omega)] at hs
  have HP4 := hide hs
  clear hb hs
  go_wp2_with fail
  refine (equal_any P2 P4 p2 p4 q2 q4 _ _ _ HP2.out.il HP4.out.il).mono ?_
  rintro e w113 ⟨rfl, hb⟩
  replace HX := hide (HX.out.below hb)
  replace HY := hide (HY.out.below hb)
  replace HZ := hide (HZ.out.below hb)
  replace HI := hide (HI.out.below hb)
  replace HP1 := hide (HP1.out.below hb)
  replace HP2 := hide (HP2.out.below hb)
  replace HP3 := hide (HP3.out.below hb)
  replace HP4 := hide (HP4.out.below hb)
  replace HW := hide (HW.out.trans (hb.mono HW.out.size))
  rw [eqB_true rfl]
  clear hb 
  clear HP1 HP2 HP3 HP4
  go_wp2_with fail
  refine (times_f HF.out Xp Ip xn xc i1 i2 x _ _ HX.out HI.out).mono ?_
  rintro e w114 ⟨P5, p5, q5, rfl, hs, hb⟩
  replace HX := hide (HX.out.below hb)
  replace HI := hide (HI.out.below hb)
  replace HW := hide (HW.out.trans (hb.mono HW.out.size))
  rw [prodL_ok HEX.out (ffault_invw (ffault_nf HEX.out)) (by have h1 := HLX.out; have h2 := nf_len_le x; have h3 := invw_length (nf x); omega), ← nf_left, nf_mul_inv] at hs
  have HP5 := hide hs
  clear hb hs
  have h5 : p5 = 0 := HP5.out.il.len.symm
  subst h5
  go_wp2_with fail
  refine (times_f HF.out Ip Xp i1 i2 xn xc _ x _ HI.out HX.out).mono ?_
  rintro e w115 ⟨P6, p6, q6, rfl, hs, hb⟩
  replace HX := hide (HX.out.below hb)
  replace HI := hide (HI.out.below hb)
  replace HW := hide (HW.out.trans (hb.mono HW.out.size))
  rw [prodL_ok (ffault_invw (ffault_nf HEX.out)) HEX.out (by have h1 := HLX.out; have h2 := nf_len_le x; have h3 := invw_length (nf x); omega), ← nf_right, nf_inv_mul] at hs
  have HP6 := hide hs
  clear hb hs
  have h6 : p6 = 0 := HP6.out.il.len.symm
  subst h6
  go_wp2_with fail
  go_ret
  exact ⟨rfl, HW.out⟩
end Go.Proofs.Ytbckgomidoelaaa
