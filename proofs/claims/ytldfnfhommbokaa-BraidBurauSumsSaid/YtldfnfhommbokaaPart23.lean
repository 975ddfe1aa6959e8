/- Several texts of the walk in one. -/
import Derived.Test.YtldfnfhommbokaaPart21
import Derived.Test.YtldfnfhommbokaaPart14
import Derived.Test.YtldfnfhommbokaaPart19
import Derived.Test.YtldfnfhommbokaaPart20
import Derived.Test.YtldfnfhommbokaaPart22
/- timbkeep1.BraidHomomorphisms, for a package braid that answers as it should. (Written by tools/gen_brhom.py.) -/
namespace Go.Proofs.Ytldfnfhommbokaa
set_option linter.unusedVariables false
set_option linter.unusedSimpArgs false
open Go.RowKit

theorem endsL_getD {n j : Nat} (w : List Int) (hj : j < n) : (endsL n w).getD j 0 = endE w j := by
  simp [endsL, List.getD, hj]
theorem endE_inj {w : List Int} (h : ∀ x ∈ w, x ≠ 0) {s t : Nat} (e : endE w s = endE w t) : s = t := by
  have h1 := endE_inv w h s
  have h2 := endE_inv w h t
  rw [endE_append] at h1 h2
  rw [← h1, e, h2]
theorem ends_isP {n : Nat} {w : List Int} (h : okB n w) : isP (endsL n w) := by
  refine ⟨fun x hx => ?_, ?_⟩
  · rw [endsL_length]
    obtain ⟨s, hs, rfl⟩ := List.mem_map.1 hx
    exact endE_lt h (List.mem_range.1 hs)
  · unfold endsL
    rw [List.nodup_iff_pairwise_ne, List.pairwise_map]
    exact List.nodup_range.imp fun hne e => hne (endE_inj (fun x hx => (h x hx).1) e)
theorem ends_comp {n : Nat} {x y : List Int} (hx : okB n x) : comp (endsL n x) (endsL n y) = endsL n (x ++ y) := by
  refine list_ext_getD (by rw [comp_length, endsL_length, endsL_length]) fun j hj => ?_
  rw [comp_length, endsL_length] at hj
  rw [comp_getD (by rw [endsL_length]; exact hj), endsL_getD x hj, endsL_getD y (endE_lt hx hj), endsL_getD (x ++ y) hj, endE_append]
theorem ends_one {n : Nat} {x : List Int} (hx : okB n x) : endsL n (x ++ invw x) = List.range n := by
  unfold endsL
  rw [List.map_congr_left (g := id) fun s _ => endE_inv x (fun y hy => (hx y hy).1) s, List.map_id]
theorem okB_invw {n : Nat} {x : List Int} (hx : okB n x) : okB n (invw x) := fun y hy => by
  have h : y ∈ (x.map fun z => -z).reverse ∨ y ∈ x.reverse.map fun z => -z := by
    first | (left; simpa [invw] using hy) | (right; simpa [invw] using hy)
  have h2 : ∃ z ∈ x, -z = y := by
    rcases h with h | h
    · simpa using h
    · simpa using h
  obtain ⟨z, hz, rfl⟩ := h2
  have := hx z hz
  omega
theorem bu_one {n : Nat} {x : List Int} (hx : okB n x) : EqM n (bu n (x ++ invw x)) (bu n []) := by
  refine (bu_op (okB_append hx (okB_invw hx))).trans ?_
  rw [opW_inv x (fun y hy => (hx y hy).1)]
  exact EqM.refl _ _
theorem mperm_one (T : Nat) (hT : T ≤ 5) (w : World) : Calls Try.prog 36 #[.int .i64 ((T : Int) + 1), .slice none 0 0] w (GivesOwn w (zs (List.range (T + 1)))) := by
  have h := mperm_any (T + 1) none 0 0 [] w (IL.nil_ _) (by omega)
  rw [show ((T + 1 : Nat) : Int) = (T : Int) + 1 by omega] at h
  refine h.mono fun e w' hh => ?_
  obtain ⟨a, h1, h2, h3, h4⟩ := hh
  rw [h3 rfl] at h4
  exact h4
/-- What the walk needs to know of two words. -/
structure HomF (T : Nat) (x y : List Int) (v1 v2 : Int) (bl : List (List Po)) : Prop where
  f1 : bfault ((T : Int) + 1) x = 0
  f2 : bfault ((T : Int) + 1) y = 0
  f3 : bfault ((T : Int) + 1) (x ++ y) = 0
  f4 : bfault ((T : Int) + 1) (x ++ invw x) = 0
  b4 : burE ((T : Int) + 1) (x ++ invw x) = 0
  b5 : burE ((T : Int) + 1) [] = 0
  p1 : permE ((T : Int) + 1) x = zs (endsL (T + 1) x)
  p2 : permE ((T : Int) + 1) y = zs (endsL (T + 1) y)
  p3 : permE ((T : Int) + 1) (x ++ y) = zs (comp (endsL (T + 1) x) (endsL (T + 1) y))
  p4 : permE ((T : Int) + 1) (x ++ invw x) = zs (List.range (T + 1))
  e1 : expoB ((T : Int) + 1) x = v1
  e2 : expoB ((T : Int) + 1) y = v2
  e3 : expoB ((T : Int) + 1) (x ++ y) = v1 + v2
  i1 : invB ((T : Int) + 1) x = invw x
  m4 : burL ((T : Int) + 1) (x ++ invw x) = bl
  m5 : burL ((T : Int) + 1) [] = bl
  n1 : isP (endsL (T + 1) x)
  n2 : isP (endsL (T + 1) y)
theorem homF {T : Nat} (h5 : T ≤ 5) {x y : List Int} (hx : okB (T + 1) x) (hy : okB (T + 1) y) (lx : x.length ≤ 8) (ly : y.length ≤ 8) : HomF T x y (LP.expo x) (LP.expo y) (buL (T + 1) []) := by
  have oxy := okB_append hx hy
  have oi := okB_invw hx
  have li : (invw x).length = x.length := by simp [invw]
  have oxi := okB_append hx oi
  have lxy : (x ++ y).length ≤ 16 := by rw [List.length_append]; omega
  have lxi : (x ++ invw x).length ≤ 16 := by rw [List.length_append]; omega
  have on : okB (T + 1) [] := fun x hx => by cases hx
  exact ⟨bfault_T h5 hx (by omega), bfault_T h5 hy (by omega), bfault_T h5 oxy (by omega), bfault_T h5 oxi (by omega), burE_T h5 oxi lxi, burE_T h5 on (by simp),
    permE_T h5 hx (by omega), permE_T h5 hy (by omega), by rw [permE_T h5 oxy (by omega), ends_comp hx], by rw [permE_T h5 oxi (by omega), ends_one hx],
    expoB_T h5 hx (by omega), expoB_T h5 hy (by omega), by rw [expoB_T h5 oxy (by omega), expo_app],
    by unfold invB; rw [bfault_T h5 hx (by omega), if_pos rfl],
    by rw [burL_T h5 oxi lxi]; exact buL_congr (bu_one hx), burL_T h5 on (by simp), ends_isP hx, ends_isP hy⟩

set_option maxRecDepth 100000 in
set_option maxHeartbeats 8000000 in
theorem braidHomomorphisms_any (F : BraidC) (nn : Int) (A : Option Addr) (n c : Nat) (us : List Int) (B : Option Addr) (m d : Nat) (vs : List Int) (w : World) (ha : SL w A n c us) (hb : SL w B m d vs) :
    Calls Try.prog 7 #[.int .i64 nn, .slice A n c, .slice B m d] w fun e w' => e = .returned (.bool true) ∧ Below w.heap.size w w' := by
  have HF := hide F
  have HA := hide ha
  have HB := hide hb
  have HW := hide (Below.refl w.heap.size w)
  clear F ha hb
  go_enter Try.func7, Try.ntmps7
  go_wp2_with fail
  refine (strands_any nn _).mono ?_
  rintro e w1 ⟨T, hT1, hT5, rfl, hww⟩
  replace hww := hww.symm
  subst hww
  have HWM := hide (wfI (x := (T : Int) + 1) (by omega))
  go_wp2_with fail
  refine (word_any A T n c 8 us _ HA.out.il HA.out.cap (by omega) (by omega) (by omega)).mono ?_
  rintro e w2 ⟨x, X, xn, xc, rfl, ho, hok, hl, hb⟩
  replace HA := hide (HA.out.below hb)
  replace HB := hide (HB.out.below hb)
  replace HW := hide (HW.out.trans (hb.mono HW.out.size))
  have SX := hide ho.sl
  have OX := hide (okB_word hok)
  have LX : Hid (x.length ≤ 8) := hide (by rw [ho.sl.il.len]; exact hl)
  clear hb ho hok hl
  go_wp2_with fail
  refine (word_any B T m d 8 vs _ HB.out.il HB.out.cap (by omega) (by omega) (by omega)).mono ?_
  rintro e w3 ⟨y, Y, yn, yc, rfl, ho, hok, hl, hb⟩
  replace HA := hide (HA.out.below hb)
  replace HB := hide (HB.out.below hb)
  replace HW := hide (HW.out.trans (hb.mono HW.out.size))
  replace SX := hide (SX.out.below hb)
  have SY := hide ho.sl
  have OY := hide (okB_word hok)
  have LY : Hid (y.length ≤ 8) := hide (by rw [ho.sl.il.len]; exact hl)
  clear hb ho hok hl
  have HL := hide (homF hT5 OX.out OY.out LX.out LY.out)
  have be1 := LP.expo_le x
  have be2 := LP.expo_le y
  have blx := LX.out
  have bly := LY.out
  obtain ⟨e1, he1⟩ : ∃ q, LP.expo x = q := ⟨_, rfl⟩
  obtain ⟨e2, he2⟩ : ∃ q, LP.expo y = q := ⟨_, rfl⟩
  obtain ⟨bl, hbl⟩ : ∃ q, buL (T + 1) [] = q := ⟨_, rfl⟩
  rw [he1] at be1 HL
  rw [he2] at be2 HL
  rw [hbl] at HL
  have hv1 : -8 ≤ e1 ∧ e1 ≤ 8 := by omega
  have hv2 : -8 ≤ e2 ∧ e2 ≤ 8 := by omega
  have HV := hide (And.intro hv1 hv2)
  clear he1 he2 hbl be1 be2 blx bly hv1 hv2
  go_wp2_with fail
  refine (HF.out.perm ((T : Int) + 1) X xn xc x _ SX.out HWM.out).mono ?_
  rintro e w4 ⟨P, pn, pc, rfl, hs, hb⟩
  replace HA := hide (HA.out.below hb)
  replace HB := hide (HB.out.below hb)
  replace HW := hide (HW.out.trans (hb.mono HW.out.size))
  replace SX := hide (SX.out.below hb)
  replace SY := hide (SY.out.below hb)
  rw [HL.out.f1]
  rw [HL.out.p1] at hs
  have SP := hide hs
  clear hb hs
  go_wp2_with fail
  refine (HF.out.perm ((T : Int) + 1) Y yn yc y _ SY.out HWM.out).mono ?_
  rintro e w5 ⟨Q, qn, qc, rfl, hs, hb⟩
  replace HA := hide (HA.out.below hb)
  replace HB := hide (HB.out.below hb)
  replace HW := hide (HW.out.trans (hb.mono HW.out.size))
  replace SX := hide (SX.out.below hb)
  replace SY := hide (SY.out.below hb)
  replace SP := hide (SP.out.below hb)
  rw [HL.out.f2]
  rw [HL.out.p2] at hs
  have SQ := hide hs
  clear hb hs
  go_wp2_with fail
  have HLIT := hide (show ILL (w5.alloc (.cells #[.slice X xn xc, .slice Y yn yc] 22)) (some ⟨w5.heap.size, 0, none⟩) 2 [x, y] from
    ILL.lit (vs := [.slice X xn xc, .slice Y yn yc]) rfl (by simp) (fun j hj => by
      match j, hj with
      | 0, _ => exact ⟨_, _, _, rfl, SX.out.il⟩
      | 1, _ => exact ⟨_, _, _, rfl, SY.out.il⟩
      | j + 2, h => exact absurd h (by simp)) rfl rfl)
  have hal : Below w5.heap.size w5 (w5.alloc (.cells #[.slice X xn xc, .slice Y yn yc] 22)) := (Below.refl _ _).alloc (Nat.le_refl _) _
  have hfl : [x, y].flatten = x ++ y := by simp
  refine (concat_any (some ⟨w5.heap.size, 0, none⟩) 2 2 _ _ HLIT.out (by rw [hfl]; rw [List.length_append]; have := LX.out; have := LY.out; have li : (invw x).length = x.length := (by simp [invw]); omega)).mono ?_
  rintro e w6 ⟨C1, c1n, c1c, rfl, ho, hb0⟩
  have hb := hal.trans (hb0.mono hal.size)
  rw [hfl] at ho
  replace HA := hide (HA.out.below hb)
  replace HB := hide (HB.out.below hb)
  replace HW := hide (HW.out.trans (hb.mono HW.out.size))
  replace SX := hide (SX.out.below hb)
  replace SY := hide (SY.out.below hb)
  replace SP := hide (SP.out.below hb)
  replace SQ := hide (SQ.out.below hb)
  have SC1 := hide ho.sl
  clear ho hb0 hal hfl HLIT hb
  go_wp2_with fail
  refine (HF.out.perm ((T : Int) + 1) C1 c1n c1c (x ++ y) _ SC1.out HWM.out).mono ?_
  rintro e w7 ⟨R, rn, rc, rfl, hs, hb⟩
  replace HA := hide (HA.out.below hb)
  replace HB := hide (HB.out.below hb)
  replace HW := hide (HW.out.trans (hb.mono HW.out.size))
  replace SX := hide (SX.out.below hb)
  replace SY := hide (SY.out.below hb)
  replace SP := hide (SP.out.below hb)
  replace SQ := hide (SQ.out.below hb)
  replace SC1 := hide (SC1.out.below hb)
  rw [HL.out.f3]
  rw [HL.out.p3] at hs
  have SR := hide hs
  clear hb hs
  go_wp2_with fail
  refine (HF.out.expo ((T : Int) + 1) X xn xc x _ SX.out HWM.out).mono ?_
  rintro e w8 ⟨rfl, hb⟩
  replace HA := hide (HA.out.below hb)
  replace HB := hide (HB.out.below hb)
  replace HW := hide (HW.out.trans (hb.mono HW.out.size))
  replace SX := hide (SX.out.below hb)
  replace SY := hide (SY.out.below hb)
  replace SP := hide (SP.out.below hb)
  replace SQ := hide (SQ.out.below hb)
  replace SC1 := hide (SC1.out.below hb)
  replace SR := hide (SR.out.below hb)
  rw [HL.out.f1, HL.out.e1]
  clear hb
  go_wp2_with fail
  refine (HF.out.expo ((T : Int) + 1) Y yn yc y _ SY.out HWM.out).mono ?_
  rintro e w9 ⟨rfl, hb⟩
  replace HA := hide (HA.out.below hb)
  replace HB := hide (HB.out.below hb)
  replace HW := hide (HW.out.trans (hb.mono HW.out.size))
  replace SX := hide (SX.out.below hb)
  replace SY := hide (SY.out.below hb)
  replace SP := hide (SP.out.below hb)
  replace SQ := hide (SQ.out.below hb)
  replace SC1 := hide (SC1.out.below hb)
  replace SR := hide (SR.out.below hb)
  rw [HL.out.f2, HL.out.e2]
  clear hb
  go_wp2_with fail
  have HLIT := hide (show ILL (w9.alloc (.cells #[.slice X xn xc, .slice Y yn yc] 22)) (some ⟨w9.heap.size, 0, none⟩) 2 [x, y] from
    ILL.lit (vs := [.slice X xn xc, .slice Y yn yc]) rfl (by simp) (fun j hj => by
      match j, hj with
      | 0, _ => exact ⟨_, _, _, rfl, SX.out.il⟩
      | 1, _ => exact ⟨_, _, _, rfl, SY.out.il⟩
      | j + 2, h => exact absurd h (by simp)) rfl rfl)
  have hal : Below w9.heap.size w9 (w9.alloc (.cells #[.slice X xn xc, .slice Y yn yc] 22)) := (Below.refl _ _).alloc (Nat.le_refl _) _
  have hfl : [x, y].flatten = x ++ y := by simp
  refine (concat_any (some ⟨w9.heap.size, 0, none⟩) 2 2 _ _ HLIT.out (by rw [hfl]; rw [List.length_append]; have := LX.out; have := LY.out; have li : (invw x).length = x.length := (by simp [invw]); omega)).mono ?_
  rintro e w10 ⟨C2, c2n, c2c, rfl, ho, hb0⟩
  have hb := hal.trans (hb0.mono hal.size)
  rw [hfl] at ho
  replace HA := hide (HA.out.below hb)
  replace HB := hide (HB.out.below hb)
  replace HW := hide (HW.out.trans (hb.mono HW.out.size))
  replace SX := hide (SX.out.below hb)
  replace SY := hide (SY.out.below hb)
  replace SP := hide (SP.out.below hb)
  replace SQ := hide (SQ.out.below hb)
  replace SC1 := hide (SC1.out.below hb)
  replace SR := hide (SR.out.below hb)
  have SC2 := hide ho.sl
  clear ho hb0 hal hfl HLIT hb
  go_wp2_with fail
  refine (HF.out.expo ((T : Int) + 1) C2 c2n c2c (x ++ y) _ SC2.out HWM.out).mono ?_
  rintro e w11 ⟨rfl, hb⟩
  replace HA := hide (HA.out.below hb)
  replace HB := hide (HB.out.below hb)
  replace HW := hide (HW.out.trans (hb.mono HW.out.size))
  replace SX := hide (SX.out.below hb)
  replace SY := hide (SY.out.below hb)
  replace SP := hide (SP.out.below hb)
  replace SQ := hide (SQ.out.below hb)
  replace SC1 := hide (SC1.out.below hb)
  replace SR := hide (SR.out.below hb)
  replace SC2 := hide (SC2.out.below hb)
  rw [HL.out.f3, HL.out.e3]
  clear hb
  go_wp2_with fail
  refine (HF.out.inverse ((T : Int) + 1) X xn xc x _ SX.out HWM.out).mono ?_
  rintro e w12 ⟨I, inn, ic, rfl, hs, hb⟩
  replace HA := hide (HA.out.below hb)
  replace HB := hide (HB.out.below hb)
  replace HW := hide (HW.out.trans (hb.mono HW.out.size))
  replace SX := hide (SX.out.below hb)
  replace SY := hide (SY.out.below hb)
  replace SP := hide (SP.out.below hb)
  replace SQ := hide (SQ.out.below hb)
  replace SC1 := hide (SC1.out.below hb)
  replace SR := hide (SR.out.below hb)
  replace SC2 := hide (SC2.out.below hb)
  rw [HL.out.f1]
  rw [HL.out.i1] at hs
  have SI := hide hs
  clear hb hs
  go_wp2_with fail
  have HLIT := hide (show ILL (w12.alloc (.cells #[.slice X xn xc, .slice I inn ic] 22)) (some ⟨w12.heap.size, 0, none⟩) 2 [x, invw x] from
    ILL.lit (vs := [.slice X xn xc, .slice I inn ic]) rfl (by simp) (fun j hj => by
      match j, hj with
      | 0, _ => exact ⟨_, _, _, rfl, SX.out.il⟩
      | 1, _ => exact ⟨_, _, _, rfl, SI.out.il⟩
      | j + 2, h => exact absurd h (by simp)) rfl rfl)
  have hal : Below w12.heap.size w12 (w12.alloc (.cells #[.slice X xn xc, .slice I inn ic] 22)) := (Below.refl _ _).alloc (Nat.le_refl _) _
  have hfl : [x, invw x].flatten = x ++ invw x := by simp
  refine (concat_any (some ⟨w12.heap.size, 0, none⟩) 2 2 _ _ HLIT.out (by rw [hfl]; rw [List.length_append]; have := LX.out; have := LY.out; have li : (invw x).length = x.length := (by simp [invw]); omega)).mono ?_
  rintro e w13 ⟨C3, c3n, c3c, rfl, ho, hb0⟩
  have hb := hal.trans (hb0.mono hal.size)
  rw [hfl] at ho
  replace HA := hide (HA.out.below hb)
  replace HB := hide (HB.out.below hb)
  replace HW := hide (HW.out.trans (hb.mono HW.out.size))
  replace SX := hide (SX.out.below hb)
  replace SY := hide (SY.out.below hb)
  replace SP := hide (SP.out.below hb)
  replace SQ := hide (SQ.out.below hb)
  replace SC1 := hide (SC1.out.below hb)
  replace SR := hide (SR.out.below hb)
  replace SC2 := hide (SC2.out.below hb)
  replace SI := hide (SI.out.below hb)
  have SC3 := hide ho.sl
  clear ho hb0 hal hfl HLIT hb
  go_wp2_with fail
  refine (HF.out.perm ((T : Int) + 1) C3 c3n c3c (x ++ invw x) _ SC3.out HWM.out).mono ?_
  rintro e w14 ⟨O, on, oc, rfl, hs, hb⟩
  replace HA := hide (HA.out.below hb)
  replace HB := hide (HB.out.below hb)
  replace HW := hide (HW.out.trans (hb.mono HW.out.size))
  replace SX := hide (SX.out.below hb)
  replace SY := hide (SY.out.below hb)
  replace SP := hide (SP.out.below hb)
  replace SQ := hide (SQ.out.below hb)
  replace SC1 := hide (SC1.out.below hb)
  replace SR := hide (SR.out.below hb)
  replace SC2 := hide (SC2.out.below hb)
  replace SI := hide (SI.out.below hb)
  replace SC3 := hide (SC3.out.below hb)
  rw [HL.out.f4]
  rw [HL.out.p4] at hs
  have SO := hide hs
  clear hb hs
  go_wp2_with fail
  have HLIT := hide (show ILL (w14.alloc (.cells #[.slice X xn xc, .slice I inn ic] 22)) (some ⟨w14.heap.size, 0, none⟩) 2 [x, invw x] from
    ILL.lit (vs := [.slice X xn xc, .slice I inn ic]) rfl (by simp) (fun j hj => by
      match j, hj with
      | 0, _ => exact ⟨_, _, _, rfl, SX.out.il⟩
      | 1, _ => exact ⟨_, _, _, rfl, SI.out.il⟩
      | j + 2, h => exact absurd h (by simp)) rfl rfl)
  have hal : Below w14.heap.size w14 (w14.alloc (.cells #[.slice X xn xc, .slice I inn ic] 22)) := (Below.refl _ _).alloc (Nat.le_refl _) _
  have hfl : [x, invw x].flatten = x ++ invw x := by simp
  refine (concat_any (some ⟨w14.heap.size, 0, none⟩) 2 2 _ _ HLIT.out (by rw [hfl]; rw [List.length_append]; have := LX.out; have := LY.out; have li : (invw x).length = x.length := (by simp [invw]); omega)).mono ?_
  rintro e w15 ⟨C4, c4n, c4c, rfl, ho, hb0⟩
  have hb := hal.trans (hb0.mono hal.size)
  rw [hfl] at ho
  replace HA := hide (HA.out.below hb)
  replace HB := hide (HB.out.below hb)
  replace HW := hide (HW.out.trans (hb.mono HW.out.size))
  replace SX := hide (SX.out.below hb)
  replace SY := hide (SY.out.below hb)
  replace SP := hide (SP.out.below hb)
  replace SQ := hide (SQ.out.below hb)
  replace SC1 := hide (SC1.out.below hb)
  replace SR := hide (SR.out.below hb)
  replace SC2 := hide (SC2.out.below hb)
  replace SI := hide (SI.out.below hb)
  replace SC3 := hide (SC3.out.below hb)
  replace SO := hide (SO.out.below hb)
  have SC4 := hide ho.sl
  clear ho hb0 hal hfl HLIT hb
  go_wp2_with fail
  refine (HF.out.burau ((T : Int) + 1) C4 c4n c4c (x ++ invw x) _ SC4.out HWM.out).mono ?_
  rintro e w16 ⟨M, mn, mc, rfl, hs, hb⟩
  replace HA := hide (HA.out.below hb)
  replace HB := hide (HB.out.below hb)
  replace HW := hide (HW.out.trans (hb.mono HW.out.size))
  replace SX := hide (SX.out.below hb)
  replace SY := hide (SY.out.below hb)
  replace SP := hide (SP.out.below hb)
  replace SQ := hide (SQ.out.below hb)
  replace SC1 := hide (SC1.out.below hb)
  replace SR := hide (SR.out.below hb)
  replace SC2 := hide (SC2.out.below hb)
  replace SI := hide (SI.out.below hb)
  replace SC3 := hide (SC3.out.below hb)
  replace SO := hide (SO.out.below hb)
  replace SC4 := hide (SC4.out.below hb)
  rw [HL.out.b4]
  rw [HL.out.m4] at hs
  have SM := hide hs
  clear hb hs
  go_wp2_with fail
  refine (HF.out.burau ((T : Int) + 1) none 0 0 [] _ (SL.nil_ _) HWM.out).mono ?_
  rintro e w17 ⟨U, un, uc, rfl, hs, hb⟩
  replace HA := hide (HA.out.below hb)
  replace HB := hide (HB.out.below hb)
  replace HW := hide (HW.out.trans (hb.mono HW.out.size))
  replace SX := hide (SX.out.below hb)
  replace SY := hide (SY.out.below hb)
  replace SP := hide (SP.out.below hb)
  replace SQ := hide (SQ.out.below hb)
  replace SC1 := hide (SC1.out.below hb)
  replace SR := hide (SR.out.below hb)
  replace SC2 := hide (SC2.out.below hb)
  replace SI := hide (SI.out.below hb)
  replace SC3 := hide (SC3.out.below hb)
  replace SO := hide (SO.out.below hb)
  replace SC4 := hide (SC4.out.below hb)
  replace SM := hide (SM.out.below hb)
  rw [HL.out.b5]
  rw [HL.out.m5] at hs
  have SU := hide hs
  clear hb hs
  have hv1 := HV.out.1
  have hv2 := HV.out.2
  have hev : (e1 + e2 == e1 + e2) = true := by simp
  have hmu : un = mn := by rw [← SM.out.len, ← SU.out.len]
  subst hmu
  go_wp2_with fail
  refine (braided_k HF.out _).mono ?_
  rintro e w18 ⟨rfl, hb⟩
  replace HA := hide (HA.out.below hb)
  replace HB := hide (HB.out.below hb)
  replace HW := hide (HW.out.trans (hb.mono HW.out.size))
  replace SX := hide (SX.out.below hb)
  replace SY := hide (SY.out.below hb)
  replace SP := hide (SP.out.below hb)
  replace SQ := hide (SQ.out.below hb)
  replace SC1 := hide (SC1.out.below hb)
  replace SR := hide (SR.out.below hb)
  replace SC2 := hide (SC2.out.below hb)
  replace SI := hide (SI.out.below hb)
  replace SC3 := hide (SC3.out.below hb)
  replace SO := hide (SO.out.below hb)
  replace SC4 := hide (SC4.out.below hb)
  replace SM := hide (SM.out.below hb)
  replace SU := hide (SU.out.below hb)
  clear hb
  go_wp2_with fail
  refine (kcompose_ok P Q pn qn pc qc _ _ _ SP.out.il SQ.out.il HL.out.n1 HL.out.n2 (by rw [endsL_length, endsL_length]) (by rw [endsL_length]; omega)).mono ?_
  rintro e w19 ⟨K, kn, kc, rfl, ho, hb⟩
  replace HA := hide (HA.out.below hb)
  replace HB := hide (HB.out.below hb)
  replace HW := hide (HW.out.trans (hb.mono HW.out.size))
  replace SX := hide (SX.out.below hb)
  replace SY := hide (SY.out.below hb)
  replace SP := hide (SP.out.below hb)
  replace SQ := hide (SQ.out.below hb)
  replace SC1 := hide (SC1.out.below hb)
  replace SR := hide (SR.out.below hb)
  replace SC2 := hide (SC2.out.below hb)
  replace SI := hide (SI.out.below hb)
  replace SC3 := hide (SC3.out.below hb)
  replace SO := hide (SO.out.below hb)
  replace SC4 := hide (SC4.out.below hb)
  replace SM := hide (SM.out.below hb)
  replace SU := hide (SU.out.below hb)
  have SK := hide ho.sl.il
  clear hb ho
  go_wp2_with fail
  refine (equal_any R K rn kn rc kc _ _ _ SR.out.il SK.out).mono ?_
  rintro e w20 ⟨rfl, hb⟩
  replace HA := hide (HA.out.below hb)
  replace HB := hide (HB.out.below hb)
  replace HW := hide (HW.out.trans (hb.mono HW.out.size))
  replace SX := hide (SX.out.below hb)
  replace SY := hide (SY.out.below hb)
  replace SP := hide (SP.out.below hb)
  replace SQ := hide (SQ.out.below hb)
  replace SC1 := hide (SC1.out.below hb)
  replace SR := hide (SR.out.below hb)
  replace SC2 := hide (SC2.out.below hb)
  replace SI := hide (SI.out.below hb)
  replace SC3 := hide (SC3.out.below hb)
  replace SO := hide (SO.out.below hb)
  replace SC4 := hide (SC4.out.below hb)
  replace SM := hide (SM.out.below hb)
  replace SU := hide (SU.out.below hb)
  replace SK := hide (SK.out.below hb)
  rw [eqB_true rfl]
  clear hb
  go_wp2_with fail
  refine (mperm_one T hT5 _).mono ?_
  rintro e w21 ⟨N, nn1, nc1, rfl, ho, hb⟩
  replace HA := hide (HA.out.below hb)
  replace HB := hide (HB.out.below hb)
  replace HW := hide (HW.out.trans (hb.mono HW.out.size))
  replace SX := hide (SX.out.below hb)
  replace SY := hide (SY.out.below hb)
  replace SP := hide (SP.out.below hb)
  replace SQ := hide (SQ.out.below hb)
  replace SC1 := hide (SC1.out.below hb)
  replace SR := hide (SR.out.below hb)
  replace SC2 := hide (SC2.out.below hb)
  replace SI := hide (SI.out.below hb)
  replace SC3 := hide (SC3.out.below hb)
  replace SO := hide (SO.out.below hb)
  replace SC4 := hide (SC4.out.below hb)
  replace SM := hide (SM.out.below hb)
  replace SU := hide (SU.out.below hb)
  replace SK := hide (SK.out.below hb)
  have SN := hide ho.sl
  clear hb ho
  go_wp2_with fail
  refine (equal_any O N on nn1 oc nc1 _ _ _ SO.out.il SN.out.il).mono ?_
  rintro e w22 ⟨rfl, hb⟩
  replace HA := hide (HA.out.below hb)
  replace HB := hide (HB.out.below hb)
  replace HW := hide (HW.out.trans (hb.mono HW.out.size))
  replace SX := hide (SX.out.below hb)
  replace SY := hide (SY.out.below hb)
  replace SP := hide (SP.out.below hb)
  replace SQ := hide (SQ.out.below hb)
  replace SC1 := hide (SC1.out.below hb)
  replace SR := hide (SR.out.below hb)
  replace SC2 := hide (SC2.out.below hb)
  replace SI := hide (SI.out.below hb)
  replace SC3 := hide (SC3.out.below hb)
  replace SO := hide (SO.out.below hb)
  replace SC4 := hide (SC4.out.below hb)
  replace SM := hide (SM.out.below hb)
  replace SU := hide (SU.out.below hb)
  replace SK := hide (SK.out.below hb)
  replace SN := hide (SN.out.below hb)
  rw [eqB_true rfl]
  clear hb
  go_wp2_with fail
  refine (matrices_any M U un mc uc _ _ SM.out SU.out).mono ?_
  rintro e w23 ⟨rfl, hb⟩
  replace HA := hide (HA.out.below hb)
  replace HB := hide (HB.out.below hb)
  replace HW := hide (HW.out.trans (hb.mono HW.out.size))
  replace SX := hide (SX.out.below hb)
  replace SY := hide (SY.out.below hb)
  replace SP := hide (SP.out.below hb)
  replace SQ := hide (SQ.out.below hb)
  replace SC1 := hide (SC1.out.below hb)
  replace SR := hide (SR.out.below hb)
  replace SC2 := hide (SC2.out.below hb)
  replace SI := hide (SI.out.below hb)
  replace SC3 := hide (SC3.out.below hb)
  replace SO := hide (SO.out.below hb)
  replace SC4 := hide (SC4.out.below hb)
  replace SM := hide (SM.out.below hb)
  replace SU := hide (SU.out.below hb)
  replace SK := hide (SK.out.below hb)
  replace SN := hide (SN.out.below hb)
  clear hb
  go_wp2_with fail
  go_ret
  exact ⟨rfl, HW.out⟩
end Go.Proofs.Ytldfnfhommbokaa
/- Package braid keeps its contracts; the laws of stage 8 under them. -/
namespace Go.Proofs.Ytldfnfhommbokaa
theorem braidC_ok : BraidC := braidC
end Go.Proofs.Ytldfnfhommbokaa
