/- Several texts in one. -/
import Derived.Test.YtmeicmhojingfaaPart6
import Derived.Test.YtmeicmhojingfaaPart7
import Derived.Test.YtmeicmhojingfaaPart15
import Derived.Test.YtmeicmhojingfaaPart1
import Derived.Test.YtmeicmhojingfaaBase1
import Derived.Deep.DeepCutAuto
/- timbkeep1.jonesed, timbkeep1.JonesMirror, for packages that answer as they should. -/
namespace Go.Proofs.Ytmeicmhojingfaa
set_option linter.unusedVariables false
set_option linter.unusedSimpArgs false
open Go.RowKit

theorem keep_same (x : LP) (w : World) (A : Option Addr) (n c : Nat) (B : Option Addr) (m d : Nat) (ha : SL w A n c (LP.canon x).2) (hb : SL w B m d (LP.canon x).2) :
    Calls Try.prog 19 #[PV (LP.canon x).1 A n c, PV (LP.canon x).1 B m d] w fun e w' => e = .returned (.bool true) ∧ Below w.heap.size w w' := by
  have h := same_k (LP.canon x).1 A n c (LP.canon x).2 (LP.canon x).1 B m d (LP.canon x).2 w ha hb
  rw [show (decide ((LP.canon x).1 = (LP.canon x).1) && eqB (LP.canon x).2 (LP.canon x).2) = true by rw [eqB_true rfl]; simp] at h
  exact h
theorem keep_lit (la : Int) (xs : List Int) (w : World) (A : Option Addr) (n c : Nat) (B : Option Addr) (m d : Nat) (ha : SL w A n c xs) (hb : SL w B m d xs) :
    Calls Try.prog 19 #[PV la A n c, PV la B m d] w fun e w' => e = .returned (.bool true) ∧ Below w.heap.size w w' := by
  have h := same_k la A n c xs la B m d xs w ha hb
  rw [show (decide (la = la) && eqB xs xs) = true by rw [eqB_true rfl]; simp] at h
  exact h

set_option maxRecDepth 100000 in
set_option maxHeartbeats 4000000 in
theorem jonesed_any (F : JonesC) (w : World) : Calls Try.prog 18 #[] w fun e w' => e = .returned (.bool true) ∧ Below w.heap.size w w' := by
  have HF := hide F
  have HW := hide ((Below.refl w.heap.size w).alloc (Nat.le_refl _) (.cells #[.int .i64 1] 3))
  have HS := hide (SL.lit w [1] (by simp) (cs := #[.int .i64 1]) rfl (m := 1) rfl)
  clear F
  go_enter Try.func18, Try.ntmps18
  go_upto_region 1 with fail
  go_wp2_with fail
  refine (HF.out.poly 2 _ 1 1 [1] _ HS.out (by decide)).mono ?_
  rintro e w1 ⟨P, pn, pc, rfl, hs, hn, hb⟩
  dsimp only at hs ⊢
  rw [joE_21, joP_21.1]
  rw [joP_21.2] at hs
  replace HW := hide (HW.out.trans (hb.mono HW.out.size))
  have SP := hide hs
  clear hs hn hb HS
  go_upto_region 2 with fail
  have hb : Below w1.heap.size w1 (w1.alloc (.cells #[.int .i64 0, .slice P pn pc] 24)) := (Below.refl _ _).alloc (Nat.le_refl _) _
  have BP := hide (Blk.new w1 24 #[.int .i64 0, .slice P pn pc])
  replace HW := hide (HW.out.trans (hb.mono HW.out.size))
  replace SP := hide (SP.out.below hb)
  obtain ⟨bp, hq⟩ : ∃ q, w1.heap.size = q := ⟨_, rfl⟩
  obtain ⟨w2, hw⟩ : ∃ x, w1.alloc (.cells #[.int .i64 0, .slice P pn pc] 24) = x := ⟨_, rfl⟩
  rw [hw] at BP HW SP ⊢
  rw [hq] at BP ⊢
  clear hb hq hw
  have hb : Below w2.heap.size w2 (w2.alloc (.cells #[.int .i64 1] 3)) := (Below.refl _ _).alloc (Nat.le_refl _) _
  have HS := hide (SL.lit w2 [1] (by simp) (cs := #[.int .i64 1]) rfl (m := 1) rfl)
  replace HW := hide (HW.out.trans (hb.mono HW.out.size))
  replace SP := hide (SP.out.below hb)
  replace BP := hide (BP.out.below hb BP.out.lt)
  clear hb
  go_wp2_with fail
  refine (HF.out.bracket 2 _ 1 1 [1] _ HS.out (by decide)).mono ?_
  rintro e w3 ⟨Q, qn, qc, rfl, hs, hn, hb⟩
  dsimp only at hs ⊢
  rw [joE_21, joB_21.1]
  rw [joB_21.2] at hs
  replace HW := hide (HW.out.trans (hb.mono HW.out.size))
  replace SP := hide (SP.out.below hb)
  replace BP := hide (BP.out.below hb BP.out.lt)
  have SQ := hide hs
  clear hs hn hb HS
  go_upto_region 3 with fail
  have hb : Below w3.heap.size w3 (w3.alloc (.cells #[.int .i64 3, .slice Q qn qc] 24)) := (Below.refl _ _).alloc (Nat.le_refl _) _
  have BQ := hide (Blk.new w3 24 #[.int .i64 3, .slice Q qn qc])
  replace HW := hide (HW.out.trans (hb.mono HW.out.size))
  replace SP := hide (SP.out.below hb)
  replace SQ := hide (SQ.out.below hb)
  replace BP := hide (BP.out.below hb BP.out.lt)
  obtain ⟨bq, hq⟩ : ∃ q, w3.heap.size = q := ⟨_, rfl⟩
  obtain ⟨w4, hw⟩ : ∃ x, w3.alloc (.cells #[.int .i64 3, .slice Q qn qc] 24) = x := ⟨_, rfl⟩
  rw [hw] at BP BQ HW SP SQ ⊢
  rw [hq] at BQ ⊢
  clear hb hq hw
  have hb : Below w4.heap.size w4 (w4.alloc (.cells #[.int .i64 1] 3)) := (Below.refl _ _).alloc (Nat.le_refl _) _
  have HS := hide (SL.lit w4 [1] (by simp) (cs := #[.int .i64 1]) rfl (m := 1) rfl)
  have hp0 := BP.out.cell 0
  have hp1 := BP.out.cell 1
  simp at hp0 hp1
  replace HW := hide (HW.out.trans (hb.mono HW.out.size))
  replace SP := hide (SP.out.below hb)
  replace SQ := hide (SQ.out.below hb)
  replace BQ := hide (BQ.out.below hb BQ.out.lt)
  clear hb BP
  go_wp2_with fail
  refine (keep_lit 0 [1] _ P pn pc _ 1 1 SP.out HS.out).mono ?_
  rintro e w5 ⟨rfl, hb⟩
  replace HW := hide (HW.out.trans (hb.mono HW.out.size))
  replace SQ := hide (SQ.out.below hb)
  replace BQ := hide (BQ.out.below hb BQ.out.lt)
  clear hb HS SP hp0 hp1
  have hb : Below w5.heap.size w5 (w5.alloc (.cells #[.int .i64 (-1)] 3)) := (Below.refl _ _).alloc (Nat.le_refl _) _
  have HS := hide (SL.lit w5 [-1] (by simp) (cs := #[.int .i64 (-1)]) rfl (m := 1) rfl)
  have hp0 := BQ.out.cell 0
  have hp1 := BQ.out.cell 1
  simp at hp0 hp1
  replace HW := hide (HW.out.trans (hb.mono HW.out.size))
  replace SQ := hide (SQ.out.below hb)
  clear hb BQ
  go_wp2_with fail
  refine (keep_lit 3 [-1] _ Q qn qc _ 1 1 SQ.out HS.out).mono ?_
  rintro e w6 ⟨rfl, hb⟩
  replace HW := hide (HW.out.trans (hb.mono HW.out.size))
  clear hb HS SQ hp0 hp1
  go_wp2_with fail
  go_ret
  exact ⟨rfl, HW.out⟩
theorem jm_append {w wr w9 : World} {j c5 c9 : Nat} {A5 A9 : Option Addr} {ys zz : List Int} (hnx : Below w.heap.size w wr) (hown : OwnI wr w.heap.size A5 j c5 ys) {o : Obj} (happ : Appended (wr.alloc o) w.heap.size A5 (j + 1) c5 zz A9 c9 w9) : Below w.heap.size w w9 :=
  (hnx.alloc hnx.size o).grown happ.grown (Nat.le_trans hnx.size (by simp)) (fun g hg => (hown.lt g (by rw [ownBlock_len A5 j (j + 1) c5 c5]; exact hg)).1)
theorem jm_invw (xs : List Int) : invw (xs.map fun x => -x) = xs.reverse := by
  unfold invw
  rw [List.map_map, show ((fun x : Int => -x) ∘ fun x : Int => -x) = id by funext x; simp, List.map_id]

set_option maxRecDepth 100000 in
set_option maxHeartbeats 8000000 in
theorem jonesMirror_any (F : JonesC) (FB : BraidC) (FP : PolyC) (nn : Int) (A : Option Addr) (n c : Nat) (us : List Int) (w : World) (ha : SL w A n c us) :
    Calls Try.prog 4 #[.int .i64 nn, .slice A n c] w fun e w' => e = .returned (.bool true) ∧ Below w.heap.size w w' := by
  have HJD := hide (jonesed_any F)
  have HF := hide F
  have HFB := hide FB
  have HFP := hide FP
  have HA := hide ha
  obtain ⟨i0, hi0, hz0, hz1, hz2⟩ := info_parts int_info
  have HI0 := hide hi0
  have HZ0 := hide hz0
  have HZ1 := hide hz1
  have HZ2 := hide hz2
  clear F FB FP ha hi0 hz0 hz1 hz2
  go_enter Try.func4, Try.ntmps4
  go_wp2_with fail
  refine (strands_gen nn 5 6 rfl (by omega) (by omega) w).mono ?_
  rintro e w0 ⟨T, hT1, hT5, rfl, hww⟩
  subst hww
  have hw1 : IntKind.i64.wrap (T : Int) = (T : Int) := by rw [IntKind.wrap_i64]; omega
  have hs1 : (T : Int) + 1 - 1 = (T : Int) := by omega
  go_wp2_with fail
  refine (word_any A T n c 10 us w HA.out.il HA.out.cap (by omega) (by omega) (by omega)).mono ?_
  rintro e w1 ⟨xs, X, xn, xc, rfl, ho, hx, hxn, hb⟩
  have hxl := ho.len
  have SX := hide ho.sl
  have HW := hide hb
  have hok : okB (T + 1) xs := fun x hx' => by have := hx x hx'; omega
  obtain ⟨N, hN⟩ : ∃ N, T + 1 = N := ⟨_, rfl⟩
  rw [hN] at hok
  have hTi : (T : Int) + 1 = (N : Int) := by omega
  rw [hTi]
  have hN1 : 1 ≤ N := by omega
  have hN6 : N ≤ 6 := by omega
  have HWM := hide (wfI (x := (N : Int)) (by omega))
  have HXB := hide (hx : ∀ x ∈ xs, x ≠ 0 ∧ x ≤ (T : Int) ∧ -(T : Int) ≤ x)
  have HXL := hide hxl
  have hoy : okB N (xs.map fun x => -x) := fun y hy => by
    obtain ⟨x, hx1, rfl⟩ := List.mem_map.1 hy
    have := hok x hx1
    omega
  have hor : okB N xs.reverse := fun y hy => hok y (List.mem_reverse.1 hy)
  have hly : (xs.map fun x => -x).length ≤ 12 := by rw [List.length_map]; omega
  have hlr : xs.reverse.length ≤ 12 := by rw [List.length_reverse]; omega
  have HE1 := hide (joE_ok hN1 hN6 hok (show xs.length ≤ 12 by omega))
  have HE2 := hide (joE_ok hN1 hN6 hoy hly)
  have HE3 := hide (joE_ok hN1 hN6 hor hlr)
  have HP1 := hide (joP_ok hN1 hN6 hok (show xs.length ≤ 12 by omega))
  have HP2 : Hid (joP (N : Int) (xs.map fun x => -x) = LP.conj (jon N xs)) := hide (by rw [joP_ok hN1 hN6 hoy hly, jon_conj fun x hx => (hok x hx).1])
  have HP3 : Hid (joP (N : Int) xs.reverse = jon N xs) := hide (by rw [joP_ok hN1 hN6 hor hlr, jon_rev hN1 hN6 (okB_nat hok)])
  have HR1 := hide (jon_rt hN1 hN6 hok (show xs.length ≤ 12 by omega))
  have HR2 : Hid (LP.Rt (LP.conj (jon N xs))) := hide (by rw [jon_conj fun x hx => (hok x hx).1]; exact jon_rt hN1 hN6 hoy hly)
  have HBF : Hid (bfault (N : Int) (xs.map fun x => -x) = 0) := hide (bfault_ok (by omega) (by omega) (by rw [List.length_map]; omega) fun y hy => by have := hoy y hy; omega)
  have HIV : Hid (invB (N : Int) (xs.map fun x => -x) = xs.reverse) := hide (by unfold invB; rw [if_pos HBF.out, jm_invw])
  have HA1 := hide (Below.refl w1.heap.size w1)
  clear ho hb hx HA hw1 hs1 hN hTi hok hoy hor hly hlr hxl
  go_wp2_with fail
  go_loopw [6, 27] (fun mv iv wr => ∃ (j c5 : Nat) (R : Option Addr), mv = .slice R j c5 ∧ iv = .int .i64 j ∧ j ≤ xn ∧ Hid (OwnI wr w1.heap.size R j c5 ((xs.take j).map fun x => -x)) ∧ Hid (Below w1.heap.size w1 wr)) (fun _ iv _ => xn - (intOf iv).toNat)
  case atStart => exact ⟨0, 0, none, rfl, rfl, Nat.zero_le _, hide (OwnI.nil_ _ _), HA1⟩
  case round =>
    clear HA1
    obtain ⟨j, c5, R, rfl, rfl, hj, HO, HB⟩ := hrel
    by_cases hlt : j < xn
    · obtain ⟨ad, rfl, hcl⟩ := (SX.out.below HB.out).il.at_ hlt
      have hjl : j < xs.length := by rw [HXL.out]; exact hlt
      have hmem := HXB.out (xs.getD j 0) (by rw [show xs.getD j 0 = xs[j] by simp [List.getD, List.getElem?_eq_getElem hjl]]; exact List.getElem_mem _)
      have HTK : Hid ((xs.take (j + 1)).map (fun x => -x) = (xs.take j).map (fun x => -x) ++ [-(xs.getD j 0)]) := hide (by rw [List.take_succ_eq_append_getElem hjl, List.map_append]; simp [List.getD, List.getElem?_eq_getElem hjl])
      obtain ⟨x, hx⟩ : ∃ x, xs.getD j 0 = x := ⟨_, rfl⟩
      rw [hx] at hcl hmem HTK
      have hwn : IntKind.i64.wrap (-x) = -x := by rw [IntKind.wrap_i64]; omega
      have hsz := HB.out.size
      clear hx hjl
      go_wp2_with (at_builtin; refine wpList_append_int _ rfl (.tmp 31) (.tmp 34) 22 rfl w1.heap.size i0 Try.underlying22 HI0.out HZ0.out HZ1.out HZ2.out R j c5 ((xs.take j).map fun x => -x) rfl (HO.out.alloc _) (some ⟨_, 0, none⟩) 1 1 [-x] rfl (IL.lit _ [-x] (by simp) rfl rfl) (by omega) (Nat.le_trans hsz (by simp)) ?_; intro A9 c9 w9 happ)
      have HB9 := hide (jm_append HB.out HO.out happ)
      have HO9 : Hid (OwnI w9 w1.heap.size A9 (j + 1) c9 ((xs.take (j + 1)).map fun x => -x)) := hide (by rw [HTK.out]; exact happ.own)
      clear happ HO HB HTK
      go_roundw
      case rel => exact ⟨j + 1, c9, A9, by go_num, by go_num, by omega, HO9, HB9⟩
      case measure => simp [intOf]; omega
    · have hjn : j = xn := by omega
      subst hjn
      have SY := hide (show SL wr R j c5 (xs.map fun x => -x) by
        have h := HO.out.sl
        rwa [List.take_of_length_le (by rw [HXL.out]; exact Nat.le_refl _)] at h)
      replace SX := hide (SX.out.below HB.out)
      replace HW := hide (HW.out.trans (HB.out.mono HW.out.size))
      clear HO HB hlt hj
      go_wp2_with fail
      refine (HF.out.poly (N : Int) X j xc xs _ SX.out HWM.out).mono ?_
      rintro e w2 ⟨P, pn, pc, rfl, hs, hn, hb⟩
      dsimp only at hs ⊢
      rw [HP1.out, HE1.out]
      rw [HP1.out] at hs
      replace HW := hide (HW.out.trans (hb.mono HW.out.size))
      replace SY := hide (SY.out.below hb)
      have SP := hide hs
      clear hs hn hb
      go_upto_region 10 with fail
      obtain ⟨lp, hq⟩ : ∃ z, (LP.canon (jon N xs)).1 = z := ⟨_, rfl⟩
      have Hlp := hide hq
      rw [hq]
      clear hq
      have hb : Below w2.heap.size w2 (w2.alloc (.cells #[.int .i64 lp, .slice P pn pc] 24)) := (Below.refl _ _).alloc (Nat.le_refl _) _
      have BP := hide (Blk.new w2 24 #[.int .i64 lp, .slice P pn pc])
      replace HW := hide (HW.out.trans (hb.mono HW.out.size))
      replace SY := hide (SY.out.below hb)
      replace SP := hide (SP.out.below hb)
      obtain ⟨bP, hq⟩ : ∃ q, w2.heap.size = q := ⟨_, rfl⟩
      obtain ⟨w3, hw⟩ : ∃ x, w2.alloc (.cells #[.int .i64 lp, .slice P pn pc] 24) = x := ⟨_, rfl⟩
      rw [hw] at BP SY SP HW ⊢
      rw [hq] at BP ⊢
      clear hb hq hw
      go_wp2_with fail
      refine (HF.out.poly (N : Int) R j c5 (xs.map fun x => -x) _ SY.out HWM.out).mono ?_
      rintro e w4 ⟨Q, qn, qc, rfl, hs, hn, hb⟩
      dsimp only at hs ⊢
      rw [HP2.out, HE2.out]
      rw [HP2.out] at hs
      replace HW := hide (HW.out.trans (hb.mono HW.out.size))
      replace SY := hide (SY.out.below hb)
      replace SP := hide (SP.out.below hb)
      replace BP := hide (BP.out.below hb BP.out.lt)
      have SQ := hide hs
      clear hs hn hb
      go_upto_region 11 with fail
      obtain ⟨lq, hq⟩ : ∃ z, (LP.canon (LP.conj (jon N xs))).1 = z := ⟨_, rfl⟩
      have Hlq := hide hq
      rw [hq]
      clear hq
      have hb : Below w4.heap.size w4 (w4.alloc (.cells #[.int .i64 lq, .slice Q qn qc] 24)) := (Below.refl _ _).alloc (Nat.le_refl _) _
      have BQ := hide (Blk.new w4 24 #[.int .i64 lq, .slice Q qn qc])
      replace HW := hide (HW.out.trans (hb.mono HW.out.size))
      replace SY := hide (SY.out.below hb)
      replace SP := hide (SP.out.below hb)
      replace SQ := hide (SQ.out.below hb)
      replace BP := hide (BP.out.below hb BP.out.lt)
      obtain ⟨bQ, hq⟩ : ∃ q, w4.heap.size = q := ⟨_, rfl⟩
      obtain ⟨w5, hw⟩ : ∃ x, w4.alloc (.cells #[.int .i64 lq, .slice Q qn qc] 24) = x := ⟨_, rfl⟩
      rw [hw] at BQ SY SP SQ BP HW ⊢
      rw [hq] at BQ ⊢
      clear hb hq hw
      go_wp2_with fail
      refine (HFB.out.inverse (N : Int) R j c5 (xs.map fun x => -x) _ SY.out HWM.out).mono ?_
      rintro e w6 ⟨V, vn, vc, rfl, hs, hb⟩
      dsimp only at hs ⊢
      rw [HBF.out]
      rw [HIV.out] at hs
      replace HW := hide (HW.out.trans (hb.mono HW.out.size))
      replace SP := hide (SP.out.below hb)
      replace SQ := hide (SQ.out.below hb)
      replace BP := hide (BP.out.below hb BP.out.lt)
      replace BQ := hide (BQ.out.below hb BQ.out.lt)
      have SV := hide hs
      clear hs hb
      go_upto_region 12 with fail
      go_wp2_with fail
      refine (HF.out.poly (N : Int) V vn vc xs.reverse _ SV.out HWM.out).mono ?_
      rintro e w7 ⟨U, un, uc, rfl, hs, hn, hb⟩
      dsimp only at hs ⊢
      rw [HP3.out, HE3.out]
      rw [HP3.out] at hs
      replace HW := hide (HW.out.trans (hb.mono HW.out.size))
      replace SP := hide (SP.out.below hb)
      replace SQ := hide (SQ.out.below hb)
      replace BP := hide (BP.out.below hb BP.out.lt)
      replace BQ := hide (BQ.out.below hb BQ.out.lt)
      have SU := hide hs
      clear hs hn hb
      go_upto_region 13 with fail
      obtain ⟨lu, hq⟩ : ∃ z, (LP.canon (jon N xs)).1 = z := ⟨_, rfl⟩
      have Hlu := hide hq
      rw [hq]
      clear hq
      have hb : Below w7.heap.size w7 (w7.alloc (.cells #[.int .i64 lu, .slice U un uc] 24)) := (Below.refl _ _).alloc (Nat.le_refl _) _
      have BU := hide (Blk.new w7 24 #[.int .i64 lu, .slice U un uc])
      replace HW := hide (HW.out.trans (hb.mono HW.out.size))
      replace SP := hide (SP.out.below hb)
      replace SQ := hide (SQ.out.below hb)
      replace SU := hide (SU.out.below hb)
      replace BP := hide (BP.out.below hb BP.out.lt)
      replace BQ := hide (BQ.out.below hb BQ.out.lt)
      obtain ⟨bU, hq⟩ : ∃ q, w7.heap.size = q := ⟨_, rfl⟩
      obtain ⟨w8, hw⟩ : ∃ x, w7.alloc (.cells #[.int .i64 lu, .slice U un uc] 24) = x := ⟨_, rfl⟩
      rw [hw] at BU SP SQ SU BP BQ HW ⊢
      rw [hq] at BU ⊢
      clear hb hq hw
      have hul : lu = lp := Hlu.out.symm.trans Hlp.out
      subst hul
      have hp0 := BP.out.cell 0
      have hp1 := BP.out.cell 1
      simp at hp0 hp1
      have hcj := fun (w : World) (h : SL w P pn pc (LP.canon (jon N xs)).2) => HFP.out.conj (LP.canon (jon N xs)).1 P pn pc (LP.canon (jon N xs)).2 w h HR1.out.wf
      rw [LP.conjR_canon HR1.out HR2.out, Hlu.out] at hcj
      have HCJ := hide hcj
      clear hcj
      go_wp2_with fail
      refine (HCJ.out _ SP.out).mono ?_
      rintro e w9 ⟨C, cn, cc, rfl, hs, hn, hb⟩
      dsimp only at hs ⊢
      replace HW := hide (HW.out.trans (hb.mono HW.out.size))
      replace SP := hide (SP.out.below hb)
      replace SQ := hide (SQ.out.below hb)
      replace SU := hide (SU.out.below hb)
      replace BP := hide (BP.out.below hb BP.out.lt)
      replace BQ := hide (BQ.out.below hb BQ.out.lt)
      replace BU := hide (BU.out.below hb BU.out.lt)
      have SC := hide hs
      clear hs hn hb hp0 hp1
      rw [Hlq.out]
      go_upto_region 14 with fail
      have hb : Below w9.heap.size w9 (w9.alloc (.cells #[.int .i64 lq, .slice C cn cc] 24)) := (Below.refl _ _).alloc (Nat.le_refl _) _
      have BC := hide (Blk.new w9 24 #[.int .i64 lq, .slice C cn cc])
      replace HW := hide (HW.out.trans (hb.mono HW.out.size))
      replace SP := hide (SP.out.below hb)
      replace SQ := hide (SQ.out.below hb)
      replace SU := hide (SU.out.below hb)
      replace SC := hide (SC.out.below hb)
      replace BP := hide (BP.out.below hb BP.out.lt)
      replace BQ := hide (BQ.out.below hb BQ.out.lt)
      replace BU := hide (BU.out.below hb BU.out.lt)
      obtain ⟨bC, hq⟩ : ∃ q, w9.heap.size = q := ⟨_, rfl⟩
      obtain ⟨w10, hw⟩ : ∃ x, w9.alloc (.cells #[.int .i64 lq, .slice C cn cc] 24) = x := ⟨_, rfl⟩
      rw [hw] at BC BP BQ BU SP SQ SU SC HW ⊢
      rw [hq] at BC ⊢
      clear hb hq hw
      go_wp2_with fail
      refine (HJD.out w10).mono ?_
      rintro e w11 ⟨rfl, hb⟩
      replace HW := hide (HW.out.trans (hb.mono HW.out.size))
      replace SP := hide (SP.out.below hb)
      replace SQ := hide (SQ.out.below hb)
      replace SU := hide (SU.out.below hb)
      replace SC := hide (SC.out.below hb)
      replace BP := hide (BP.out.below hb BP.out.lt)
      replace BQ := hide (BQ.out.below hb BQ.out.lt)
      replace BU := hide (BU.out.below hb BU.out.lt)
      replace BC := hide (BC.out.below hb BC.out.lt)
      clear hb
      have hc0 := BC.out.cell 0
      have hc1 := BC.out.cell 1
      have hq0 := BQ.out.cell 0
      have hq1 := BQ.out.cell 1
      simp at hc0 hc1 hq0 hq1
      have HSA := hide (keep_same (LP.conj (jon N xs)) w11 C cn cc Q qn qc SC.out SQ.out)
      rw [Hlq.out] at HSA
      go_wp2_with fail
      refine HSA.out.mono ?_
      rintro e w12 ⟨rfl, hb⟩
      replace HW := hide (HW.out.trans (hb.mono HW.out.size))
      replace SP := hide (SP.out.below hb)
      replace SU := hide (SU.out.below hb)
      replace BP := hide (BP.out.below hb BP.out.lt)
      replace BU := hide (BU.out.below hb BU.out.lt)
      clear hb hc0 hc1 hq0 hq1 HSA BC BQ SC SQ
      have hp0 := BP.out.cell 0
      have hp1 := BP.out.cell 1
      have hu0 := BU.out.cell 0
      have hu1 := BU.out.cell 1
      simp at hp0 hp1 hu0 hu1
      have HSA := hide (keep_same (jon N xs) w12 U un uc P pn pc SU.out SP.out)
      rw [Hlu.out] at HSA
      go_wp2_with fail
      refine HSA.out.mono ?_
      rintro e w13 ⟨rfl, hb⟩
      replace HW := hide (HW.out.trans (hb.mono HW.out.size))
      clear hb hp0 hp1 hu0 hu1 HSA BP BU SP SU
      go_wp2_with fail
      go_ret
      exact ⟨rfl, HW.out⟩
end Go.Proofs.Ytmeicmhojingfaa
