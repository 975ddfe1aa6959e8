/- Several texts of the walk in one. -/
import Derived.Test.YtldfnfhommbokaaPart4
import Derived.Test.YtldfnfhommbokaaPart10
import Derived.Test.YtldfnfhommbokaaPart19
import Derived.Test.YtldfnfhommbokaaBase
import Derived.Test.YtldfnfhommbokaaPart3
import Derived.Test.YtldfnfhommbokaaPart1
/- timblaw1.BraidBuraus, for a package braid that answers as it should. (Written by tools/gen_brbur.py.) -/
namespace Go.Proofs.Ytldfnfhommbokaa
set_option linter.unusedVariables false
set_option linter.unusedSimpArgs false
open Go.RowKit

theorem eTPolyB : ∀ args w, (callFunc 25 args).run Try.prog w = .ok (.enter 25 args) w := enters (fn := Try.f25) (by kernel_rfl) (by kernel_rfl) (by kernel_rfl)
theorem eSameB : ∀ args w, (callFunc 24 args).run Try.prog w = .ok (.enter 24 args) w := enters (fn := Try.f24) (by kernel_rfl) (by kernel_rfl) (by kernel_rfl)
theorem same_yes (x : LP) (w : World) (A : Option Addr) (n c : Nat) (B : Option Addr) (m d : Nat) (ha : SL w A n c (LP.canon x).2) (hb : SL w B m d (LP.canon x).2) :
    Calls Try.prog 24 #[PV (LP.canon x).1 A n c, PV (LP.canon x).1 B m d] w fun e w' => e = .returned (.bool true) ∧ Below w.heap.size w w' := by
  have h := same_r (LP.canon x).1 A n c (LP.canon x).2 (LP.canon x).1 B m d (LP.canon x).2 w ha hb
  rw [show (decide ((LP.canon x).1 = (LP.canon x).1) && eqB (LP.canon x).2 (LP.canon x).2) = true by rw [eqB_true rfl]; simp] at h
  exact h

set_option maxRecDepth 100000 in
set_option maxHeartbeats 2000000 in
theorem bb11_any (x : LP) (E b : Nat) (A : Option Addr) (n c : Nat) (w : World) (ha : SL w A n c (LP.canon x).2) (ht : TV w b x E) (hE : E ≤ 400000) :
    Calls Try.prog 23 #[PV (LP.canon x).1 A n c, .map (some b)] w fun e w' => e = .returned (.bool true) ∧ Below w.heap.size w w' := by
  have HA := hide ha
  have HT := hide ht
  have hb : Below w.heap.size w (w.alloc (.cells #[.int .i64 (LP.canon x).1, .slice A n c] 45)) := (Below.refl _ _).alloc (Nat.le_refl _) _
  have BP := hide (Blk.new w 45 #[.int .i64 (LP.canon x).1, .slice A n c])
  replace HA := hide (HA.out.below hb)
  replace HT := hide (HT.out.below hb)
  have HW := hide hb
  clear ha ht hb
  go_enter Try.func23, Try.ntmps23
  go_upto_region 1 with fail
  have hlt := BP.out.lt
  obtain ⟨w1, hw⟩ : ∃ q, w.alloc (.cells #[.int .i64 (LP.canon x).1, .slice A n c] 45) = q := ⟨_, rfl⟩
  rw [hw] at HA HT HW BP hlt ⊢
  clear hw
  refine wp_region_noPanic ?_
  refine wp_region_held_drew (S := fun z => Below w1.heap.size w1.drew z) (by kernel_rfl) (Below.refl _ _) (fun hS0 => ?_)
  replace BP := hide (BP.out.below (Below.refl _ _).drew hlt)
  replace HA := hide (HA.out.below (Below.refl _ _).drew)
  replace HT := hide (HT.out.below (Below.refl _ _).drew)
  change w.heap.size < w1.drew.heap.size at hlt
  refine wpAnyH_tk 0 (v := PV (LP.canon x).1 A n c) rfl (by kernel_rfl) (by kernel_rfl) (by kernel_rfl) (yi rfl fun z hz => gives_loadRow rfl rfl (BP.out.below hz hlt) Try.underlying45 (by kernel_rfl) (by kernel_rfl)) hS0 ?_
  go_frame
  refine wpAnyH_tk 1 (v := .map (some b)) rfl (by kernel_rfl) (by kernel_rfl) (by kernel_rfl) (yi rfl fun z hz => gives_move (.inl rfl) rfl) hS0 ?_
  go_frame
  refine wpAnyH_1 2 rfl (by kernel_rfl) ?_
  refine wp_call [.map (some b)] rfl rfl eTPolyB rfl ((tv_poly HT.out hE).mono ?_)
  rintro e w2 ⟨B, m, d, rfl, hs, hn, hb⟩
  have hS2 : Below w1.heap.size w1.drew w2 := hS0.trans hb
  replace HA := hide (HA.out.below hb)
  have HB := hide hs
  clear hs hn hb
  refine ⟨_, rfl, hS2, ?_⟩
  go_frame
  refine wpAnyH_1 3 rfl (by kernel_rfl) ?_
  refine wp_call [PV (LP.canon x).1 A n c, PV (LP.canon x).1 B m d] rfl rfl eSameB rfl ((same_yes x _ A n c B m d HA.out HB.out).mono ?_)
  rintro e w3 ⟨rfl, hb⟩
  have hS3 : Below w1.heap.size w1.drew w3 := hS2.trans (hb.mono hS2.size)
  refine ⟨_, rfl, hS3, ?_⟩
  go_frame
  refine wpAnyH_tk 4 (v := .bool true) rfl (by kernel_rfl) (by kernel_rfl) (by kernel_rfl) (yi rfl fun z hz => gives_move (.inr rfl) rfl) hS3 ?_
  go_frame
  refine wpAnyH_done (by kernel_rfl) (noPanic_mk ?_) _
  have HW3 := hide (HW.out.trans ((((Below.refl _ _).drew : Below w1.heap.size w1 w1.drew).trans hS3).mono HW.out.size))
  go_wp2_with fail
  go_ret
  exact ⟨rfl, HW3.out⟩

set_option maxRecDepth 100000 in
set_option maxHeartbeats 4000000 in
theorem bbRow_any (E : Nat) (hE : E ≤ 400000) (A B : Option Addr) (n c d : Nat) (ys : List LP) (w : World) (ha : SPo w A n c (ys.map cP)) (hb : Rd (QT E) 1 w B n d ys) :
    Calls Try.prog 22 #[.slice A n c, .slice B n d, .func (.func 23) #[] #[]] w fun e w' => e = .returned (.bool true) ∧ Below w.heap.size w w' := by
  have HA := hide ha
  have HB := hide hb
  have HW := hide (Below.refl w.heap.size w)
  have hsm := ha.small
  clear ha hb
  go_enter Try.func22, Try.ntmps22
  go_wp2_with fail
  go_loopw [17] (fun i wr => ∃ k : Nat, k ≤ n ∧ i = .int .i64 k ∧ Hid (Below w.heap.size w wr)) (fun i _ => n - (intOf i).toNat)
  case atStart => exact ⟨0, Nat.zero_le _, rfl, HW⟩
  case round =>
    clear HW
    obtain ⟨k, hk, rfl, HW⟩ := hrel
    by_cases hlt : k < n
    · obtain ⟨ad, B2, m2, d2, rfl, hq0, hq1, hs, hwf⟩ := (HA.out.below HW.out).at_ hlt
      have hkl : k < ys.length := by have := HA.out.len; rw [List.length_map] at this; omega
      obtain ⟨x, hx⟩ : ∃ x, ys[k] = x := ⟨_, rfl⟩
      have hgx : (ys.map cP).getD k (0, []) = LP.canon x := by
        rw [← hx]
        simp [List.getD, hkl, cP]
      rw [hgx] at hq0 hs
      obtain ⟨lo, hlo⟩ : ∃ q, (LP.canon x).1 = q := ⟨_, rfl⟩
      have HLO := hide hlo
      rw [hlo] at hq0
      have HSX := hide hs
      have HX := hide hx
      have hb : Below wr.heap.size wr (wr.alloc (.cells #[.int .i64 lo, .slice B2 m2 d2] 45)) := (Below.refl _ _).alloc (Nat.le_refl _) _
      have HLT := hide hlt
      have HK := hide hk
      have HKL := hide hkl
      clear hs hwf hgx hlo hx hb
      go_upto_region 6 with fail
      have hb : Below wr.heap.size wr (wr.alloc (.cells #[.int .i64 lo, .slice B2 m2 d2] 45)) := (Below.refl _ _).alloc (Nat.le_refl _) _
      have BP := hide (Blk.new wr 45 #[.int .i64 lo, .slice B2 m2 d2])
      replace HSX := hide (HSX.out.below hb)
      replace HW := hide (HW.out.trans (hb.mono HW.out.size))
      obtain ⟨b6, hq⟩ : ∃ q, wr.heap.size = q := ⟨_, rfl⟩
      obtain ⟨w1, hw⟩ : ∃ q, wr.alloc (.cells #[.int .i64 lo, .slice B2 m2 d2] 45) = q := ⟨_, rfl⟩
      rw [hw] at BP HSX HW ⊢
      rw [hq] at BP ⊢
      clear hb hq hw hq0 hq1
      have hz0 := BP.out.cell 0
      have hz1 := BP.out.cell 1
      simp at hz0 hz1
      obtain ⟨bd, v, rfl, hcv, bt, ev, _, htv⟩ := RdS.at1 (Rd.below (QT_ok E) HB.out HW.out) hlt
      injection ev with ev
      subst ev
      rw [HX.out] at htv
      have HTV := hide htv
      have hC := bb11_any x E bt B2 m2 d2 _ HSX.out HTV.out hE
      rw [HLO.out] at hC
      have HC := hide hC
      clear htv hC hk
      go_wp2_with fail
      refine HC.out.mono ?_
      rintro e w2 ⟨rfl, hb2⟩
      replace HW := hide (HW.out.trans (hb2.mono HW.out.size))
      clear hb2 hz0 hz1 hcv BP HC HTV HSX
      have hk := HK.out
      go_wp2_with fail
      go_roundw
      case rel => exact ⟨k + 1, by omega, by go_num, HW⟩
      case measure => simp [intOf]; omega
    · go_wp2_with fail
      go_ret
      exact ⟨rfl, HW.out⟩

set_option maxRecDepth 100000 in
set_option maxHeartbeats 2000000 in
theorem bb1_any (E : Nat) (hE : E ≤ 400000) (A B : Option Addr) (n c d : Nat) (ys : List LP) (w : World) (ha : SPo w A n c (ys.map cP)) (hb : Rd (QT E) 1 w B n d ys) :
    Calls Try.prog 21 #[.slice A n c, .slice B n d] w fun e w' => e = .returned (.bool true) ∧ Below w.heap.size w w' := by
  have HC := hide (bbRow_any E hE A B n c d ys w ha hb)
  clear ha hb
  go_enter Try.func21, Try.ntmps21
  go_wp2_with fail
  refine HC.out.mono ?_
  rintro e w1 ⟨rfl, hb1⟩
  have HW := hide hb1
  clear hb1 HC
  go_wp2_with fail
  go_ret
  exact ⟨rfl, HW.out⟩

set_option maxRecDepth 100000 in
set_option maxHeartbeats 4000000 in
theorem bbRows_any (E : Nat) (hE : E ≤ 400000) (A B : Option Addr) (n c d : Nat) (yss : List (List LP)) (w : World) (ha : SPP w A n c (yss.map fun ys => ys.map cP)) (hb : Rd (QS (QT E) 1) 1 w B n d yss) :
    Calls Try.prog 20 #[.slice A n c, .slice B n d, .func (.func 21) #[] #[]] w fun e w' => e = .returned (.bool true) ∧ Below w.heap.size w w' := by
  have HA := hide ha
  have HB := hide hb
  have HW := hide (Below.refl w.heap.size w)
  have hsm := ha.small
  clear ha hb
  go_enter Try.func20, Try.ntmps20
  go_wp2_with fail
  go_loopw [17] (fun i wr => ∃ k : Nat, k ≤ n ∧ i = .int .i64 k ∧ Hid (Below w.heap.size w wr)) (fun i _ => n - (intOf i).toNat)
  case atStart => exact ⟨0, Nat.zero_le _, rfl, HW⟩
  case round =>
    clear HW
    obtain ⟨k, hk, rfl, HW⟩ := hrel
    by_cases hlt : k < n
    · obtain ⟨ad, B2, m2, d2, rfl, hq0, hs⟩ := (HA.out.below HW.out).at_ hlt
      have hkl : k < yss.length := by have := HA.out.len; rw [List.length_map] at this; omega
      obtain ⟨ys, hx⟩ : ∃ ys, yss[k] = ys := ⟨_, rfl⟩
      have hgx : (yss.map fun ys => ys.map cP).getD k [] = ys.map cP := by
        rw [← hx]
        simp [List.getD, hkl]
      rw [hgx] at hs
      obtain ⟨bd, v, rfl, hcv, B3, m3, d3, ev, htv⟩ := RdS.at1 (Rd.below (QS_ok (QT_ok E) 1) HB.out HW.out) hlt
      injection ev with ev
      subst ev
      rw [hx] at htv
      have hm : m2 = m3 := by rw [← hs.len, ← htv.len, List.length_map]
      subst hm
      have HC := hide (bb1_any E hE B2 B3 m2 d2 d3 ys _ hs htv)
      have HK := hide hk
      clear hs hgx hx htv hk hkl
      go_wp2_with fail
      refine HC.out.mono ?_
      rintro e w2 ⟨rfl, hb2⟩
      replace HW := hide (HW.out.trans (hb2.mono HW.out.size))
      clear hb2 hq0 hcv HC
      have hk := HK.out
      go_wp2_with fail
      go_roundw
      case rel => exact ⟨k + 1, by omega, by go_num, HW⟩
      case measure => simp [intOf]; omega
    · go_wp2_with fail
      go_ret
      exact ⟨rfl, HW.out⟩
theorem buL_tab (n : Nat) (w : List Int) : buL n w = (tabP n (bu n w)).map fun ys => ys.map cP := by
  simp [buL, tabP, List.map_map]

set_option maxRecDepth 100000 in
set_option maxHeartbeats 8000000 in
theorem braidBuraus_any (F : BraidC) (m : Int) (A : Option Addr) (n c : Nat) (xs : List Int) (w : World) (ha : SL w A n c xs) (wm : (Lit.int .i64 m).wf = true) :
    Calls Try.prog 4 #[.int .i64 m, .slice A n c] w fun e w' => e = .returned (.bool true) ∧ Below w.heap.size w w' := by
  have HF := hide F
  have HWM := hide wm
  have HA := hide ha
  have HW := hide (Below.refl w.heap.size w)
  have HL := hide ha.il.len
  obtain ⟨fx, hfx⟩ : ∃ q, bfault m xs = q := ⟨_, rfl⟩
  have HFX := hide hfx
  obtain ⟨be, hbe⟩ : ∃ q, burE m xs = q := ⟨_, rfl⟩
  have HBE := hide hbe
  clear F wm ha hfx hbe
  go_enter Try.func4, Try.ntmps4
  go_wp2_with fail
  refine (HF.out.burau m A n c xs _ HA.out HWM.out).mono ?_
  rintro e w1 ⟨P, pn, pc, rfl, hs, hb⟩
  replace HA := hide (HA.out.below hb)
  replace HW := hide (HW.out.trans (hb.mono HW.out.size))
  rw [HBE.out]
  have SP := hide hs
  clear hb hs
  go_upto_region 2 with fail
  go_wp2_with fail
  refine (braidFault_any m A n c xs _ HA.out.il HWM.out).mono ?_
  rintro e w2 ⟨rfl, hww⟩
  replace hww := hww.symm
  subst hww
  rw [HFX.out]
  go_upto_region 3 with fail
  by_cases h0 : fx = 0
  · subst h0
    obtain ⟨hm1, hm6, hxl, hxx⟩ := bfault_zero HFX.out
    obtain ⟨M, rfl⟩ : ∃ M : Nat, m = (M : Int) := ⟨m.toNat, by omega⟩
    have HOK := hide (okB_of (n := M) hxx)
    have hM6 : M ≤ 6 := by omega
    clear hxl hxx hm1 hm6
    by_cases h16 : 16 < n
    · have HB2 : Hid (be = 2) := hide (by rw [← HBE.out]; unfold burE; rw [HFX.out, if_pos rfl, HL.out, if_pos h16])
      have hbe2 := HB2.out
      subst hbe2
      have hp : pn = 0 := by have h := SP.out.len; unfold burL at h; rw [HBE.out] at h; exact h.symm
      subst hp
      go_upto_region 5 with fail
      go_wp2_with fail
      refine (braided_l HF.out _).mono ?_
      rintro e w3 ⟨rfl, hb⟩
      replace HA := hide (HA.out.below hb)
      replace HW := hide (HW.out.trans (hb.mono HW.out.size))
      replace SP := hide (SP.out.below hb)
      clear hb
      go_wp2_with fail
      go_ret
      exact ⟨rfl, HW.out⟩
    · have HB2 : Hid (be = 0) := hide (by rw [← HBE.out]; unfold burE; rw [HFX.out, if_pos rfl, HL.out, if_neg h16])
      have hbe2 := HB2.out
      subst hbe2
      have hp : burL (M : Int) xs = (tabP M (bu M xs)).map fun ys => ys.map cP := by unfold burL; rw [HBE.out, if_pos rfl, Int.toNat_natCast, buL_tab]
      rw [hp] at SP
      have hpn : pn = M := by have h := SP.out.len; rw [List.length_map] at h; rw [← h]; simp [tabP]
      subst hpn
      clear hp
      have H16 := hide h16
      go_upto_region 5 with fail
      go_wp2_with fail
      refine (braided_l HF.out _).mono ?_
      rintro e w3 ⟨rfl, hb⟩
      replace HA := hide (HA.out.below hb)
      replace HW := hide (HW.out.trans (hb.mono HW.out.size))
      replace SP := hide (SP.out.below hb)
      clear hb
      clear h16
      go_wp2_with fail
      refine (burau_any pn (by omega) n A n c xs _ HA.out (Nat.le_refl _) (by have := H16.out; omega) HOK.out).mono ?_
      rintro e w4 ⟨go, gr, mb, rfl, hM, hG, hB, hb⟩
      replace HA := hide (HA.out.below hb)
      replace HW := hide (HW.out.trans (hb.mono HW.out.size))
      replace SP := hide (SP.out.below hb)
      have SQ := hide (hM.rdM hG hB)
      clear hb hM hG hB
      go_wp2_with fail
      refine (bbRows_any (max n 1) (by have := H16.out; omega) P _ pn pc pn _ _ SP.out SQ.out).mono ?_
      rintro e w5 ⟨rfl, hb⟩
      replace HA := hide (HA.out.below hb)
      replace HW := hide (HW.out.trans (hb.mono HW.out.size))
      replace SP := hide (SP.out.below hb)
      replace SQ := hide (SQ.out.below hb)
      clear hb
      go_wp2_with fail
      go_ret
      exact ⟨rfl, HW.out⟩
  · have hfn : (fx != 0) = true := by simpa using h0
    have hfe : (fx == 0) = false := by simpa using h0
    have HB2 : Hid (be = fx) := hide (by rw [← HBE.out]; unfold burE; rw [HFX.out, if_neg h0])
    have hbe2 := HB2.out
    subst hbe2
    have hp : pn = 0 := by have h := SP.out.len; unfold burL at h; rw [HBE.out, if_neg h0] at h; exact h.symm
    subst hp
    clear h0
    have hff : (be != be) = false := by simp
    go_upto_region 5 with fail
    go_wp2_with fail
    refine (braided_l HF.out _).mono ?_
    rintro e w3 ⟨rfl, hb⟩
    replace HA := hide (HA.out.below hb)
    replace HW := hide (HW.out.trans (hb.mono HW.out.size))
    replace SP := hide (SP.out.below hb)
    clear hb
    go_wp2_with fail
    go_ret
    exact ⟨rfl, HW.out⟩
end Go.Proofs.Ytldfnfhommbokaa
/- timbmake.Strands; timbkeep1.sides. -/
namespace Go.Proofs.Ytldfnfhommbokaa
set_option linter.unusedVariables false
set_option linter.unusedSimpArgs false
open Go.RowKit

set_option maxRecDepth 100000 in
theorem strands_any (n : Int) (w : World) : Calls Try.prog 26 #[.int .i64 n, .int .i64 6] w fun e w' => ∃ T : Nat, 1 ≤ T ∧ T ≤ 5 ∧ e = .returned (.int .i64 ((T : Int) + 1)) ∧ w' = w := by
  obtain ⟨p, hp⟩ : ∃ p : Nat, n % 5 = (p : Int) := ⟨(n % 5).toNat, by omega⟩
  have hp5 : p < 5 := by omega
  have HP := hide hp
  have hadd : IntKind.i64.wrap (2 + (p : Int)) = ((p + 1 : Nat) : Int) + 1 := by rw [IntKind.wrap_i64]; omega
  have HA := hide hadd
  clear hp hadd
  go_enter Try.func26, Try.ntmps26
  go_wp2_with fail
  refine (mbelow_any n 5 _ (by omega) (by omega)).mono ?_
  rintro e w1 ⟨rfl, hww⟩
  subst hww
  rw [show n % ((5 : Nat) : Int) = (p : Int) from HP.out]
  go_wp2_with ((with_reducible show wpList _ _ _ (Oper.mk _ (.binOp .add _ _ _) _ _ _ _ :: _) _ _); refine wpList_gives rfl (gives_add rfl rfl rfl HA.out) ?_)
  go_ret
  exact ⟨p + 1, by omega, by omega, by show Ending.returned (.int .i64 (2 + (p : Int))) = _; rw [show (2 : Int) + (p : Int) = ((p + 1 : Nat) : Int) + 1 by omega], rfl⟩

theorem wsum_cons (f : Int → Int) (x : Int) (w : List Int) : wsum f (x :: w) = f x + wsum f w := by simp [wsum]
theorem wsum_nil (f : Int → Int) : wsum f [] = 0 := rfl
/-- Two words that are equal by a relation. -/
structure Side (N : Nat) (xs ys : List Int) : Prop where
  b : RelB xs ys
  e : RelE xs ys
  x : LP.expo xs = LP.expo ys
  ok1 : okB N xs
  ok2 : okB N ys
  l1 : xs.length ≤ 3
  l2 : ys.length ≤ 3
  a : RelA xs ys
theorem side_inv {N : Nat} {a : Int} (h1 : 1 ≤ a) (h2 : a < N) : Side N [a, -a] [] := by
  obtain ⟨m, rfl⟩ : ∃ m : Nat, a = (m : Int) := ⟨a.toNat, by omega⟩
  refine ⟨relB_inv (by omega), relE_x (by omega), ?_, fun x hx => ?_, fun x hx => (by cases hx), (by simp), (by simp), relA_pn (by omega)⟩
  · show wsum Int.sign [_, _] = wsum Int.sign []
    simp only [wsum_cons, wsum_nil, Int.sign_neg]
    omega
  · simp at hx; rcases hx with rfl | rfl <;> omega
theorem side_braid {N : Nat} {a b : Int} (h1 : 1 ≤ a) (h2 : a < N) (h3 : 1 ≤ b) (h4 : b < N) (h : b = a + 1 ∨ a = b + 1) : Side N [a, b, a] [b, a, b] := by
  obtain ⟨m, rfl⟩ : ∃ m : Nat, a = (m : Int) := ⟨a.toNat, by omega⟩
  obtain ⟨k, rfl⟩ : ∃ k : Nat, b = (k : Int) := ⟨b.toNat, by omega⟩
  have ok : ∀ u v : Nat, 1 ≤ u → u < N → 1 ≤ v → v < N → okB N [(u : Int), (v : Int), (u : Int)] := fun u v a1 a2 a3 a4 x hx => by
    simp at hx; rcases hx with rfl | rfl | rfl <;> omega
  have hne : LP.expo [(m : Int), (k : Int), (m : Int)] = 3 ∧ LP.expo [(k : Int), (m : Int), (k : Int)] = 3 := by
    have hm : (0 : Int) < (m : Int) := by omega
    have hk : (0 : Int) < (k : Int) := by omega
    have e1 := Int.sign_eq_one_of_pos hm
    have e2 := Int.sign_eq_one_of_pos hk
    constructor
    · show wsum Int.sign [_, _, _] = 3
      simp only [wsum_cons, wsum_nil, e1, e2]
      rfl
    · show wsum Int.sign [_, _, _] = 3
      simp only [wsum_cons, wsum_nil, e1, e2]
      rfl
  rcases h with h | h
  · obtain rfl : k = m + 1 := by omega
    exact ⟨relB_braid (by omega), relE_braid (by omega), by rw [hne.1, hne.2], ok _ _ (by omega) (by omega) (by omega) (by omega), ok _ _ (by omega) (by omega) (by omega) (by omega), by simp, by simp, relA_braid (by omega)⟩
  · obtain rfl : m = k + 1 := by omega
    exact ⟨(relB_braid (by omega)).symm, fun s => (relE_braid (by omega) s).symm, by rw [hne.1, hne.2], ok _ _ (by omega) (by omega) (by omega) (by omega), ok _ _ (by omega) (by omega) (by omega) (by omega), by simp, by simp, (relA_braid (by omega)).symm⟩
theorem side_comm {N : Nat} {a b : Int} (h1 : 1 ≤ a) (h2 : a < N) (h3 : 1 ≤ b) (h4 : b < N) (h : a + 2 ≤ b ∨ b + 2 ≤ a) : Side N [a, -b] [-b, a] := by
  obtain ⟨m, rfl⟩ : ∃ m : Nat, a = (m : Int) := ⟨a.toNat, by omega⟩
  obtain ⟨k, rfl⟩ : ∃ k : Nat, b = (k : Int) := ⟨b.toNat, by omega⟩
  refine ⟨relB_comm (by omega) (by omega) (by omega), relE_comm (by omega) (by omega) (by omega), ?_, fun x hx => ?_, fun x hx => ?_, by simp, by simp, relA_comm (by omega) (by omega) (by omega)⟩
  · show wsum Int.sign [_, _] = wsum Int.sign [_, _]
    simp only [wsum_cons, wsum_nil]
    omega
  · simp at hx; rcases hx with rfl | rfl <;> omega
  · simp at hx; rcases hx with rfl | rfl <;> omega
/-- Two words out of a function. -/
def GivesSides (N : Nat) (w : World) (e : Ending) (w' : World) : Prop :=
  ∃ A n c B m d xs ys, e = .returned (.tuple #[.slice A n c, .slice B m d]) ∧ SL w' A n c xs ∧ SL w' B m d ys ∧ Side N xs ys ∧ Below w.heap.size w w'
set_option maxRecDepth 100000 in
set_option maxHeartbeats 2000000 in
theorem sides_braid (T : Nat) (hT : 1 ≤ T ∧ T ≤ 5) (i k : Int) (p q : Nat) (w : World) (hp : i % (T : Int) = p) (hq : k % (T : Int) = q) (hp5 : p < 5) (hq5 : q < 5) (h : q = p + 1 ∨ p = q + 1) (HS : Hid (Side (T + 1) [(1 + (p : Int)), (1 + (q : Int)), (1 + (p : Int))] [(1 + (q : Int)), (1 + (p : Int)), (1 + (q : Int))])) :
    Calls Try.prog 46 #[.int .i64 ((T : Int) + 1), .int .i64 i, .int .i64 k] w (GivesSides (T + 1) w) := by
  have HMX : Hid (max (1 + (p : Int) - (1 + (q : Int))) (1 + (q : Int) - (1 + (p : Int))) = 1) := hide (by omega)
  have HMY : Hid (max ((p : Int) - (q : Int)) ((q : Int) - (p : Int)) = 1) := hide (by omega)
  clear h
  have HP := hide hp
  have HQ := hide hq
  clear hp hq
  go_enter Try.func46, Try.ntmps46
  go_wp2_with fail
  refine (mbelow_any i T _ (by omega) (by omega)).mono ?_
  rintro e w1 ⟨rfl, hww⟩
  subst hww
  rw [HP.out]
  go_wp2_with fail
  refine (mbelow_any k T _ (by omega) (by omega)).mono ?_
  rintro e w1 ⟨rfl, hww⟩
  subst hww
  rw [HQ.out]
  go_wp2_with ((with_reducible show wpList _ _ _ (Oper.mk _ (.call { callee := .builtin .max, args := _, argTypes := _ }) _ _ _ _ :: _) _ _); first | refine wpList_gives rfl (gives_maxI rfl rfl rfl HMX.out) ?_ | refine wpList_gives rfl (gives_maxI rfl rfl rfl HMY.out) ?_)
  go_ret2
  have S1 := SL.lit w [(1 + (p : Int)), (1 + (q : Int)), (1 + (p : Int))] (by simp) (cs := #[.int .i64 (1 + (p : Int)), .int .i64 (1 + (q : Int)), .int .i64 (1 + (p : Int))]) rfl (m := 3) rfl
  have h1 : Below w.heap.size w (w.alloc (.cells #[.int .i64 (1 + (p : Int)), .int .i64 (1 + (q : Int)), .int .i64 (1 + (p : Int))] 3)) := (Below.refl _ _).alloc (Nat.le_refl _) _
  have h2 : Below (w.alloc (.cells #[.int .i64 (1 + (p : Int)), .int .i64 (1 + (q : Int)), .int .i64 (1 + (p : Int))] 3)).heap.size (w.alloc (.cells #[.int .i64 (1 + (p : Int)), .int .i64 (1 + (q : Int)), .int .i64 (1 + (p : Int))] 3)) ((w.alloc (.cells #[.int .i64 (1 + (p : Int)), .int .i64 (1 + (q : Int)), .int .i64 (1 + (p : Int))] 3)).alloc (.cells #[.int .i64 (1 + (q : Int)), .int .i64 (1 + (p : Int)), .int .i64 (1 + (q : Int))] 3)) := (Below.refl _ _).alloc (Nat.le_refl _) _
  have S2 := SL.lit (w.alloc (.cells #[.int .i64 (1 + (p : Int)), .int .i64 (1 + (q : Int)), .int .i64 (1 + (p : Int))] 3)) [(1 + (q : Int)), (1 + (p : Int)), (1 + (q : Int))] (by simp) (cs := #[.int .i64 (1 + (q : Int)), .int .i64 (1 + (p : Int)), .int .i64 (1 + (q : Int))]) rfl (m := 3) rfl
  rw [World.size_alloc] at S2
  exact ⟨_, _, _, _, _, _, _, _, rfl, S1.below h2, S2, HS.out, h1.trans (h2.mono h1.size)⟩
set_option maxRecDepth 100000 in
set_option maxHeartbeats 2000000 in
theorem sides_inv (T : Nat) (hT : 1 ≤ T ∧ T ≤ 5) (i k : Int) (p q : Nat) (w : World) (hp : i % (T : Int) = p) (hq : k % (T : Int) = q) (hp5 : p < 5) (hq5 : q < 5) (h : q = p) (HS : Hid (Side (T + 1) [(1 + (p : Int)), -(1 + (p : Int))] [])) :
    Calls Try.prog 46 #[.int .i64 ((T : Int) + 1), .int .i64 i, .int .i64 k] w (GivesSides (T + 1) w) := by
  have HMX : Hid (max (0 : Int) 0 = 0) := hide (by omega)
  have HMY : Hid (max (1 + (p : Int) - (1 + (p : Int))) (1 + (p : Int) - (1 + (p : Int))) = 0) := hide (by omega)
  replace hq : k % (T : Int) = p := by rw [hq, h]
  clear h
  have HP := hide hp
  have HQ := hide hq
  clear hp hq
  go_enter Try.func46, Try.ntmps46
  go_wp2_with fail
  refine (mbelow_any i T _ (by omega) (by omega)).mono ?_
  rintro e w1 ⟨rfl, hww⟩
  subst hww
  rw [HP.out]
  go_wp2_with fail
  refine (mbelow_any k T _ (by omega) (by omega)).mono ?_
  rintro e w1 ⟨rfl, hww⟩
  subst hww
  rw [HQ.out]
  go_wp2_with ((with_reducible show wpList _ _ _ (Oper.mk _ (.call { callee := .builtin .max, args := _, argTypes := _ }) _ _ _ _ :: _) _ _); first | refine wpList_gives rfl (gives_maxI rfl rfl rfl HMX.out) ?_ | refine wpList_gives rfl (gives_maxI rfl rfl rfl HMY.out) ?_)
  go_ret2
  have S1 := SL.lit w [(1 + (p : Int)), (-(1 + (p : Int)))] (by simp) (cs := #[.int .i64 (1 + (p : Int)), .int .i64 (-(1 + (p : Int)))]) rfl (m := 2) rfl
  have h1 : Below w.heap.size w (w.alloc (.cells #[.int .i64 (1 + (p : Int)), .int .i64 (-(1 + (p : Int)))] 3)) := (Below.refl _ _).alloc (Nat.le_refl _) _
  exact ⟨_, _, _, _, _, _, _, _, rfl, S1, SL.nil_ _, HS.out, h1⟩
set_option maxRecDepth 100000 in
set_option maxHeartbeats 2000000 in
theorem sides_comm (T : Nat) (hT : 1 ≤ T ∧ T ≤ 5) (i k : Int) (p q : Nat) (w : World) (hp : i % (T : Int) = p) (hq : k % (T : Int) = q) (hp5 : p < 5) (hq5 : q < 5) (h : q + 2 ≤ p ∨ p + 2 ≤ q) (HS : Hid (Side (T + 1) [(1 + (p : Int)), -(1 + (q : Int))] [-(1 + (q : Int)), (1 + (p : Int))])) :
    Calls Try.prog 46 #[.int .i64 ((T : Int) + 1), .int .i64 i, .int .i64 k] w (GivesSides (T + 1) w) := by
  obtain ⟨D, hD⟩ : ∃ D : Nat, max ((p : Int) - (q : Int)) ((q : Int) - (p : Int)) = D := ⟨(max ((p : Int) - (q : Int)) ((q : Int) - (p : Int))).toNat, by omega⟩
  have hD2 : 2 ≤ D := by omega
  have HMY := hide hD
  have HMX : Hid (max (1 + (p : Int) - (1 + (q : Int))) (1 + (q : Int) - (1 + (p : Int))) = D) := hide (by omega)
  have t1 : ((D : Int) == 1) = false := by simp; omega
  have t2 : ((D : Int) == 0) = false := by simp; omega
  clear h hD
  have HP := hide hp
  have HQ := hide hq
  clear hp hq
  go_enter Try.func46, Try.ntmps46
  go_wp2_with fail
  refine (mbelow_any i T _ (by omega) (by omega)).mono ?_
  rintro e w1 ⟨rfl, hww⟩
  subst hww
  rw [HP.out]
  go_wp2_with fail
  refine (mbelow_any k T _ (by omega) (by omega)).mono ?_
  rintro e w1 ⟨rfl, hww⟩
  subst hww
  rw [HQ.out]
  go_wp2_with ((with_reducible show wpList _ _ _ (Oper.mk _ (.call { callee := .builtin .max, args := _, argTypes := _ }) _ _ _ _ :: _) _ _); first | refine wpList_gives rfl (gives_maxI rfl rfl rfl HMX.out) ?_ | refine wpList_gives rfl (gives_maxI rfl rfl rfl HMY.out) ?_)
  go_ret2
  have S1 := SL.lit w [(1 + (p : Int)), (-(1 + (q : Int)))] (by simp) (cs := #[.int .i64 (1 + (p : Int)), .int .i64 (-(1 + (q : Int)))]) rfl (m := 2) rfl
  have h1 : Below w.heap.size w (w.alloc (.cells #[.int .i64 (1 + (p : Int)), .int .i64 (-(1 + (q : Int)))] 3)) := (Below.refl _ _).alloc (Nat.le_refl _) _
  have h2 : Below (w.alloc (.cells #[.int .i64 (1 + (p : Int)), .int .i64 (-(1 + (q : Int)))] 3)).heap.size (w.alloc (.cells #[.int .i64 (1 + (p : Int)), .int .i64 (-(1 + (q : Int)))] 3)) ((w.alloc (.cells #[.int .i64 (1 + (p : Int)), .int .i64 (-(1 + (q : Int)))] 3)).alloc (.cells #[.int .i64 (-(1 + (q : Int))), .int .i64 (1 + (p : Int))] 3)) := (Below.refl _ _).alloc (Nat.le_refl _) _
  have S2 := SL.lit (w.alloc (.cells #[.int .i64 (1 + (p : Int)), .int .i64 (-(1 + (q : Int)))] 3)) [(-(1 + (q : Int))), (1 + (p : Int))] (by simp) (cs := #[.int .i64 (-(1 + (q : Int))), .int .i64 (1 + (p : Int))]) rfl (m := 2) rfl
  rw [World.size_alloc] at S2
  exact ⟨_, _, _, _, _, _, _, _, rfl, S1.below h2, S2, HS.out, h1.trans (h2.mono h1.size)⟩
theorem sides_any (T : Nat) (hT : 1 ≤ T ∧ T ≤ 5) (i k : Int) (w : World) : Calls Try.prog 46 #[.int .i64 ((T : Int) + 1), .int .i64 i, .int .i64 k] w (GivesSides (T + 1) w) := by
  have m1 := Int.emod_lt_of_pos i (show (0 : Int) < (T : Int) by omega)
  have m2 := Int.emod_nonneg i (show (T : Int) ≠ 0 by omega)
  have m3 := Int.emod_lt_of_pos k (show (0 : Int) < (T : Int) by omega)
  have m4 := Int.emod_nonneg k (show (T : Int) ≠ 0 by omega)
  obtain ⟨p, hp⟩ : ∃ p : Nat, i % (T : Int) = p := ⟨(i % (T : Int)).toNat, by omega⟩
  obtain ⟨q, hq⟩ : ∃ q : Nat, k % (T : Int) = q := ⟨(k % (T : Int)).toNat, by omega⟩
  have c : q = p ∨ (q = p + 1 ∨ p = q + 1) ∨ (q + 2 ≤ p ∨ p + 2 ≤ q) := by omega
  rcases c with h | h | h
  · exact sides_inv T hT i k p q w hp hq (by omega) (by omega) h (hide (side_inv (by omega) (by omega)))
  · exact sides_braid T hT i k p q w hp hq (by omega) (by omega) h (hide (side_braid (by omega) (by omega) (by omega) (by omega) (by omega)))
  · exact sides_comm T hT i k p q w hp hq (by omega) (by omega) h (hide (side_comm (by omega) (by omega) (by omega) (by omega) (by omega)))
end Go.Proofs.Ytldfnfhommbokaa
/- The facts 'multiplied' that the laws of polynomials begin with. -/
namespace Go.Proofs.Ytldfnfhommbokaa
set_option linter.unusedVariables false
set_option linter.unusedSimpArgs false
open Go.RowKit

theorem mulR_k : LP.mulR (-1) [1, 1] 0 [1, 1] = (0, -1, [1, 2, 1]) := by
  have he : LP.of (-1) [1, 2, 1] = LP.of (-1) [1, 1] * LP.of 0 [1, 1] := LP.mk_eq fun k => by
    show (if -1 = k then (1 : Int) else 0) + ((if 0 = k then (2 : Int) else 0) + ((if 1 = k then (1 : Int) else 0) + 0)) = (if -1 = k then (1 : Int) else 0) + ((if 0 = k then (1 : Int) else 0) + ((if 0 = k then (1 : Int) else 0) + ((if 1 = k then (1 : Int) else 0) + 0)))
    grind
  have hc := LP.canon_eq (lo := -1) (cs := [1, 2, 1]) (.inr ⟨by simp, by decide, by decide⟩) he
  unfold LP.mulR LP.two2
  rw [if_pos (by decide), if_pos (by decide), LP.fit_ok (by rw [hc]; decide), hc]
theorem mulR_r : LP.mulR 0 [1, 1] 0 [1, -1] = (0, 0, [1, 0, -1]) := by
  have he : LP.of 0 [1, 0, -1] = LP.of 0 [1, 1] * LP.of 0 [1, -1] := LP.mk_eq fun k => by
    show (if 0 = k then (1 : Int) else 0) + ((if 1 = k then (0 : Int) else 0) + ((if 2 = k then (-1 : Int) else 0) + 0)) = (if 0 = k then (1 : Int) else 0) + ((if 1 = k then (-1 : Int) else 0) + ((if 1 = k then (1 : Int) else 0) + ((if 2 = k then (-1 : Int) else 0) + 0)))
    grind
  have hc := LP.canon_eq (lo := 0) (cs := [1, 0, -1]) (.inr ⟨by simp, by decide, by decide⟩) he
  unfold LP.mulR LP.two2
  rw [if_pos (by decide), if_pos (by decide), LP.fit_ok (by rw [hc]; decide), hc]

end Go.Proofs.Ytldfnfhommbokaa
/- timbkeep1's mul, add, same and multiplied in drawn regions. -/
namespace Go.Proofs.Ytldfnfhommbokaa
set_option linter.unusedVariables false
set_option linter.unusedSimpArgs false
open Go.RowKit

theorem eMulK : ∀ args w, (callFunc 32 args).run Try.prog w = .ok (.enter 32 args) w := enters (fn := Try.f32) (by kernel_rfl) (by kernel_rfl) (by kernel_rfl)
theorem eAddK : ∀ args w, (callFunc 31 args).run Try.prog w = .ok (.enter 31 args) w := enters (fn := Try.f31) (by kernel_rfl) (by kernel_rfl) (by kernel_rfl)
theorem eSameK : ∀ args w, (callFunc 33 args).run Try.prog w = .ok (.enter 33 args) w := enters (fn := Try.f33) (by kernel_rfl) (by kernel_rfl) (by kernel_rfl)
/-- The product of two polynomials, as the laws reckon it. -/
theorem mul_c (F : PolyC) {x y z : LP} (hx : LP.Rt x) (hy : LP.Rt y) (hz : LP.Rt z) (e : x * y = z) (w : World) (A : Option Addr) (n c : Nat) (B : Option Addr) (m d : Nat) (ha : SL w A n c (LP.canon x).2) (hb : SL w B m d (LP.canon y).2) :
    Calls Try.prog 32 #[PV (LP.canon x).1 A n c, PV (LP.canon y).1 B m d] w (GivesP w (LP.canon z).1 (LP.canon z).2) := by
  subst e
  have h := mul_k F (LP.canon x).1 A n c (LP.canon x).2 (LP.canon y).1 B m d (LP.canon y).2 w ha hb hx.wf hy.wf
  rw [LP.mulR_canon hx hy hz] at h
  exact h
theorem add_c (F : PolyC) {x y z : LP} (hx : LP.Rt x) (hy : LP.Rt y) (hz : LP.Rt z) (e : x + y = z) (w : World) (A : Option Addr) (n c : Nat) (B : Option Addr) (m d : Nat) (ha : SL w A n c (LP.canon x).2) (hb : SL w B m d (LP.canon y).2) :
    Calls Try.prog 31 #[PV (LP.canon x).1 A n c, PV (LP.canon y).1 B m d] w (GivesP w (LP.canon z).1 (LP.canon z).2) := by
  subst e
  have h := add_k F (LP.canon x).1 A n c (LP.canon x).2 (LP.canon y).1 B m d (LP.canon y).2 w ha hb hx.wf hy.wf
  rw [LP.addR_canon hx hy hz] at h
  exact h
theorem same_c (z : LP) (w : World) (A : Option Addr) (n c : Nat) (B : Option Addr) (m d : Nat) (ha : SL w A n c (LP.canon z).2) (hb : SL w B m d (LP.canon z).2) :
    Calls Try.prog 33 #[PV (LP.canon z).1 A n c, PV (LP.canon z).1 B m d] w fun e w' => e = .returned (.bool true) ∧ Below w.heap.size w w' := by
  have h := same_k (LP.canon z).1 A n c (LP.canon z).2 (LP.canon z).1 B m d (LP.canon z).2 w ha hb
  rw [show (decide ((LP.canon z).1 = (LP.canon z).1) && eqB (LP.canon z).2 (LP.canon z).2) = true by rw [eqB_true rfl]; simp] at h
  exact h

theorem gives_eqlE {P : Program} {o : Oper} {a : Act} {w : World} {x y : Operand} {ty : TypeId} {m k : Int} {b : Bool} (ho : o.op = .binOp .eql 23 x y ty) (hx : a.eval x = .int .i64 m) (hy : a.eval y = .int .i64 k) (hz : (m == k) = b) : Gives P o a w (.bool b) := by
  subst hz
  unfold Gives execOp
  rw [ho]
  simp [hx, hy, eqGuard, binOp, Op.intCmp, Sem.run_bind, Result.andThen]
theorem gives_neqE {P : Program} {o : Oper} {a : Act} {w : World} {x y : Operand} {ty : TypeId} {m k : Int} {b : Bool} (ho : o.op = .binOp .neq 23 x y ty) (hx : a.eval x = .int .i64 m) (hy : a.eval y = .int .i64 k) (hz : (m != k) = b) : Gives P o a w (.bool b) := by
  subst hz
  unfold Gives execOp
  rw [ho]
  simp [hx, hy, eqGuard, binOp, Op.intCmp, Sem.run_bind, Result.andThen]
theorem gives_notE {P : Program} {o : Oper} {a : Act} {w : World} {x : Operand} {t : TypeId} {b c : Bool} (ho : o.op = .unOp .not t x) (hx : a.eval x = .bool b) (hc : (!b) = c) : Gives P o a w (.bool c) := by
  subst hc
  unfold Gives execOp
  rw [ho]
  simp [hx, Op.unary, Sem.run_bind, Result.andThen]
theorem gives_build {P : Program} {o : Oper} {a : Act} {w : World} {t : TypeId} {l : List (Nat × Operand)} {cells : Array Value} (vs : List (Nat × Value)) (ho : o.op = .build t l.toArray) (hv : (l.map fun (i, x) => (i, a.eval x)) = vs) (hb : P.built t vs = some cells) : Gives P o a w (.agg cells) := by
  subst hv
  unfold Gives execOp
  rw [ho]
  have e : ((l.toArray.map fun (i, x) => (i, a.eval x)).toList) = l.map fun (i, x) => (i, a.eval x) := by simp
  have := run_build (P := P) w t (l.toArray.map fun (i, x) => (i, a.eval x)) cells (by rw [e]; exact hb)
  simp only [Sem.run_bind, this, Result.andThen_ok, Sem.run_pure]
end Go.Proofs.Ytldfnfhommbokaa
