/- Package temperleylieb: Product, Closure as the document asks. -/
import Derived.Test.YthhcjnmlpojjeaaTp5
namespace Go.Proofs.Ythhcjnmlpojjeaa
set_option linter.unusedVariables false
set_option linter.unusedSimpArgs false
open Go.RowKit

set_option maxRecDepth 100000 in
set_option maxHeartbeats 4000000 in
theorem tproduct_any (m : Int) (A : Option Addr) (n c : Nat) (a : List Int) (B : Option Addr) (k d : Nat) (b : List Int) (w : World) (ha : SL w A n c a) (hb : SL w B k d b) (hm : (Lit.int .i64 m).wf = true) :
    Calls Try.prog 17 #[.int .i64 m, .slice A n c, .slice B k d] w (GivesTLK w (prE m a b) (prK m a b) (prL m a b)) := by
  have HC1 := hide (tcheck_any m A n c a w ha hm)
  by_cases h1 : Tl.mtF m a = 0
  case neg =>
    have HE : Hid (prE m a b = Tl.mtF m a ∧ prK m a b = 0 ∧ prL m a b = []) := hide (by
      have e : prE m a b = Tl.mtF m a := by unfold prE; rw [if_pos h1]
      exact ⟨e, by unfold prK; rw [e, if_neg h1], by unfold prL; rw [e, if_neg h1]⟩)
    rw [HE.out.1, HE.out.2.1, HE.out.2.2]
    obtain ⟨z, hz⟩ : ∃ z, Tl.mtF m a = z := ⟨_, rfl⟩
    rw [hz] at h1 HC1 ⊢
    have hne : (z != 0) = true := by simpa using h1
    clear h1 hm HE hz
    go_enter Try.func17, Try.ntmps17
    go_wp2_with fail
    refine HC1.out.mono ?_
    rintro e w1 ⟨rfl, hb1⟩
    go_wp2_with fail
    go_ret3
    exact ⟨none, 0, 0, rfl, SL.nil_ _, hb1⟩
  have HC2 := hide (fun (w' : World) (h : SL w' B k d b) => tcheck_any m B k d b w' h hm)
  by_cases h2 : Tl.mtF m b = 0
  case neg =>
    have HE : Hid (prE m a b = Tl.mtF m b ∧ prK m a b = 0 ∧ prL m a b = []) := hide (by
      have e : prE m a b = Tl.mtF m b := by unfold prE; rw [if_neg (fun h => h h1)]
      exact ⟨e, by unfold prK; rw [e, if_neg h2], by unfold prL; rw [e, if_neg h2]⟩)
    rw [HE.out.1, HE.out.2.1, HE.out.2.2]
    rw [h1] at HC1
    obtain ⟨z, hz⟩ : ∃ z, Tl.mtF m b = z := ⟨_, rfl⟩
    rw [hz] at h2 HC2 ⊢
    have hne : (z != 0) = true := by simpa using h2
    have HB := hide hb
    clear h1 h2 hm HE hz hb
    go_enter Try.func17, Try.ntmps17
    go_wp2_with fail
    refine HC1.out.mono ?_
    rintro e w1 ⟨rfl, hb1⟩
    have HB1 := hide hb1
    clear hb1 HC1
    go_wp2_with fail
    refine (HC2.out w1 (HB.out.below HB1.out)).mono ?_
    rintro e w2 ⟨rfl, hb2⟩
    have HB2 := hide (HB1.out.trans (hb2.mono HB1.out.size))
    clear hb2
    go_wp2_with fail
    go_ret3
    exact ⟨none, 0, 0, rfl, SL.nil_ _, HB2.out⟩
  obtain ⟨q, rfl, h0, h6, x, hx, rfl⟩ := valid_plan h1
  obtain ⟨q', e, _, _, y, hy, rfl⟩ := valid_plan h2
  have e : q = q' := by omega
  subst e
  have h3 := product_ok q A n c x B k d y w ha hb h0 h6 hx hy
  have e1 := prE_ok h0 h6 hx hy
  have e2 := prL_ok h0 h6 hx hy
  rw [e1, e2.1, e2.2]
  exact h3

set_option maxRecDepth 100000 in
set_option maxHeartbeats 4000000 in
theorem tclosure_any (m : Int) (A : Option Addr) (l c : Nat) (d : List Int) (w : World) (ha : SL w A l c d) (hm : (Lit.int .i64 m).wf = true) :
    Calls Try.prog 18 #[.int .i64 m, .slice A l c] w fun e w' => e = .returned (.tuple #[.int .i64 (clK m d), .int .i64 (Tl.mtF m d)]) ∧ Below w.heap.size w w' := by
  have HC1 := hide (tcheck_any m A l c d w ha hm)
  by_cases h1 : Tl.mtF m d = 0
  case neg =>
    have HE : Hid (clK m d = 0) := hide (by unfold clK; rw [if_neg h1])
    rw [HE.out]
    obtain ⟨z, hz⟩ : ∃ z, Tl.mtF m d = z := ⟨_, rfl⟩
    rw [hz] at h1 HC1 ⊢
    have hne : (z != 0) = true := by simpa using h1
    clear h1 hm HE hz
    go_enter Try.func18, Try.ntmps18
    go_wp2_with fail
    refine HC1.out.mono ?_
    rintro e w1 ⟨rfl, hb1⟩
    go_wp2_with fail
    go_ret2
    exact ⟨rfl, hb1⟩
  obtain ⟨n, rfl, h0, h6, x, hx, rfl⟩ := valid_plan h1
  rw [h1, clK_ok h0 h6 hx]
  rw [h1] at HC1
  have Bx := Tl.plan_base h6 hx
  have hlx := Bx.mat.ok.1
  have HLB := hide (Tl.lbC Bx)
  have HLS : Hid (∀ i, i < 2 * n → (zs x).getD i 0 = ((fun i => x.getD i 0) i : Int)) := hide (fun i hi => by rw [zs_getD])
  have HJS : Hid (∀ i, i < 2 * n → (Tl.conC n (-1) n).getD i 0 = Tl.jv (Tl.jntC n i)) := hide (fun i hi => Tl.conC_getD h6 hi)
  have HCI : Hid (Tl.cnt (Tl.joins (List.range (2 * n)) (Tl.cirE n x)) = Tl.cir n x) := hide rfl
  obtain ⟨N, hN⟩ : ∃ N, 2 * n = N := ⟨_, rfl⟩
  have HN := hide hN
  have HN2 : Hid (n + n = N) := hide (by omega)
  have hN0 : 0 < N := by omega
  have hN12 : N ≤ 12 := by omega
  rw [hN] at HLB HLS HJS HCI hlx
  have HA := hide ha
  have HLX := hide hlx
  clear hN h1 hm hx Bx ha hlx
  go_enter Try.func18, Try.ntmps18
  go_wp2_with fail
  refine HC1.out.mono ?_
  rintro e w1 ⟨rfl, hb1⟩
  have HB1 := hide hb1
  clear hb1 HC1
  go_wp2_with fail
  refine (clone_any A l c (zs x) w1 (HA.out.below HB1.out).il HA.out.nil).mono ?_
  rintro e w2 ⟨D, q, qc, rfl, ho, hb2⟩
  have hq : q = N := by have := ho.len; rw [zs_length, HLX.out] at this; exact this.symm
  subst hq
  obtain ⟨lg, rfl, hl1, hl2⟩ := ho.form hN0
  have HND := hide (newDia_any lg q qc w1.heap.size (zs x) w2 ho hN0 (by omega) hl1)
  have HB2 := hide (HB1.out.trans (hb2.mono HB1.out.size))
  have hs1 := HB1.out.size
  clear ho hb2 hl1 hl2
  go_wp2_with fail
  refine HND.out.mono ?_
  rintro e w3 ⟨jg, jc, sg, rfl, hd, hb3⟩
  have HD3 := hide (hd.mono hs1)
  have HB3 := hide (HB2.out.trans (hb3.mono HB2.out.size))
  have hJ0 : List.replicate q (-1 : Int) = Tl.conC n (-1) 0 := by unfold Tl.conC; rw [HN.out]; rfl
  rw [hJ0] at HD3
  obtain ⟨ls, hls⟩ : ∃ ls, zs x = ls := ⟨_, rfl⟩
  rw [hls] at HD3 HLS
  have hlt3 : jg < w3.heap.size ∧ sg < w3.heap.size := by
    obtain ⟨g2, e2, _, h2⟩ := HD3.out.joints.form hN0
    obtain ⟨g3, e3, _, h3⟩ := HD3.out.seen.form hN0
    simp only [Option.some.injEq, Addr.mk.injEq] at e2 e3
    omega
  have HBB := hide (Blk.new w3 60 #[.slice (some ⟨lg, 0, none⟩) q qc, .slice (some ⟨jg, 0, none⟩) q jc, .slice (some ⟨sg, 0, none⟩) q q])
  have HD4 := hide (HD3.out.below ((Below.refl _ _).alloc (Nat.le_refl _) (.cells #[.slice (some ⟨lg, 0, none⟩) q qc, .slice (some ⟨jg, 0, none⟩) q jc, .slice (some ⟨sg, 0, none⟩) q q] 60)))
  have HB4 := hide (HB3.out.alloc HB3.out.size (.cells #[.slice (some ⟨lg, 0, none⟩) q qc, .slice (some ⟨jg, 0, none⟩) q jc, .slice (some ⟨sg, 0, none⟩) q q] 60))
  clear hd hb3 HND hJ0 hls HD3 HB3 HB2 HB1 HA HLX hs1
  go_upto_region 5 with fail
  generalize w3.alloc (.cells #[.slice (some ⟨lg, 0, none⟩) q qc, .slice (some ⟨jg, 0, none⟩) q jc, .slice (some ⟨sg, 0, none⟩) q q] 60) = w4 at *
  generalize w3.heap.size = gb at *
  go_wp2_with fail
  go_loopw [19] (fun iv wr => ∃ k : Nat, iv = .int .i64 k ∧ k ≤ n ∧ Hid (DiaM wr w.heap.size q lg qc jg jc sg ls (Tl.conC n (-1) k) fun _ => false) ∧ Hid (Below w.heap.size w wr) ∧ Hid (Blk wr gb 60 #[.slice (some ⟨lg, 0, none⟩) q qc, .slice (some ⟨jg, 0, none⟩) q jc, .slice (some ⟨sg, 0, none⟩) q q])) (fun iv _ => n - (intOf iv).toNat)
  case atStart => exact ⟨0, rfl, Nat.zero_le _, HD4, HB4, HBB⟩
  case round =>
    clear HD4 HB4 HBB
    obtain ⟨k, rfl, hk, HD, HBW, HBB⟩ := hrel
    have hc0 := HBB.out.cell 0
    have hc1 := HBB.out.cell 1
    have hc2 := HBB.out.cell 2
    simp at hc0 hc1 hc2
    by_cases hkn : k < n
    · obtain ⟨i2, hi2⟩ : ∃ i, n + k = i := ⟨_, rfl⟩
      have hv2 : IntKind.i64.wrap ((n : Int) + (k : Int)) = (i2 : Int) := by rw [IntKind.wrap_i64]; omega
      have HCON := hide (connect_any jg q jc w.heap.size k i2 (Tl.conC n (-1) k) wr HD.out.joints (by have := HN2.out; omega) (by have := HN2.out; omega) (by omega))
      have HD2 := hide ((HD.out.joint k (i2 : Int)).joint i2 (k : Int))
      have HSJ : Hid (((Tl.conC n (-1) k).set k (i2 : Int)).set i2 (k : Int) = Tl.conC n (-1) (k + 1)) := hide (by rw [Tl.conC_succ, hi2])
      rw [HSJ.out] at HD2
      have hjb := HD.out.bs.2.1
      have HB2 := hide ((HBW.out.setCell (p := ⟨jg, k, none⟩) hjb (.int .i64 (i2 : Int))).setCell (p := ⟨jg, i2, none⟩) hjb (.int .i64 (k : Int)))
      have HBB2 := hide ((HBB.out.far (p := ⟨jg, k, none⟩) (show gb ≠ jg by omega) (.int .i64 (i2 : Int))).far (p := ⟨jg, i2, none⟩) (show gb ≠ jg by omega) (.int .i64 (k : Int)))
      clear hi2 hjb HD HBW HBB HSJ
      go_wp2_with fail
      refine HCON.out.mono ?_
      rintro e w5 ⟨rfl, hw5⟩
      rw [← hw5] at HD2 HB2 HBB2
      clear hw5 hc0 hc1 hc2 HCON
      go_wp2_with fail
      go_roundw
      case rel => exact ⟨k + 1, by go_num, by omega, HD2, HB2, HBB2⟩
      case measure => simp [intOf]; omega
    · have hkE : k = n := by omega
      have HD2 : Hid (DiaM wr w.heap.size q lg qc jg jc sg ls (Tl.conC n (-1) n) fun _ => false) := hide (by have h := HD.out; rwa [hkE] at h)
      have HCT := hide (countLoops_any w.heap.size q lg qc jg jc sg q ls _ (fun _ => false) _ _ _ _ wr HD2.out HLS.out HJS.out HLB.out (by omega) hN0 (by omega) ⟨fun i _ h => (by cases h), fun i j _ _ h => (by cases h)⟩ (fun i _ h => (by unfold Tl.jntC at h; cases h)))
      have hsb := HD2.out.bs.2.2
      clear hkE HD
      go_wp2_with fail
      refine HCT.out.mono ?_
      rintro e w9 ⟨r, rfl, hr, hg9⟩
      rw [Tl.cntS_none, Nat.add_zero, HCI.out] at hr
      have HR := hide hr
      have HB9 := hide (HBW.out.grown hg9 HBW.out.size (fun j hj => by rw [← Option.some.inj hj]; exact hsb))
      clear hr hg9 hc0 hc1 hc2 HCT
      go_wp2_with fail
      go_ret2
      rw [HR.out]
      exact ⟨rfl, HB9.out⟩
end Go.Proofs.Ythhcjnmlpojjeaa
