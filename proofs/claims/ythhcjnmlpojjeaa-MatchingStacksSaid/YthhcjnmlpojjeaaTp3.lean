/- Package temperleylieb: stack. -/
import Derived.Test.YthhcjnmlpojjeaaTp2
namespace Go.Proofs.Ythhcjnmlpojjeaa
set_option linter.unusedVariables false
set_option linter.unusedSimpArgs false
open Go.RowKit

/-- The joints of a stack of two, made one after another. -/
def Tl.conJ (n k : Nat) : List Int := (List.range k).foldl (fun X i => (X.set (n + i) ((2 * n + i : Nat) : Int)).set (2 * n + i) ((n + i : Nat) : Int)) (List.replicate (4 * n) (-1))
theorem Tl.conJ_succ (n k : Nat) : Tl.conJ n (k + 1) = ((Tl.conJ n k).set (n + k) ((2 * n + k : Nat) : Int)).set (2 * n + k) ((n + k : Nat) : Int) := by unfold Tl.conJ; rw [List.range_succ, List.foldl_append]; rfl
def Tl.jv : Option Nat → Int
  | none => -1
  | some j => j
theorem Tl.conJ_all : (List.range 7).all (fun n => decide (Tl.conJ n n = (List.range (4 * n)).map fun i => Tl.jv (Tl.jnt2 n i))) = true := by decide +kernel
theorem Tl.conJ_eq {n : Nat} (h6 : n ≤ 6) : Tl.conJ n n = (List.range (4 * n)).map fun i => Tl.jv (Tl.jnt2 n i) := by
  have h1 := Tl.conJ_all
  rw [List.all_eq_true] at h1
  exact of_decide_eq_true (h1 n (List.mem_range.2 (by omega)))
theorem Tl.conJ_getD {n : Nat} (h6 : n ≤ 6) {i : Nat} (hi : i < 4 * n) : (Tl.conJ n n).getD i 0 = Tl.jv (Tl.jnt2 n i) := by
  rw [Tl.conJ_eq h6]
  simp [List.getD, hi]
def Tl.ls2 (n : Nat) (a b : List Nat) : List Nat := a ++ b.map (2 * n + ·)
theorem Tl.ls2_getD {n : Nat} {a b : List Nat} (ha : a.length = 2 * n) (hb : b.length = 2 * n) {i : Nat} (hi : i < 4 * n) : (Tl.ls2 n a b).getD i 0 = Tl.lin2 n a b i := by
  unfold Tl.ls2 Tl.lin2
  by_cases h : i < 2 * n
  · rw [if_pos h]
    simp [List.getD, List.getElem?_append_left (show i < a.length by omega)]
  · rw [if_neg h]
    simp [List.getD, List.getElem?_append_right (show a.length ≤ i by omega), ha, hb, show i - 2 * n < 2 * n by omega]

set_option maxRecDepth 100000 in
set_option maxHeartbeats 4000000 in
theorem stack_p (n : Nat) (A : Option Addr) (an ac : Nat) (a : List Nat) (B : Option Addr) (bn bc : Nat) (b : List Nat) (w : World) (ha : SL w A an ac (zs a)) (hb : SL w B bn bc (zs b)) (la : a.length = 2 * n) (lb : b.length = 2 * n) (hbl : ∀ x ∈ b, x < 2 * n) (h0 : 1 ≤ n) (h6 : n ≤ 6) :
    Calls Try.prog 36 #[.int .i64 n, .slice A an ac, .slice B bn bc] w fun e w' => ∃ lg lc, GivesDia w w.heap.size (4 * n) lg lc (zs (Tl.ls2 n a b)) (Tl.conJ n n) e w' := by
  have han : an = 2 * n := by have := ha.il.len; rw [zs_length] at this; omega
  have hbn : bn = 2 * n := by have := hb.il.len; rw [zs_length] at this; omega
  obtain ⟨N, hN⟩ : ∃ N, 2 * n = N := ⟨_, rfl⟩
  rw [hN] at la lb hbl han hbn
  subst han
  subst hbn
  obtain ⟨M, hM⟩ : ∃ M, 4 * n = M := ⟨_, rfl⟩
  have HN := hide hN
  have HM := hide hM
  rw [hM]
  have hw2 : IntKind.i64.wrap (2 * (n : Int)) = (bn : Int) := by rw [IntKind.wrap_i64]; omega
  have hbn12 : bn ≤ 12 := by omega
  have hbn2 : 2 ≤ bn := by omega
  have HB := hide hb
  have HLA := hide la
  have HLB := hide lb
  have HBL := hide hbl
  obtain ⟨w1, hw1⟩ : ∃ x, w.alloc (.cells #[.slice none 0 0, .slice none 0 0, .slice none 0 0] 60) = x := ⟨_, rfl⟩
  have hnew := Blk.new w 60 #[.slice none 0 0, .slice none 0 0, .slice none 0 0]
  have hb1 : Below w.heap.size w (w.alloc (.cells #[.slice none 0 0, .slice none 0 0, .slice none 0 0] 60)) := (Below.refl _ _).alloc (Nat.le_refl _) _
  have hs1 : (w.alloc (.cells #[.slice none 0 0, .slice none 0 0, .slice none 0 0] 60)).heap.size = w.heap.size + 1 := World.size_alloc ..
  rw [hw1] at hnew hb1 hs1
  have HW1 := hide hw1
  have HNEW := hide hnew
  have HB1 := hide hb1
  have HCL := hide (clone_any A bn ac (zs a) w1 (ha.il.below hb1) ha.nil)
  obtain ⟨i0, hi0, hz0, hz1, hz2⟩ := info_parts int_info
  have HI0 := hide hi0
  have HZ0 := hide hz0
  have HZ1 := hide hz1
  have HZ2 := hide hz2
  clear hN hM la lb hbl ha hb hnew hb1 hi0 hz0 hz1 hz2
  go_enter Try.func36, Try.ntmps36
  go_upto_region 1 with fail
  clear hw1
  go_wp2_with fail
  refine HCL.out.mono ?_
  rintro e w2 ⟨S0, q0, c0, rfl, ho, hb2⟩
  have hq0 : q0 = bn := by have := ho.len; rw [zs_length, HLA.out] at this; exact this.symm
  subst hq0
  have HO1 : Hid (OwnI w2 (w.heap.size + 1) S0 q0 c0 (zs (Tl.ls2 n a (b.take 0)))) := hide (by rw [← hs1]; unfold Tl.ls2; simp; exact ho)
  have HNEW2 := hide (HNEW.out.below hb2 (by rw [hs1]; omega))
  have HB2 := hide (HB1.out.trans (hb2.mono (by rw [hs1]; omega)))
  have hs2 : w.heap.size + 1 ≤ w2.heap.size := by have := hb2.size; omega
  clear ho hb2 HCL HNEW HB1 hs1 HW1
  go_wp2_with fail
  go_loopw [7, 16] (fun sv iv wr => ∃ (k q c2 : Nat) (S : Option Addr), sv = .slice S q c2 ∧ iv = .int .i64 k ∧ k ≤ q0 ∧ q = q0 + k ∧ Hid (OwnI wr (w.heap.size + 1) S q c2 (zs (Tl.ls2 n a (b.take k)))) ∧ Hid (Below w.heap.size w wr) ∧ Hid (Blk wr w.heap.size 60 #[.slice none 0 0, .slice none 0 0, .slice none 0 0]) ∧ w.heap.size + 1 ≤ wr.heap.size) (fun _ iv _ => q0 - (intOf iv).toNat)
  case atStart => exact ⟨0, q0, c0, S0, rfl, rfl, Nat.zero_le _, rfl, HO1, HB2, HNEW2, hs2⟩
  case round =>
    clear HO1 HB2 HNEW2 hs2
    obtain ⟨k, q, c2, S, rfl, rfl, hk, hq, HO, HBW, HNB, hsz⟩ := hrel
    by_cases hlt : k < q0
    · obtain ⟨ad, rfl, hcl⟩ := (HB.out.below HBW.out).il.at_ hlt
      rw [zs_getD] at hcl
      have hkl : k < b.length := by rw [HLB.out]; exact hlt
      have HTK : Hid (zs (Tl.ls2 n a (b.take (k + 1))) = zs (Tl.ls2 n a (b.take k)) ++ [((q0 + b.getD k 0 : Nat) : Int)]) := hide (by
        rw [List.take_succ_eq_append_getElem hkl, show b[k] = b.getD k 0 by simp [List.getD, hkl], show Tl.ls2 n a (b.take k ++ [b.getD k 0]) = Tl.ls2 n a (b.take k) ++ [q0 + b.getD k 0] by unfold Tl.ls2; rw [List.map_append, List.append_assoc, HN.out]; rfl]
        simp [zs])
      have hx := HBL.out (b.getD k 0) (by rw [show b.getD k 0 = b[k] by simp [List.getD, hkl]]; exact List.getElem_mem _)
      obtain ⟨x, hxe⟩ : ∃ x, b.getD k 0 = x := ⟨_, rfl⟩
      rw [hxe] at hcl HTK hx
      have hwx : IntKind.i64.wrap ((q0 : Int) + (x : Int)) = ((q0 + x : Nat) : Int) := by rw [IntKind.wrap_i64]; omega
      obtain ⟨y, hy⟩ : ∃ y, q0 + x = y := ⟨_, rfl⟩
      rw [hy] at hwx HTK
      have hq12 : q ≤ 24 := by omega
      generalize zs (Tl.ls2 n a (b.take k)) = L at *
      have HQ := hide hq
      clear hxe hkl hx hy hq
      go_wp2_with (at_builtin; refine wpList_append_int _ rfl (.tmp 20) (.tmp 25) 22 rfl (w.heap.size + 1) i0 Try.underlying22 HI0.out HZ0.out HZ1.out HZ2.out S q c2 L rfl (HO.out.alloc _) (some ⟨_, 0, none⟩) 1 1 [(y : Int)] rfl (IL.lit _ [(y : Int)] (by simp) rfl rfl) (by omega) (by simp; omega) ?_; intro A8 c8 w8 hap)
      have hN := hap.own
      rw [← HTK.out] at hN
      have HN2 := hide hN
      have hne : ∀ j, (Value.slice S (q + 1) c2).ownBlock = some j → w.heap.size + 1 ≤ j := fun j hj => (HO.out.lt j (by rw [ownBlock_len S q (q + 1) c2 c2]; exact hj)).1
      have HB8 := hide ((HBW.out.alloc HBW.out.size (.cells #[.int .i64 (y : Int)] 3)).grown hap.grown (by simp; omega) (fun j hj => by have := hne j hj; omega))
      have HNB8 := hide ((HNB.out.alloc (.cells #[.int .i64 (y : Int)] 3)).grown hap.grown (fun e => by have := hne _ e.symm; omega))
      have hs8 : w.heap.size + 1 ≤ w8.heap.size := by have := hap.grown.size; rw [World.size_alloc] at this; omega
      clear hap hN hne
      go_roundw
      case rel => exact ⟨k + 1, q + 1, c8, A8, by go_num, by go_num, by omega, by have := HQ.out; omega, HN2, HB8, HNB8, hs8⟩
      case measure => simp [intOf]; omega
    · have hkq : k = q0 := by omega
      have hqM : q = M := by have := HN.out; have := HM.out; omega
      have HO2 : Hid (OwnI wr (w.heap.size + 1) S q c2 (zs (Tl.ls2 n a b))) := hide (by
        have h := HO.out
        rwa [List.take_of_length_le (by rw [HLB.out]; omega)] at h)
      obtain ⟨lg, rfl, hlg1, hlg2⟩ := HO2.out.form (by omega)
      subst hqM
      have hq24 : q ≤ 24 := by omega
      have HND := hide (newDia_any lg q c2 (w.heap.size + 1) (zs (Tl.ls2 n a b)) wr HO2.out (by omega) (by omega) hlg1)
      obtain ⟨ls, hls⟩ : ∃ ls, zs (Tl.ls2 n a b) = ls := ⟨_, rfl⟩
      rw [hls] at HND HO2
      have HLS := hide hls
      clear hls
      clear HO HO2 hkq hq hk
      go_wp2_with fail
      refine HND.out.mono ?_
      rintro e w3 ⟨jg, jc, sg, rfl, hd, hb3⟩
      have hJ0 : List.replicate q (-1 : Int) = Tl.conJ n 0 := by unfold Tl.conJ; rw [HM.out]; rfl
      rw [hJ0] at hd
      have HD3 := hide hd
      have HNB3 := hide (HNB.out.below hb3 (by omega))
      have HB3 := hide (HBW.out.trans (hb3.mono (by omega)))
      have hs3 : w.heap.size + 1 ≤ w3.heap.size := by have := hb3.size; omega
      clear hd hb3 HND HNB HBW hJ0
      have HBB := hide (Blk.new w3 60 #[.slice (some ⟨lg, 0, none⟩) q c2, .slice (some ⟨jg, 0, none⟩) q jc, .slice (some ⟨sg, 0, none⟩) q q])
      have HD4 := hide (HD3.out.below ((Below.refl _ _).alloc (Nat.le_refl _) (.cells #[.slice (some ⟨lg, 0, none⟩) q c2, .slice (some ⟨jg, 0, none⟩) q jc, .slice (some ⟨sg, 0, none⟩) q q] 60)))
      have HNB4 := hide (HNB3.out.alloc (.cells #[.slice (some ⟨lg, 0, none⟩) q c2, .slice (some ⟨jg, 0, none⟩) q jc, .slice (some ⟨sg, 0, none⟩) q q] 60))
      have HB4 := hide (HB3.out.alloc HB3.out.size (.cells #[.slice (some ⟨lg, 0, none⟩) q c2, .slice (some ⟨jg, 0, none⟩) q jc, .slice (some ⟨sg, 0, none⟩) q q] 60))
      have hqp : 0 < q := by have := HM.out; omega
      have hjl : jg < w3.heap.size := by
        obtain ⟨g, e, _, h2⟩ := HD3.out.joints.form (by omega)
        simp only [Option.some.injEq, Addr.mk.injEq] at e
        omega
      go_upto_region 8 with fail
      generalize w3.alloc (.cells #[.slice (some ⟨lg, 0, none⟩) q c2, .slice (some ⟨jg, 0, none⟩) q jc, .slice (some ⟨sg, 0, none⟩) q q] 60) = w4 at *
      generalize w3.heap.size = gb at *
      clear HNB3 HD3 HB3
      have hqn : n + n ≤ q := by have := HM.out; omega
      have HM4 : Hid (2 * n + 2 * n = q) := hide (by have := HM.out; omega)
      go_wp2_with fail
      go_loopw [31] (fun iv wr => ∃ k : Nat, iv = .int .i64 k ∧ k ≤ n ∧ Hid (DiaM wr (w.heap.size + 1) q lg c2 jg jc sg ls (Tl.conJ n k) fun _ => false) ∧ Hid (Below w.heap.size w wr) ∧ Hid (Blk wr w.heap.size 60 #[.slice none 0 0, .slice none 0 0, .slice none 0 0]) ∧ Hid (Blk wr gb 60 #[.slice (some ⟨lg, 0, none⟩) q c2, .slice (some ⟨jg, 0, none⟩) q jc, .slice (some ⟨sg, 0, none⟩) q q])) (fun iv _ => n - (intOf iv).toNat)
      case atStart => exact ⟨0, rfl, Nat.zero_le _, HD4, HB4, HNB4, HBB⟩
      case round =>
        clear HD4 HB4 HNB4 HBB
        obtain ⟨k, rfl, hk, HD, HBW, HNB, HBB⟩ := hrel
        by_cases hkn : k < n
        · have hc1 := HBB.out.cell 1
          simp at hc1
          obtain ⟨i1, hi1⟩ : ∃ i, n + k = i := ⟨_, rfl⟩
          obtain ⟨i2, hi2⟩ : ∃ i, q0 + k = i := ⟨_, rfl⟩
          have hv1 : IntKind.i64.wrap ((n : Int) + (k : Int)) = (i1 : Int) := by rw [IntKind.wrap_i64]; omega
          have hv2 : IntKind.i64.wrap ((q0 : Int) + (k : Int)) = (i2 : Int) := by rw [IntKind.wrap_i64]; omega
          have HCON := hide (connect_any jg q jc (w.heap.size + 1) i1 i2 (Tl.conJ n k) wr HD.out.joints (by omega) (by have := HN.out; have := HM4.out; omega) (by omega))
          have HD2 := hide ((HD.out.joint i1 (i2 : Int)).joint i2 (i1 : Int))
          have HSJ : Hid (((Tl.conJ n k).set i1 (i2 : Int)).set i2 (i1 : Int) = Tl.conJ n (k + 1)) := hide (by rw [Tl.conJ_succ, HN.out, hi1, hi2])
          rw [HSJ.out] at HD2
          have hjb := HD.out.bs.2.1
          have HB2 := hide ((HBW.out.setCell (p := ⟨jg, i1, none⟩) (show w.heap.size ≤ jg by omega) (.int .i64 (i2 : Int))).setCell (p := ⟨jg, i2, none⟩) (show w.heap.size ≤ jg by omega) (.int .i64 (i1 : Int)))
          have HNB2 := hide ((HNB.out.far (p := ⟨jg, i1, none⟩) (show w.heap.size ≠ jg by omega) (.int .i64 (i2 : Int))).far (p := ⟨jg, i2, none⟩) (show w.heap.size ≠ jg by omega) (.int .i64 (i1 : Int)))
          have HBB2 := hide ((HBB.out.far (p := ⟨jg, i1, none⟩) (show gb ≠ jg by omega) (.int .i64 (i2 : Int))).far (p := ⟨jg, i2, none⟩) (show gb ≠ jg by omega) (.int .i64 (i1 : Int)))
          clear hi1 hi2 hjb HD HBW HNB HBB HSJ
          go_wp2_with fail
          refine HCON.out.mono ?_
          rintro e w5 ⟨rfl, hw5⟩
          rw [← hw5] at HD2 HB2 HNB2 HBB2
          clear hw5 hc1 HCON
          go_wp2_with fail
          go_roundw
          case rel => exact ⟨k + 1, by go_num, by omega, HD2, HB2, HNB2, HBB2⟩
          case measure => simp [intOf]; omega
        · have hkE : k = n := by omega
          subst hkE
          have hc0 := HBB.out.cell 0
          have hc1 := HBB.out.cell 1
          have hc2 := HBB.out.cell 2
          simp at hc0 hc1 hc2
          have hr0 := HNB.out.cell 0
          have hr1 := HNB.out.cell 1
          have hr2 := HNB.out.cell 2
          have hf0 := HNB.out.frozen 0
          have hf1 := HNB.out.frozen 1
          have hf2 := HNB.out.frozen 2
          simp at hr0 hr1 hr2
          have HDF := hide (((HD.out.out (g := w.heap.size) (by omega) 0 (.slice (some ⟨lg, 0, none⟩) q c2)).out (g := w.heap.size) (by omega) 1 (.slice (some ⟨jg, 0, none⟩) q jc)).out (g := w.heap.size) (by omega) 2 (.slice (some ⟨sg, 0, none⟩) q q))
          have HBF := hide (((HNB.out.set_ 0 (.slice (some ⟨lg, 0, none⟩) q c2)).set_ 1 (.slice (some ⟨jg, 0, none⟩) q jc)).set_ 2 (.slice (some ⟨sg, 0, none⟩) q q))
          have HBB2 := hide (((HBW.out.setCell (p := ⟨w.heap.size, 0, none⟩) (Nat.le_refl _) (.slice (some ⟨lg, 0, none⟩) q c2)).setCell (p := ⟨w.heap.size, 1, none⟩) (Nat.le_refl _) (.slice (some ⟨jg, 0, none⟩) q jc)).setCell (p := ⟨w.heap.size, 2, none⟩) (Nat.le_refl _) (.slice (some ⟨sg, 0, none⟩) q q))
          clear HD HBW HNB HBB
          go_wp2_with fail
          refine bodyPost_ret (results_dia rfl _ rfl HBF.out) rfl ?_
          rw [HLS.out]
          exact ⟨lg, c2, jg, jc, sg, rfl, HDF.out.mono (by omega), HBB2.out⟩
end Go.Proofs.Ythhcjnmlpojjeaa
