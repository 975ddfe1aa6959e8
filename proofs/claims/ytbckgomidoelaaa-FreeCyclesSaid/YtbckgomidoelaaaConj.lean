/- timbref1.Conjugates. -/
import Derived.Test.YtbckgomidoelaaaRooted
import Derived.Test.YtbckgomidoelaaaBase
import Derived.Deep.DeepCutAuto
namespace Go.Proofs.Ytbckgomidoelaaa
set_option linter.unusedVariables false
set_option linter.unusedSimpArgs false
open Go.RowKit

theorem IL.tailA {w : World} {ad : Addr} {n d : Nat} {xs : List Int} (h : IL w (some ad) n xs) (h1 : 1 ≤ n) (hd : n ≤ d) : IL w (if d = 1 then some ad else some (ad.add 1)) (n - 1) (xs.drop 1) := by
  have hl := h.len
  have hm := h.mid (k := 1) (m := n - 1) (by omega)
  rw [List.take_of_length_le (by simp; omega)] at hm
  by_cases hd1 : d = 1
  · rw [if_pos hd1]
    exact ⟨hm.len, hm.small, fun h0 => absurd h0 (by omega)⟩
  · rw [if_neg hd1]
    exact hm
theorem eClone : ∀ args w, (callFunc 30 args).run Try.prog w = .ok (.enter 30 args) w := enters (fn := Try.f30) (by kernel_rfl) (by kernel_rfl) (by kernel_rfl)
theorem sizeInt (w : World) : (sizeOf 3).run Try.prog w = .ok 1 w := by kernel_rfl

set_option maxRecDepth 100000 in
set_option maxHeartbeats 2000000 in
theorem conj_any (A B : Option Addr) (n c m d : Nat) (xs ys : List Int) (w : World) (ha : IL w A n xs) (hA : A = none → n = 0 ∧ c = 0) (hx : ∀ x ∈ xs, -1000 ≤ x ∧ x ≤ 1000) (hn : n ≤ 1000)
    (hb : IL w B m ys) (hB : B = none → m = 0 ∧ d = 0) (hy : ∀ x ∈ ys, -1000 ≤ x ∧ x ≤ 1000) (hm : m ≤ 1000) :
    Calls Try.prog 22 #[.slice A n c, .slice B m d] w fun e w' => e = .returned (.bool (conjB (core (nf xs)).1 (core (nf ys)).1)) ∧ Below w.heap.size w w' := by
  obtain ⟨i0, hi0, hz0, hz1, hz2⟩ := info_parts int_info
  have hla := ha.len
  have hlb := hb.len
  have hx1 : ∀ x ∈ nf xs, -1000 ≤ x ∧ x ≤ 1000 := fun x h => hx x (nf_mem h)
  have hy1 : ∀ x ∈ nf ys, -1000 ≤ x ∧ x ≤ 1000 := fun x h => hy x (nf_mem h)
  have hnx := nf_len_le xs
  have hny := nf_len_le ys
  have hcx := core_len (nf xs)
  have HSX := hide (short_any A n c xs w ha hA hx)
  have HIB := hide hb
  have HBB := hide hB
  have HYY := hide hy
  have HX1 := hide hx1
  have HY1 := hide hy1
  generalize nf xs = W at *
  obtain ⟨C0, hC0⟩ : ∃ C0, (core W).1 = C0 := ⟨_, rfl⟩
  obtain ⟨D0, hD0⟩ : ∃ D0, (core (nf ys)).1 = D0 := ⟨_, rfl⟩
  rw [hC0] at hcx
  rw [hC0, hD0]
  have HC0 := hide hC0
  have HD0 := hide hD0
  have hCL : C0.length ≤ 1000 := by omega
  clear ha hA hb hB hx hy hx1 hy1 hnx hny hcx hC0 hD0 hla hlb
  go_enter Try.func22, Try.ntmps22
  go_wp2_with fail
  refine HSX.out.mono ?_
  rintro e w1 ⟨A1, n1, c1, rfl, ho1, hb1⟩
  have HO1 := hide ho1
  have HB01 := hide hb1
  clear HSX ho1 hb1
  go_wp2_with fail
  refine (core_any n1 A1 n1 c1 W w1 (Nat.le_refl _) HO1.out.il HO1.out.nil HO1.out.cap HO1.out.capMax HX1.out).mono ?_
  rintro e w2 ⟨C, cn, cc, U, un, uc, rfl, hc, hcn, hcle, hu, hun, hule, hccm, hb2⟩
  rw [HC0.out] at hc
  have hb02 := HB01.out.trans (hb2.mono HB01.out.size)
  have hlc := hc.len
  have HC := hide hc
  have HCN := hide hcn
  have HB02 := hide hb02
  have HLC := hide hlc
  have hcn1 : cn ≤ 1000 := by omega
  have HSY := hide (short_any B m d ys w2 (HIB.out.below hb02) HBB.out HYY.out)
  clear hc hu hun hb2 hb02 HO1 HB01 hule hcn hlc
  go_wp2_with fail
  refine HSY.out.mono ?_
  rintro e w3 ⟨A3, n3, c3, rfl, ho3, hb3⟩
  have HO3 := hide ho3
  have HC3 := hide (HC.out.below hb3)
  have HB03 := hide (HB02.out.trans (hb3.mono HB02.out.size))
  clear HSY ho3 hb3 HC HB02
  go_wp2_with fail
  refine (core_any n3 A3 n3 c3 (nf ys) w3 (Nat.le_refl _) HO3.out.il HO3.out.nil HO3.out.cap HO3.out.capMax HY1.out).mono ?_
  rintro e w4 ⟨D, dn, dc, V, vn, vc, rfl, hd, hdn, hdle, hv, hvn, hvle, hdcm, hb4⟩
  rw [HD0.out] at hd
  have HD := hide hd
  have HC4 := hide (HC3.out.below hb4)
  have HB04 := hide (HB03.out.trans (hb4.mono HB03.out.size))
  clear hd hdn hdle hv hvn hvle hdcm hb4 HO3 HC3 HB03
  go_wp2_with fail
  go_loopw [5, 24] (fun xv iv wr => ∃ (i xc : Nat) (X : Option Addr), xv = .slice X cn xc ∧ iv = .int .i64 i ∧ i ≤ cn + 1 ∧ cn ≤ xc ∧ (X = none → cn = 0 ∧ xc = 0) ∧ IL wr X cn (rotI C0 i) ∧ IL wr D dn D0 ∧ Hid (∀ r, r < i → rotI C0 r ≠ D0) ∧ Below w.heap.size w wr) (fun _ iv _ => cn + 1 - (intOf iv).toNat)
  case atStart => exact ⟨0, cc, C, rfl, rfl, Nat.zero_le _, hcle, HCN.out, HC4.out, HD.out, fun r h => absurd h (Nat.not_lt_zero r), HB04.out⟩
  case round =>
    clear HC4 HD HB04
    obtain ⟨i, xc, X, rfl, rfl, hi, hxc, hX, hil, hd, HNO, hb⟩ := hrel
    have HD := hide hd
    have HIL := hide hil
    have HX := hide hX
    have HB := hide hb
    clear hd hil hX hb
    have hwb : IntKind.i64.wrap ((cn : Int) + 1) = (cn : Int) + 1 := by rw [IntKind.wrap_i64]; omega
    by_cases hlt : i < cn + 1
    · have HE := hide (equal_any X D cn dn xc dc _ _ wr HIL.out HD.out)
      by_cases heq : rotI C0 i = D0
      · have HQ := hide (eqB_true heq)
        have HR := hide (conjB_true (show i ≤ C0.length by rw [HLC.out]; omega) heq)
        clear heq
        go_wp2_with fail
        refine HE.out.mono ?_
        rintro e w5 ⟨rfl, hb5⟩
        rw [HQ.out]
        have HB5 := hide (HB.out.trans (hb5.mono HB.out.size))
        clear hb5 HE
        go_wp2_with fail
        go_ret
        exact ⟨by rw [HR.out]; rfl, HB5.out⟩
      · have HQ := hide (eqB_false heq)
        have HNO2 : Hid (∀ r, r < i + 1 → rotI C0 r ≠ D0) := fun r hr => by
          rcases Nat.lt_succ_iff_lt_or_eq.1 hr with h | rfl
          · exact HNO.out r h
          · exact heq
        clear heq HNO
        go_wp2_with fail
        refine HE.out.mono ?_
        rintro e w5 ⟨rfl, hb5⟩
        rw [HQ.out]
        have HB5 := hide (HB.out.trans (hb5.mono HB.out.size))
        have HIL5 := hide (HIL.out.below hb5)
        have HD5 := hide (HD.out.below hb5)
        clear hb5 HE HIL HD HB
        have hgi : decide ((i : Int) < (cn : Int) + 1) = true := decide_eq_true (by omega)
        by_cases h0 : 0 < cn
        · have hg0 : decide ((0 : Int) < (cn : Int)) = true := decide_eq_true (by omega)
          obtain ⟨ad, rfl, hcell⟩ := HIL5.out.at_ h0
          rw [show ad.add 0 = ad by unfold Addr.add; simp] at hcell
          have hlt2 : ad.block < w5.heap.size := World.block_lt_of_cell? w5 _ hcell
          have HT := hide (HIL5.out.tailA (d := xc) h0 hxc)
          have HROT : Hid (rotI C0 (i + 1) = (rotI C0 i).drop 1 ++ [(rotI C0 i).getD 0 0]) := by
            have hl : 0 < (rotI C0 i).length := by rw [rotI_length, HLC.out]; exact h0
            show (rotI C0 i).drop 1 ++ (rotI C0 i).take 1 = _
            congr 1
            generalize rotI C0 i = L at *
            match L, hl with
            | x :: t, _ => rfl
          generalize (rotI C0 i).getD 0 0 = x0 at *
          have hTn : ((if xc = 1 then some ad else some (ad.add 1)) : Option Addr) = none → cn - 1 = 0 ∧ xc - 1 = 0 := fun h => by split at h <;> cases h
          obtain ⟨T, hT⟩ : ∃ T : Option Addr, (if xc = 1 then some ad else some (ad.add 1)) = T := ⟨_, rfl⟩
          have HTT := hide hT
          rw [hT] at HT hTn
          have HTN := hide hTn
          have HI0 := hide hi0
          have HZ0 := hide hz0
          have HZ1 := hide hz1
          have HZ2 := hide hz2
          clear hT hTn HIL5 hi0 hz0 hz1 hz2
          go_upto_region 8 with fail
          refine wp_region_noPanic ?_
          refine wp_region_held_drew (S := fun w' => Below w5.heap.size w5 w') (by kernel_rfl) (Below.refl _ _).drew (fun hS => ?_)
          refine wpAnyH_tk 0 (v := .slice (some ad) cn xc) rfl (by kernel_rfl) (by kernel_rfl) (by kernel_rfl) (yi rfl fun w' hw' => gives_move (.inl rfl) rfl) hS ?_
          go_frame
          refine wpAnyH_tk 1 (v := .slice T (cn - 1) (xc - 1)) rfl (by kernel_rfl) (by kernel_rfl) (by kernel_rfl) (yi rfl fun w' hw' => by rw [← HTT.out]; exact gives_tail rfl Try.underlying22 (by rw [HI0.out]; exact congrArg some HZ1.out) rfl h0 hxc) hS ?_
          go_frame
          refine wpAnyH_tk 3 (v := .slice (some ad) cn xc) rfl (by kernel_rfl) (by kernel_rfl) (by kernel_rfl) (yi rfl fun w' hw' => gives_move (.inl rfl) rfl) hS ?_
          go_frame
          refine wpAnyH_tk 4 (v := .pointer (some ad)) rfl (by kernel_rfl) (by kernel_rfl) (by kernel_rfl) (yi rfl fun w' hw' => gives_index0 rfl Try.underlying22 sizeInt rfl rfl h0) hS ?_
          go_frame
          refine wpAnyH_tk 5 (v := .int .i64 x0) rfl (by kernel_rfl) (by kernel_rfl) (by kernel_rfl) (yi rfl fun w' hw' => gives_load1 rfl (by kernel_rfl) rfl ((hw'.cell hlt2).trans hcell)) hS ?_
          go_frame
          refine wpAnyH_2 2 6 rfl rfl (by kernel_rfl) ?_ ?_
          · refine wp_call [.slice T (cn - 1) (xc - 1)] rfl rfl eClone rfl ((clone_any T (cn - 1) (xc - 1) _ _ (HT.out.below hS) HTN.out).mono ?_)
            rintro e w6 ⟨A6, n6, c6, rfl, ho6, hb6⟩
            have hn6 : n6 = cn - 1 := by rw [← ho6.len]; exact HT.out.len
            subst hn6
            have hb6' : Below w5.heap.size w5 w6 := hS.trans (hb6.mono hS.size)
            have ho6' := ho6.mono hS.size
            refine ⟨_, rfl, hb6', ?_⟩
            go_frame
            refine wpAnyH_1 6 rfl (by kernel_rfl) ?_
            refine wp_lit_int rfl Try.underlying22 i0 HI0.out HZ0.out HZ1.out (v := x0) rfl ?_
            have hb7 := hb6'.alloc hb6'.size (.cells #[.int .i64 x0] 3)
            refine ⟨hb7, ?_⟩
            go_frame
            refine wpAnyH_1 7 rfl (by kernel_rfl) ?_
            refine wp_append_int _ (.tmp 34) (.tmp 38) 22 rfl w5.heap.size i0 Try.underlying22 HI0.out HZ0.out HZ1.out HZ2.out A6 (cn - 1) c6 _ rfl (ho6'.alloc _) (some ⟨w6.heap.size, 0, none⟩) 1 1 [x0] rfl (IL.lit w6 [x0] (by simp) rfl rfl) (by omega) hb7.size ?_
            intro A8 c8 w8 hap
            have hb8 : Below w5.heap.size w5 w8 := hb7.grown hap.grown hb7.size (fun j hj => (ho6'.lt j (by rw [ownBlock_len A6 (cn - 1) (cn - 1 + 1) c6 c6]; exact hj)).1)
            refine ⟨hb8, ?_⟩
            go_frame
            refine wpAnyH_tk 8 (v := .slice A8 (cn - 1 + 1) c8) rfl (by kernel_rfl) (by kernel_rfl) (by kernel_rfl) (yi rfl fun w' hw' => gives_move (.inr rfl) rfl) hb8 ?_
            go_frame
            refine wpAnyH_done (by kernel_rfl) (noPanic_mk ?_) _
            have HIL8 : Hid (IL w8 A8 cn (rotI C0 (i + 1))) := by
              rw [HROT.out]
              have h := hap.own.il
              rw [show cn - 1 + 1 = cn by omega] at h
              exact h
            have HX8 : Hid (A8 = none → cn = 0 ∧ c8 = 0) := fun h => by
              have := hap.own.nil h
              omega
            have hcap8 : cn ≤ c8 := by have := hap.own.cap; omega
            have HB8 := hide (HB5.out.trans (hb8.mono HB5.out.size))
            have HD8 := hide (HD5.out.below hb8)
            rw [show cn - 1 + 1 = cn by omega]
            clear hb8 hap hS
            go_wp2_with fail
            refine ⟨⟨i + 1, c8, A8, rfl, by go_num, by omega, hcap8, HX8.out, HIL8.out, HD8.out, HNO2.out, HB8.out⟩, ?_⟩
            simp [intOf]
            omega
          · refine wp_lit_int rfl Try.underlying22 i0 HI0.out HZ0.out HZ1.out (v := x0) rfl ?_
            have hb6 : Below w5.heap.size w5 (w5.drew.alloc (.cells #[.int .i64 x0] 3)) := hS.alloc hS.size _
            have hlit : IL (w5.drew.alloc (.cells #[.int .i64 x0] 3)) (some ⟨w5.drew.heap.size, 0, none⟩) 1 [x0] := IL.lit w5.drew [x0] (by simp) rfl rfl
            refine ⟨hb6, ?_⟩
            go_frame
            refine wpAnyH_1 2 rfl (by kernel_rfl) ?_
            refine wp_call [.slice T (cn - 1) (xc - 1)] rfl rfl eClone rfl ((clone_any T (cn - 1) (xc - 1) _ _ (HT.out.below hb6) HTN.out).mono ?_)
            rintro e w6 ⟨A6, n6, c6, rfl, ho6, hb7⟩
            have hn6 : n6 = cn - 1 := by rw [← ho6.len]; exact HT.out.len
            subst hn6
            have hb7' : Below w5.heap.size w5 w6 := hb6.trans (hb7.mono hb6.size)
            have ho6' := ho6.mono hb6.size
            refine ⟨_, rfl, hb7', ?_⟩
            go_frame
            refine wpAnyH_1 7 rfl (by kernel_rfl) ?_
            refine wp_append_int _ (.tmp 34) (.tmp 38) 22 rfl w5.heap.size i0 Try.underlying22 HI0.out HZ0.out HZ1.out HZ2.out A6 (cn - 1) c6 _ rfl ho6' (some ⟨w5.drew.heap.size, 0, none⟩) 1 1 [x0] rfl (hlit.below hb7) (by omega) hb7'.size ?_
            intro A8 c8 w8 hap
            have hb8 : Below w5.heap.size w5 w8 := hb7'.grown hap.grown hb7'.size (fun j hj => (ho6'.lt j (by rw [ownBlock_len A6 (cn - 1) (cn - 1 + 1) c6 c6]; exact hj)).1)
            refine ⟨hb8, ?_⟩
            go_frame
            refine wpAnyH_tk 8 (v := .slice A8 (cn - 1 + 1) c8) rfl (by kernel_rfl) (by kernel_rfl) (by kernel_rfl) (yi rfl fun w' hw' => gives_move (.inr rfl) rfl) hb8 ?_
            go_frame
            refine wpAnyH_done (by kernel_rfl) (noPanic_mk ?_) _
            have HIL8 : Hid (IL w8 A8 cn (rotI C0 (i + 1))) := by
              rw [HROT.out]
              have h := hap.own.il
              rw [show cn - 1 + 1 = cn by omega] at h
              exact h
            have HX8 : Hid (A8 = none → cn = 0 ∧ c8 = 0) := fun h => by
              have := hap.own.nil h
              omega
            have hcap8 : cn ≤ c8 := by have := hap.own.cap; omega
            have HB8 := hide (HB5.out.trans (hb8.mono HB5.out.size))
            have HD8 := hide (HD5.out.below hb8)
            rw [show cn - 1 + 1 = cn by omega]
            clear hb8 hap hS
            go_wp2_with fail
            refine ⟨⟨i + 1, c8, A8, rfl, by go_num, by omega, hcap8, HX8.out, HIL8.out, HD8.out, HNO2.out, HB8.out⟩, ?_⟩
            simp [intOf]
            omega
        · have hg0 : decide ((0 : Int) < (cn : Int)) = false := decide_eq_false (by omega)
          have HI : Hid (rotI C0 (i + 1) = rotI C0 i) := by
            have : rotI C0 i = [] := List.eq_nil_of_length_eq_zero (by rw [rotI_length, HLC.out]; omega)
            show (rotI C0 i).drop 1 ++ (rotI C0 i).take 1 = _
            rw [this]
            rfl
          go_wp2_with fail
          refine ⟨⟨i + 1, xc, X, rfl, by go_num, by omega, hxc, HX.out, by rw [HI.out]; exact HIL5.out, HD5.out, HNO2.out, HB5.out⟩, ?_⟩
          simp [intOf]
          omega
    · have HF : Hid (conjB C0 D0 = false) := hide (conjB_false fun r hr => HNO.out r (by rw [HLC.out] at hr; omega))
      clear HNO
      go_wp2_with fail
      go_ret
      exact ⟨by rw [HF.out]; rfl, HB.out⟩
end Go.Proofs.Ytbckgomidoelaaa
