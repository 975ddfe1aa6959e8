/- Several texts of the walk in one. -/
import Derived.Test.YtihpmdfeonphpaaPart8
import Derived.Test.YtihpmdfeonphpaaBase
/- freegroup.core: the cyclically reduced part and what it is conjugated with. -/
namespace Go.Proofs.Ytihpmdfeonphpaa
set_option linter.unusedVariables false
set_option linter.unusedSimpArgs false
open Go.RowKit

/-- The middle of a word. -/
def midW (W : List Int) (b : Nat) : List Int := (W.drop b).take (W.length - 2 * b)
theorem midW_zero (W : List Int) : midW W 0 = W := by simp [midW]
theorem midW_length {W : List Int} {b : Nat} (h : 2 * b ≤ W.length) : (midW W b).length = W.length - 2 * b := by simp [midW]; omega
theorem midW_getD {W : List Int} {b i : Nat} (h : i < W.length - 2 * b) : (midW W b).getD i 0 = W.getD (b + i) 0 := by
  simp [midW, List.getD, List.getElem?_take, List.getElem?_drop, h]
theorem midW_inner {W : List Int} {b : Nat} (h : 2 * b + 1 < W.length) : (midW W b).tail.dropLast = midW W (b + 1) := by
  have hl := midW_length (W := W) (b := b) (by omega)
  rw [inner_eq (by omega)]
  unfold midW
  rw [List.drop_take, List.drop_drop, List.take_take]
  congr 1
  simp
  omega
theorem midW_step {W : List Int} {b : Nat} (h : 2 * b + 1 < W.length) (he : W.getD b 0 = -W.getD (W.length - b - 1) 0) : core (midW W b) = ((core (midW W (b + 1))).1, W.getD b 0 :: (core (midW W (b + 1))).2) := by
  have hl := midW_length (W := W) (b := b) (by omega)
  have h0 := midW_getD (W := W) (b := b) (i := 0) (by omega)
  have h1 := midW_getD (W := W) (b := b) (i := W.length - 2 * b - 1) (by omega)
  rw [show b + (W.length - 2 * b - 1) = W.length - b - 1 by omega] at h1
  rw [core_step (by omega) (by rw [hl, h1, h0]; exact he), midW_inner h, h0]
  rfl
theorem midW_stop {W : List Int} {b : Nat} (h2 : 2 * b ≤ W.length) (h : ¬ (2 * b + 1 < W.length ∧ W.getD b 0 = -W.getD (W.length - b - 1) 0)) : core (midW W b) = (midW W b, []) := by
  have hl := midW_length (W := W) (b := b) (by omega)
  refine core_stop fun hh => h ⟨by omega, ?_⟩
  have h0 := midW_getD (W := W) (b := b) (i := 0) (by omega)
  have h1 := midW_getD (W := W) (b := b) (i := W.length - 2 * b - 1) (by omega)
  rw [show b + (W.length - 2 * b - 1) = W.length - b - 1 by omega] at h1
  have := hh.2
  rw [hl, h1, h0] at this
  exact this
theorem eFClone : ∀ args w, (callFunc 21 args).run Try.prog w = .ok (.enter 21 args) w := enters (fn := Try.f21) (by kernel_rfl) (by kernel_rfl) (by kernel_rfl)

set_option maxRecDepth 100000 in
set_option maxHeartbeats 2000000 in
theorem fcore_any (A : Option Addr) (n c : Nat) (xs : List Int) (w : World) (ha : IL w A n xs) (hb : ∀ x ∈ xs, -1000 ≤ x ∧ x ≤ 1000) (hn : n ≤ 1000000) :
    Calls Try.prog 41 #[.slice A n c] w fun e w' => ∃ C cn cc U un uc, e = .returned (.tuple #[.slice C cn cc, .slice U un uc]) ∧ OwnI w' w.heap.size C cn cc (core (nf xs)).1 ∧ OwnI w' w.heap.size U un uc (core (nf xs)).2 ∧ Below w.heap.size w w' := by
  have HR := hide (fred_any A n c xs w ha hb hn)
  have hnl := nf_len_le xs
  rw [ha.len] at hnl
  have HB : Hid (∀ x ∈ nf xs, -1000 ≤ x ∧ x ≤ 1000) := hide (fun x hx => hb x (nf_mem hx))
  generalize nf xs = W at *
  obtain ⟨i0, hi0, hz0, hz1, hz2⟩ := info_parts int_info
  have HI0 := hide hi0
  have HZ1 := hide hz1
  clear ha hb hi0 hz0 hz1 hz2
  go_enter Try.func41, Try.ntmps41
  go_wp2_with fail
  refine HR.out.mono ?_
  rintro e w1 ⟨A1, n1, c1, rfl, ho1, hb1⟩
  have hl1 := ho1.len
  have hn1 : n1 ≤ 1000000 := by omega
  have HL := hide hl1
  have HO1 := hide ho1
  clear HR hl1 ho1 hnl
  go_wp2_with fail
  go_loopw [5, 6] (fun bv ev wr => ∃ b m : Nat, bv = .int .i64 b ∧ ev = .int .i64 m ∧ m ≤ n1 ∧ b ≤ n1 ∧ Hid (b + m = n1 ∧ 2 * b ≤ n1) ∧ Hid (core W = ((core (midW W b)).1, W.take b ++ (core (midW W b)).2)) ∧ OwnI wr w.heap.size A1 n1 c1 W ∧ Below w.heap.size w wr) (fun _ ev _ => (intOf ev).toNat)
  case atStart => exact ⟨0, n1, rfl, rfl, Nat.le_refl _, Nat.zero_le _, hide ⟨by omega, by omega⟩, by rw [midW_zero]; exact rfl, HO1.out, hb1⟩
  case round =>
    clear HO1 hb1
    obtain ⟨b, m, rfl, rfl, hmn, hbn, HBM, HC, ho, hb⟩ := hrel
    have HO := hide ho
    have HB2 := hide hb
    have hwb : IntKind.i64.wrap ((m : Int) - (b : Int)) = (m : Int) - (b : Int) := by rw [IntKind.wrap_i64]; omega
    by_cases hgo : 2 * b + 1 < W.length ∧ W.getD b 0 = -W.getD (W.length - b - 1) 0
    · have HST := hide (midW_step hgo.1 hgo.2)
      obtain ⟨h1, h2⟩ := hgo
      have hb0 : b < n1 := by have := HL.out; omega
      have hm0 : m - 1 < n1 := by have := HL.out; have := HBM.out; omega
      obtain ⟨g, rfl, hg1, hg2⟩ := ho.form (by omega)
      have hc1 := ho.cell hb0
      have hc2 := ho.cell hm0
      have e1 : W.length - b - 1 = m - 1 := by have := HL.out; have := HBM.out; omega
      rw [e1] at h2
      have hm1 : W.getD (m - 1) 0 ∈ W := by
        have hlt : m - 1 < W.length := by rw [HL.out]; exact hm0
        rw [show W.getD (m - 1) 0 = W[m - 1] by simp [List.getD, List.getElem?_eq_getElem hlt]]
        exact List.getElem_mem _
      obtain ⟨hy0, hy1⟩ := HB.out _ hm1
      have HC2 : Hid (core W = ((core (midW W (b + 1))).1, W.take (b + 1) ++ (core (midW W (b + 1))).2)) := by
        have hbl : b < W.length := by rw [HL.out]; exact hb0
        have e : W.take (b + 1) = W.take b ++ [W.getD b 0] := by
          rw [List.take_succ_eq_append_getElem hbl]
          simp [List.getD, List.getElem?_eq_getElem hbl]
        have h := HC.out
        rw [HST.out] at h
        rw [h, e, List.append_assoc]
        exact rfl
      have hg : decide ((1 : Int) < (m : Int) - (b : Int)) = true := decide_eq_true (by have := HL.out; have := HBM.out; omega)
      have hmp : 1 ≤ m := by have := HL.out; have := HBM.out; omega
      have hw1 : IntKind.i64.wrap ((m : Int) - 1) = (m : Int) - 1 := by rw [IntKind.wrap_i64]; omega
      have hp0 : (0 : Int) ≤ (m : Int) - 1 := by omega
      have hp1 : (m : Int) - 1 < (n1 : Int) := by omega
      have hp2 : ((m : Int) - 1).toNat = m - 1 := by omega
      have HBM2 : Hid (b + 1 + (m - 1) = n1 ∧ 2 * (b + 1) ≤ n1) := hide (by have := HL.out; have := HBM.out; omega)
      obtain ⟨x, hx⟩ : ∃ x, W.getD b 0 = x := ⟨_, rfl⟩
      obtain ⟨y, hy⟩ : ∃ y, W.getD (m - 1) 0 = y := ⟨_, rfl⟩
      rw [hx] at hc1 h2
      rw [hy] at hc2 h2 hy0 hy1
      have hbe : (x == -y) = true := by simpa using h2
      clear ho hb HST HC h1 h2 hm1 hx hy e1 HBM
      go_wp2_with fail
      go_quiet (fail)
      have HO2 := hide (HO.out.drewN nq)
      have hb3 := below_drewN HB2.out nq
      clear HO HB2
      generalize wr.drewN nq = w9 at *
      go_wp2_with fail
      go_roundw
      case rel => exact ⟨b + 1, m - 1, by go_num, by go_num, by omega, by omega, HBM2, HC2, HO2.out, hb3⟩
      case measure => simp [intOf]; omega
    · have HST := hide (midW_stop (by have := HL.out; have := HBM.out; omega) hgo)
      have HC2 : Hid (core W = (midW W b, W.take b)) := by
        have h := HC.out
        rw [HST.out] at h
        rw [h]
        exact congrArg (Prod.mk _) (List.append_nil _)
      have HM : Hid (midW W b = (W.drop b).take (m - b)) := by
        unfold midW
        rw [show W.length - 2 * b = m - b by have := HL.out; have := HBM.out; omega]
        exact rfl
      have hbm : b ≤ m := by have := HBM.out; omega
      have hcap := ho.cap
      have HN := hide ho.nil
      have HS1 := hide (ho.il.cut (c := c1) (l := b) (h := m) hbm hmn hcap)
      have HS2 := hide (ho.il.cut (c := c1) (l := 0) (h := b) (Nat.zero_le _) hbn hcap)
      have hcm : m ≤ c1 := by omega
      have hcb : b ≤ c1 := by omega
      have HT1 : Hid (cutA A1 b c1 = none → m - b = 0 ∧ c1 - b = 0) := fun h => cutA_none HN.out hbm hmn h
      have HT2 : Hid (cutA A1 0 c1 = none → b - 0 = 0 ∧ c1 - 0 = 0) := fun h => cutA_none HN.out (Nat.zero_le _) hbn h
      rw [← HM.out] at HS1
      rw [List.drop_zero, Nat.sub_zero] at HS2
      obtain ⟨L1, hL1⟩ : ∃ L1, midW W b = L1 := ⟨_, rfl⟩
      obtain ⟨L2, hL2⟩ : ∃ L2, W.take b = L2 := ⟨_, rfl⟩
      rw [hL1] at HS1 HC2
      rw [hL2] at HS2 HC2
      have hcase : decide ((1 : Int) < (m : Int) - (b : Int)) = false ∨ ∃ (g : Nat) (x y : Int), decide ((1 : Int) < (m : Int) - (b : Int)) = true ∧ A1 = some ⟨g, 0, none⟩ ∧ wr.cell? ⟨g, b, none⟩ = some (.int .i64 x) ∧ wr.cell? ⟨g, m - 1, none⟩ = some (.int .i64 y) ∧ (x == -y) = false ∧ -1000 ≤ y ∧ y ≤ 1000 ∧ b < n1 ∧ 1 ≤ m := by
        by_cases h1 : (1 : Int) < (m : Int) - (b : Int)
        · right
          have h2 : 2 * b + 1 < W.length := by have := HL.out; have := HBM.out; omega
          obtain ⟨g, hA, hg1, hg2⟩ := ho.form (by omega)
          subst hA
          have e1 : W.length - b - 1 = m - 1 := by have := HL.out; have := HBM.out; omega
          have h3 : ¬ W.getD b 0 = -W.getD (m - 1) 0 := fun h => hgo ⟨h2, by rw [e1]; exact h⟩
          have hm1 : W.getD (m - 1) 0 ∈ W := by
            have hlt : m - 1 < W.length := by rw [HL.out]; omega
            rw [show W.getD (m - 1) 0 = W[m - 1] by simp [List.getD, List.getElem?_eq_getElem hlt]]
            exact List.getElem_mem _
          obtain ⟨hy0, hy1⟩ := HB.out _ hm1
          exact ⟨g, W.getD b 0, W.getD (m - 1) 0, decide_eq_true h1, rfl, ho.cell (by omega), ho.cell (by omega), by simpa using h3, hy0, hy1, by omega, by omega⟩
        · exact .inl (decide_eq_false h1)
      clear ho hb hgo HST HC HM HBM hL1 hL2
      rcases hcase with hg | ⟨g, x, y, hg, rfl, hc1, hc2, hbe, hy0, hy1, hb0, hmp⟩
      · go_wp2_with fail
        go_quiet (fail)
        have hb3 := below_drewN HB2.out nq
        have HS1' := hide (HS1.out.drewN nq)
        have HS2' := hide (HS2.out.drewN nq)
        clear HO HB2 HS1 HS2
        generalize wr.drewN nq = w9 at *
        go_upto_region 6 with fail
        refine wp_region_noPanic ?_
        refine wp_region_held_drew (S := fun w' => Below w9.heap.size w9 w') (by kernel_rfl) (Below.refl _ _).drew (fun hS => ?_)
        refine wpAnyH_tk 0 (v := .slice A1 n1 c1) rfl (by kernel_rfl) (by kernel_rfl) (by kernel_rfl) (yi rfl fun w' hw' => gives_move (.inl rfl) rfl) hS ?_
        go_frame
        refine wpAnyH_tk 1 (v := .int .i64 b) rfl (by kernel_rfl) (by kernel_rfl) (by kernel_rfl) (yi rfl fun w' hw' => gives_move (.inl rfl) rfl) hS ?_
        go_frame
        refine wpAnyH_tk 2 (v := .int .i64 m) rfl (by kernel_rfl) (by kernel_rfl) (by kernel_rfl) (yi rfl fun w' hw' => gives_move (.inl rfl) rfl) hS ?_
        go_frame
        refine wpAnyH_tk 3 (v := .slice (cutA A1 b c1) (m - b) (c1 - b)) rfl (by kernel_rfl) (by kernel_rfl) (by kernel_rfl) (yi rfl fun w' hw' => gives_cut_lh rfl Try.underlying22 (by rw [HI0.out]; exact congrArg some HZ1.out) rfl rfl rfl hbm hcm) hS ?_
        go_frame
        refine wpAnyH_tk 5 (v := .slice A1 n1 c1) rfl (by kernel_rfl) (by kernel_rfl) (by kernel_rfl) (yi rfl fun w' hw' => gives_move (.inl rfl) rfl) hS ?_
        go_frame
        refine wpAnyH_tk 6 (v := .int .i64 b) rfl (by kernel_rfl) (by kernel_rfl) (by kernel_rfl) (yi rfl fun w' hw' => gives_move (.inl rfl) rfl) hS ?_
        go_frame
        refine wpAnyH_tk 7 (v := .slice (cutA A1 0 c1) (b - 0) (c1 - 0)) rfl (by kernel_rfl) (by kernel_rfl) (by kernel_rfl) (yi rfl fun w' hw' => gives_cut_h rfl Try.underlying22 (by rw [HI0.out]; exact congrArg some HZ1.out) rfl rfl hcb) hS ?_
        go_frame
        refine wpAnyH_1 4 rfl (by kernel_rfl) ?_
        refine wp_call [.slice (cutA A1 b c1) (m - b) (c1 - b)] rfl rfl eFClone rfl ((clone_any _ (m - b) (c1 - b) _ _ (HS1'.out.below hS) HT1.out).mono ?_)
        rintro e w6 ⟨A6, n6, c6, rfl, ho6, hb6⟩
        have hb6' : Below w9.heap.size w9 w6 := hS.trans (hb6.mono hS.size)
        have ho6' := ho6.mono hS.size
        refine ⟨_, rfl, hb6', ?_⟩
        go_frame
        refine wpAnyH_1 8 rfl (by kernel_rfl) ?_
        refine wp_call [.slice (cutA A1 0 c1) (b - 0) (c1 - 0)] rfl rfl eFClone rfl ((clone_any _ (b - 0) (c1 - 0) _ _ (HS2'.out.below hb6') HT2.out).mono ?_)
        rintro e w7 ⟨A7, n7, c7, rfl, ho7, hb7⟩
        have hb7' : Below w9.heap.size w9 w7 := hb6'.trans (hb7.mono hb6'.size)
        have ho7' := ho7.mono hb6'.size
        have ho67 := ho6'.below hb7
        refine ⟨_, rfl, hb7', ?_⟩
        go_frame
        refine wpAnyH_tk 9 (v := .slice A6 n6 c6) rfl (by kernel_rfl) (by kernel_rfl) (by kernel_rfl) (yi rfl fun w' hw' => gives_move (.inr rfl) rfl) hb7' ?_
        go_frame
        refine wpAnyH_tk 10 (v := .slice A7 n7 c7) rfl (by kernel_rfl) (by kernel_rfl) (by kernel_rfl) (yi rfl fun w' hw' => gives_move (.inr rfl) rfl) hb7' ?_
        go_frame
        refine wpAnyH_done (by kernel_rfl) (noPanic_mk ?_) _
        have hb97 := hb3.trans (hb7'.mono hb3.size)
        have HO6 := hide (ho67.mono hb3.size)
        have HO7 := hide (ho7'.mono hb3.size)
        go_wp2_with fail
        go_ret2
        rw [HC2.out]
        exact ⟨A6, n6, c6, A7, n7, c7, rfl, HO6.out, HO7.out, hb97⟩
      · have hw1 : IntKind.i64.wrap ((m : Int) - 1) = (m : Int) - 1 := by rw [IntKind.wrap_i64]; omega
        have hp0 : (0 : Int) ≤ (m : Int) - 1 := by omega
        have hp1 : (m : Int) - 1 < (n1 : Int) := by omega
        have hp2 : ((m : Int) - 1).toNat = m - 1 := by omega
        go_wp2_with fail
        go_quiet (fail)
        have hb3 := below_drewN HB2.out nq
        have HS1' := hide (HS1.out.drewN nq)
        have HS2' := hide (HS2.out.drewN nq)
        clear HO HB2 HS1 HS2 hc1 hc2
        generalize wr.drewN nq = w9 at *
        go_upto_region 6 with fail
        refine wp_region_noPanic ?_
        refine wp_region_held_drew (S := fun w' => Below w9.heap.size w9 w') (by kernel_rfl) (Below.refl _ _).drew (fun hS => ?_)
        refine wpAnyH_tk 0 (v := .slice (some ⟨g, 0, none⟩) n1 c1) rfl (by kernel_rfl) (by kernel_rfl) (by kernel_rfl) (yi rfl fun w' hw' => gives_move (.inl rfl) rfl) hS ?_
        go_frame
        refine wpAnyH_tk 1 (v := .int .i64 b) rfl (by kernel_rfl) (by kernel_rfl) (by kernel_rfl) (yi rfl fun w' hw' => gives_move (.inl rfl) rfl) hS ?_
        go_frame
        refine wpAnyH_tk 2 (v := .int .i64 m) rfl (by kernel_rfl) (by kernel_rfl) (by kernel_rfl) (yi rfl fun w' hw' => gives_move (.inl rfl) rfl) hS ?_
        go_frame
        refine wpAnyH_tk 3 (v := .slice (cutA (some ⟨g, 0, none⟩) b c1) (m - b) (c1 - b)) rfl (by kernel_rfl) (by kernel_rfl) (by kernel_rfl) (yi rfl fun w' hw' => gives_cut_lh rfl Try.underlying22 (by rw [HI0.out]; exact congrArg some HZ1.out) rfl rfl rfl hbm hcm) hS ?_
        go_frame
        refine wpAnyH_tk 5 (v := .slice (some ⟨g, 0, none⟩) n1 c1) rfl (by kernel_rfl) (by kernel_rfl) (by kernel_rfl) (yi rfl fun w' hw' => gives_move (.inl rfl) rfl) hS ?_
        go_frame
        refine wpAnyH_tk 6 (v := .int .i64 b) rfl (by kernel_rfl) (by kernel_rfl) (by kernel_rfl) (yi rfl fun w' hw' => gives_move (.inl rfl) rfl) hS ?_
        go_frame
        refine wpAnyH_tk 7 (v := .slice (cutA (some ⟨g, 0, none⟩) 0 c1) (b - 0) (c1 - 0)) rfl (by kernel_rfl) (by kernel_rfl) (by kernel_rfl) (yi rfl fun w' hw' => gives_cut_h rfl Try.underlying22 (by rw [HI0.out]; exact congrArg some HZ1.out) rfl rfl hcb) hS ?_
        go_frame
        refine wpAnyH_1 4 rfl (by kernel_rfl) ?_
        refine wp_call [.slice (cutA (some ⟨g, 0, none⟩) b c1) (m - b) (c1 - b)] rfl rfl eFClone rfl ((clone_any _ (m - b) (c1 - b) _ _ (HS1'.out.below hS) HT1.out).mono ?_)
        rintro e w6 ⟨A6, n6, c6, rfl, ho6, hb6⟩
        have hb6' : Below w9.heap.size w9 w6 := hS.trans (hb6.mono hS.size)
        have ho6' := ho6.mono hS.size
        refine ⟨_, rfl, hb6', ?_⟩
        go_frame
        refine wpAnyH_1 8 rfl (by kernel_rfl) ?_
        refine wp_call [.slice (cutA (some ⟨g, 0, none⟩) 0 c1) (b - 0) (c1 - 0)] rfl rfl eFClone rfl ((clone_any _ (b - 0) (c1 - 0) _ _ (HS2'.out.below hb6') HT2.out).mono ?_)
        rintro e w7 ⟨A7, n7, c7, rfl, ho7, hb7⟩
        have hb7' : Below w9.heap.size w9 w7 := hb6'.trans (hb7.mono hb6'.size)
        have ho7' := ho7.mono hb6'.size
        have ho67 := ho6'.below hb7
        refine ⟨_, rfl, hb7', ?_⟩
        go_frame
        refine wpAnyH_tk 9 (v := .slice A6 n6 c6) rfl (by kernel_rfl) (by kernel_rfl) (by kernel_rfl) (yi rfl fun w' hw' => gives_move (.inr rfl) rfl) hb7' ?_
        go_frame
        refine wpAnyH_tk 10 (v := .slice A7 n7 c7) rfl (by kernel_rfl) (by kernel_rfl) (by kernel_rfl) (yi rfl fun w' hw' => gives_move (.inr rfl) rfl) hb7' ?_
        go_frame
        refine wpAnyH_done (by kernel_rfl) (noPanic_mk ?_) _
        have hb97 := hb3.trans (hb7'.mono hb3.size)
        have HO6 := hide (ho67.mono hb3.size)
        have HO7 := hide (ho7'.mono hb3.size)
        go_wp2_with fail
        go_ret2
        rw [HC2.out]
        exact ⟨A6, n6, c6, A7, n7, c7, rfl, HO6.out, HO7.out, hb97⟩
end Go.Proofs.Ytihpmdfeonphpaa
/- freegroup.isRotation, period. -/
namespace Go.Proofs.Ytihpmdfeonphpaa
set_option linter.unusedVariables false
set_option linter.unusedSimpArgs false
open Go.RowKit

theorem rot_cut {c : List Int} {i : Nat} (h : i ≤ c.length) : ((c ++ c).drop i).take (i + c.length - i) = rotI c i := by
  rw [rotI_eq c i h, List.drop_append, show i - c.length = 0 by omega, List.drop_zero, show i + c.length - i = c.length by omega, List.take_append, List.take_of_length_le (by simp)]
  congr 2
  simp
  omega
theorem conjB_ne {c d : List Int} (h : c.length ≠ d.length) : conjB c d = false := conjB_false fun r _ e => h (by rw [← e, rotI_length])

set_option maxRecDepth 100000 in
set_option maxHeartbeats 2000000 in
theorem frot_any (A B : Option Addr) (n c m d : Nat) (xs ys : List Int) (w : World) (ha : IL w A n xs) (hb : IL w B m ys) (hn : n ≤ 100000) (hm : m ≤ 1000000) :
    Calls Try.prog 42 #[.slice A n c, .slice B m d] w fun e w' => e = .returned (.bool (conjB xs ys)) ∧ Below w.heap.size w w' := by
  have HL := hide ha.len
  have HM := hide hb.len
  have HA := hide ha
  have HB := hide hb
  obtain ⟨i0, hi0, hz0, hz1, hz2⟩ := info_parts int_info
  have HI0 := hide hi0
  have HZ1 := hide hz1
  clear ha hb hi0 hz0 hz1 hz2
  by_cases hnm : n = m
  · subst hnm
    have hg : ((n : Int) != (n : Int)) = false := by simp
    have HILL : ILL (w.alloc (.cells #[.slice A n c, .slice A n c] 22)) (some ⟨w.heap.size, 0, none⟩) 2 [xs, xs] :=
      ILL.lit (vs := [.slice A n c, .slice A n c]) rfl (by simp) (fun j hj => by
        match j, hj with
        | 0, _ => exact ⟨_, _, _, rfl, HA.out⟩
        | 1, _ => exact ⟨_, _, _, rfl, HA.out⟩
        | j + 2, h => exact absurd h (by simp)) rfl rfl
    have HCC := hide (concat_any (some ⟨w.heap.size, 0, none⟩) 2 2 _ _ HILL (by
      simp only [List.flatten_cons, List.flatten_nil, List.length_append, List.length_nil, HL.out]
      omega))
    have HB1 := hide ((Below.refl w.heap.size w).alloc (Nat.le_refl _) (.cells #[.slice A n c, .slice A n c] 22))
    clear HILL
    go_enter Try.func42, Try.ntmps42
    go_wp2_with fail
    refine HCC.out.mono ?_
    rintro e w1 ⟨T, tn, tc, rfl, ho1, hb1⟩
    have hb01 := HB1.out.trans (hb1.mono HB1.out.size)
    have ho01 : OwnI w1 w.heap.size T tn tc (xs ++ xs) := by
      have h := ho1.mono (b' := w.heap.size) (by simp)
      simpa using h
    have hbase := hb1
    have HO1 := hide ho01
    have HB01 := hide hb01
    clear ho1 hb1 hb01 ho01 HCC HB1 hbase
    go_wp2_with fail
    go_loopw [6, 19] (fun _ iv wr => ∃ i : Nat, iv = .int .i64 i ∧ i ≤ n + 1 ∧ OwnI wr w.heap.size T tn tc (xs ++ xs) ∧ Hid (∀ r, r < i → rotI xs r ≠ ys) ∧ Below w.heap.size w wr) (fun _ iv _ => n + 1 - (intOf iv).toNat)
    case atStart => exact ⟨0, rfl, Nat.zero_le _, HO1.out, fun r h => absurd h (Nat.not_lt_zero r), HB01.out⟩
    case round =>
      clear HO1 HB01
      obtain ⟨i, rfl, hi, ho, HNO, hb⟩ := hrel
      have HO := hide ho
      have HBB := hide hb
      have htl := ho.len
      rw [List.length_append, HL.out] at htl
      have hcap := ho.cap
      have hwb : IntKind.i64.wrap ((n : Int) + 1) = (n : Int) + 1 := by rw [IntKind.wrap_i64]; omega
      by_cases hlt : i < n + 1
      · have h1 : i ≤ i + n := by omega
        have h2 : i + n ≤ tn := by omega
        have h3 : i + n ≤ tc := by omega
        have hc := ho.il.cut (c := tc) h1 h2 hcap
        have hrc := rot_cut (c := xs) (i := i) (by rw [HL.out]; omega)
        rw [HL.out] at hrc
        rw [hrc, Nat.add_sub_cancel_left] at hc
        have HE := hide (equal_any (cutA T i tc) B n n (tc - i) d _ _ wr hc (HB.out.below hb))
        have HH := hide (And.intro h1 h3)
        have HWI : Hid (IntKind.i64.wrap ((i : Int) + (n : Int)) = ((i + n : Nat) : Int)) := hide (by rw [IntKind.wrap_i64]; omega)
        clear ho hb hc hrc htl h1 h2 h3
        by_cases heq : rotI xs i = ys
        · have HQ := hide (eqB_true heq)
          have HR := hide (conjB_true (show i ≤ xs.length by rw [HL.out]; omega) heq)
          clear heq HO
          go_wp2_with ((with_reducible show wpList _ _ _ (Oper.mk _ (.slice 22 _ _ _ _) _ _ _ _ :: _) _ _); refine wpList_gives rfl (v := .slice (cutA T i tc) (i + n - i) (tc - i)) (gives_cut_lh rfl Try.underlying22 (by rw [HI0.out]; exact congrArg some HZ1.out) rfl rfl (congrArg (Value.int .i64) (Int.natCast_add i n).symm) HH.out.1 HH.out.2) ?_)
          refine HE.out.mono ?_
          rintro e w5 ⟨rfl, hb5⟩
          rw [HQ.out]
          have HB5 := hide (HBB.out.trans (hb5.mono HBB.out.size))
          clear hb5 HE
          go_wp2_with fail
          go_ret
          exact ⟨by rw [HR.out]; rfl, HB5.out⟩
        · have HQ := hide (eqB_false heq)
          have HNO2 : Hid (∀ r, r < i + 1 → rotI xs r ≠ ys) := fun r hr => by
            rcases Nat.lt_succ_iff_lt_or_eq.1 hr with h | rfl
            · exact HNO.out r h
            · exact heq
          clear heq HNO
          go_wp2_with ((with_reducible show wpList _ _ _ (Oper.mk _ (.slice 22 _ _ _ _) _ _ _ _ :: _) _ _); refine wpList_gives rfl (v := .slice (cutA T i tc) (i + n - i) (tc - i)) (gives_cut_lh rfl Try.underlying22 (by rw [HI0.out]; exact congrArg some HZ1.out) rfl rfl (congrArg (Value.int .i64) (Int.natCast_add i n).symm) HH.out.1 HH.out.2) ?_)
          refine HE.out.mono ?_
          rintro e w5 ⟨rfl, hb5⟩
          rw [HQ.out]
          have HB5 := hide (HBB.out.trans (hb5.mono HBB.out.size))
          have HO5 := hide (HO.out.below hb5)
          clear hb5 HE
          go_wp2_with fail
          go_roundw
          case rel => exact ⟨i + 1, by go_num, by omega, HO5.out, HNO2.out, HB5.out⟩
          case measure => simp [intOf]; omega
      · have HF : Hid (conjB xs ys = false) := hide (conjB_false fun r hr => HNO.out r (by rw [HL.out] at hr; omega))
        clear HNO ho hb
        go_wp2_with fail
        go_ret
        exact ⟨by rw [HF.out]; rfl, HBB.out⟩
  · have hg : ((n : Int) != (m : Int)) = true := by simp; omega
    have HF : Hid (conjB xs ys = false) := hide (conjB_ne (by rw [HL.out, HM.out]; exact hnm))
    go_enter Try.func42, Try.ntmps42
    go_wp2_with fail
    go_ret
    exact ⟨by rw [HF.out]; rfl, Below.refl _ _⟩
end Go.Proofs.Ytihpmdfeonphpaa
/- freegroup.period. -/
namespace Go.Proofs.Ytihpmdfeonphpaa
set_option linter.unusedVariables false
set_option linter.unusedSimpArgs false
open Go.RowKit

theorem rep_of_shift : ∀ (k q : Nat) (L : List Int), 0 < q → L.length = k * q → L.drop q = L.take (L.length - q) → L = rep (L.take q) k
  | 0, q, L, h0, hl, h => by
    rw [Nat.zero_mul] at hl
    rw [List.eq_nil_of_length_eq_zero hl]; rfl
  | k + 1, q, L, h0, hl, h => by
    rw [Nat.add_one_mul] at hl
    rw [rep_succ]
    have hlen : (L.drop q).length = k * q := by rw [List.length_drop]; omega
    have e : L = L.take q ++ L.drop q := (List.take_append_drop q L).symm
    rcases Nat.eq_zero_or_pos k with hk | hk
    · subst hk
      rw [Nat.zero_mul] at hlen
      rw [List.eq_nil_of_length_eq_zero hlen] at e
      rw [rep_zero]
      exact e
    · have hkq : q ≤ k * q := Nat.le_mul_of_pos_left q hk
      have h1 : (L.drop q).drop q = (L.drop q).take ((L.drop q).length - q) := by
        rw [hlen]
        rw [show (L.drop q).drop q = (L.take (L.length - q)).drop q by rw [h]]
        rw [List.drop_take, show L.length - q - q = k * q - q by omega]
      have h2 := rep_of_shift k q (L.drop q) h0 hlen h1
      have h3 : (L.drop q).take q = L.take q := by
        rw [h, List.take_take, show min q (L.length - q) = q by omega]
      rw [h3] at h2
      rw [← h2]
      exact e
theorem shift_of_rep {L d : List Int} {k q : Nat} (hd : d.length = q) (hk : 0 < k) (h : L = rep d k) : L.drop q = L.take (L.length - q) := by
  obtain ⟨j, rfl⟩ : ∃ j, k = j + 1 := ⟨k - 1, by omega⟩
  have hl : L.length = j * q + q := by rw [h, rep_length, hd, Nat.add_one_mul]
  have h1 : L.drop q = rep d j := by rw [h, rep_succ, ← hd, List.drop_left]
  have h2 : L.take (L.length - q) = rep d j := by
    rw [hl, Nat.add_sub_cancel, h, rep_succ', List.take_left' (by rw [rep_length, hd])]
  rw [h1, h2]
/-- The least period that divides the length gives the root. -/
theorem isRoot_of_period {L : List Int} {p : Nat} (hne : L ≠ []) (hp : 0 < p) (hd : p ∣ L.length) (h : L.drop p = L.take (L.length - p)) (hmin : ∀ q, 0 < q → q < p → ¬ (q ∣ L.length ∧ L.drop q = L.take (L.length - q))) :
    IsRoot L (L.take p) (L.length / p) := by
  have hl0 : 0 < L.length := by
    rcases Nat.eq_zero_or_pos L.length with h0 | h0
    · exact absurd (List.eq_nil_of_length_eq_zero h0) hne
    · exact h0
  obtain ⟨k, hk⟩ := hd
  have hk0 : 0 < k := by
    rcases Nat.eq_zero_or_pos k with h0 | h0
    · rw [h0] at hk; omega
    · exact h0
  have e1 : L.length / p = k := by rw [hk, Nat.mul_div_cancel_left k hp]
  have e2 : L.length / k = p := by rw [hk, Nat.mul_div_cancel p hk0]
  rw [e1]
  have := isRoot_of_try (c := L) (k := k) hne hk0 ⟨p, by rw [hk, Nat.mul_comm]⟩ (by rw [e2]; exact rep_of_shift k p L hp (by rw [hk, Nat.mul_comm]) h) (by
    intro j hj hjl hh
    obtain ⟨⟨q, hq⟩, he⟩ := hh
    have hj0 : 0 < j := by omega
    have e3 : L.length / j = q := by rw [hq, Nat.mul_div_cancel_left q hj0]
    have hq0 : 0 < q := by
      rcases Nat.eq_zero_or_pos q with h0 | h0
      · rw [h0] at hq; omega
      · exact h0
    have hqp : q < p := by
      rcases Nat.lt_or_ge q p with h1 | h1
      · exact h1
      · have h2 : p * k < q * j := by
          calc p * k ≤ q * k := Nat.mul_le_mul_right k h1
            _ < q * j := (Nat.mul_lt_mul_left hq0).2 hj
        rw [← hk, Nat.mul_comm, ← hq] at h2
        exact absurd h2 (Nat.lt_irrefl _)
    rw [e3] at he
    have hql : (L.take q).length = q := by
      rw [List.length_take]
      have : q ≤ L.length := by rw [hq]; exact Nat.le_mul_of_pos_left q hj0
      omega
    exact hmin q hq0 hqp ⟨⟨j, by rw [hq, Nat.mul_comm]⟩, shift_of_rep hql hj0 he⟩)
  rw [e2] at this
  exact this
theorem eFEqual : ∀ args w, (callFunc 19 args).run Try.prog w = .ok (.enter 19 args) w := enters (fn := Try.f19) (by kernel_rfl) (by kernel_rfl) (by kernel_rfl)

end Go.Proofs.Ytihpmdfeonphpaa
/- Package freegroup answers as it should. -/
namespace Go.Proofs.Ytihpmdfeonphpaa
set_option linter.unusedVariables false
set_option linter.unusedSimpArgs false
open Go.RowKit

theorem ffault_small {w : List Int} (h : ffault w = 0) : ∀ x ∈ w, -1000 ≤ x ∧ x ≤ 1000 := fun x hx => by
  have := (ffault_zero h).2 x hx
  omega

theorem OwnI.newA {w : World} {base n c : Nat} {A : Option Addr} {xs : List Int} (h : OwnI w base A n c xs) : 0 < n → ∀ ad, A = some ad → base ≤ ad.block := fun hn ad e => by
  rcases h.own.2 with ⟨_, h0⟩ | ⟨g, cap, cur, hv, hg, _⟩
  · omega
  · injection hv with hv
    rw [e] at hv
    injection hv with hv
    rw [hv]
    exact hg
theorem fproduct_new (A B : Option Addr) (n c m d : Nat) (xs ys : List Int) (w : World) (ha : SL w A n c xs) (hb : SL w B m d ys) : Calls Try.prog 17 #[.slice A n c, .slice B m d] w (GivesLEn w (prodE xs ys) (prodL xs ys)) := by
  have HC := hide (fboth_any A B n c m d xs ys w ha.il hb.il)
  by_cases h0 : bothE xs ys = 0
  · have hx0 : ffault xs = 0 := by
      unfold bothE at h0
      by_cases h : ffault xs = 0
      · exact h
      · rw [if_neg h] at h0; exact absurd h0 h
    have hy0 : ffault ys = 0 := by unfold bothE at h0; rw [if_pos hx0] at h0; exact h0
    have hla := ha.il.len
    have hlb := hb.il.len
    have hzx := ffault_zero hx0
    have hzy := ffault_zero hy0
    have HE : Hid (prodE xs ys = if 60 < (nf (xs ++ ys)).length then 2 else 0) := hide (by unfold prodE; rw [if_pos hx0, if_pos hy0])
    have HL : Hid (prodL xs ys = if prodE xs ys = 0 then nf (xs ++ ys) else []) := rfl
    have HM : Hid (∀ x ∈ xs ++ ys, -1000 ≤ x ∧ x ≤ 1000) := hide (fun x hx => by
      rcases List.mem_append.1 hx with h | h
      · exact ffault_small hx0 x h
      · exact ffault_small hy0 x h)
    have HILL : ILL (w.alloc (.cells #[.slice A n c, .slice B m d] 22)) (some ⟨w.heap.size, 0, none⟩) 2 [xs, ys] :=
      ILL.lit (vs := [.slice A n c, .slice B m d]) rfl (by simp) (fun j hj => by
        match j, hj with
        | 0, _ => exact ⟨_, _, _, rfl, ha.il⟩
        | 1, _ => exact ⟨_, _, _, rfl, hb.il⟩
        | j + 2, h => exact absurd h (by simp)) rfl rfl
    have HCC := hide (concat_any (some ⟨w.heap.size, 0, none⟩) 2 2 _ _ HILL (by
      simp only [List.flatten_cons, List.flatten_nil, List.length_append, List.length_nil]
      omega))
    have HB1 := hide ((Below.refl w.heap.size w).alloc (Nat.le_refl _) (.cells #[.slice A n c, .slice B m d] 22))
    have HLN : Hid (xs.length + ys.length ≤ 120) := hide (by omega)
    have H0 := hide h0
    clear ha hb h0 hx0 hy0 hla hlb hzx hzy HILL
    go_enter Try.func17, Try.ntmps17
    go_wp2_with fail
    refine HC.out.mono ?_
    rintro e w1 ⟨rfl, rfl⟩
    rw [H0.out]
    clear HC
    go_wp2_with fail
    refine HCC.out.mono ?_
    rintro e w2 ⟨T, tn, tc, rfl, ho2, hb2⟩
    have ho2' : OwnI w2 w.heap.size T tn tc (xs ++ ys) := by
      have h := ho2.mono (b' := w.heap.size) (by simp)
      simpa using h
    have hb02 := HB1.out.trans (hb2.mono HB1.out.size)
    have htn := ho2'.len
    rw [List.length_append] at htn
    have HR := hide (fred_any T tn tc _ w2 ho2'.il HM.out (by have := HLN.out; omega))
    have HB02 := hide hb02
    have HS2 : Hid (w.heap.size ≤ w2.heap.size) := hide hb02.size
    clear ho2 hb2 ho2' hb02 htn HCC HB1
    go_wp2_with fail
    refine HR.out.mono ?_
    rintro e w3 ⟨R, rn, rc, rfl, ho3, hb3⟩
    have hl3 := ho3.len
    have HO3 := hide ho3
    have HB03 := hide (HB02.out.trans (hb3.mono HB02.out.size))
    have hrs := ho3.small
    clear HR ho3 hb3 HB02
    by_cases h60 : 60 < rn
    · have HE2 : Hid (prodE xs ys = 2) := hide (by rw [HE.out, if_pos (by omega)])
      have HL2 : Hid (prodL xs ys = []) := hide (by rw [HL.out, HE2.out]; exact if_neg (by decide))
      clear hl3 HE HL
      go_wp2_with fail
      go_ret2
      rw [HE2.out, HL2.out]
      exact ⟨none, 0, 0, rfl, SL.nil_ _, fun h => absurd h (by omega), HB03.out⟩
    · have HE2 : Hid (prodE xs ys = 0) := hide (by rw [HE.out, if_neg (by omega)])
      have HL2 : Hid (prodL xs ys = nf (xs ++ ys)) := hide (by rw [HL.out, HE2.out]; exact if_pos rfl)
      clear hl3 HE HL
      go_wp2_with fail
      go_ret2
      rw [HE2.out, HL2.out]
      exact ⟨R, rn, rc, rfl, HO3.out.sl, fun h ad e => Nat.le_trans HS2.out (HO3.out.newA h ad e), HB03.out⟩
  · have HE : Hid (prodE xs ys = bothE xs ys ∧ prodL xs ys = []) := hide (by
      have h1 : prodE xs ys = bothE xs ys := by
        unfold prodE bothE
        unfold bothE at h0
        by_cases hx : ffault xs = 0
        · rw [if_pos hx, if_pos hx]
          rw [if_pos hx] at h0
          rw [if_neg h0]
        · rw [if_neg hx, if_neg hx]
      refine ⟨h1, ?_⟩
      unfold prodL
      rw [h1, if_neg h0])
    clear ha hb
    go_enter Try.func17, Try.ntmps17
    go_wp2_with fail
    refine HC.out.mono ?_
    rintro e w1 ⟨rfl, rfl⟩
    generalize bothE xs ys = er at *
    have hb : (er != 0) = true := by simpa using h0
    clear h0 HC
    go_wp2_with fail
    go_ret2
    rw [HE.out.1, HE.out.2]
    exact ⟨none, 0, 0, rfl, SL.nil_ _, fun h => absurd h (by omega), Below.refl _ _⟩

theorem fproduct_ok (A B : Option Addr) (n c m d : Nat) (xs ys : List Int) (w : World) (ha : SL w A n c xs) (hb : SL w B m d ys) : Calls Try.prog 17 #[.slice A n c, .slice B m d] w (GivesLE w (prodE xs ys) (prodL xs ys)) := (fproduct_new A B n c m d xs ys w ha hb).mono fun _ _ h => h.le

theorem fconjugate_ok (A B : Option Addr) (n c m d : Nat) (xs ys : List Int) (w : World) (ha : SL w A n c xs) (hb : SL w B m d ys) : Calls Try.prog 18 #[.slice A n c, .slice B m d] w fun e w' => e = .returned (.tuple #[.bool (conB xs ys), .int .i64 (bothE xs ys)]) ∧ Below w.heap.size w w' := by
  have HC := hide (fboth_any A B n c m d xs ys w ha.il hb.il)
  by_cases h0 : bothE xs ys = 0
  · have hx0 : ffault xs = 0 := by
      unfold bothE at h0
      by_cases h : ffault xs = 0
      · exact h
      · rw [if_neg h] at h0; exact absurd h0 h
    have hy0 : ffault ys = 0 := by unfold bothE at h0; rw [if_pos hx0] at h0; exact h0
    have hla := ha.il.len
    have hlb := hb.il.len
    have hzx := ffault_zero hx0
    have hzy := ffault_zero hy0
    have HE : Hid (conB xs ys = conjB (core (nf xs)).1 (core (nf ys)).1) := hide (by unfold conB; rw [if_pos h0])
    have hcx : (core (nf xs)).1.length ≤ 60 := by have := core_len (nf xs); have := nf_len_le xs; omega
    have hcy : (core (nf ys)).1.length ≤ 60 := by have := core_len (nf ys); have := nf_len_le ys; omega
    have HRX := hide (fcore_any A n c xs w ha.il (ffault_small hx0) (by omega))
    have HRY := hide (fun (w' : World) (h : SL w' B m d ys) => fcore_any B m d ys w' h.il (ffault_small hy0) (by omega))
    have HBS := hide hb
    have H0 := hide h0
    have HCX := hide hcx
    have HCY := hide hcy
    clear ha hb h0 hx0 hy0 hla hlb hzx hzy hcx hcy
    go_enter Try.func18, Try.ntmps18
    go_wp2_with fail
    refine HC.out.mono ?_
    rintro e w1 ⟨rfl, rfl⟩
    rw [H0.out]
    clear HC
    go_wp2_with fail
    refine HRX.out.mono ?_
    rintro e w2 ⟨C, cn, cc, U, un, uc, rfl, ho2, _, hb2⟩
    have HO2 := hide ho2
    have HB2 := hide hb2
    have HY := hide (HRY.out w2 (HBS.out.below hb2))
    clear ho2 hb2 HRX HRY
    go_wp2_with fail
    refine HY.out.mono ?_
    rintro e w3 ⟨D, dn, dc, V, vn, vc, rfl, ho3, _, hb3⟩
    have hl2 := HO2.out.len
    have hl3 := ho3.len
    have HR := hide (frot_any C D cn cc dn dc _ _ w3 (HO2.out.il.below hb3) ho3.il (by have := HCX.out; omega) (by have := HCY.out; omega))
    have HB3 := hide (HB2.out.trans (hb3.mono HB2.out.size))
    clear ho3 hb3 hl2 hl3 HY HB2
    go_wp2_with fail
    refine HR.out.mono ?_
    rintro e w4 ⟨rfl, hb4⟩
    have HB4 := hide (HB3.out.trans (hb4.mono HB3.out.size))
    clear hb4 HR HB3
    go_wp2_with fail
    go_ret2
    rw [HE.out, H0.out]
    exact ⟨rfl, HB4.out⟩
  · have HE : Hid (conB xs ys = false) := hide (by unfold conB; rw [if_neg h0])
    clear ha hb
    go_enter Try.func18, Try.ntmps18
    go_wp2_with fail
    refine HC.out.mono ?_
    rintro e w1 ⟨rfl, rfl⟩
    obtain ⟨er, her⟩ : ∃ er, bothE xs ys = er := ⟨_, rfl⟩
    rw [her] at h0 ⊢
    have HER := hide her
    have hb : (er != 0) = true := by simpa using h0
    clear her
    clear h0 HC
    go_wp2_with fail
    go_ret2
    rw [HE.out, HER.out]
    exact ⟨rfl, Below.refl _ _⟩
theorem eFConcat : ∀ args w, (callFunc 35 args).run Try.prog w = .ok (.enter 35 args) w := enters (fn := Try.f35) (by kernel_rfl) (by kernel_rfl) (by kernel_rfl)
theorem ints_info : (Try.prog.info? 22).map (fun i => (i.zero, i.size, i.bytes)) = some (some (.slice none 0 0), 1, 24) := by kernel_rfl

theorem freeC : FreeC where
  check A n c xs w h := (fcheck_any A n c xs w h.il).mono (by rintro e w' ⟨rfl, rfl⟩; exact ⟨rfl, Below.refl _ _⟩) -- 51
  product := fproduct_ok -- 17
  conjugate := fconjugate_ok -- 18
end Go.Proofs.Ytihpmdfeonphpaa
