/- freegroup.core: the cyclically reduced part and what it is conjugated with. -/
import Derived.Test.YtbckgomidoelaaaFgRed
import Derived.Test.YtbckgomidoelaaaBase
namespace Go.Proofs.Ytbckgomidoelaaa
set_option linter.unusedVariables false
set_option linter.unusedSimpArgs false
open Go.RowKit

/-- The middle of a word. -/
def midW (W : List Int) (b : Nat) : List Int := (W.drop b).take (W.length - 2 * b)
theorem midW_zero (W : List Int) : midW W 0 = W := by simp [midW]
theorem midW_length {W : List Int} {b : Nat} (h : 2 * b ≤ W.length) : (midW W b).length = W.length - 2 * b := by simp [midW]; omega
theorem midW_getD {W : List Int} {b i : Nat} (h : i < W.length - 2 * b) : (midW W b).getD i 0 = W.getD (b + i) 0 := by
  simp [midW, List.getD, List.getElem?_take, List.getElem?_drop, h]
theorem midW_inner {W : List Int} {b : Nat} (h : 2 * b + 1 < W.length) : (midW W b).tail.dropLast = midW W (b + 1) := by
  have hl := midW_length (W := W) (b := b) (by omega)
  rw [inner_eq (by omega)]
  unfold midW
  rw [List.drop_take, List.drop_drop, List.take_take]
  congr 1
  simp
  omega
theorem midW_step {W : List Int} {b : Nat} (h : 2 * b + 1 < W.length) (he : W.getD b 0 = -W.getD (W.length - b - 1) 0) : core (midW W b) = ((core (midW W (b + 1))).1, W.getD b 0 :: (core (midW W (b + 1))).2) := by
  have hl := midW_length (W := W) (b := b) (by omega)
  have h0 := midW_getD (W := W) (b := b) (i := 0) (by omega)
  have h1 := midW_getD (W := W) (b := b) (i := W.length - 2 * b - 1) (by omega)
  rw [show b + (W.length - 2 * b - 1) = W.length - b - 1 by omega] at h1
  rw [core_step (by omega) (by rw [hl, h1, h0]; exact he), midW_inner h, h0]
  rfl
theorem midW_stop {W : List Int} {b : Nat} (h2 : 2 * b ≤ W.length) (h : ¬ (2 * b + 1 < W.length ∧ W.getD b 0 = -W.getD (W.length - b - 1) 0)) : core (midW W b) = (midW W b, []) := by
  have hl := midW_length (W := W) (b := b) (by omega)
  refine core_stop fun hh => h ⟨by omega, ?_⟩
  have h0 := midW_getD (W := W) (b := b) (i := 0) (by omega)
  have h1 := midW_getD (W := W) (b := b) (i := W.length - 2 * b - 1) (by omega)
  rw [show b + (W.length - 2 * b - 1) = W.length - b - 1 by omega] at h1
  have := hh.2
  rw [hl, h1, h0] at this
  exact this
theorem eFClone : ∀ args w, (callFunc 30 args).run Try.prog w = .ok (.enter 30 args) w := enters (fn := Try.f30) (by kernel_rfl) (by kernel_rfl) (by kernel_rfl)

set_option maxRecDepth 100000 in
set_option maxHeartbeats 2000000 in
theorem fcore_any (A : Option Addr) (n c : Nat) (xs : List Int) (w : World) (ha : IL w A n xs) (hb : ∀ x ∈ xs, -1000 ≤ x ∧ x ≤ 1000) (hn : n ≤ 1000000) :
    Calls Try.prog 33 #[.slice A n c] w fun e w' => ∃ C cn cc U un uc, e = .returned (.tuple #[.slice C cn cc, .slice U un uc]) ∧ OwnI w' w.heap.size C cn cc (core (nf xs)).1 ∧ OwnI w' w.heap.size U un uc (core (nf xs)).2 ∧ Below w.heap.size w w' := by
  have HR := hide (fred_any A n c xs w ha hb hn)
  have hnl := nf_len_le xs
  rw [ha.len] at hnl
  have HB : Hid (∀ x ∈ nf xs, -1000 ≤ x ∧ x ≤ 1000) := hide (fun x hx => hb x (nf_mem hx))
  generalize nf xs = W at *
  obtain ⟨i0, hi0, hz0, hz1, hz2⟩ := info_parts int_info
  have HI0 := hide hi0
  have HZ1 := hide hz1
  clear ha hb hi0 hz0 hz1 hz2
  go_enter Try.func33, Try.ntmps33
  go_wp2_with fail
  refine HR.out.mono ?_
  rintro e w1 ⟨A1, n1, c1, rfl, ho1, hb1⟩
  have hl1 := ho1.len
  have hn1 : n1 ≤ 1000000 := by omega
  have HL := hide hl1
  have HO1 := hide ho1
  clear HR hl1 ho1 hnl
  go_wp2_with fail
  go_loopw [5, 6] (fun bv ev wr => ∃ b m : Nat, bv = .int .i64 b ∧ ev = .int .i64 m ∧ m ≤ n1 ∧ b ≤ n1 ∧ Hid (b + m = n1 ∧ 2 * b ≤ n1) ∧ Hid (core W = ((core (midW W b)).1, W.take b ++ (core (midW W b)).2)) ∧ OwnI wr w.heap.size A1 n1 c1 W ∧ Below w.heap.size w wr) (fun _ ev _ => (intOf ev).toNat)
  case atStart => exact ⟨0, n1, rfl, rfl, Nat.le_refl _, Nat.zero_le _, hide ⟨by omega, by omega⟩, by rw [midW_zero]; exact rfl, HO1.out, hb1⟩
  case round =>
    clear HO1 hb1
    obtain ⟨b, m, rfl, rfl, hmn, hbn, HBM, HC, ho, hb⟩ := hrel
    have HO := hide ho
    have HB2 := hide hb
    have hwb : IntKind.i64.wrap ((m : Int) - (b : Int)) = (m : Int) - (b : Int) := by rw [IntKind.wrap_i64]; omega
    by_cases hgo : 2 * b + 1 < W.length ∧ W.getD b 0 = -W.getD (W.length - b - 1) 0
    · have HST := hide (midW_step hgo.1 hgo.2)
      obtain ⟨h1, h2⟩ := hgo
      have hb0 : b < n1 := by have := HL.out; omega
      have hm0 : m - 1 < n1 := by have := HL.out; have := HBM.out; omega
      obtain ⟨g, rfl, hg1, hg2⟩ := ho.form (by omega)
      have hc1 := ho.cell hb0
      have hc2 := ho.cell hm0
      have e1 : W.length - b - 1 = m - 1 := by have := HL.out; have := HBM.out; omega
      rw [e1] at h2
      have hm1 : W.getD (m - 1) 0 ∈ W := by
        have hlt : m - 1 < W.length := by rw [HL.out]; exact hm0
        rw [show W.getD (m - 1) 0 = W[m - 1] by simp [List.getD, List.getElem?_eq_getElem hlt]]
        exact List.getElem_mem _
      obtain ⟨hy0, hy1⟩ := HB.out _ hm1
      have HC2 : Hid (core W = ((core (midW W (b + 1))).1, W.take (b + 1) ++ (core (midW W (b + 1))).2)) := by
        have hbl : b < W.length := by rw [HL.out]; exact hb0
        have e : W.take (b + 1) = W.take b ++ [W.getD b 0] := by
          rw [List.take_succ_eq_append_getElem hbl]
          simp [List.getD, List.getElem?_eq_getElem hbl]
        have h := HC.out
        rw [HST.out] at h
        rw [h, e, List.append_assoc]
        exact rfl
      have hg : decide ((1 : Int) < (m : Int) - (b : Int)) = true := decide_eq_true (by have := HL.out; have := HBM.out; omega)
      have hmp : 1 ≤ m := by have := HL.out; have := HBM.out; omega
      have hw1 : IntKind.i64.wrap ((m : Int) - 1) = (m : Int) - 1 := by rw [IntKind.wrap_i64]; omega
      have hp0 : (0 : Int) ≤ (m : Int) - 1 := by omega
      have hp1 : (m : Int) - 1 < (n1 : Int) := by omega
      have hp2 : ((m : Int) - 1).toNat = m - 1 := by omega
      have HBM2 : Hid (b + 1 + (m - 1) = n1 ∧ 2 * (b + 1) ≤ n1) := hide (by have := HL.out; have := HBM.out; omega)
      obtain ⟨x, hx⟩ : ∃ x, W.getD b 0 = x := ⟨_, rfl⟩
      obtain ⟨y, hy⟩ : ∃ y, W.getD (m - 1) 0 = y := ⟨_, rfl⟩
      rw [hx] at hc1 h2
      rw [hy] at hc2 h2 hy0 hy1
      have hbe : (x == -y) = true := by simpa using h2
      clear ho hb HST HC h1 h2 hm1 hx hy e1 HBM
      go_wp2_with fail
      go_quiet (fail)
      have HO2 := hide (HO.out.drewN nq)
      have hb3 := below_drewN HB2.out nq
      clear HO HB2
      generalize wr.drewN nq = w9 at *
      go_wp2_with fail
      go_roundw
      case rel => exact ⟨b + 1, m - 1, by go_num, by go_num, by omega, by omega, HBM2, HC2, HO2.out, hb3⟩
      case measure => simp [intOf]; omega
    · have HST := hide (midW_stop (by have := HL.out; have := HBM.out; omega) hgo)
      have HC2 : Hid (core W = (midW W b, W.take b)) := by
        have h := HC.out
        rw [HST.out] at h
        rw [h]
        exact congrArg (Prod.mk _) (List.append_nil _)
      have HM : Hid (midW W b = (W.drop b).take (m - b)) := by
        unfold midW
        rw [show W.length - 2 * b = m - b by have := HL.out; have := HBM.out; omega]
        exact rfl
      have hbm : b ≤ m := by have := HBM.out; omega
      have hcap := ho.cap
      have HN := hide ho.nil
      have HS1 := hide (ho.il.cut (c := c1) (l := b) (h := m) hbm hmn hcap)
      have HS2 := hide (ho.il.cut (c := c1) (l := 0) (h := b) (Nat.zero_le _) hbn hcap)
      have hcm : m ≤ c1 := by omega
      have hcb : b ≤ c1 := by omega
      have HT1 : Hid (cutA A1 b c1 = none → m - b = 0 ∧ c1 - b = 0) := fun h => cutA_none HN.out hbm hmn h
      have HT2 : Hid (cutA A1 0 c1 = none → b - 0 = 0 ∧ c1 - 0 = 0) := fun h => cutA_none HN.out (Nat.zero_le _) hbn h
      rw [← HM.out] at HS1
      rw [List.drop_zero, Nat.sub_zero] at HS2
      obtain ⟨L1, hL1⟩ : ∃ L1, midW W b = L1 := ⟨_, rfl⟩
      obtain ⟨L2, hL2⟩ : ∃ L2, W.take b = L2 := ⟨_, rfl⟩
      rw [hL1] at HS1 HC2
      rw [hL2] at HS2 HC2
      have hcase : decide ((1 : Int) < (m : Int) - (b : Int)) = false ∨ ∃ (g : Nat) (x y : Int), decide ((1 : Int) < (m : Int) - (b : Int)) = true ∧ A1 = some ⟨g, 0, none⟩ ∧ wr.cell? ⟨g, b, none⟩ = some (.int .i64 x) ∧ wr.cell? ⟨g, m - 1, none⟩ = some (.int .i64 y) ∧ (x == -y) = false ∧ -1000 ≤ y ∧ y ≤ 1000 ∧ b < n1 ∧ 1 ≤ m := by
        by_cases h1 : (1 : Int) < (m : Int) - (b : Int)
        · right
          have h2 : 2 * b + 1 < W.length := by have := HL.out; have := HBM.out; omega
          obtain ⟨g, hA, hg1, hg2⟩ := ho.form (by omega)
          subst hA
          have e1 : W.length - b - 1 = m - 1 := by have := HL.out; have := HBM.out; omega
          have h3 : ¬ W.getD b 0 = -W.getD (m - 1) 0 := fun h => hgo ⟨h2, by rw [e1]; exact h⟩
          have hm1 : W.getD (m - 1) 0 ∈ W := by
            have hlt : m - 1 < W.length := by rw [HL.out]; omega
            rw [show W.getD (m - 1) 0 = W[m - 1] by simp [List.getD, List.getElem?_eq_getElem hlt]]
            exact List.getElem_mem _
          obtain ⟨hy0, hy1⟩ := HB.out _ hm1
          exact ⟨g, W.getD b 0, W.getD (m - 1) 0, decide_eq_true h1, rfl, ho.cell (by omega), ho.cell (by omega), by simpa using h3, hy0, hy1, by omega, by omega⟩
        · exact .inl (decide_eq_false h1)
      clear ho hb hgo HST HC HM HBM hL1 hL2
      rcases hcase with hg | ⟨g, x, y, hg, rfl, hc1, hc2, hbe, hy0, hy1, hb0, hmp⟩
      · go_wp2_with fail
        go_quiet (fail)
        have hb3 := below_drewN HB2.out nq
        have HS1' := hide (HS1.out.drewN nq)
        have HS2' := hide (HS2.out.drewN nq)
        clear HO HB2 HS1 HS2
        generalize wr.drewN nq = w9 at *
        go_upto_region 6 with fail
        refine wp_region_noPanic ?_
        refine wp_region_held_drew (S := fun w' => Below w9.heap.size w9 w') (by kernel_rfl) (Below.refl _ _).drew (fun hS => ?_)
        refine wpAnyH_tk 0 (v := .slice A1 n1 c1) rfl (by kernel_rfl) (by kernel_rfl) (by kernel_rfl) (yi rfl fun w' hw' => gives_move (.inl rfl) rfl) hS ?_
        go_frame
        refine wpAnyH_tk 1 (v := .int .i64 b) rfl (by kernel_rfl) (by kernel_rfl) (by kernel_rfl) (yi rfl fun w' hw' => gives_move (.inl rfl) rfl) hS ?_
        go_frame
        refine wpAnyH_tk 2 (v := .int .i64 m) rfl (by kernel_rfl) (by kernel_rfl) (by kernel_rfl) (yi rfl fun w' hw' => gives_move (.inl rfl) rfl) hS ?_
        go_frame
        refine wpAnyH_tk 3 (v := .slice (cutA A1 b c1) (m - b) (c1 - b)) rfl (by kernel_rfl) (by kernel_rfl) (by kernel_rfl) (yi rfl fun w' hw' => gives_cut_lh rfl Try.underlying22 (by rw [HI0.out]; exact congrArg some HZ1.out) rfl rfl rfl hbm hcm) hS ?_
        go_frame
        refine wpAnyH_tk 5 (v := .slice A1 n1 c1) rfl (by kernel_rfl) (by kernel_rfl) (by kernel_rfl) (yi rfl fun w' hw' => gives_move (.inl rfl) rfl) hS ?_
        go_frame
        refine wpAnyH_tk 6 (v := .int .i64 b) rfl (by kernel_rfl) (by kernel_rfl) (by kernel_rfl) (yi rfl fun w' hw' => gives_move (.inl rfl) rfl) hS ?_
        go_frame
        refine wpAnyH_tk 7 (v := .slice (cutA A1 0 c1) (b - 0) (c1 - 0)) rfl (by kernel_rfl) (by kernel_rfl) (by kernel_rfl) (yi rfl fun w' hw' => gives_cut_h rfl Try.underlying22 (by rw [HI0.out]; exact congrArg some HZ1.out) rfl rfl hcb) hS ?_
        go_frame
        refine wpAnyH_1 4 rfl (by kernel_rfl) ?_
        refine wp_call [.slice (cutA A1 b c1) (m - b) (c1 - b)] rfl rfl eFClone rfl ((clone_any _ (m - b) (c1 - b) _ _ (HS1'.out.below hS) HT1.out).mono ?_)
        rintro e w6 ⟨A6, n6, c6, rfl, ho6, hb6⟩
        have hb6' : Below w9.heap.size w9 w6 := hS.trans (hb6.mono hS.size)
        have ho6' := ho6.mono hS.size
        refine ⟨_, rfl, hb6', ?_⟩
        go_frame
        refine wpAnyH_1 8 rfl (by kernel_rfl) ?_
        refine wp_call [.slice (cutA A1 0 c1) (b - 0) (c1 - 0)] rfl rfl eFClone rfl ((clone_any _ (b - 0) (c1 - 0) _ _ (HS2'.out.below hb6') HT2.out).mono ?_)
        rintro e w7 ⟨A7, n7, c7, rfl, ho7, hb7⟩
        have hb7' : Below w9.heap.size w9 w7 := hb6'.trans (hb7.mono hb6'.size)
        have ho7' := ho7.mono hb6'.size
        have ho67 := ho6'.below hb7
        refine ⟨_, rfl, hb7', ?_⟩
        go_frame
        refine wpAnyH_tk 9 (v := .slice A6 n6 c6) rfl (by kernel_rfl) (by kernel_rfl) (by kernel_rfl) (yi rfl fun w' hw' => gives_move (.inr rfl) rfl) hb7' ?_
        go_frame
        refine wpAnyH_tk 10 (v := .slice A7 n7 c7) rfl (by kernel_rfl) (by kernel_rfl) (by kernel_rfl) (yi rfl fun w' hw' => gives_move (.inr rfl) rfl) hb7' ?_
        go_frame
        refine wpAnyH_done (by kernel_rfl) (noPanic_mk ?_) _
        have hb97 := hb3.trans (hb7'.mono hb3.size)
        have HO6 := hide (ho67.mono hb3.size)
        have HO7 := hide (ho7'.mono hb3.size)
        go_wp2_with fail
        go_ret2
        rw [HC2.out]
        exact ⟨A6, n6, c6, A7, n7, c7, rfl, HO6.out, HO7.out, hb97⟩
      · have hw1 : IntKind.i64.wrap ((m : Int) - 1) = (m : Int) - 1 := by rw [IntKind.wrap_i64]; omega
        have hp0 : (0 : Int) ≤ (m : Int) - 1 := by omega
        have hp1 : (m : Int) - 1 < (n1 : Int) := by omega
        have hp2 : ((m : Int) - 1).toNat = m - 1 := by omega
        go_wp2_with fail
        go_quiet (fail)
        have hb3 := below_drewN HB2.out nq
        have HS1' := hide (HS1.out.drewN nq)
        have HS2' := hide (HS2.out.drewN nq)
        clear HO HB2 HS1 HS2 hc1 hc2
        generalize wr.drewN nq = w9 at *
        go_upto_region 6 with fail
        refine wp_region_noPanic ?_
        refine wp_region_held_drew (S := fun w' => Below w9.heap.size w9 w') (by kernel_rfl) (Below.refl _ _).drew (fun hS => ?_)
        refine wpAnyH_tk 0 (v := .slice (some ⟨g, 0, none⟩) n1 c1) rfl (by kernel_rfl) (by kernel_rfl) (by kernel_rfl) (yi rfl fun w' hw' => gives_move (.inl rfl) rfl) hS ?_
        go_frame
        refine wpAnyH_tk 1 (v := .int .i64 b) rfl (by kernel_rfl) (by kernel_rfl) (by kernel_rfl) (yi rfl fun w' hw' => gives_move (.inl rfl) rfl) hS ?_
        go_frame
        refine wpAnyH_tk 2 (v := .int .i64 m) rfl (by kernel_rfl) (by kernel_rfl) (by kernel_rfl) (yi rfl fun w' hw' => gives_move (.inl rfl) rfl) hS ?_
        go_frame
        refine wpAnyH_tk 3 (v := .slice (cutA (some ⟨g, 0, none⟩) b c1) (m - b) (c1 - b)) rfl (by kernel_rfl) (by kernel_rfl) (by kernel_rfl) (yi rfl fun w' hw' => gives_cut_lh rfl Try.underlying22 (by rw [HI0.out]; exact congrArg some HZ1.out) rfl rfl rfl hbm hcm) hS ?_
        go_frame
        refine wpAnyH_tk 5 (v := .slice (some ⟨g, 0, none⟩) n1 c1) rfl (by kernel_rfl) (by kernel_rfl) (by kernel_rfl) (yi rfl fun w' hw' => gives_move (.inl rfl) rfl) hS ?_
        go_frame
        refine wpAnyH_tk 6 (v := .int .i64 b) rfl (by kernel_rfl) (by kernel_rfl) (by kernel_rfl) (yi rfl fun w' hw' => gives_move (.inl rfl) rfl) hS ?_
        go_frame
        refine wpAnyH_tk 7 (v := .slice (cutA (some ⟨g, 0, none⟩) 0 c1) (b - 0) (c1 - 0)) rfl (by kernel_rfl) (by kernel_rfl) (by kernel_rfl) (yi rfl fun w' hw' => gives_cut_h rfl Try.underlying22 (by rw [HI0.out]; exact congrArg some HZ1.out) rfl rfl hcb) hS ?_
        go_frame
        refine wpAnyH_1 4 rfl (by kernel_rfl) ?_
        refine wp_call [.slice (cutA (some ⟨g, 0, none⟩) b c1) (m - b) (c1 - b)] rfl rfl eFClone rfl ((clone_any _ (m - b) (c1 - b) _ _ (HS1'.out.below hS) HT1.out).mono ?_)
        rintro e w6 ⟨A6, n6, c6, rfl, ho6, hb6⟩
        have hb6' : Below w9.heap.size w9 w6 := hS.trans (hb6.mono hS.size)
        have ho6' := ho6.mono hS.size
        refine ⟨_, rfl, hb6', ?_⟩
        go_frame
        refine wpAnyH_1 8 rfl (by kernel_rfl) ?_
        refine wp_call [.slice (cutA (some ⟨g, 0, none⟩) 0 c1) (b - 0) (c1 - 0)] rfl rfl eFClone rfl ((clone_any _ (b - 0) (c1 - 0) _ _ (HS2'.out.below hb6') HT2.out).mono ?_)
        rintro e w7 ⟨A7, n7, c7, rfl, ho7, hb7⟩
        have hb7' : Below w9.heap.size w9 w7 := hb6'.trans (hb7.mono hb6'.size)
        have ho7' := ho7.mono hb6'.size
        have ho67 := ho6'.below hb7
        refine ⟨_, rfl, hb7', ?_⟩
        go_frame
        refine wpAnyH_tk 9 (v := .slice A6 n6 c6) rfl (by kernel_rfl) (by kernel_rfl) (by kernel_rfl) (yi rfl fun w' hw' => gives_move (.inr rfl) rfl) hb7' ?_
        go_frame
        refine wpAnyH_tk 10 (v := .slice A7 n7 c7) rfl (by kernel_rfl) (by kernel_rfl) (by kernel_rfl) (yi rfl fun w' hw' => gives_move (.inr rfl) rfl) hb7' ?_
        go_frame
        refine wpAnyH_done (by kernel_rfl) (noPanic_mk ?_) _
        have hb97 := hb3.trans (hb7'.mono hb3.size)
        have HO6 := hide (ho67.mono hb3.size)
        have HO7 := hide (ho7'.mono hb3.size)
        go_wp2_with fail
        go_ret2
        rw [HC2.out]
        exact ⟨A6, n6, c6, A7, n7, c7, rfl, HO6.out, HO7.out, hb97⟩
end Go.Proofs.Ytbckgomidoelaaa
