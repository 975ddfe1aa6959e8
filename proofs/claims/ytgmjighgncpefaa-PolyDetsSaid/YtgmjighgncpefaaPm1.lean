/- Package polymatrix: checkElement, Check. -/
import Derived.Test.YtgmjighgncpefaaPmC
import Derived.Test.YtgmjighgncpefaaLa1
namespace Go.Proofs.Ytgmjighgncpefaa
set_option linter.unusedVariables false
set_option linter.unusedSimpArgs false
open Go.RowKit

set_option maxRecDepth 100000 in
set_option maxHeartbeats 4000000 in
theorem checkEl_any (lo : Int) (A : Option Addr) (n c : Nat) (xs : List Int) (w : World) (ha : SL w A n c xs) :
    Calls Try.prog 24 #[PV lo A n c] w fun e w' => e = .returned (.int .i64 (polyE (lo, xs))) ∧ Below w.heap.size w w' := by
  have HL := hide ha.il.len
  have hb0 : Below w.heap.size w (w.alloc (.cells #[.int .i64 lo, .slice A n c] 25)) := (Below.refl _ _).alloc (Nat.le_refl _) _
  have HW := hide hb0
  have HA := hide (ha.below hb0)
  have B0 := hide (Blk.new w 25 #[.int .i64 lo, .slice A n c])
  have hns := ha.il.small
  clear ha hb0
  obtain ⟨w0, hw0⟩ : ∃ x, w.alloc (.cells #[.int .i64 lo, .slice A n c] 25) = x := ⟨_, rfl⟩
  rw [hw0] at HW HA B0
  have hq0 := B0.out.cell 0
  have hq1 := B0.out.cell 1
  simp at hq0 hq1
  go_enter Try.func24, Try.ntmps24
  go_upto_region 1 with fail
  clear hw0
  go_wp2_with fail
  refine (lcheck_any lo A n c xs _ HA.out).mono ?_
  rintro e w1 ⟨rfl, hb⟩
  replace HA := hide (HA.out.below hb)
  replace HW := hide (HW.out.trans (hb.mono HW.out.size))
  replace B0 := hide (B0.out.below hb B0.out.lt)
  clear hb hq0 hq1
  have hq0 := B0.out.cell 0
  have hq1 := B0.out.cell 1
  simp at hq0 hq1
  obtain ⟨p, hp⟩ : ∃ p, LP.pfl lo xs = p := ⟨_, rfl⟩
  rw [hp]
  have HP := hide hp
  clear hp
  by_cases hp0 : p = 0
  case neg =>
    have HE : Hid (polyE (lo, xs) = p) := hide (by unfold polyE; rw [if_pos (by simp only []; rw [HP.out]; exact hp0)]; exact HP.out)
    have hne : (p != 0) = true := by simpa using hp0
    clear hp0
    go_wp2_with fail
    go_ret
    exact ⟨by rw [HE.out]; rfl, HW.out⟩
  subst hp0
  by_cases hbig : 20 < n ∨ 20 < lo ∨ lo < -20
  · have HE : Hid (polyE (lo, xs) = 2) := hide (by
      unfold polyE
      rw [if_neg (by simp only []; rw [HP.out]; simp), if_pos (by simp only []; rw [HL.out]; exact hbig)])
    by_cases h1 : 20 < n
    · clear hbig
      go_wp2_with fail
      go_ret
      exact ⟨by rw [HE.out]; rfl, HW.out⟩
    by_cases h2 : lo < -20
    · clear hbig
      go_wp2_with fail
      go_ret
      exact ⟨by rw [HE.out]; rfl, HW.out⟩
    have h3 : 20 < lo := by omega
    clear hbig
    go_wp2_with fail
    go_ret
    exact ⟨by rw [HE.out]; rfl, HW.out⟩
  have h1 : n ≤ 20 := by omega
  have h2 : lo ≤ 20 := by omega
  have h3 : -20 ≤ lo := by omega
  have HE : Hid (polyE (lo, xs) = if xs.any (fun c => decide (1000 < c) || decide (c < -1000)) then 1 else 0) := hide (by
    unfold polyE
    rw [if_neg (by simp only []; rw [HP.out]; simp), if_neg (by simp only []; rw [HL.out]; exact hbig)])
  clear hbig
  go_wp2_with fail
  go_loop [28] (fun lv => ∃ l : Nat, l ≤ n ∧ lv = .int .i64 l ∧ Hid ((xs.take l).any (fun c => decide (1000 < c) || decide (c < -1000)) = false)) (fun lv => n - (intOf lv).toNat)
  case atStart => exact ⟨0, Nat.zero_le _, rfl, hide (by rw [List.take_zero]; rfl)⟩
  case round =>
    obtain ⟨l, hl, rfl, HANY⟩ := hrel
    by_cases hlm : l < n
    · obtain ⟨ad3, rfl, hcl3⟩ := HA.out.il.at_ hlm
      have hlx : l < xs.length := by rw [HL.out]; exact hlm
      have hget : xs.getD l 0 = xs[l] := by simp [List.getD, List.getElem?_eq_getElem hlx]
      have HT : Hid (xs.take (l + 1) = xs.take l ++ [xs.getD l 0]) := hide (by rw [List.take_succ_eq_append_getElem hlx, hget])
      have HM : Hid (xs.getD l 0 ∈ xs) := hide (by rw [hget]; exact List.getElem_mem _)
      clear hlx hget
      generalize xs.getD l 0 = cv at *
      by_cases c2 : cv < -1000
      · have HV : Hid (polyE (lo, xs) = 1) := hide (by rw [HE.out, if_pos (List.any_eq_true.2 ⟨cv, HM.out, by simp [c2]⟩)])
        go_wp2_with fail
        go_ret
        exact ⟨by rw [HV.out]; rfl, HW.out⟩
      by_cases c1 : 1000 < cv
      · have HV : Hid (polyE (lo, xs) = 1) := hide (by rw [HE.out, if_pos (List.any_eq_true.2 ⟨cv, HM.out, by simp [c1]⟩)])
        go_wp2_with fail
        go_ret
        exact ⟨by rw [HV.out]; rfl, HW.out⟩
      have HA2 : Hid ((xs.take (l + 1)).any (fun c => decide (1000 < c) || decide (c < -1000)) = false) := hide (by rw [HT.out, List.any_append, HANY.out]; simp; omega)
      go_wp2_with fail
      go_round
      case rel => exact ⟨l + 1, by omega, by go_num, HA2⟩
      case measure => simp [intOf]; omega
    · have hle : l = n := by omega
      have HV : Hid (polyE (lo, xs) = 0) := hide (by
        have h := HANY.out
        rw [List.take_of_length_le (by rw [HL.out]; omega)] at h
        rw [HE.out, h]
        rfl)
      clear HANY hle
      go_wp2_with fail
      go_ret
      exact ⟨by rw [HV.out]; rfl, HW.out⟩

set_option maxRecDepth 100000 in
set_option maxHeartbeats 4000000 in
theorem pmcheck_any (A : Option Addr) (n c : Nat) (pss : List (List Po)) (w : World) (ha : SPP w A n c pss) :
    Calls Try.prog 7 #[.slice A n c] w fun e w' => e = .returned (.int .i64 (sqE pss)) ∧ Below w.heap.size w w' := by
  have HA := hide ha
  have HL := hide ha.len
  clear ha
  by_cases h4 : 4 < n
  · have HS : Hid (sqE pss = 2) := hide (by unfold sqE; rw [if_pos (by rw [HL.out]; exact h4)])
    go_enter Try.func7, Try.ntmps7
    go_wp2_with fail
    go_ret
    exact ⟨by rw [HS.out]; rfl, Below.refl _ _⟩
  · have HS : Hid (sqE pss = rowsE n (pss.drop 0)) := hide (by unfold sqE; rw [if_neg (by rw [HL.out]; exact h4), HL.out, List.drop_zero])
    have HW := hide (Below.refl w.heap.size w)
    go_enter Try.func7, Try.ntmps7
    go_wp2_with fail
    go_loopw [13] (fun iv wr => ∃ k : Nat, k ≤ n ∧ iv = .int .i64 k ∧ Hid (sqE pss = rowsE n (pss.drop k)) ∧ Hid (Below w.heap.size w wr)) (fun iv _ => n - (intOf iv).toNat)
    case atStart => exact ⟨0, Nat.zero_le _, rfl, HS, HW⟩
    case round =>
      clear HS HW
      obtain ⟨k, hk, rfl, HS, HW⟩ := hrel
      by_cases hlt : k < n
      · obtain ⟨ad, B, m, d, rfl, hcl, hr⟩ := (HA.out.below HW.out).at_ hlt
        have HR := hide hr
        have HRL := hide hr.len
        have hstep := rowsE_drop (n := n) (k := k) (pss := pss) (by rw [HL.out]; exact hlt)
        clear hr
        generalize pss.getD k [] = ps at *
        rw [HRL.out] at hstep
        by_cases hmn : m = n
        · subst hmn
          rw [if_neg (by simp)] at hstep
          have HST := hide hstep
          clear hstep
          rename World => wo
          have HWO := hide (Below.refl wo.heap.size wo)
          have HR0 : Hid (rowE m ps = rowE m (ps.drop 0)) := hide (by rw [List.drop_zero])
          have HLT := hide hlt
          have HKN := hide hk
          have hne : ((m : Int) != (m : Int)) = false := by simp
          clear hk
          go_wp2_with fail
          clear hlt hcl hne
          go_loopw [24] (fun jv wx => ∃ j : Nat, j ≤ m ∧ jv = .int .i64 j ∧ Hid (rowE m ps = rowE m (ps.drop j)) ∧ Hid (Below wo.heap.size wo wx)) (fun jv _ => m - (intOf jv).toNat)
          case atStart => exact ⟨0, Nat.zero_le _, rfl, HR0, HWO⟩
          case round =>
            clear HR0 HWO
            obtain ⟨j, hj, rfl, HR0, HWO⟩ := hrel
            by_cases hjm : j < m
            · obtain ⟨ad2, B2, m2, d2, rfl, hq0, hq1, hs, hwf⟩ := (HR.out.below HWO.out).at_ hjm
              have hst2 := rowE_drop (n := m) (k := j) (ps := ps) (by rw [HRL.out]; exact hjm)
              obtain ⟨lo, xs, hp⟩ : ∃ lo xs, ps.getD j (0, []) = (lo, xs) := ⟨_, _, rfl⟩
              rw [hp] at hq0 hs hst2 hwf
              dsimp only at hq0 hs hwf
              have HSX := hide hs
              have HJ : Hid (∀ v, polyE (lo, xs) = v → v ≠ 0 → sqE pss = v) := hide (fun v hv h0 => by rw [HS.out, HST.out, HR0.out, hst2, hv, if_pos h0, if_pos h0])
              have HN : Hid (polyE (lo, xs) = 0 → rowE m ps = rowE m (ps.drop (j + 1))) := hide (fun h0 => by rw [HR0.out, hst2, if_neg (by rw [h0]; decide)])
              have HJM := hide hjm
              clear hst2 hp hs hwf
              go_upto_region 11 with fail
              have hb : Below wr.heap.size wr (wr.alloc (.cells #[.int .i64 lo, .slice B2 m2 d2] 25)) := (Below.refl _ _).alloc (Nat.le_refl _) _
              have BP := hide (Blk.new wr 25 #[.int .i64 lo, .slice B2 m2 d2])
              replace HSX := hide (HSX.out.below hb)
              replace HWO := hide (HWO.out.trans (hb.mono HWO.out.size))
              obtain ⟨b6, hq⟩ : ∃ q, wr.heap.size = q := ⟨_, rfl⟩
              obtain ⟨w1, hw⟩ : ∃ q, wr.alloc (.cells #[.int .i64 lo, .slice B2 m2 d2] 25) = q := ⟨_, rfl⟩
              rw [hw] at BP HSX HWO ⊢
              rw [hq] at BP ⊢
              clear hb hq hw hq0 hq1
              have hz0 := BP.out.cell 0
              have hz1 := BP.out.cell 1
              simp at hz0 hz1
              clear hjm hj
              go_wp2_with fail
              refine (checkEl_any lo B2 m2 d2 xs _ HSX.out).mono ?_
              rintro e w2 ⟨rfl, hb⟩
              replace HWO := hide (HWO.out.trans (hb.mono HWO.out.size))
              clear hb hz0 hz1 HSX BP
              obtain ⟨fx, hfx⟩ : ∃ q, polyE (lo, xs) = q := ⟨_, rfl⟩
              rw [hfx]
              rw [hfx] at HJ HN
              clear hfx
              by_cases hf0 : fx = 0
              · subst hf0
                have HRN := hide (HN.out rfl)
                have hjm := HJM.out
                clear HN HJ
                go_wp2_with fail
                go_roundw
                case rel => exact ⟨j + 1, by omega, by go_num, HRN, HWO⟩
                case measure => simp [intOf]; omega
              · have HV := hide (HJ.out fx rfl hf0)
                have hne : (fx != 0) = true := by simpa using hf0
                have HWN := hide (HW.out.trans (HWO.out.mono HW.out.size))
                clear hf0
                go_wp2_with fail
                go_ret
                exact ⟨by rw [HV.out]; rfl, HWN.out⟩
            · have hjn : j = m := by omega
              have HE : Hid (rowE m ps = 0) := hide (by rw [HR0.out, List.drop_of_length_le (by rw [HRL.out]; omega)]; rfl)
              have HSN : Hid (sqE pss = rowsE m (pss.drop (k + 1))) := hide (by rw [HS.out, HST.out, if_neg (by rw [HE.out]; decide)])
              have HWN := hide (HW.out.trans (HWO.out.mono HW.out.size))
              clear HR0 HST HS
              have hlt := HLT.out
              go_wp2_with fail
              go_roundw
              case rel => exact ⟨k + 1, by omega, by go_num, HSN, HWN⟩
              case measure => simp [intOf]; omega
        · rw [if_pos hmn] at hstep
          have hne : ((m : Int) != (n : Int)) = true := by simp; omega
          have HST := hide hstep
          clear hstep hmn
          go_wp2_with fail
          go_ret
          exact ⟨by rw [HS.out, HST.out]; rfl, HW.out⟩
      · have hkn : k = n := by omega
        have HE : Hid (sqE pss = 0) := hide (by rw [HS.out, List.drop_of_length_le (by rw [HL.out]; omega)]; rfl)
        clear HS hkn
        go_wp2_with fail
        go_ret
        exact ⟨by rw [HE.out]; rfl, HW.out⟩
end Go.Proofs.Ytgmjighgncpefaa
