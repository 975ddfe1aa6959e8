/- timbref1.SquareFault. -/
import Derived.Test.YtgmjighgncpefaaSpl
import Derived.Test.YtgmjighgncpefaaTpf
namespace Go.Proofs.Ytgmjighgncpefaa
set_option linter.unusedVariables false
set_option linter.unusedSimpArgs false
open Go.RowKit

/-- What is wrong with an element. -/
def polyE (p : Po) : Int := if LP.pfl p.1 p.2 ≠ 0 then LP.pfl p.1 p.2 else if 20 < p.2.length ∨ 20 < p.1 ∨ p.1 < -20 then 2 else if p.2.any (fun c => decide (1000 < c) || decide (c < -1000)) then 1 else 0
def rowE (n : Nat) : List Po → Int
  | [] => 0
  | p :: r => if polyE p ≠ 0 then polyE p else rowE n r
def rowsE (n : Nat) : List (List Po) → Int
  | [] => 0
  | r :: m => if r.length ≠ n then 3 else if rowE n r ≠ 0 then rowE n r else rowsE n m
def sqE (m : List (List Po)) : Int := if 4 < m.length then 2 else rowsE m.length m
theorem rowE_drop {n k : Nat} {ps : List Po} (h : k < ps.length) : rowE n (ps.drop k) = if polyE (ps.getD k (0, [])) ≠ 0 then polyE (ps.getD k (0, [])) else rowE n (ps.drop (k + 1)) := by
  rw [List.drop_eq_getElem_cons h, show ps.getD k (0, []) = ps[k] by simp [List.getD, List.getElem?_eq_getElem h]]
  rfl
theorem rowsE_drop {n k : Nat} {pss : List (List Po)} (h : k < pss.length) : rowsE n (pss.drop k) = if (pss.getD k []).length ≠ n then 3 else if rowE n (pss.getD k []) ≠ 0 then rowE n (pss.getD k []) else rowsE n (pss.drop (k + 1)) := by
  rw [List.drop_eq_getElem_cons h, show pss.getD k [] = pss[k] by simp [List.getD, List.getElem?_eq_getElem h]]
  rfl

set_option maxRecDepth 100000 in
set_option maxHeartbeats 4000000 in
theorem squareFault_any (A : Option Addr) (n c : Nat) (pss : List (List Po)) (w : World) (ha : SPP w A n c pss) :
    Calls Try.prog 6 #[.slice A n c] w fun e w' => e = .returned (.int .i64 (sqE pss)) ∧ Below w.heap.size w w' := by
  have HA := hide ha
  have HL := hide ha.len
  clear ha
  by_cases h4 : 4 < n
  · have HS : Hid (sqE pss = 2) := hide (by unfold sqE; rw [if_pos (by rw [HL.out]; exact h4)])
    go_enter Try.func6, Try.ntmps6
    go_wp2_with fail
    go_ret
    exact ⟨by rw [HS.out]; rfl, Below.refl _ _⟩
  · have HS : Hid (sqE pss = rowsE n (pss.drop 0)) := hide (by unfold sqE; rw [if_neg (by rw [HL.out]; exact h4), HL.out, List.drop_zero])
    have HW := hide (Below.refl w.heap.size w)
    go_enter Try.func6, Try.ntmps6
    go_wp2_with fail
    go_loopw [15] (fun iv wr => ∃ k : Nat, k ≤ n ∧ iv = .int .i64 k ∧ Hid (sqE pss = rowsE n (pss.drop k)) ∧ Hid (Below w.heap.size w wr)) (fun iv _ => n - (intOf iv).toNat)
    case atStart => exact ⟨0, Nat.zero_le _, rfl, HS, HW⟩
    case round =>
      clear HS HW
      obtain ⟨k, hk, rfl, HS, HW⟩ := hrel
      by_cases hlt : k < n
      · obtain ⟨ad, B, m, d, rfl, hcl, hr⟩ := (HA.out.below HW.out).at_ hlt
        have HR := hide hr
        have HRL := hide hr.len
        have hstep := rowsE_drop (n := n) (k := k) (pss := pss) (by rw [HL.out]; exact hlt)
        clear hr
        generalize pss.getD k [] = ps at *
        rw [HRL.out] at hstep
        by_cases hmn : m = n
        · subst hmn
          rw [if_neg (by simp)] at hstep
          have HST := hide hstep
          clear hstep
          rename World => wo
          have HWO := hide (Below.refl wo.heap.size wo)
          have HR0 : Hid (rowE m ps = rowE m (ps.drop 0)) := hide (by rw [List.drop_zero])
          have HLT := hide hlt
          have HKN := hide hk
          have hne : ((m : Int) != (m : Int)) = false := by simp
          clear hk
          go_wp2_with fail
          clear hlt hcl hne
          go_loopw [26] (fun jv wx => ∃ j : Nat, j ≤ m ∧ jv = .int .i64 j ∧ Hid (rowE m ps = rowE m (ps.drop j)) ∧ Hid (Below wo.heap.size wo wx)) (fun jv _ => m - (intOf jv).toNat)
          case atStart => exact ⟨0, Nat.zero_le _, rfl, HR0, HWO⟩
          case round =>
            clear HR0 HWO
            obtain ⟨j, hj, rfl, HR0, HWO⟩ := hrel
            by_cases hjm : j < m
            · obtain ⟨ad2, B2, m2, d2, rfl, hq0, hq1, hs, hwf⟩ := (HR.out.below HWO.out).at_ hjm
              have hst2 := rowE_drop (n := m) (k := j) (ps := ps) (by rw [HRL.out]; exact hjm)
              obtain ⟨lo, xs, hp⟩ : ∃ lo xs, ps.getD j (0, []) = (lo, xs) := ⟨_, _, rfl⟩
              rw [hp] at hq0 hs hst2 hwf
              dsimp only at hq0 hs hwf
              have HSX := hide hs
              have HXL := hide hs.il.len
              have HJ : Hid (∀ v, polyE (lo, xs) = v → v ≠ 0 → sqE pss = v) := hide (fun v hv h0 => by rw [HS.out, HST.out, HR0.out, hst2, hv, if_pos h0, if_pos h0])
              have HN : Hid (polyE (lo, xs) = 0 → rowE m ps = rowE m (ps.drop (j + 1))) := hide (fun h0 => by rw [HR0.out, hst2, if_neg (by rw [h0]; decide)])
              have HJM := hide hjm
              have HJ2 := hide hj
              clear hst2 hp hs hwf hjm hj
              go_upto_region 11 with fail
              have hb : Below wr.heap.size wr (wr.alloc (.cells #[.int .i64 lo, .slice B2 m2 d2] 25)) := (Below.refl _ _).alloc (Nat.le_refl _) _
              have BP := hide (Blk.new wr 25 #[.int .i64 lo, .slice B2 m2 d2])
              replace HSX := hide (HSX.out.below hb)
              replace HWO := hide (HWO.out.trans (hb.mono HWO.out.size))
              obtain ⟨b6, hq⟩ : ∃ q, wr.heap.size = q := ⟨_, rfl⟩
              obtain ⟨w1, hw⟩ : ∃ q, wr.alloc (.cells #[.int .i64 lo, .slice B2 m2 d2] 25) = q := ⟨_, rfl⟩
              rw [hw] at BP HSX HWO ⊢
              rw [hq] at BP ⊢
              clear hb hq hw hq0 hq1
              have hz0 := BP.out.cell 0
              have hz1 := BP.out.cell 1
              simp at hz0 hz1
              go_wp2_with fail
              refine (pfault_any lo B2 m2 d2 xs _ HSX.out).mono ?_
              rintro e w2 ⟨rfl, hb⟩
              replace HSX := hide (HSX.out.below hb)
              replace HWO := hide (HWO.out.trans (hb.mono HWO.out.size))
              replace BP := hide (BP.out.below hb BP.out.lt)
              clear hb hz0 hz1
              obtain ⟨fx, hfx⟩ : ∃ q, LP.pfl lo xs = q := ⟨_, rfl⟩
              rw [hfx]
              have HFX := hide hfx
              clear hfx
              by_cases hf0 : fx = 0
              · subst hf0
                have hz0 := BP.out.cell 0
                have hz1 := BP.out.cell 1
                simp at hz0 hz1
                go_upto_region 14 with fail
                have HXM := hide (show (lo, xs).2.length = m2 from HXL.out)
                by_cases g1 : 20 < m2
                · have HV := hide (HJ.out 2 (by unfold polyE; rw [HFX.out, if_neg (by decide), if_pos (by have := HXL.out; simp only []; omega)]) (by decide))
                  have HWN := hide (HW.out.trans (HWO.out.mono HW.out.size))
                  go_wp2_with fail
                  go_ret
                  exact ⟨by rw [HV.out]; rfl, HWN.out⟩
                by_cases g2 : 20 < lo
                · have HV := hide (HJ.out 2 (by unfold polyE; rw [HFX.out, if_neg (by decide), if_pos (by have := HXL.out; simp only []; omega)]) (by decide))
                  have HWN := hide (HW.out.trans (HWO.out.mono HW.out.size))
                  go_wp2_with fail
                  go_ret
                  exact ⟨by rw [HV.out]; rfl, HWN.out⟩
                by_cases g3 : lo < -20
                · have HV := hide (HJ.out 2 (by unfold polyE; rw [HFX.out, if_neg (by decide), if_pos (by have := HXL.out; simp only []; omega)]) (by decide))
                  have HWN := hide (HW.out.trans (HWO.out.mono HW.out.size))
                  go_wp2_with fail
                  go_ret
                  exact ⟨by rw [HV.out]; rfl, HWN.out⟩
                have HG : Hid (¬ (20 < xs.length ∨ 20 < lo ∨ lo < -20)) := hide (by have := HXL.out; omega)
                go_wp2_with fail
                go_loop [52] (fun lv => ∃ l : Nat, l ≤ m2 ∧ lv = .int .i64 l ∧ Hid ((xs.take l).any (fun c => decide (1000 < c) || decide (c < -1000)) = false)) (fun lv => m2 - (intOf lv).toNat)
                case atStart => exact ⟨0, Nat.zero_le _, rfl, hide (by rw [List.take_zero]; rfl)⟩
                case round =>
                  obtain ⟨l, hl, rfl, HANY⟩ := hrel
                  by_cases hlm : l < m2
                  · obtain ⟨ad3, rfl, hcl3⟩ := HSX.out.il.at_ hlm
                    have hlx : l < xs.length := by rw [HXL.out]; exact hlm
                    have hget : xs.getD l 0 = xs[l] := by simp [List.getD, List.getElem?_eq_getElem hlx]
                    have HT : Hid (xs.take (l + 1) = xs.take l ++ [xs.getD l 0]) := hide (by rw [List.take_succ_eq_append_getElem hlx, hget])
                    have HM : Hid (xs.getD l 0 ∈ xs) := hide (by rw [hget]; exact List.getElem_mem _)
                    clear hlx hget
                    generalize xs.getD l 0 = cv at *
                    by_cases c1 : 1000 < cv
                    · have HV := hide (HJ.out 1 (by unfold polyE; rw [HFX.out, if_neg (by decide), if_neg HG.out, if_pos (List.any_eq_true.2 ⟨cv, HM.out, by simp [c1]⟩)]) (by decide))
                      have HWN := hide (HW.out.trans (HWO.out.mono HW.out.size))
                      go_wp2_with fail
                      go_ret
                      exact ⟨by rw [HV.out]; rfl, HWN.out⟩
                    by_cases c2 : cv < -1000
                    · have HV := hide (HJ.out 1 (by unfold polyE; rw [HFX.out, if_neg (by decide), if_neg HG.out, if_pos (List.any_eq_true.2 ⟨cv, HM.out, by simp [c2]⟩)]) (by decide))
                      have HWN := hide (HW.out.trans (HWO.out.mono HW.out.size))
                      go_wp2_with fail
                      go_ret
                      exact ⟨by rw [HV.out]; rfl, HWN.out⟩
                    have HA2 : Hid ((xs.take (l + 1)).any (fun c => decide (1000 < c) || decide (c < -1000)) = false) := hide (by rw [HT.out, List.any_append, HANY.out]; simp; omega)
                    go_wp2_with fail
                    go_round
                    case rel => exact ⟨l + 1, by omega, by go_num, HA2⟩
                    case measure => simp [intOf]; omega
                  · have hle : l = m2 := by omega
                    have HA3 : Hid (xs.any (fun c => decide (1000 < c) || decide (c < -1000)) = false) := hide (by have h := HANY.out; rwa [List.take_of_length_le (by rw [HXL.out]; omega)] at h)
                    have HRN := hide (HN.out (by unfold polyE; rw [HFX.out, if_neg (by decide), if_neg HG.out, if_neg (by rw [HA3.out]; decide)]))
                    have hjm := HJM.out
                    clear HANY hle
                    go_wp2_with fail
                    go_roundw
                    case rel => exact ⟨j + 1, by omega, by go_num, HRN, HWO⟩
                    case measure => simp [intOf]; omega
              · have HV := hide (HJ.out fx (by unfold polyE; rw [HFX.out, if_pos hf0]) hf0)
                have hne : (fx != 0) = true := by simpa using hf0
                have HWN := hide (HW.out.trans (HWO.out.mono HW.out.size))
                clear hf0
                go_wp2_with fail
                go_ret
                exact ⟨by rw [HV.out]; rfl, HWN.out⟩
            · have hjn : j = m := by omega
              have HE : Hid (rowE m ps = 0) := hide (by rw [HR0.out, List.drop_of_length_le (by rw [HRL.out]; omega)]; rfl)
              have HSN : Hid (sqE pss = rowsE m (pss.drop (k + 1))) := hide (by rw [HS.out, HST.out, if_neg (by rw [HE.out]; decide)])
              have HWN := hide (HW.out.trans (HWO.out.mono HW.out.size))
              clear HR0 HST HS
              have hlt := HLT.out
              go_wp2_with fail
              go_roundw
              case rel => exact ⟨k + 1, by omega, by go_num, HSN, HWN⟩
              case measure => simp [intOf]; omega
        · rw [if_pos hmn] at hstep
          have hne : ((m : Int) != (n : Int)) = true := by simp; omega
          have HST := hide hstep
          clear hstep hmn
          go_wp2_with fail
          go_ret
          exact ⟨by rw [HS.out, HST.out]; rfl, HW.out⟩
      · have hkn : k = n := by omega
        have HE : Hid (sqE pss = 0) := hide (by rw [HS.out, List.drop_of_length_le (by rw [HL.out]; omega)]; rfl)
        clear HS hkn
        go_wp2_with fail
        go_ret
        exact ⟨by rw [HE.out]; rfl, HW.out⟩
end Go.Proofs.Ytgmjighgncpefaa
