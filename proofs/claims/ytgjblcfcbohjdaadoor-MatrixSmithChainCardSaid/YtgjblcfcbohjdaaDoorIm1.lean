/- Package intmatrix: Check, columns, gcd, expand. -/
import Derived.Test.YtgjblcfcbohjdaaDoorMatC
import Derived.Test.YtgjblcfcbohjdaaDoorSets
import Derived.Test.YtgjblcfcbohjdaaDoorChoice
namespace Go.Proofs.YtgjblcfcbohjdaaDoor
set_option linter.unusedVariables false
set_option linter.unusedSimpArgs false
open Go.RowKit

set_option maxRecDepth 100000 in
theorem columns_any (A : Option Addr) (n c : Nat) (xss : List (List Int)) (w : World) (ha : SLL w A n c xss) :
    Calls Tryd.prog 30 #[.slice A n c] w fun e w' => e = .returned (.int .i64 (colsM xss : Nat)) ∧ w = w' := by
  have hl := ha.len
  have hs := ha.small
  by_cases hn : n = 0
  · have hx : xss = [] := List.eq_nil_of_length_eq_zero (by omega)
    subst hx
    have hz : Hid (((colsM [] : Nat) : Int) = 0) := rfl
    rw [hz.out]
    clear ha hl
    subst hn
    go_enter Tryd.func30, Tryd.ntmps30
    go_wp2
    go_ret
    exact ⟨rfl, rfl⟩
  · obtain ⟨ad, B, m, d, rfl, hc, hsl⟩ := ha.at_ (k := 0) (by omega)
    rw [show ad.add 0 = ad by unfold Addr.add; simp] at hc
    have hm : Hid (((colsM xss : Nat) : Int) = m) := hide (by unfold colsM; rw [hsl.il.len])
    rw [hm.out]
    have hms := hsl.il.small
    have hb : ((n : Int) == 0) = false := by simp; omega
    clear ha hl hsl
    go_enter Tryd.func30, Tryd.ntmps30
    go_wp2
    go_ret
    exact ⟨rfl, rfl⟩

set_option maxRecDepth 100000 in
set_option maxHeartbeats 2000000 in
theorem imcheck_any (A : Option Addr) (n c : Nat) (xss : List (List Int)) (w : World) (ha : ILL w A n xss) :
    Calls Tryd.prog 13 #[.slice A n c] w fun e w' => e = .returned (.int .i64 (mfault xss)) ∧ w = w' := by
  have hl := ha.len
  have hns := ha.small
  have HA := hide ha
  have HL := hide hl
  by_cases h6 : 6 < n
  · have HF : Hid (mfault xss = 2) := hide (by unfold mfault; rw [if_pos (by omega)])
    clear ha hl
    go_enter Tryd.func13, Tryd.ntmps13
    go_wp2
    go_ret
    rw [HF.out]
    exact ⟨rfl, rfl⟩
  · have HF : Hid (mfault xss = mrows (xss.getD 0 []).length xss) := hide (by unfold mfault; rw [if_neg (by omega)])
    clear ha hl
    go_enter Tryd.func13, Tryd.ntmps13
    go_wp2
    go_loop [12] (fun iv => ∃ k : Nat, k ≤ n ∧ iv = .int .i64 k ∧ Hid (mfault xss = mrows (xss.getD 0 []).length (xss.drop k))) (fun iv => n - (intOf iv).toNat)
    case atStart => exact ⟨0, Nat.zero_le _, rfl, by rw [List.drop_zero]; exact HF.out⟩
    case round =>
      obtain ⟨k, hk, rfl, HK⟩ := hrel
      by_cases hlt : k < n
      · obtain ⟨ad, B, m, d, rfl, hcl, hil⟩ := HA.out.at_ hlt
        obtain ⟨ad', B0, m0, d0, e, hcl0, hil0⟩ := HA.out.at_ (k := 0) (by omega)
        injection e with e
        subst e
        rw [show ad.add 0 = ad by unfold Addr.add; simp] at hcl0
        have hm := hil.len
        have hm0 := hil0.len
        have hms := hil.small
        have HST := hide (mrows_step (k := (xss.getD 0 []).length) (xss := xss) (j := k) (by rw [HL.out]; exact hlt))
        have HIL := hide hil
        have HROW : Hid (mrow (xss.getD 0 []).length (xss.getD k []) = if 6 < m then 2 else if m ≠ m0 then 3 else if (xss.getD k []).all okE then 0 else 1) := hide (by unfold mrow; rw [hm, hm0])
        have HM := hide hm
        clear hil hil0 hm hm0
        by_cases h1 : 6 < m
        · have HE : Hid (mfault xss = 2) := hide (by rw [HK.out, HST.out, HROW.out, if_pos h1]; rfl)
          clear HST HROW
          go_wp2
          go_ret
          rw [HE.out]
          exact ⟨rfl, rfl⟩
        · by_cases h2 : m = m0
          · subst h2
            have HROW2 : Hid (mrow (xss.getD 0 []).length (xss.getD k []) = if (xss.getD k []).all okE then 0 else 1) := hide (by rw [HROW.out, if_neg h1, if_neg (by omega)])
            have hbe : ((m : Int) != (m : Int)) = false := by simp
            clear HROW
            go_wp2
            go_loop [28] (fun jv => ∃ j : Nat, j ≤ m ∧ jv = .int .i64 j ∧ Hid (((xss.getD k []).take j).all okE = true)) (fun jv => m - (intOf jv).toNat)
            case atStart => exact ⟨0, Nat.zero_le _, rfl, by rw [List.take_zero]; exact rfl⟩
            case round =>
              obtain ⟨j, hj, rfl, HJ⟩ := hrel
              by_cases hjl : j < m
              · obtain ⟨bd, rfl, hx⟩ := HIL.out.at_ hjl
                have HT := hide (all_take_okE (w := xss.getD k []) (k := j) (by rw [HM.out]; exact hjl))
                have HMEM : Hid ((xss.getD k []).getD j 0 ∈ xss.getD k []) := hide (getD_memI (by rw [HM.out]; exact hjl))
                obtain ⟨x, hxe⟩ : ∃ x, (xss.getD k []).getD j 0 = x := ⟨_, rfl⟩
                rw [hxe] at hx HT HMEM
                clear hxe
                by_cases hok : x ≤ 100 ∧ -100 ≤ x
                · have HN : Hid (((xss.getD k []).take (j + 1)).all okE = true) := hide (by rw [HT.out, HJ.out]; simp [okE, hok])
                  obtain ⟨ho1, ho2⟩ := hok
                  clear HT HJ
                  go_wp2
                  go_round
                  case rel => exact ⟨j + 1, by omega, by go_num, HN.out⟩
                  case measure => simp [intOf]; omega
                · have HN : Hid ((xss.getD k []).all okE = false) := hide (by
                    rw [Bool.eq_false_iff]
                    intro h
                    have := List.all_eq_true.1 h x HMEM.out
                    exact hok (by simpa [okE] using this))
                  have HE : Hid (mfault xss = 1) := hide (by rw [HK.out, HST.out, HROW2.out, HN.out]; rfl)
                  clear HT HJ HST HROW2
                  by_cases h3 : 100 < x
                  · clear hok
                    go_wp2
                    go_ret
                    rw [HE.out]
                    exact ⟨rfl, rfl⟩
                  · have h4 : x < -100 := by omega
                    clear hok
                    go_wp2
                    go_ret
                    rw [HE.out]
                    exact ⟨rfl, rfl⟩
              · have HALL : Hid ((xss.getD k []).all okE = true) := hide (by
                  have := HJ.out
                  rwa [List.take_of_length_le (by rw [HM.out]; omega)] at this)
                have HN : Hid (mfault xss = mrows (xss.getD 0 []).length (xss.drop (k + 1))) := hide (by rw [HK.out, HST.out, HROW2.out, HALL.out]; rfl)
                clear HJ HST HROW2 HALL
                go_wp2
                go_round
                case rel => exact ⟨k + 1, by omega, by go_num, HN.out⟩
                case measure => simp [intOf]; omega
          · have hbe : ((m : Int) != (m0 : Int)) = true := by simp; omega
            have HE : Hid (mfault xss = 3) := hide (by rw [HK.out, HST.out, HROW.out, if_neg h1, if_pos h2]; rfl)
            clear HST HROW h2
            go_wp2
            go_ret
            rw [HE.out]
            exact ⟨rfl, rfl⟩
      · have HE : Hid (mfault xss = 0) := hide (by rw [HK.out, List.drop_of_length_le (by rw [HL.out]; omega)]; rfl)
        go_wp2
        go_ret
        rw [HE.out]
        exact ⟨rfl, rfl⟩

set_option maxRecDepth 100000 in
set_option maxHeartbeats 2000000 in
theorem imgcd_any (a b : Int) (w : World) (ha : a.natAbs ≤ 4000000000000000000) (hb : b.natAbs ≤ 4000000000000000000) :
    Calls Tryd.prog 40 #[.int .i64 a, .int .i64 b] w fun e w' => e = .returned (.int .i64 (Int.gcd a b : Nat)) ∧ Below w.heap.size w w' := by
  obtain ⟨G, hG⟩ : ∃ G, Int.gcd a b = G := ⟨_, rfl⟩
  rw [hG]
  have HG := hide hG
  clear hG
  go_enter Tryd.func40, Tryd.ntmps40
  go_wp2_with fail
  go_loopw [0, 1] (fun av bv wr => ∃ x y : Int, av = .int .i64 x ∧ bv = .int .i64 y ∧ x.natAbs ≤ 4000000000000000000 ∧ y.natAbs ≤ 4000000000000000000 ∧ Hid (Int.gcd x y = G) ∧ Below w.heap.size w wr) (fun _ bv _ => (intOf bv).natAbs)
  case atStart => exact ⟨a, b, rfl, rfl, ha, hb, HG, Below.refl _ _⟩
  case round =>
    clear HG ha hb
    obtain ⟨x, y, rfl, rfl, hx, hy, HG, hbw⟩ := hrel
    have HB := hide hbw
    clear hbw
    by_cases h0 : y = 0
    · subst h0
      have hbe : ((0 : Int) != 0) = false := rfl
      have hw : IntKind.i64.wrap (-x) = -x := by rw [IntKind.wrap_i64]; omega
      have hg : (x.natAbs : Int) = G := by have := HG.out; simp at this; omega
      by_cases h : x ≤ 0
      · have HN : Hid ((G : Int) = -x) := hide (by omega)
        clear hg HG
        go_wp2_with fail
        all_goals
          go_ret
          rw [HN.out]
          refine ⟨?_, HB.out⟩
          first | rfl | (congr 2; omega) | (simp; omega)
      · have HN : Hid ((G : Int) = x) := hide (by omega)
        clear hg HG
        go_wp2_with fail
        all_goals
          go_ret
          rw [HN.out]
          refine ⟨?_, HB.out⟩
          first | rfl | (congr 2; omega) | (simp; omega)
    · have hbe : (y != 0) = true := by simpa using h0
      have hlt : (x.tmod y).natAbs < y.natAbs := by
        rw [Int.natAbs_tmod]
        exact Nat.mod_lt _ (by omega)
      have HN : Hid (Int.gcd y (x.tmod y) = G) := hide (by rw [gcd_tmod]; exact HG.out)
      clear HG
      go_upto_region 2 with fail
      go_quiet (fail)
      go_wp2_with fail
      go_roundw
      case rel => exact ⟨y, x.tmod y, rfl, rfl, hy, by omega, HN, below_drewN HB.out _⟩
      case measure => exact hlt
end Go.Proofs.YtgjblcfcbohjdaaDoor
