/- timblaw1.PermCycles. -/
import Derived.Test.YtpemnhalilefmaaRounds2
import Derived.Test.YtpemnhalilefmaaLists
import Derived.Test.YtpemnhalilefmaaParity
import Derived.Test.YtpemnhalilefmaaChecks
namespace Go.Proofs.Ytpemnhalilefmaa
open Go.RowKit

set_option maxHeartbeats 4000000 in
theorem permCycles_any (A : Option Addr) (la ca : Nat) (xs : List Int) (w : World) (ha : IL w A la xs) :
    Calls Try.prog 5 #[.slice A la ca] w fun e w' => e = .returned (.bool true) ∧ Below w.heap.size w w' := by
  by_cases hf : pf xs = 0
  · obtain ⟨h9, a, rfl, pa⟩ := (pf_zero xs).1 hf
    rw [zs_length] at h9
    have HF := hide hf
    have HP := hide (And.intro pa h9)
    have hla : la ≤ 9 := by have := ha.len; rw [zs_length] at this; omega
    have HPAR : Hid (parTo a la = sgnL (cycs a)) := by
      have := ha.len
      rw [zs_length] at this
      rw [← this]
      exact (sgn_par pa).symm
    clear hf pa h9
    go_enter Try.func5, Try.ntmps5
    go_wp2_with fail
    refine (cycles_il A la ca a _ ha HP.out.1 HP.out.2).mono ?_
    rintro e w1 ⟨B, m, d, rfl, hc, hb01⟩
    replace ha := ha.below hb01
    go_wp2_with fail
    refine (order_ok A la ca a _ ha HP.out.1 HP.out.2).mono ?_
    generalize hO : ordL (cycs a) = o at *
    have HO := hide hO
    clear hO
    rintro e w2 ⟨rfl, hb2⟩
    replace ha := ha.below hb2
    replace hc := hc.below hb2
    have hb02 := hb01.trans (hb2.mono hb01.size)
    clear hb2 hb01
    go_wp2_with fail
    refine (sign_ok A la ca a _ ha HP.out.1 HP.out.2).mono ?_
    generalize sgnL (cycs a) = sn at *
    rintro e w3 ⟨rfl, hb3⟩
    replace ha := ha.below hb3
    replace hc := hc.below hb3
    have hb03 := hb02.trans (hb3.mono hb02.size)
    clear hb3 hb02
    go_wp2_with fail
    refine (fault_any _ _ _ _ _ ha).mono ?_
    rw [HF.out]
    rintro e w4 ⟨rfl, hb4⟩
    replace ha := ha.below hb4
    replace hc := hc.below hb4
    have hb04 := hb03.trans (hb4.mono hb03.size)
    clear hb4 hb03
    go_wp2_with fail
    refine (lpermuted_any _).mono ?_
    rintro e w5 ⟨rfl, hb5⟩
    replace ha := ha.below hb5
    replace hc := hc.below hb5
    have hb05 := hb04.trans (hb5.mono hb04.size)
    clear hb5 hb04
    go_wp2_with fail
    refine (rounds_ok A la ca a _ ha HP.out.1 HP.out.2).mono ?_
    rintro e w6 ⟨B2, m2, d2, rfl, hr, hb6⟩
    replace ha := ha.below hb6
    replace hc := hc.below hb6
    have hb06 := hb05.trans (hb6.mono hb05.size)
    clear hb6 hb05
    go_wp2_with fail
    refine (lists_yes B B2 m m2 d d2 _ _ hc hr).mono ?_
    rintro e w7 ⟨rfl, hb7⟩
    replace ha := ha.below hb7
    have hb07 := hb06.trans (hb7.mono hb06.size)
    clear hb7 hb06 hc hr
    go_wp2_with fail
    refine (period_ok A la ca a _ ha HP.out.1 HP.out.2).mono ?_
    rw [HO.out]
    rintro e w8 ⟨rfl, hb8⟩
    replace ha := ha.below hb8
    have hb08 := hb07.trans (hb8.mono hb07.size)
    clear hb8 hb07
    go_wp2_with fail
    refine (parity_ok A la ca a _ ha (by omega)).mono ?_
    rw [HPAR.out]
    rintro e w9 ⟨rfl, hb9⟩
    have hb09 := hb08.trans (hb9.mono hb08.size)
    clear hb9 hb08
    go_wp2
    go_ret
    exact ⟨rfl, hb09⟩
  · have hfb : (pf xs == 0) = false := by simpa using hf
    have hfn : (pf xs != 0) = true := by simpa using hf
    have HF := hide hf
    clear hf
    go_enter Try.func5, Try.ntmps5
    go_wp2_with fail
    refine (cycles_err A la ca xs _ ha HF.out).mono ?_
    rintro e w1 ⟨rfl, hb01⟩
    replace ha := ha.below hb01
    go_wp2_with fail
    refine (order_err A la ca xs _ ha HF.out).mono ?_
    rintro e w2 ⟨rfl, hb2⟩
    replace ha := ha.below hb2
    have hb02 := hb01.trans (hb2.mono hb01.size)
    clear hb2 hb01
    go_wp2_with fail
    refine (sign_err A la ca xs _ ha HF.out).mono ?_
    rintro e w3 ⟨rfl, hb3⟩
    replace ha := ha.below hb3
    have hb03 := hb02.trans (hb3.mono hb02.size)
    clear hb3 hb02
    go_wp2_with fail
    refine (fault_any _ _ _ _ _ ha).mono ?_
    generalize pf xs = f at *
    rintro e w4 ⟨rfl, hb4⟩
    have hb04 := hb03.trans (hb4.mono hb03.size)
    clear hb4 hb03
    go_wp2_with fail
    refine (lpermuted_any _).mono ?_
    rintro e w5 ⟨rfl, hb5⟩
    have hb05 := hb04.trans (hb5.mono hb04.size)
    clear hb5 hb04
    go_wp2
    go_ret
    exact ⟨rfl, hb05⟩
end Go.Proofs.Ytpemnhalilefmaa
