/- timblaw1.MatchingElements, for a package temperleylieb that answers as it should. -/
import Derived.Test.YthhcjnmlpojjeaaTlE4
import Derived.Test.YthhcjnmlpojjeaaLs
namespace Go.Proofs.Ythhcjnmlpojjeaa
set_option linter.unusedVariables false
set_option linter.unusedSimpArgs false
open Go.RowKit

set_option maxRecDepth 100000 in
set_option maxHeartbeats 8000000 in
theorem matchingElements_any (F : TlC) (m : Int) (w : World) (wm : (Lit.int .i64 m).wf = true) :
    Calls Try.prog 5 #[.int .i64 m] w fun e w' => e = .returned (.bool true) ∧ Below w.heap.size w w' := by
  have HF := hide F
  have HE := hide (F.elements m w wm)
  have hnt := Bool.not_true
  clear F
  by_cases hm : m < 1 ∨ 6 < m
  · have ht : tlE m = 1 := by unfold tlE; rw [if_pos hm]
    have hl : elL m = [] := by unfold elL; rw [ht]; rfl
    rw [ht, hl] at HE
    have hd1 : decide (m < 1 ∨ 6 < m) = true := decide_eq_true hm
    by_cases h1 : m < 1
    · have hd : decide (m < 1) = true := decide_eq_true h1
      clear hm hd1 ht hl h1
      go_enter Try.func5, Try.ntmps5
      go_wp2_with fail
      refine HE.out.mono ?_
      rintro e w2 ⟨E, en, ec, rfl, hs, hb⟩
      have hen : en = 0 := by have := hs.len; simpa using this.symm
      subst hen
      have HW := hide hb
      clear hs hb HE
      go_wp2_with fail
      refine (matched_l HF.out _).mono ?_
      rintro e w3 ⟨rfl, hb⟩
      replace HW := hide (HW.out.trans (hb.mono HW.out.size))
      clear hb
      go_wp2_with fail
      go_ret
      exact ⟨rfl, HW.out⟩
    · have hd : decide (m < 1) = false := decide_eq_false h1
      have hd6 : decide (6 < m) = true := decide_eq_true (by omega)
      clear hm hd1 ht hl h1
      go_enter Try.func5, Try.ntmps5
      go_wp2_with fail
      refine HE.out.mono ?_
      rintro e w2 ⟨E, en, ec, rfl, hs, hb⟩
      have hen : en = 0 := by have := hs.len; simpa using this.symm
      subst hen
      have HW := hide hb
      clear hs hb HE
      go_wp2_with fail
      refine (matched_l HF.out _).mono ?_
      rintro e w3 ⟨rfl, hb⟩
      replace HW := hide (HW.out.trans (hb.mono HW.out.size))
      clear hb
      go_wp2_with fail
      go_ret
      exact ⟨rfl, HW.out⟩
  · obtain ⟨n, rfl⟩ : ∃ n : Nat, m = (n : Int) := ⟨m.toNat, by omega⟩
    have h0 : 1 ≤ n := by omega
    have h6 : n ≤ 6 := by omega
    have hl : elL (n : Int) = (Tl.plan n).map zs := by unfold elL; rw [tlE_ok h0 h6, if_pos rfl, Int.toNat_natCast]
    rw [tlE_ok h0 h6, hl] at HE
    have hd : decide ((n : Int) < 1) = false := decide_eq_false (by omega)
    have hd6 : decide ((6 : Int) < n) = false := decide_eq_false (by omega)
    have hd' : decide (n < 1) = false := decide_eq_false (by omega)
    have hd6' : decide (6 < n) = false := decide_eq_false (by omega)
    clear hm hl
    go_enter Try.func5, Try.ntmps5
    go_wp2_with fail
    refine HE.out.mono ?_
    rintro e w2 ⟨E, en, ec, rfl, hs, hb⟩
    have HS := hide hs
    have HW := hide hb
    clear hs hb HE
    go_wp2_with fail
    refine (matched_l HF.out _).mono ?_
    rintro e w3 ⟨rfl, hb⟩
    replace HW := hide (HW.out.trans (hb.mono HW.out.size))
    replace HS := hide (HS.out.below hb)
    clear hb
    go_wp2_with fail
    refine (planar_any n w3 h0 h6).mono ?_
    rintro e w4 ⟨E2, en2, ec2, rfl, hi, hb⟩
    replace HW := hide (HW.out.trans (hb.mono HW.out.size))
    have HL := hide (lists_yes E E2 en en2 ec ec2 _ w4 (HS.out.below hb).ill hi)
    clear hb hi
    go_wp2_with fail
    refine HL.out.mono ?_
    rintro e w5 ⟨rfl, hb⟩
    replace HW := hide (HW.out.trans (hb.mono HW.out.size))
    clear hb HL
    go_wp2_with fail
    go_ret
    exact ⟨rfl, HW.out⟩
end Go.Proofs.Ythhcjnmlpojjeaa
