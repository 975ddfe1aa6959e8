/- slices.BinarySearchFunc over lists of integers, with slices.Compare. -/
import Derived.Test.YthhcjnmlpojjeaaCompare
import Derived.Test.YthhcjnmlpojjeaaSl
import Derived.Test.YthhcjnmlpojjeaaBase1
namespace Go.Proofs.Ythhcjnmlpojjeaa
set_option linter.unusedVariables false
set_option linter.unusedSimpArgs false
open Go.RowKit

theorem mcmp_any (A B : Option Addr) (n m c d : Nat) (xs ys : List Int) (w : World) (ha : IL w A n xs) (hb : IL w B m ys) :
    Calls Try.prog 31 #[.slice A n c, .slice B m d] w fun e w' => e = .returned (.int .i64 (cmpI xs ys)) ∧ w = w' := by
  have HC := hide (compare_any A B n m c d xs ys w ha hb)
  clear ha hb
  go_enter Try.func31, Try.ntmps31
  go_wp2_with fail
  refine HC.out.mono ?_
  rintro e w1 ⟨rfl, rfl⟩
  go_wp2_with fail
  go_ret
  exact ⟨rfl, rfl⟩
theorem eMCmp : ∀ args w, (callFunc 31 args).run Try.prog w = .ok (.enter 31 args) w := enters (fn := Try.f31) (by kernel_rfl) (by kernel_rfl) (by kernel_rfl)

set_option maxRecDepth 100000 in
set_option maxHeartbeats 4000000 in
theorem bsearch_any (A B : Option Addr) (n m c d p : Nat) (xss : List (List Int)) (t : List Int) (w : World) (ha : ILL w A n xss) (hb : IL w B m t) (hn : n ≤ 1000) (hp : p < n) (h1 : ∀ j, j < p → cmpI (xss.getD j []) t < 0) (h2 : ∀ j, p ≤ j → j < n → ¬ cmpI (xss.getD j []) t < 0) (h3 : cmpI (xss.getD p []) t = 0) :
    Calls Try.prog 30 #[.slice A n c, .slice B m d, .func (.func 31) #[] #[]] w fun e w' => e = .returned (.tuple #[.int .i64 p, .bool true]) ∧ w = w' := by
  have HA := hide ha
  have HB := hide hb
  have H1 := hide h1
  have H2 := hide h2
  have H3 := hide h3
  have e1 := eMCmp
  clear ha hb h1 h2 h3
  go_enter Try.func30, Try.ntmps30
  go_wp2_with fail
  go_loop [9, 10] (fun lv hv => ∃ lo hi : Nat, lv = .int .i64 lo ∧ hv = .int .i64 hi ∧ lo ≤ p ∧ p ≤ hi ∧ hi ≤ n) (fun lv hv => (intOf hv).toNat - (intOf lv).toNat)
  case atStart => exact ⟨0, n, rfl, rfl, Nat.zero_le _, by omega, Nat.le_refl _⟩
  case round =>
    obtain ⟨lo, hi, rfl, rfl, hlo, hhi, hin⟩ := hrel
    by_cases hlt : lo < hi
    · obtain ⟨s, hs⟩ : ∃ s, lo + hi = s := ⟨_, rfl⟩
      obtain ⟨h, hh⟩ : ∃ h, s / 2 = h := ⟨_, rfl⟩
      have hw1 : IntKind.i64.wrap ((lo : Int) + (hi : Int)) = (s : Int) := by rw [IntKind.wrap_i64]; omega
      have hhn : h < n := by omega
      obtain ⟨ad, C, cn, cc, rfl, hcl, hil⟩ := HA.out.at_ hhn
      have HC := hide (mcmp_any C B cn m cc d _ _ w hil HB.out)
      go_wp2_with fail
      refine HC.out.mono ?_
      rintro e w1 ⟨rfl, rfl⟩
      have hdv : (s : Int) / 2 = (h : Int) := by omega
      have hwr : IntKind.i64.wrap ((s : Int) / 2 + 1) = ((h + 1 : Nat) : Int) := by rw [IntKind.wrap_i64]; omega
      by_cases hp1 : h < p
      · obtain ⟨cv, hcv⟩ : ∃ cv, cmpI (xss.getD h []) t = cv := ⟨_, rfl⟩
        have hneg : cv < 0 := by rw [← hcv]; exact H1.out h hp1
        simp only [hcv]
        clear hcv HC hdv
        have hd : decide (cv < 0) = true := decide_eq_true hneg
        go_wp2_with fail
        go_round
        case measure =>
          show ((hi : Int)).toNat - ((h : Int) + 1).toNat < ((hi : Int)).toNat - ((lo : Int)).toNat
          omega
        exact ⟨h + 1, hi, rfl, rfl, by omega, hhi, hin⟩
      · obtain ⟨cv, hcv⟩ : ∃ cv, cmpI (xss.getD h []) t = cv := ⟨_, rfl⟩
        have hneg : ¬ cv < 0 := by rw [← hcv]; have := H2.out h (by omega) hhn; omega
        simp only [hcv]
        clear hcv HC
        have hd : decide (cv < 0) = false := decide_eq_false hneg
        go_wp2_with fail
        go_round
        case measure =>
          show ((s : Int) / 2).toNat - ((lo : Int)).toNat < ((hi : Int)).toNat - ((lo : Int)).toNat
          omega
        exact ⟨lo, h, rfl, by rw [hdv], hlo, by omega, by omega⟩
    · have hlp : lo = p := by omega
      have hhp : hi = p := by omega
      subst hlp
      subst hhp
      obtain ⟨ad, C, cn, cc, rfl, hcl, hil⟩ := HA.out.at_ hp
      have HC := hide (mcmp_any C B cn m cc d _ _ w hil HB.out)
      rw [H3.out] at HC
      go_wp2_with fail
      refine HC.out.mono ?_
      rintro e w1 ⟨rfl, rfl⟩
      go_wp2_with fail
      go_ret2
      exact ⟨rfl, rfl⟩
end Go.Proofs.Ythhcjnmlpojjeaa
