/- slices.Index of integers: the first place. -/
import Derived.Test.YthhcjnmlpojjeaaSmall2
namespace Go.Proofs.Ythhcjnmlpojjeaa
set_option linter.unusedVariables false
set_option linter.unusedSimpArgs false
open Go.RowKit

set_option maxHeartbeats 1000000 in
theorem indexI_some (A : Option Addr) (n c p : Nat) (xs : List Int) (x : Int) (w : World) (ha : IL w A n xs) (hp : p < n) (h1 : xs.getD p 0 = x) (h2 : ∀ j, j < p → xs.getD j 0 ≠ x) :
    Calls Try.prog 52 #[.slice A n c, .int .i64 x] w fun e w' => e = .returned (.int .i64 (p : Nat)) ∧ w = w' := by
  have hna := ha.small
  have HX := hide h1
  have HN := hide h2
  clear h1 h2
  go_enter Try.func52, Try.ntmps52
  go_wp2
  go_loop [8] (fun i => ∃ k : Nat, k ≤ p ∧ i = .int .i64 k) (fun i => n - (intOf i).toNat)
  case atStart => exact ⟨0, Nat.zero_le _, rfl⟩
  case round =>
    obtain ⟨k, hk, rfl⟩ := hrel
    have hlt : k < n := by omega
    obtain ⟨ad, rfl, hca⟩ := ha.at_ hlt
    by_cases he : k = p
    · subst he
      rw [HX.out] at hca
      go_wp2
      go_ret
      exact ⟨rfl, rfl⟩
    · have hb : (x == xs.getD k 0) = false := by
        have : ¬ x = xs.getD k 0 := fun e => HN.out k (by omega) e.symm
        simpa using this
      generalize xs.getD k 0 = y at *
      go_wp2
      go_round
      case rel => exact ⟨k + 1, by omega, by go_num⟩
      case measure => simp [intOf]; omega

set_option maxHeartbeats 1000000 in
theorem indexI_none (A : Option Addr) (n c : Nat) (xs : List Int) (x : Int) (w : World) (ha : IL w A n xs) (h2 : ∀ j, j < n → xs.getD j 0 ≠ x) :
    Calls Try.prog 52 #[.slice A n c, .int .i64 x] w fun e w' => e = .returned (.int .i64 (-1)) ∧ w = w' := by
  have hna := ha.small
  have HN := hide h2
  clear h2
  go_enter Try.func52, Try.ntmps52
  go_wp2
  go_loop [8] (fun i => ∃ k : Nat, k ≤ n ∧ i = .int .i64 k) (fun i => n - (intOf i).toNat)
  case atStart => exact ⟨0, Nat.zero_le _, rfl⟩
  case round =>
    obtain ⟨k, hk, rfl⟩ := hrel
    by_cases hlt : k < n
    · obtain ⟨ad, rfl, hca⟩ := ha.at_ hlt
      have hb : (x == xs.getD k 0) = false := by
        have : ¬ x = xs.getD k 0 := fun e => HN.out k hlt e.symm
        simpa using this
      generalize xs.getD k 0 = y at *
      go_wp2
      go_round
      case rel => exact ⟨k + 1, by omega, by go_num⟩
      case measure => simp [intOf]; omega
    · go_wp2
      go_ret
      exact ⟨rfl, rfl⟩
end Go.Proofs.Ythhcjnmlpojjeaa
