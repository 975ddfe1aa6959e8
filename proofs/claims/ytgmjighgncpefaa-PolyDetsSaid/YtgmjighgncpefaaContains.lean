/- slices.Index where there is none, slices.Contains. -/
import Derived.Test.YtgmjighgncpefaaIndex
namespace Go.Proofs.Ytgmjighgncpefaa
set_option linter.unusedVariables false
set_option linter.unusedSimpArgs false
open Go.RowKit

theorem index_not (A : Option Addr) (n c : Nat) (us : List Nat) (x : Nat) (w : World) (ha : IL w A n (zs us)) (hx : x ∉ us) :
    Calls Try.prog 51 #[.slice A n c, .int .i64 x] w fun e w' => e = .returned (.int .i64 (-1)) ∧ w = w' := by
  have hna := ha.small
  have HL : Hid (us.length = n) := by have := ha.len; rwa [zs_length] at this
  have HX := hide hx
  clear hx
  go_enter Try.func51, Try.ntmps51
  go_wp2
  go_loop [8] (fun i => ∃ k : Nat, k ≤ n ∧ i = .int .i64 k) (fun i => n - (intOf i).toNat)
  case atStart => exact ⟨0, Nat.zero_le _, rfl⟩
  case round =>
    obtain ⟨k, hk, rfl⟩ := hrel
    by_cases hlt : k < n
    · obtain ⟨ad, rfl, hca⟩ := ha.at_ hlt
      rw [zs_getD] at hca
      have he : us.getD k 0 ≠ x := fun e => HX.out (by rw [← e]; exact getD_mem (by rw [HL.out]; exact hlt))
      have hb : ((x : Int) == ((us.getD k 0 : Nat) : Int)) = false := by
        have : ¬ (x : Int) = ((us.getD k 0 : Nat) : Int) := fun e => he (by omega)
        simpa using this
      clear he
      generalize us.getD k 0 = y at *
      go_wp2
      go_round
      case rel => exact ⟨k + 1, by omega, by go_num⟩
      case measure => simp [intOf]; omega
    · go_wp2
      go_ret
      exact ⟨rfl, rfl⟩
theorem contains_any (A : Option Addr) (n c : Nat) (us : List Nat) (x : Nat) (w : World) (ha : IL w A n (zs us)) :
    Calls Try.prog 42 #[.slice A n c, .int .i64 x] w fun e w' => e = .returned (.bool (us.contains x)) ∧ w = w' := by
  by_cases hx : x ∈ us
  · have HX : Hid (us.contains x = true) := hide (by simpa using hx)
    have HI := hide (index_mem A n c us x w ha hx)
    have hlt := idxOf_lt hx
    clear ha hx
    go_enter Try.func42, Try.ntmps42
    go_wp2_with fail
    refine HI.out.mono ?_
    rintro e w1 ⟨rfl, rfl⟩
    have hg : decide ((0 : Int) ≤ ((us.idxOf x : Nat) : Int)) = true := decide_eq_true (by omega)
    generalize us.idxOf x = q at *
    clear HI
    go_wp2_with fail
    go_ret
    rw [HX.out]
    exact ⟨by simp, rfl⟩
  · have HX : Hid (us.contains x = false) := hide (by simpa using hx)
    have HI := hide (index_not A n c us x w ha hx)
    clear ha hx
    go_enter Try.func42, Try.ntmps42
    go_wp2_with fail
    refine HI.out.mono ?_
    rintro e w1 ⟨rfl, rfl⟩
    clear HI
    go_wp2_with fail
    go_ret
    rw [HX.out]
    exact ⟨by simp, rfl⟩
end Go.Proofs.Ytgmjighgncpefaa
