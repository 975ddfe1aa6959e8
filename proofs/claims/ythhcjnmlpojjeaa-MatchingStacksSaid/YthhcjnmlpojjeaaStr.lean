/- timbmake.Strands for any greatest number; slices.Concat of two slices. -/
import Derived.Test.YthhcjnmlpojjeaaSmall2
import Derived.Test.YthhcjnmlpojjeaaBase1
import Derived.Test.YthhcjnmlpojjeaaEqual
import Derived.Test.YthhcjnmlpojjeaaTimes
import Derived.Test.YthhcjnmlpojjeaaSl
namespace Go.Proofs.Ythhcjnmlpojjeaa
set_option linter.unusedVariables false
set_option linter.unusedSimpArgs false
open Go.RowKit

set_option maxRecDepth 100000 in
theorem strands_gen (n : Int) (K : Nat) (kz : Int) (hkz : kz = (K : Int) + 1) (h1 : 1 ≤ K) (hK : K ≤ 10) (w : World) : Calls Try.prog 24 #[.int .i64 n, .int .i64 kz] w fun e w' => ∃ T : Nat, 1 ≤ T ∧ T ≤ K ∧ e = .returned (.int .i64 ((T : Int) + 1)) ∧ w = w' := by
  subst hkz
  obtain ⟨p, hp⟩ : ∃ p : Nat, n % (K : Int) = (p : Int) := ⟨(n % (K : Int)).toNat, by have := Int.emod_nonneg n (show (K : Int) ≠ 0 by omega); omega⟩
  have hp5 : p < K := by have := Int.emod_lt_of_pos n (show (0 : Int) < (K : Int) by omega); omega
  have HP := hide hp
  have hadd : IntKind.i64.wrap (2 + (p : Int)) = ((p + 1 : Nat) : Int) + 1 := by rw [IntKind.wrap_i64]; omega
  have HA := hide hadd
  have hs1 : (K : Int) + 1 - 1 = (K : Int) := by omega
  have hs2 : IntKind.i64.wrap (K : Int) = (K : Int) := by rw [IntKind.wrap_i64]; omega
  clear hp hadd
  go_enter Try.func24, Try.ntmps24
  go_wp2_with fail
  refine (mbelow_any n K _ h1 (by omega)).mono ?_
  rintro e w1 ⟨rfl, hww⟩
  subst hww
  rw [HP.out]
  go_wp2_with ((with_reducible show wpList _ _ _ (Oper.mk _ (.binOp .add _ _ _) _ _ _ _ :: _) _ _); refine wpList_gives rfl (gives_add rfl rfl rfl HA.out) ?_)
  go_ret
  exact ⟨p + 1, by omega, by omega, by
    have e : IntKind.i64.wrap (2 + (p : Int)) = ((p + 1 : Nat) : Int) + 1 := HA.out
    first | rfl | (simp; omega) | (simp [e]; omega), rfl⟩
end Go.Proofs.Ythhcjnmlpojjeaa
