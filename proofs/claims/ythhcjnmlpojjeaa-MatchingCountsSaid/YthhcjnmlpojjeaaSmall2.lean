/- identity, Row, Below, countSmaller, Index. -/
import Derived.Test.YthhcjnmlpojjeaaSmall
import Derived.Test.YthhcjnmlpojjeaaBase1
namespace Go.Proofs.Ythhcjnmlpojjeaa
set_option linter.unusedVariables false
set_option linter.unusedSimpArgs false
open Go.RowKit

theorem emod_of_tmod (n : Int) (m : Nat) (h0 : 0 < m) : n % (m : Int) = if n.tmod m < 0 then n.tmod m + m else n.tmod m := by
  have h1 := Int.tmod_add_mul_tdiv n m
  have h2 := Int.tmod_lt_of_pos n (b := m) (by omega)
  have h3 := Int.lt_tmod_of_pos n (b := m) (by omega)
  generalize hr : n.tmod m = r at *
  have e : ∀ x : Int, 0 ≤ x → x < m → (∃ q, n = x + m * q) → n % (m : Int) = x := fun x hx0 hx1 ⟨q, hq⟩ => by
    rw [hq, Int.add_mul_emod_self_left]
    exact Int.emod_eq_of_lt hx0 hx1
  by_cases h : r < 0
  · rw [if_pos h]
    refine e _ (by omega) (by omega) ⟨n.tdiv m - 1, ?_⟩
    rw [Int.mul_sub]
    omega
  · rw [if_neg h]
    exact e _ (by omega) (by omega) ⟨n.tdiv m, by omega⟩

set_option maxHeartbeats 1000000 in
theorem mbelow_any (n : Int) (m : Nat) (w : World) (h0 : 0 < m) (hm : m ≤ 1000000) :
    Calls Try.prog 25 #[.int .i64 n, .int .i64 m] w fun e w' => e = .returned (.int .i64 (n % (m : Int))) ∧ w = w' := by
  have HE := hide (emod_of_tmod n m h0)
  have h2 := Int.tmod_lt_of_pos n (b := m) (by omega)
  have h3 := Int.lt_tmod_of_pos n (b := m) (by omega)
  by_cases h : n.tmod m < 0
  · have HE' : Hid (n % (m : Int) = n.tmod m + m) := by rw [HE.out, if_pos h]; exact rfl
    clear HE
    go_enter Try.func25, Try.ntmps25
    go_wp2
    go_ret
    rw [HE'.out]
    exact ⟨rfl, rfl⟩
  · have HE' : Hid (n % (m : Int) = n.tmod m) := by rw [HE.out, if_neg h]; exact rfl
    clear HE
    go_enter Try.func25, Try.ntmps25
    go_wp2
    go_ret
    rw [HE'.out]
    exact ⟨rfl, rfl⟩

end Go.Proofs.Ythhcjnmlpojjeaa
