/- timbref1.Parity. -/
import Derived.Test.YtgmjighgncpefaaBase
import Derived.Test.YtgmjighgncpefaaSmall2
namespace Go.Proofs.Ytgmjighgncpefaa
set_option linter.unusedVariables false
set_option linter.unusedSimpArgs false
open Go.RowKit

set_option maxHeartbeats 2000000 in
theorem parity_ok (A : Option Addr) (n c : Nat) (a : List Nat) (w : World) (ha : IL w A n (zs a)) (h9 : n ≤ 1000) :
    Calls Try.prog 28 #[.slice A n c] w fun e w' => e = .returned (.int .i64 (parTo a n)) ∧ Below w.heap.size w w' := by
  go_enter Try.func28, Try.ntmps28
  go_wp2
  go_loopw [3, 8] (fun sv i wr => ∃ k : Nat, i = .int .i64 k ∧ sv = .int .i64 (parTo a k) ∧ k ≤ n ∧ Below w.heap.size w wr) (fun _ i _ => n - (intOf i).toNat)
  case atStart => exact ⟨0, rfl, rfl, Nat.zero_le _, Below.refl _ _⟩
  case round =>
    obtain ⟨k, rfl, rfl, hk, hnx⟩ := hrel
    rename World => wo
    by_cases hlt : k < n
    · have hone := parTo_one a k
      have hs1 : -1 ≤ parTo a k := by omega
      have hs2 : parTo a k ≤ 1 := by omega
      have HO := hide hone
      clear hone
      have HST : Hid (parIn a k (parTo a k) 0 = parTo a k) := rfl
      have HEND : Hid (parIn a k (parTo a k) k = parTo a (k + 1)) := rfl
      generalize parTo a k = s0 at *
      go_wp2
      go_loopw [3, 12] (fun sv i wx => ∃ j : Nat, i = .int .i64 j ∧ sv = .int .i64 (parIn a k s0 j) ∧ j ≤ k ∧ Below wo.heap.size wo wx) (fun _ i _ => k - (intOf i).toNat)
      case atStart => exact ⟨0, rfl, by rw [HST.out], Nat.zero_le _, Below.refl _ _⟩
      case round =>
        obtain ⟨j, rfl, rfl, hj, hny⟩ := hrel
        have ha' := ha.below (hnx.trans (hny.mono hnx.size))
        have HA := hide ha
        clear ha
        have hone := parIn_one a k HO.out j
        have ht1 : -1 ≤ parIn a k s0 j := by omega
        have ht2 : parIn a k s0 j ≤ 1 := by omega
        clear hone
        by_cases hjlt : j < k
        · obtain ⟨ad, rfl, hcj⟩ := ha'.at_ (show j < n by omega)
          obtain ⟨ad', e, hck⟩ := ha'.at_ hlt
          injection e with e
          subst e
          rw [zs_getD] at hcj hck
          have HS : Hid (parIn a k s0 (j + 1) = if a.getD k 0 < a.getD j 0 then -parIn a k s0 j else parIn a k s0 j) := rfl
          clear ha'
          generalize parIn a k s0 j = t at *
          generalize a.getD j 0 = x at *
          generalize a.getD k 0 = y at *
          by_cases hxy : y < x
          · have HS' : Hid (parIn a k s0 (j + 1) = -t) := by rw [HS.out, if_pos hxy]; exact rfl
            have hb : decide (y < x) = true := by simpa using hxy
            clear hxy
            go_wp2
            go_quiet (fail)
            go_wp2
            go_roundw
            case rel => exact ⟨j + 1, by go_num, by rw [HS'.out], by omega, below_drewN hny _⟩
            case measure => simp [intOf]; omega
          · have HS' : Hid (parIn a k s0 (j + 1) = t) := by rw [HS.out, if_neg hxy]; exact rfl
            have hb : decide (y < x) = false := by simpa using hxy
            clear hxy
            go_wp2
            go_quiet (fail)
            go_wp2
            go_roundw
            case rel => exact ⟨j + 1, by go_num, by rw [HS'.out], by omega, below_drewN hny _⟩
            case measure => simp [intOf]; omega
        · have hjk : j = k := by omega
          have HE : Hid (parIn a k s0 j = parTo a (k + 1)) := by rw [hjk]; exact HEND.out
          generalize parIn a k s0 j = t at *
          go_wp2
          go_roundw
          case rel => exact ⟨k + 1, by go_num, by rw [HE.out], by omega, hnx.trans (hny.mono hnx.size)⟩
          case measure => simp [intOf]; omega
    · have HE : Hid (parTo a k = parTo a n) := by rw [show k = n from by omega]; exact rfl
      generalize parTo a k = t at *
      go_wp2
      go_ret
      rw [HE.out]
      exact ⟨rfl, hnx⟩
end Go.Proofs.Ytgmjighgncpefaa
