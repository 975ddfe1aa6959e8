/- slices.IndexFunc and slices.DeleteFunc of integers, with a function that only answers. -/
import Derived.Test.YtgmjighgncpefaaDelete
import Derived.Test.YtgmjighgncpefaaBase
import Derived.Lib.SliceRun
namespace Go.Proofs.Ytgmjighgncpefaa
set_option linter.unusedVariables false
set_option linter.unusedSimpArgs false
open Go.RowKit

theorem cntP_take {xs : List Int} {k : Nat} (p : Int → Bool) (hk : k < xs.length) : (xs.take (k + 1)).countP p = (xs.take k).countP p + if p (xs.getD k 0) then 1 else 0 := by
  rw [List.take_succ_eq_append_getElem hk, List.countP_append, List.countP_singleton]
  simp [List.getD, List.getElem?_eq_getElem hk]
theorem cntP_take_all {xs : List Int} (p : Int → Bool) : ∀ k, k ≤ xs.length → (∀ j, j < k → p (xs.getD j 0) = true) → (xs.take k).countP p = k
  | 0, _, _ => rfl
  | k + 1, hk, h => by rw [cntP_take p (by omega), cntP_take_all p k (by omega) fun j hj => h j (by omega), h k (by omega)]; rfl

set_option maxRecDepth 100000 in
set_option maxHeartbeats 2000000 in
theorem intIndex_any {fid : FuncId} {caps : List Value} (f : Int → Bool) (hfid : ∀ args w, (callFunc fid args).run Try.prog w = .ok (.enter fid args) w) (A : Option Addr) (n c : Nat) (xs : List Int) (w : World) (ha : IL w A n xs)
    (hf : ∀ x w, Calls Try.prog fid (.int .i64 x :: caps).toArray w fun e w' => e = .returned (.bool (f x)) ∧ w = w') :
    Calls Try.prog 50 #[.slice A n c, .func (.func fid) #[] caps.toArray] w fun e w' => ((e = .returned (.int .i64 (-1)) ∧ ∀ j, j < n → f (xs.getD j 0) = false) ∨ ∃ k : Nat, e = .returned (.int .i64 k) ∧ k < n ∧ f (xs.getD k 0) = true ∧ ∀ j, j < k → f (xs.getD j 0) = false) ∧ w = w' := by
  have hs := ha.small
  have HA := hide ha
  have HF := hide hf
  clear ha hf
  go_enter Try.func50, Try.ntmps50
  go_wp2
  go_loop [8] (fun i => ∃ k : Nat, k ≤ n ∧ i = .int .i64 k ∧ Hid (∀ j, j < k → f (xs.getD j 0) = false)) (fun i => n - (intOf i).toNat)
  case atStart => exact ⟨0, Nat.zero_le _, rfl, hide (fun j hj => absurd hj (by omega))⟩
  case round =>
    obtain ⟨k, hk, rfl, HN⟩ := hrel
    by_cases hlt : k < n
    · obtain ⟨ad, rfl, hc⟩ := HA.out.at_ hlt
      have HC := hide (HF.out (xs.getD k 0) w)
      by_cases hfk : f (xs.getD k 0) = true
      · have HY := hide hfk
        rw [hfk] at HC
        clear hfk
        go_wp2_with fail
        refine HC.out.mono ?_
        rintro e w1 ⟨rfl, rfl⟩
        go_wp2_with fail
        go_ret
        exact ⟨.inr ⟨k, rfl, hlt, HY.out, HN.out⟩, rfl⟩
      · have hfk' : f (xs.getD k 0) = false := by simpa using hfk
        have HN2 : Hid (∀ j, j < k + 1 → f (xs.getD j 0) = false) := hide (fun j hj => by
          by_cases e : j = k
          · rw [e]; exact hfk'
          · exact HN.out j (by omega))
        rw [hfk'] at HC
        clear hfk hfk'
        go_wp2_with fail
        refine HC.out.mono ?_
        rintro e w1 ⟨rfl, rfl⟩
        go_wp2_with fail
        go_round
        case rel => exact ⟨k + 1, by omega, by go_num, HN2⟩
        case measure => simp [intOf]; omega
    · go_wp2_with fail
      go_ret
      exact ⟨.inl ⟨rfl, fun j hj => HN.out j (by omega)⟩, rfl⟩
theorem eIntIx : ∀ args w, (callFunc 50 args).run Try.prog w = .ok (.enter 50 args) w := enters (fn := Try.f50) (by kernel_rfl) (by kernel_rfl) (by kernel_rfl)
theorem zeroInt (w : World) : (zeroValue 3).run Try.prog w = .ok (.int .i64 0) w := by kernel_rfl

end Go.Proofs.Ytgmjighgncpefaa
