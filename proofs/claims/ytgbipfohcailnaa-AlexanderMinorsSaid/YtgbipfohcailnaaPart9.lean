/- Several texts in one. -/
import Derived.Test.YtgbipfohcailnaaBase1
import Derived.Test.YtgbipfohcailnaaPart1
import Derived.Test.YtgbipfohcailnaaPart8
/- timbref1.Parity. -/
namespace Go.Proofs.Ytgbipfohcailnaa
set_option linter.unusedVariables false
set_option linter.unusedSimpArgs false
open Go.RowKit

set_option maxHeartbeats 2000000 in
theorem parity_ok (A : Option Addr) (n c : Nat) (a : List Nat) (w : World) (ha : IL w A n (zs a)) (h9 : n ≤ 1000) :
    Calls Try.prog 21 #[.slice A n c] w fun e w' => e = .returned (.int .i64 (parTo a n)) ∧ Below w.heap.size w w' := by
  go_enter Try.func21, Try.ntmps21
  go_wp2
  go_loopw [3, 8] (fun sv i wr => ∃ k : Nat, i = .int .i64 k ∧ sv = .int .i64 (parTo a k) ∧ k ≤ n ∧ Below w.heap.size w wr) (fun _ i _ => n - (intOf i).toNat)
  case atStart => exact ⟨0, rfl, rfl, Nat.zero_le _, Below.refl _ _⟩
  case round =>
    obtain ⟨k, rfl, rfl, hk, hnx⟩ := hrel
    rename World => wo
    by_cases hlt : k < n
    · have hone := parTo_one a k
      have hs1 : -1 ≤ parTo a k := by omega
      have hs2 : parTo a k ≤ 1 := by omega
      have HO := hide hone
      clear hone
      have HST : Hid (parIn a k (parTo a k) 0 = parTo a k) := rfl
      have HEND : Hid (parIn a k (parTo a k) k = parTo a (k + 1)) := rfl
      generalize parTo a k = s0 at *
      go_wp2
      go_loopw [3, 12] (fun sv i wx => ∃ j : Nat, i = .int .i64 j ∧ sv = .int .i64 (parIn a k s0 j) ∧ j ≤ k ∧ Below wo.heap.size wo wx) (fun _ i _ => k - (intOf i).toNat)
      case atStart => exact ⟨0, rfl, by rw [HST.out], Nat.zero_le _, Below.refl _ _⟩
      case round =>
        obtain ⟨j, rfl, rfl, hj, hny⟩ := hrel
        have ha' := ha.below (hnx.trans (hny.mono hnx.size))
        have HA := hide ha
        clear ha
        have hone := parIn_one a k HO.out j
        have ht1 : -1 ≤ parIn a k s0 j := by omega
        have ht2 : parIn a k s0 j ≤ 1 := by omega
        clear hone
        by_cases hjlt : j < k
        · obtain ⟨ad, rfl, hcj⟩ := ha'.at_ (show j < n by omega)
          obtain ⟨ad', e, hck⟩ := ha'.at_ hlt
          injection e with e
          subst e
          rw [zs_getD] at hcj hck
          have HS : Hid (parIn a k s0 (j + 1) = if a.getD k 0 < a.getD j 0 then -parIn a k s0 j else parIn a k s0 j) := rfl
          clear ha'
          generalize parIn a k s0 j = t at *
          generalize a.getD j 0 = x at *
          generalize a.getD k 0 = y at *
          by_cases hxy : y < x
          · have HS' : Hid (parIn a k s0 (j + 1) = -t) := by rw [HS.out, if_pos hxy]; exact rfl
            have hb : decide (y < x) = true := by simpa using hxy
            clear hxy
            go_wp2
            go_quiet (fail)
            go_wp2
            go_roundw
            case rel => exact ⟨j + 1, by go_num, by rw [HS'.out], by omega, below_drewN hny _⟩
            case measure => simp [intOf]; omega
          · have HS' : Hid (parIn a k s0 (j + 1) = t) := by rw [HS.out, if_neg hxy]; exact rfl
            have hb : decide (y < x) = false := by simpa using hxy
            clear hxy
            go_wp2
            go_quiet (fail)
            go_wp2
            go_roundw
            case rel => exact ⟨j + 1, by go_num, by rw [HS'.out], by omega, below_drewN hny _⟩
            case measure => simp [intOf]; omega
        · have hjk : j = k := by omega
          have HE : Hid (parIn a k s0 j = parTo a (k + 1)) := by rw [hjk]; exact HEND.out
          generalize parIn a k s0 j = t at *
          go_wp2
          go_roundw
          case rel => exact ⟨k + 1, by go_num, by rw [HE.out], by omega, hnx.trans (hny.mono hnx.size)⟩
          case measure => simp [intOf]; omega
    · have HE : Hid (parTo a k = parTo a n) := by rw [show k = n from by omega]; exact rfl
      generalize parTo a k = t at *
      go_wp2
      go_ret
      rw [HE.out]
      exact ⟨rfl, hnx⟩
end Go.Proofs.Ytgbipfohcailnaa
/- timbref1.Determinant. -/
namespace Go.Proofs.Ytgbipfohcailnaa
set_option linter.unusedVariables false
set_option linter.unusedSimpArgs false
open Go.RowKit

theorem grownBy_set1 (w : World) (b i : Nat) (v : Value) : w.grownBy (w.setCell ⟨b, i, none⟩ v) (some b) :=
  ⟨rfl, rfl, rfl, by simp, fun k _ hk => Below.heap_setCell w _ v k (fun e => hk (by rw [e]))⟩
end Go.Proofs.Ytgbipfohcailnaa
/- A row stored into a block: what lies elsewhere stays. -/
namespace Go.Proofs.Ytgbipfohcailnaa
set_option linter.unusedVariables false
set_option linter.unusedSimpArgs false
open Go.RowKit

theorem SL.setRow_ {w : World} {A : Option Addr} {n c : Nat} {xs : List Int} (h : SL w A n c xs) {b : Nat} (hb : 0 < n → ∀ ad, A = some ad → ad.block ≠ b) (cs : Array Value) : SL (w.setRow b cs) A n c xs :=
  ⟨⟨h.il.len, h.il.small, fun hn => by
    obtain ⟨ad, e, hl, hc⟩ := h.il.mem hn
    refine ⟨ad, e, by simpa using hl, fun j hj => ?_⟩
    rw [← hc j hj]
    exact cell_setRow_other w b cs (ad.add j) (by rw [block_of_add]; exact hb hn ad e)⟩, h.nil, h.cap⟩
theorem Below.setRow_ {B g : Nat} {w0 w : World} (hb : Below B w0 w) (hBg : B ≤ g) (cs : Array Value) : Below B w0 (w.setRow g cs) :=
  ⟨hb.os, hb.tape, hb.output, by simpa using hb.size, fun k hk => (setRow_other _ _ _ _ (by omega)).trans (hb.block k hk)⟩
end Go.Proofs.Ytgbipfohcailnaa
