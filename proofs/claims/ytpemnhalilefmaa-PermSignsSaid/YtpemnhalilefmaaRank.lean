/- Rank. -/
import Derived.Test.YtpemnhalilefmaaInv
namespace Go.Proofs.Ytpemnhalilefmaa
open Go.RowKit

theorem IL.cut {w : World} {ad : Addr} {n k : Nat} {xs : List Int} (h : IL w (some ad) n xs) (hk : k ≤ n) : IL w (some (ad.add k)) (n - k) (xs.drop k) := by
  refine ⟨by rw [List.length_drop, h.len], by have := h.small; omega, fun hn => ?_⟩
  obtain ⟨ad', e, hlt, hc⟩ := h.mem (by omega)
  injection e with e
  subst e
  refine ⟨_, rfl, by rw [block_of_add]; exact hlt, fun j hj => ?_⟩
  rw [add_of_add, hc (k + j) (by omega)]
  simp [List.getD, List.getElem?_drop]

set_option maxHeartbeats 1000000 in
theorem rank_ok (A : Option Addr) (n c : Nat) (a : List Nat) (w : World) (ha : IL w A n (zs a)) (hc : n ≤ c) (pa : isP a) (h9 : a.length ≤ 9) :
    Calls Try.prog 28 #[.slice A n c] w fun e w' => e = .returned (.tuple #[.int .i64 (rankN a : Nat), .int .i64 0]) ∧ Below w.heap.size w w' := by
  have HA := hide (pa.pf h9)
  have HL : Hid (a.length = n) := by have := ha.len; rwa [zs_length] at this
  have hn9 : n ≤ 9 := by have := HL.out; omega
  clear h9
  have HP := hide pa
  clear pa
  go_enter Try.func28, Try.ntmps28
  go_wp2_with fail
  refine (check_any _ _ _ _ _ ha).mono ?_
  rw [HA.out]
  rintro e w1 ⟨rfl, hb1⟩
  go_wp2
  go_loopw [5, 16] (fun s i wr => ∃ k : Nat, k ≤ n ∧ i = .int .i64 k ∧ s = .int .i64 (rkGo a k : Nat) ∧ Below w.heap.size w wr) (fun _ i _ => n - (intOf i).toNat)
  case atStart => exact ⟨0, Nat.zero_le _, rfl, rfl, hb1⟩
  case round =>
    obtain ⟨k, hk, rfl, rfl, hnx⟩ := hrel
    have ha' := ha.below hnx
    clear ha
    by_cases hlt : k < n
    · obtain ⟨ad, rfl, hca⟩ := ha'.at_ hlt
      have hcut := ha'.cut (k := k) (by omega)
      rw [zs_getD] at hca
      have HS : Hid (rkGo a (k + 1) = rkGo a k * (n - k) + cntLt ((zs a).drop k) (a.getD k 0 : Nat)) := by
        rw [rkGo, HL.out]; exact rfl
      have hq := rkGo_mul (a := a) (k := k) (by rw [HL.out]; exact hn9) (by rw [HL.out]; exact hlt)
      have hc9 := cnt_drop_lt (a := a) (k := k) (by rw [HL.out]; exact hlt)
      rw [HL.out] at hq hc9
      have hp0 : (0 : Int) ≤ (rkGo a k : Nat) * ((n - k : Nat) : Int) := by rw [← Int.natCast_mul]; omega
      have hp1 : (rkGo a k : Nat) * ((n - k : Nat) : Int) ≤ 362880 := by rw [← Int.natCast_mul]; omega
      have HM : Hid (((rkGo a k * (n - k) : Nat) : Int) = (rkGo a k : Nat) * ((n - k : Nat) : Int)) := Int.natCast_mul _ _
      have HC := hide (countSmaller_any (some (ad.add k)) (n - k) (c - k) ((zs a).drop k) ((a.getD k 0 : Nat) : Int) wr hcut)
      clear ha' hcut hq
      generalize a.getD k 0 = x at *
      generalize cntLt ((zs a).drop k) ((x : Nat) : Int) = y at *
      generalize rkGo a k = r at *
      go_wp2_with fail
      refine HC.out.mono ?_
      rintro e w' ⟨rfl, rfl⟩
      go_wp2
      go_roundw
      case rel => exact ⟨k + 1, by omega, by go_num, by rw [HS.out]; have := HM.out; rw [show ((r * (n - k) + y : Nat) : Int) = ((r * (n - k) : Nat) : Int) + (y : Int) from by omega, this], hnx⟩
      case measure => simp [intOf]; omega
    · have HF : Hid (rkGo a k = rankN a) := by
        unfold rankN
        rw [HL.out, show k = n from by omega]; exact rfl
      generalize rkGo a k = r at *
      go_wp2
      go_ret2
      rw [HF.out]
      exact ⟨rfl, hnx⟩

set_option maxHeartbeats 1000000 in
theorem rank_err (A : Option Addr) (n c : Nat) (xs : List Int) (w : World) (ha : IL w A n xs) (hf : pf xs ≠ 0) :
    Calls Try.prog 28 #[.slice A n c] w fun e w' => e = .returned (.tuple #[.int .i64 0, .int .i64 (pf xs)]) ∧ Below w.heap.size w w' := by
  have h2b : (pf xs != 0) = true := by simpa using hf
  clear hf
  go_enter Try.func28, Try.ntmps28
  go_wp2_with fail
  refine (check_any _ _ _ _ _ ha).mono ?_
  rintro e w1 ⟨rfl, hb1⟩
  go_wp2
  go_ret2
  exact ⟨rfl, hb1⟩
end Go.Proofs.Ytpemnhalilefmaa
