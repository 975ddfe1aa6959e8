/- timblaw1.permuted, and the laws PermChecks. -/
import Derived.Test.YtpemnhalilefmaaFault
import Derived.Test.YtpemnhalilefmaaOrder
import Derived.Test.YtpemnhalilefmaaRank
import Derived.Test.YtpemnhalilefmaaEqual
namespace Go.Proofs.Ytpemnhalilefmaa
open Go.RowKit

theorem isP201 : isP [2, 0, 1] := by unfold isP; decide

set_option maxHeartbeats 1000000 in
theorem lpermuted_any (w : World) : Calls Try.prog 11 #[] w fun e w' => e = .returned (.bool true) ∧ Below w.heap.size w w' := by
  go_enter Try.func11, Try.ntmps11
  go_wp2_with fail
  refine (rank_ok _ 3 3 [2, 0, 1] _ (IL.lit w (zs [2, 0, 1]) (by decide) rfl rfl) (by omega) isP201 (by decide)).mono ?_
  rw [show rankN [2, 0, 1] = 4 from by decide]
  rintro e w1 ⟨rfl, hb1⟩
  have hb01 : Below w.heap.size w w1 := ((Below.refl _ _).alloc (Nat.le_refl _) _).trans (hb1.mono (by simp))
  clear hb1
  have hsz := hb01.size
  go_wp2_with fail
  refine (order_ok _ 3 3 [2, 0, 1] _ (IL.lit w1 (zs [2, 0, 1]) (by decide) rfl rfl) isP201 (by decide)).mono ?_
  rw [show ordL (cycs [2, 0, 1]) = 3 from by decide]
  rintro e w2 ⟨rfl, hb2⟩
  have hb02 : Below w.heap.size w w2 := (hb01.alloc hsz _).trans (hb2.mono (Nat.le_trans hsz (by simp)))
  clear hb2
  go_wp2
  go_ret
  exact ⟨rfl, hb02⟩

set_option maxHeartbeats 1000000 in
theorem permChecks_any (A : Option Addr) (n c : Nat) (xs : List Int) (w : World) (ha : IL w A n xs) :
    Calls Try.prog 3 #[.slice A n c] w fun e w' => e = .returned (.bool true) ∧ Below w.heap.size w w' := by
  go_enter Try.func3, Try.ntmps3
  go_wp2_with fail
  refine (lpermuted_any _).mono ?_
  rintro e w1 ⟨rfl, hb1⟩
  have ha1 := ha.below hb1
  go_wp2_with fail
  refine (check_any _ _ _ _ _ ha1).mono ?_
  rintro e w2 ⟨rfl, hb2⟩
  have ha2 := ha1.below hb2
  have hb02 := hb1.trans (hb2.mono hb1.size)
  clear hb1 hb2 ha ha1
  go_wp2_with fail
  refine (fault_any _ _ _ _ _ ha2).mono ?_
  generalize pf xs = f at *
  rintro e w3 ⟨rfl, hb3⟩
  have hb03 := hb02.trans (hb3.mono hb02.size)
  go_wp2
  go_ret
  exact ⟨rfl, hb03⟩
end Go.Proofs.Ytpemnhalilefmaa
