/- slices.EqualFunc for lists of lists that are the same: timblaw1.lists, timbkeep1.ArtinRelations. -/
import Derived.Test.YthhcjnmlpojjeaaSl
import Derived.Test.YthhcjnmlpojjeaaEqual
namespace Go.Proofs.Ythhcjnmlpojjeaa
set_option linter.unusedVariables false
set_option linter.unusedSimpArgs false
open Go.RowKit

theorem lists1_any (A B : Option Addr) (n m c d : Nat) (xs ys : List Int) (w : World) (ha : IL w A n xs) (hb : IL w B m ys) :
    Calls Try.prog 49 #[.slice A n c, .slice B m d] w fun e w' => e = .returned (.bool (eqB xs ys)) ∧ Below w.heap.size w w' := by
  have HC := hide (equal_any A B n m c d xs ys w ha hb)
  clear ha hb
  go_enter Try.func49, Try.ntmps49
  go_wp2_with fail
  refine HC.out.mono ?_
  rintro e w1 ⟨rfl, hb1⟩
  go_wp2
  go_ret
  exact ⟨rfl, hb1⟩

set_option maxHeartbeats 1000000 in
theorem equalFunc_yes (A B : Option Addr) (n m c d : Nat) (xss : List (List Int)) (w : World) (ha : ILL w A n xss) (hb : ILL w B m xss) :
    Calls Try.prog 48 #[.slice A n c, .slice B m d, .func (.func 49) #[] #[]] w fun e w' => e = .returned (.bool true) ∧ Below w.heap.size w w' := by
  have hnm : n = m := by rw [← ha.len, ← hb.len]
  subst hnm
  have hsm := ha.small
  go_enter Try.func48, Try.ntmps48
  go_wp2
  go_loopw [17] (fun i wr => ∃ k : Nat, k ≤ n ∧ i = .int .i64 k ∧ Below w.heap.size w wr) (fun i _ => n - (intOf i).toNat)
  case atStart => exact ⟨0, Nat.zero_le _, rfl, Below.refl _ _⟩
  case round =>
    obtain ⟨k, hk, rfl, hnx⟩ := hrel
    have ha' := ha.below hnx
    have hb' := hb.below hnx
    have HA := hide (And.intro ha hb)
    clear ha hb
    by_cases hlt : k < n
    · obtain ⟨ad, B8, m8, d8, rfl, hc8, hi8⟩ := ha'.at_ hlt
      obtain ⟨bd, B9, m9, d9, rfl, hc9, hi9⟩ := hb'.at_ hlt
      have HC := hide (lists1_any B8 B9 m8 m9 d8 d9 _ _ wr hi8 hi9)
      have HE : Hid (eqB (xss.getD k []) (xss.getD k []) = true) := eqB_true rfl
      rw [HE.out] at HC
      clear ha' hb' hi8 hi9
      go_wp2_with fail
      refine HC.out.mono ?_
      rintro e w2 ⟨rfl, hb2⟩
      have hb02 := hnx.trans (hb2.mono hnx.size)
      clear hb2
      go_wp2
      go_roundw
      case rel => exact ⟨k + 1, by omega, by go_num, hb02⟩
      case measure => simp [intOf]; omega
    · go_wp2
      go_ret
      exact ⟨rfl, hnx⟩

set_option maxHeartbeats 1000000 in
theorem lists_yes (A B : Option Addr) (n m c d : Nat) (xss : List (List Int)) (w : World) (ha : ILL w A n xss) (hb : ILL w B m xss) :
    Calls Try.prog 22 #[.slice A n c, .slice B m d] w fun e w' => e = .returned (.bool true) ∧ Below w.heap.size w w' := by
  have HC := hide (equalFunc_yes A B n m c d xss w ha hb)
  clear ha hb
  go_enter Try.func22, Try.ntmps22
  go_wp2_with fail
  refine HC.out.mono ?_
  rintro e w1 ⟨rfl, hb1⟩
  go_wp2
  go_ret
  exact ⟨rfl, hb1⟩
end Go.Proofs.Ythhcjnmlpojjeaa
