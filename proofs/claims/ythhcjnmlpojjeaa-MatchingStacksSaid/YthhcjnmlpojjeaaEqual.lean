/- slices.Equal at integers. -/
import Derived.Test.YthhcjnmlpojjeaaBase1
import Derived.Test.YthhcjnmlpojjeaaProg
import Derived.WalkKit
import Derived.Deep.QuietTactic
import Derived.BigQuiet
import Derived.WalkSpells
import Derived.WalkLawsBesides
import Derived.Outline
namespace Go.Proofs.Ythhcjnmlpojjeaa
set_option linter.unusedVariables false
set_option linter.unusedSimpArgs false
open Go.RowKit

theorem eq_take_ne {xs ys : List Int} {k : Nat} (hl : xs.length = ys.length) (hk : k < xs.length) (h : xs.getD k 0 ≠ ys.getD k 0) : xs ≠ ys := by
  rintro rfl; exact h rfl
theorem eq_of_getD {xs ys : List Int} (hl : xs.length = ys.length) (h : ∀ j, j < xs.length → xs.getD j 0 = ys.getD j 0) : xs = ys := by
  apply List.ext_getElem hl
  intro i h1 h2
  have := h i h1
  simpa [List.getD, List.getElem?_eq_getElem h1, List.getElem?_eq_getElem h2] using this

theorem same_succ {xs ys : List Int} {k : Nat} (h : ∀ j, j < k → xs.getD j 0 = ys.getD j 0) (hk : xs.getD k 0 = ys.getD k 0) : ∀ j, j < k + 1 → xs.getD j 0 = ys.getD j 0 := fun j hj => by
  rcases Nat.lt_or_ge j k with h1 | h1
  · exact h j h1
  · obtain rfl : j = k := by omega
    exact hk

set_option maxHeartbeats 1000000 in
theorem equal_any (A B : Option Addr) (n m c d : Nat) (xs ys : List Int) (w : World) (ha : IL w A n xs) (hb : IL w B m ys) :
    Calls Try.prog 14 #[.slice A n c, .slice B m d] w fun e w' => e = .returned (.bool (eqB xs ys)) ∧ Below w.heap.size w w' := by
  have hna := ha.small
  have hnb := hb.small
  have hla := ha.len
  have hlb := hb.len
  have HL : Hid (xs.length = n ∧ ys.length = m) := ⟨hla, hlb⟩
  clear hla hlb
  by_cases hnm : n = m
  · subst hnm
    go_enter Try.func14, Try.ntmps14
    go_wp2
    go_loopw [13] (fun i wr => ∃ k : Nat, k ≤ n ∧ i = .int .i64 k ∧ Hid (∀ j, j < k → xs.getD j 0 = ys.getD j 0) ∧ Below w.heap.size w wr) (fun i _ => n - (intOf i).toNat)
    case atStart => exact ⟨0, Nat.zero_le _, rfl, (fun j hj => absurd hj (by omega)), Below.refl _ _⟩
    case round =>
      obtain ⟨k, hk, rfl, hsame, hnx⟩ := hrel
      have ha' := ha.below hnx
      have hb' := hb.below hnx
      by_cases hlt : k < n
      · obtain ⟨ad, rfl, hca⟩ := ha'.at_ hlt
        obtain ⟨bd, rfl, hcb⟩ := hb'.at_ hlt
        clear ha hb ha' hb'
        by_cases hne : xs.getD k 0 = ys.getD k 0
        · have hbne : ((xs.getD k 0) != (ys.getD k 0)) = false := by rw [hne]; simp
          have HS := hide (same_succ hsame.out hne)
          clear hne hsame
          generalize xs.getD k 0 = x at *
          generalize ys.getD k 0 = y at *
          go_wp2
          go_quiet (fail)
          go_wp2
          go_roundw
          case rel => exact ⟨k + 1, by omega, by go_num, HS, below_drewN hnx _⟩
          case measure => simp [intOf]; omega
        · have hbne : ((xs.getD k 0) != (ys.getD k 0)) = true := by simpa using hne
          have HE := hide (eqB_false (eq_take_ne (HL.out.1.trans HL.out.2.symm) (by have := HL.out.1; omega) hne))
          clear hne hsame
          generalize xs.getD k 0 = x at *
          generalize ys.getD k 0 = y at *
          go_wp2
          go_quiet (fail)
          go_wp2
          go_ret
          rw [HE.out]
          exact ⟨rfl, below_drewN hnx _⟩
      · have HE := hide (eqB_true (eq_of_getD (HL.out.1.trans HL.out.2.symm) (fun j hj => hsame.out j (by have := HL.out.1; omega))))
        go_wp2
        go_ret
        rw [HE.out]
        exact ⟨rfl, hnx⟩
  · have HE := hide (eqB_false (xs := xs) (ys := ys) (fun h => hnm (by have := HL.out.1; have := HL.out.2; subst h; omega)))
    have hb1 : ((n : Int) != (m : Int)) = true := by simp; omega
    clear ha hb
    go_enter Try.func14, Try.ntmps14
    go_wp2
    go_ret
    rw [HE.out]
    exact ⟨rfl, Below.refl _ _⟩
end Go.Proofs.Ythhcjnmlpojjeaa
