/- perm.Check. -/
import Derived.Test.YtnpdlfnhpghkmaaBase
import Derived.Test.YtnpdlfnhpghkmaaProg
import Derived.WalkKit
import Derived.Deep.QuietTactic
import Derived.BigQuiet
import Derived.WalkSpells
import Derived.WalkLawsBesides
import Derived.Outline
namespace Go.Proofs.Ytnpdlfnhpghkmaa
set_option linter.unusedVariables false
set_option linter.unusedSimpArgs false
open Go.RowKit

/-- The array 'seen': which of 0 to 8 lie in xs. -/
def seenA (xs : List Int) : Array Value := ((List.range 9).map fun j : Nat => Value.bool (decide ((j : Int) ∈ xs))).toArray
theorem seenA_get (xs : List Int) (j : Nat) (hj : j < 9) : (seenA xs)[j]? = some (.bool (decide ((j : Int) ∈ xs))) := by
  simp [seenA, hj]
theorem seenA_set (xs : List Int) (j : Nat) : (seenA xs).setIfInBounds j (.bool true) = seenA (xs ++ [(j : Int)]) := by
  apply Array.ext_getElem?
  intro i
  by_cases hi : i < 9
  · rw [seenA_get _ i hi, Array.getElem?_setIfInBounds]
    by_cases hij : j = i
    · subst hij
      have : j < (seenA xs).size := by simp [seenA]; omega
      simp [this]
    · rw [if_neg hij, seenA_get _ i hi]
      have : ¬ ((i : Int) = (j : Int)) := by omega
      simp [this]
  · rw [Array.getElem?_eq_none (by simp [seenA]; omega), Array.getElem?_eq_none (by simp [seenA]; omega)]

theorem pf_big {xs : List Int} (h : 9 < xs.length) : pf xs = 2 := by unfold pf; rw [if_pos h]
theorem pf_small {xs : List Int} (h : xs.length ≤ 9) : pf xs = pfGo xs.length [] xs := by unfold pf; rw [if_neg (by omega)]
theorem take_snoc (xs : List Int) (k : Nat) (h : k < xs.length) : xs.take (k + 1) = xs.take k ++ [xs.getD k 0] := by
  rw [List.take_succ_eq_append_getElem h]
  simp [List.getD, List.getElem?_eq_getElem h]

set_option maxHeartbeats 1000000 in
theorem check_any (A : Option Addr) (n c : Nat) (xs : List Int) (w : World) (ha : IL w A n xs) :
    Calls Try.prog 36 #[.slice A n c] w fun e w' => e = .returned (.int .i64 (pf xs)) ∧ Below w.heap.size w w' := by
  have hna := ha.small
  have HL := hide ha.len
  by_cases h9 : 9 < n
  · have HE := hide (pf_big (xs := xs) (by have := HL.out; omega))
    clear ha
    go_enter Try.func36, Try.ntmps36
    go_wp2
    go_ret
    rw [HE.out]
    exact ⟨rfl, Below.refl _ _⟩
  · go_enter Try.func36, Try.ntmps36
    go_wp2
    go_loopw [11] (fun i wr => ∃ k : Nat, k ≤ n ∧ i = .int .i64 k ∧ Hid (pf xs = pfGo xs.length (xs.take k) (xs.drop k)) ∧ Blk wr w.heap.size 75 (seenA (xs.take k)) ∧ Below w.heap.size w wr) (fun i _ => n - (intOf i).toNat)
    case atStart => exact ⟨0, Nat.zero_le _, rfl, pf_small (by have := HL.out; omega), Blk.new _ _ _, (Below.refl _ _).alloc (Nat.le_refl _) _⟩
    case round =>
      obtain ⟨k, hk, rfl, hpf, hblk, hnx⟩ := hrel
      have ha' := ha.below hnx
      by_cases hlt : k < n
      · obtain ⟨ad, rfl, hca⟩ := ha'.at_ hlt
        have HT := hide (take_snoc xs k (by have := HL.out; omega))
        have HP := hide (pf_step (xs := xs) (k := k) (by have := HL.out; omega))
        clear ha ha'
        generalize xs.getD k 0 = x at *
        by_cases h1 : x < 0
        · have HE : Hid (pf xs = 1) := by rw [hpf.out, HP.out, if_pos (.inl h1)]; exact rfl
          go_wp2
          go_ret
          rw [HE.out]
          exact ⟨rfl, hnx⟩
        · by_cases h2 : (n : Int) ≤ x
          · have HE : Hid (pf xs = 1) := by rw [hpf.out, HP.out, if_pos (.inr (by rw [HL.out]; exact h2))]; exact rfl
            go_wp2
            go_ret
            rw [HE.out]
            exact ⟨rfl, hnx⟩
          · obtain ⟨u, rfl⟩ : ∃ u : Nat, x = (u : Int) := ⟨x.toNat, by omega⟩
            have hu9 : u < 9 := by omega
            have hun : u < n := by omega
            have hcell := (hblk.cell u).trans (seenA_get _ u hu9)
            have hfr := hblk.frozen u
            by_cases h3 : (u : Int) ∈ xs.take k
            · have HE : Hid (pf xs = 5) := by rw [hpf.out, HP.out, if_neg (by rw [HL.out]; omega), if_pos h3]; exact rfl
              rw [decide_eq_true h3] at hcell
              clear h3
              go_wp2
              go_ret
              rw [HE.out]
              exact ⟨rfl, hnx⟩
            · have HE : Hid (pf xs = pfGo xs.length (xs.take (k + 1)) (xs.drop (k + 1))) := by rw [hpf.out, HP.out, if_neg (by rw [HL.out]; omega), if_neg h3]; exact rfl
              rw [decide_eq_false h3] at hcell
              clear h3
              go_wp2
              go_roundw
              case rel => exact ⟨k + 1, by omega, by go_num, HE, by rw [HT.out, ← seenA_set]; exact hblk.set_ _ _, hnx.setCell (Nat.le_refl _) _⟩
              case measure => simp [intOf]; omega
      · have HE : Hid (pf xs = 0) := by rw [hpf.out, pf_end xs _ k (by rw [HL.out]; omega)]; exact rfl
        go_wp2
        go_ret
        rw [HE.out]
        exact ⟨rfl, hnx⟩
end Go.Proofs.Ytnpdlfnhpghkmaa
