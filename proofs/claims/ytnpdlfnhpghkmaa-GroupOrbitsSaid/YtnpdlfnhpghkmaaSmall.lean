/- Small functions over permutations: compose, identity, countSmaller, Below. -/
import Derived.Test.YtnpdlfnhpghkmaaBase
import Derived.Test.YtnpdlfnhpghkmaaProg
import Derived.WalkKit
import Derived.Deep.QuietTactic
import Derived.BigQuiet
import Derived.WalkSpells
import Derived.WalkLawsBesides
import Derived.Outline
namespace Go.Proofs.Ytnpdlfnhpghkmaa
set_option linter.unusedVariables false
set_option linter.unusedSimpArgs false
open Go.RowKit

theorem int_info : (Try.prog.info? 3).map (fun i => (i.zero, i.size, i.bytes)) = some (some (.int .i64 0), 1, 8) := by kernel_rfl

/-- The result of a function that makes a slice. -/
def GivesOwn (w : World) (xs : List Int) (e : Ending) (w' : World) : Prop :=
  ∃ A n c, e = .returned (.slice A n c) ∧ OwnI w' w.heap.size A n c xs ∧ Below w.heap.size w w'

theorem add_zero_block (g j : Nat) : (⟨g, 0, none⟩ : Addr).add j = ⟨g, j, none⟩ := by unfold Addr.add; split <;> simp_all

set_option maxHeartbeats 1000000 in
theorem pcompose_any (A B : Option Addr) (n m c d : Nat) (a b : List Nat) (w : World) (ha : IL w A n (zs a)) (hb : IL w B m (zs b)) (hab : ∀ x ∈ a, x < b.length) :
    Calls Try.prog 64 #[.slice A n c, .slice B m d] w (GivesOwn w (zs (comp a b))) := by
  have hna := ha.small
  have hnb := hb.small
  have HL : Hid (a.length = n ∧ b.length = m) := ⟨by have := ha.len; rwa [zs_length] at this, by have := hb.len; rwa [zs_length] at this⟩
  have HAB := hide hab
  clear hab
  obtain ⟨i0, hi0, hz0, hz1, hz2⟩ := info_parts int_info
  go_enter Try.func64, Try.ntmps64
  go_wp2_with (at_make; refine wpList_make_full _ rfl _ _ 23 rfl w.heap.size 3 i0 (.int .i64 0) 1 Try.underlying23 hi0 hz0 hz1 .i64 .i64 _ _ n rfl rfl rfl rfl (by rw [hz2]; omega) (by unfold maxLen; omega) (Nat.le_refl _) ?_; intro w1 hown1 hg1)
  have hB1 : Below w.heap.size w w1 := (Below.refl _ _).grown hg1 (Nat.le_refl _) (by intro k hk; cases hk)
  have hw1 := OwnI.zero (z := #[]) hown1 (by omega)
  clear hown1 hg1
  go_loopw [13] (fun i wr => ∃ k : Nat, k ≤ n ∧ i = .int .i64 k ∧ OwnI wr w.heap.size (some ⟨w.heap.size, 0, none⟩) n n (fillN (fun j => (zs (comp a b)).getD j 0) n k) ∧ Below w.heap.size w wr) (fun i _ => n - (intOf i).toNat)
  case atStart => exact ⟨0, Nat.zero_le _, rfl, by rw [fillN_zero]; exact hw1, hB1⟩
  case round =>
    obtain ⟨k, hk, rfl, hown, hnx⟩ := hrel
    have ha' := ha.below hnx
    have hb' := hb.below hnx
    clear ha hb hw1 hB1
    by_cases hlt : k < n
    · obtain ⟨ad, rfl, hca⟩ := ha'.at_ hlt
      rw [zs_getD] at hca
      have hx : a.getD k 0 < m := by
        have hlk : k < a.length := by have := HL.out; omega
        have := HAB.out (a.getD k 0) (by simp [List.getD, List.getElem?_eq_getElem hlk])
        have := HL.out
        omega
      obtain ⟨bd, rfl, hcb⟩ := hb'.at_ hx
      rw [zs_getD] at hcb
      have HV : Hid ((zs (comp a b)).getD k 0 = ((b.getD (a.getD k 0) 0 : Nat) : Int)) := by
        rw [zs_getD, comp_getD (by have := HL.out; omega)]; exact rfl
      have hcell := hown.cell hlt
      have hfr := hown.frozen k
      have HS := hide (hown.set_ k ((zs (comp a b)).getD k 0))
      clear ha' hb' hown
      generalize a.getD k 0 = x at *
      generalize b.getD x 0 = y at *
      generalize hz : (fillN (fun j => (zs (comp a b)).getD j 0) n k).getD k 0 = z at *
      clear hz
      go_wp2
      go_roundw
      case rel =>
        refine ⟨k + 1, by omega, by go_num, ?_, hnx.setCell (Nat.le_refl _) _⟩
        have := HS.out
        rw [fillN_set (fun j => (zs (comp a b)).getD j 0), HV.out] at this
        exact this
      case measure => simp [intOf]; omega
    · have HF : Hid (fillN (fun j => (zs (comp a b)).getD j 0) n k = zs (comp a b)) := by
        obtain rfl : k = n := by omega
        exact fillN_full (by rw [zs_length, comp_length]; exact HL.out.1) (fun _ _ => rfl)
      go_wp2
      go_ret
      refine ⟨_, _, _, rfl, ?_, hnx⟩
      rw [HF.out] at hown
      exact hown
end Go.Proofs.Ytnpdlfnhpghkmaa
