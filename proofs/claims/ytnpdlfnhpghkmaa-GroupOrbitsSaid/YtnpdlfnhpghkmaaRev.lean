/- slices.Reverse. -/
import Derived.Test.YtnpdlfnhpghkmaaSort2
namespace Go.Proofs.Ytnpdlfnhpghkmaa
set_option linter.unusedVariables false
set_option linter.unusedSimpArgs false
open Go.RowKit

/-- k places from both ends are exchanged. -/
def revK (xs : List Int) (k : Nat) : List Int := (List.range xs.length).map fun p => if p < k ∨ xs.length - k ≤ p then xs.getD (xs.length - 1 - p) 0 else xs.getD p 0
theorem revK_length (xs : List Int) (k : Nat) : (revK xs k).length = xs.length := by simp [revK]
theorem revK_getD (xs : List Int) (k : Nat) {p : Nat} (hp : p < xs.length) : (revK xs k).getD p 0 = if p < k ∨ xs.length - k ≤ p then xs.getD (xs.length - 1 - p) 0 else xs.getD p 0 := by
  simp [revK, List.getD, hp]
theorem listI_ext : ∀ {a b : List Int}, a.length = b.length → (∀ p, p < a.length → a.getD p 0 = b.getD p 0) → a = b := by
  intro a b hl h
  apply List.ext_getElem hl
  intro i h1 h2
  have := h i h1
  simpa [List.getD, List.getElem?_eq_getElem h1, List.getElem?_eq_getElem h2] using this
theorem revK_zero (xs : List Int) : revK xs 0 = xs := by
  refine listI_ext (revK_length xs 0) fun p hp => ?_
  rw [revK_length] at hp
  rw [revK_getD xs 0 hp, if_neg (by omega)]
theorem revK_end (xs : List Int) {k : Nat} (h : xs.length ≤ 2 * k + 1) : revK xs k = xs.reverse := by
  refine listI_ext (by rw [revK_length, List.length_reverse]) fun p hp => ?_
  rw [revK_length] at hp
  have hr : xs.reverse.getD p 0 = xs.getD (xs.length - 1 - p) 0 := by
    simp only [List.getD]
    rw [List.getElem?_reverse hp]
  rw [revK_getD xs k hp, hr]
  by_cases h1 : p < k ∨ xs.length - k ≤ p
  · rw [if_pos h1]
  · rw [if_neg h1, show xs.length - 1 - p = p by omega]
theorem revK_swap (xs : List Int) {k : Nat} (h : 2 * k + 1 < xs.length) : ((revK xs k).set k (xs.getD (xs.length - 1 - k) 0)).set (xs.length - 1 - k) (xs.getD k 0) = revK xs (k + 1) := by
  refine listI_ext (by simp [revK_length]) fun p hp => ?_
  have hp' : p < xs.length := by simpa [revK_length] using hp
  have hg := revK_getD xs k hp'
  rw [revK_getD xs (k + 1) hp']
  simp only [List.getD] at hg ⊢
  rw [List.getElem?_set]
  by_cases h1 : xs.length - 1 - k = p
  · rw [if_pos h1, if_pos (by simp [revK_length]; omega), if_pos (by omega), show xs.length - 1 - p = k by omega]
    rfl
  · rw [if_neg h1, List.getElem?_set]
    by_cases h2 : k = p
    · rw [if_pos h2, if_pos (by simp [revK_length]; omega), if_pos (by omega), ← h2]
      rfl
    · rw [if_neg h2, hg]
      by_cases h3 : p < k ∨ xs.length - k ≤ p
      · rw [if_pos h3, if_pos (by omega)]
      · rw [if_neg h3, if_neg (by omega)]

set_option maxHeartbeats 4000000 in
theorem reverse_any (A : Option Addr) (n c base : Nat) (xs : List Int) (w : World) (hx : OwnI w base A n c xs) :
    Calls Try.prog 63 #[.slice A n c] w fun e w' => e = .returned (.tuple #[]) ∧ OwnI w' base A n c xs.reverse ∧ w.grownBy w' (Value.slice A n c).ownBlock := by
  have HL := hide hx.len
  have hns := hx.small
  go_enter Try.func63, Try.ntmps63
  go_wp2
  go_loopw [2, 3] (fun iv jv wr => ∃ k : Nat, iv = .int .i64 k ∧ jv = .int .i64 ((n : Int) - 1 - k) ∧ 2 * k ≤ n + 1 ∧ OwnI wr base A n c (revK xs k) ∧ w.grownBy wr (Value.slice A n c).ownBlock) (fun iv _ _ => n + 1 - (intOf iv).toNat)
  case atStart => exact ⟨0, rfl, by simp, by omega, by rw [revK_zero]; exact hx, World.grownBy.refl w _⟩
  case round =>
    clear hx
    obtain ⟨k, rfl, rfl, hk, hown, hgr⟩ := hrel
    by_cases hlt : 2 * k + 1 < n
    · obtain ⟨g, rfl, -, -⟩ := hown.form (by omega)
      obtain ⟨m, hm⟩ : ∃ m : Nat, m = n - 1 - k := ⟨_, rfl⟩
      have hmi : ((n : Int) - 1 - k) = (m : Int) := by omega
      rw [hmi]
      have HMI := hide hmi
      have hkm : k < m := by omega
      have hmn : m < n := by omega
      have HM : Hid (xs.length - 1 - k = m) := hide (by have := HL.out; omega)
      have hc1 := hown.cell (show k < n by omega)
      have hc2 := hown.cell hmn
      have hf1 := hown.frozen k
      have hf2 := hown.frozen m
      rw [revK_getD xs k (by have := HL.out; omega), if_neg (by have := HL.out; omega)] at hc1 hc2
      have HW := hide ((hown.set_ k (xs.getD m 0)).set_ m (xs.getD k 0))
      have HG := hide (grownBy_set (grownBy_set (show w.grownBy wr (some g) from hgr) k (.int .i64 (xs.getD m 0))) m (.int .i64 (xs.getD k 0)))
      have HS := hide (revK_swap xs (k := k) (by have := HL.out; omega))
      rw [HM.out] at HS
      clear hown hgr hm hmi
      generalize xs.getD k 0 = x at *
      generalize xs.getD m 0 = y at *
      have hki : (k : Int) < (n : Int) := by omega
      have hmj : (m : Int) < (n : Int) := by omega
      have hwk : IntKind.i64.wrap (k : Int) = (k : Int) := by rw [IntKind.wrap_i64]; omega
      have hwm : IntKind.i64.wrap (m : Int) = (m : Int) := by rw [IntKind.wrap_i64]; omega
      go_wp2_with fail
      go_region
      go_wp2
      go_roundw
      case rel => exact ⟨k + 1, by go_num, by have h := HMI.out; go_num, by omega, by rw [← HS.out]; exact HW.out.drew, ⟨HG.out.os, HG.out.tape, HG.out.output, HG.out.size, HG.out.block⟩⟩
      case measure => simp [intOf]; omega
    · have HE := hide (revK_end xs (k := k) (by have := HL.out; omega))
      rw [HE.out] at hown
      have hb : ¬ ((k : Int) < (n : Int) - 1 - k) := by omega
      go_wp2
      go_end0
      exact ⟨rfl, hown, hgr⟩
end Go.Proofs.Ytnpdlfnhpghkmaa
