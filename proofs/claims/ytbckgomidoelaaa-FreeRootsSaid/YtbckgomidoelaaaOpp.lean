/- timbref1.Opposite: the inverse word. -/
import Derived.Test.YtbckgomidoelaaaFault2
import Derived.Test.YtbckgomidoelaaaSmall2
namespace Go.Proofs.Ytbckgomidoelaaa
set_option linter.unusedVariables false
set_option linter.unusedSimpArgs false
open Go.RowKit

/-- The last k letters of the inverse word. -/
def oppK (xs : List Int) (k : Nat) : List Int := (List.range xs.length).map fun p => if xs.length - 1 - p < k then -(xs.getD (xs.length - 1 - p) 0) else 0
theorem oppK_length (xs : List Int) (k : Nat) : (oppK xs k).length = xs.length := by simp [oppK]
theorem oppK_getD (xs : List Int) (k : Nat) {p : Nat} (hp : p < xs.length) : (oppK xs k).getD p 0 = if xs.length - 1 - p < k then -(xs.getD (xs.length - 1 - p) 0) else 0 := by
  simp [oppK, List.getD, hp]
theorem listI_ext2 {a b : List Int} (hl : a.length = b.length) (h : ∀ i, i < a.length → a.getD i 0 = b.getD i 0) : a = b := by
  refine List.ext_getElem hl fun i h1 h2 => ?_
  have := h i h1
  simpa [List.getD, List.getElem?_eq_getElem h1, List.getElem?_eq_getElem h2] using this
theorem oppK_zero (xs : List Int) : oppK xs 0 = List.replicate xs.length 0 := by
  refine listI_ext2 (by simp [oppK]) fun i hi => ?_
  rw [oppK_length] at hi
  rw [oppK_getD xs 0 hi, if_neg (by omega)]
  simp [List.getD, hi]
theorem oppK_set (xs : List Int) {k : Nat} (hk : k < xs.length) : (oppK xs k).set (xs.length - 1 - k) (-(xs.getD k 0)) = oppK xs (k + 1) := by
  refine listI_ext2 (by simp [oppK]) fun i hi => ?_
  rw [List.length_set, oppK_length] at hi
  rw [oppK_getD xs (k + 1) hi]
  have hs : ((oppK xs k).set (xs.length - 1 - k) (-(xs.getD k 0))).getD i 0 = if i = xs.length - 1 - k then -(xs.getD k 0) else (oppK xs k).getD i 0 := by
    simp only [List.getD, List.getElem?_set]
    by_cases e : i = xs.length - 1 - k
    · have : xs.length - 1 - k < (oppK xs k).length := by rw [oppK_length]; omega
      rw [if_pos e.symm, if_pos e, if_pos this]
      rfl
    · rw [if_neg (fun h => e h.symm), if_neg e]
  rw [hs]
  by_cases e : i = xs.length - 1 - k
  · rw [if_pos e, if_pos (by omega), show xs.length - 1 - i = k by omega]
  · rw [if_neg e, oppK_getD xs k hi]
    by_cases h1 : xs.length - 1 - i < k
    · rw [if_pos h1, if_pos (by omega)]
    · rw [if_neg h1, if_neg (by omega)]
theorem oppK_end (xs : List Int) : oppK xs xs.length = invw xs := by
  refine listI_ext2 (by rw [oppK_length, invw_length]) fun i hi => ?_
  rw [oppK_length] at hi
  rw [oppK_getD xs _ hi, if_pos (by omega)]
  unfold invw
  simp only [List.getD]
  rw [List.getElem?_reverse (by simpa using hi), List.length_map, List.getElem?_map, List.getElem?_eq_getElem (show xs.length - 1 - i < xs.length by omega)]
  rfl

set_option maxHeartbeats 1000000 in
theorem opposite_any (A : Option Addr) (n c : Nat) (xs : List Int) (w : World) (ha : IL w A n xs) (hb : ∀ x ∈ xs, -1000 ≤ x ∧ x ≤ 1000) :
    Calls Try.prog 12 #[.slice A n c] w (GivesOwn w (invw xs)) := by
  have hl := ha.len
  have hna := ha.small
  have HA := hide ha
  have HL := hide hl
  have HB := hide hb
  obtain ⟨i0, hi0, hz0, hz1, hz2⟩ := info_parts int_info
  clear ha hl hb
  go_enter Try.func12, Try.ntmps12
  go_wp2_with (at_make; refine wpList_make_full _ rfl _ _ 22 rfl w.heap.size 3 i0 (.int .i64 0) 1 Try.underlying22 hi0 hz0 hz1 .i64 .i64 _ _ n rfl rfl rfl rfl (by rw [hz2]; omega) (by unfold maxLen; omega) (Nat.le_refl _) ?_; intro w2 hown2 hg2)
  have hB2 : Below w.heap.size w w2 := (Below.refl _ _).grown hg2 (Nat.le_refl _) (by intro k hk; cases hk)
  have hw2 := OwnI.zero (z := #[]) hown2 (by omega)
  have HW2 : Hid (OwnI w2 w.heap.size (some ⟨w.heap.size, 0, none⟩) n n (oppK xs 0)) := by rw [oppK_zero, HL.out]; exact hw2
  clear hown2 hg2 hw2
  go_loopw [11] (fun iv wr => ∃ k : Nat, k ≤ n ∧ iv = .int .i64 k ∧ OwnI wr w.heap.size (some ⟨w.heap.size, 0, none⟩) n n (oppK xs k) ∧ Below w.heap.size w wr) (fun iv _ => n - (intOf iv).toNat)
  case atStart => exact ⟨0, Nat.zero_le _, rfl, HW2.out, hB2⟩
  case round =>
    clear HW2 hB2
    obtain ⟨k, hk, rfl, ho, hb⟩ := hrel
    by_cases hlt : k < n
    · obtain ⟨ad, rfl, hcl⟩ := (HA.out.below hb).at_ hlt
      have hkl : k < xs.length := by rw [HL.out]; exact hlt
      have hm : xs.getD k 0 ∈ xs := by
        rw [show xs.getD k 0 = xs[k] by simp [List.getD, List.getElem?_eq_getElem hkl]]
        exact List.getElem_mem _
      obtain ⟨hx0, hx1⟩ := HB.out _ hm
      have hp : n - 1 - k < n := by omega
      have hcell := ho.cell hp
      have hfr := ho.frozen (n - 1 - k)
      have hN := ho.set_ (n - 1 - k) (-(xs.getD k 0))
      have hset := oppK_set xs hkl
      rw [HL.out] at hset
      rw [hset] at hN
      have HN := hide hN
      have HB2 := hide (hb.setCell (p := ⟨w.heap.size, n - 1 - k, none⟩) (Nat.le_refl _) (.int .i64 (-(xs.getD k 0))))
      obtain ⟨p, hp'⟩ : ∃ p, n - 1 - k = p := ⟨_, rfl⟩
      rw [hp'] at hp hcell hfr HN HB2
      have hidx : (n : Int) - 1 - (k : Int) = (p : Int) := by omega
      generalize xs.getD k 0 = x at *
      clear hm hN hset ho hb hp'
      go_wp2
      go_roundw
      case rel => exact ⟨k + 1, by omega, by go_num, HN.out, HB2.out⟩
      case measure => simp [intOf]; omega
    · have hkn : k = n := by omega
      have HE : Hid (OwnI wr w.heap.size (some ⟨w.heap.size, 0, none⟩) n n (invw xs)) := by
        rw [← oppK_end, HL.out, ← hkn]
        rw [hkn] at ho ⊢
        exact ho
      clear ho hkn
      go_wp2
      go_ret
      exact ⟨_, _, _, rfl, HE.out, hb⟩
end Go.Proofs.Ytbckgomidoelaaa
