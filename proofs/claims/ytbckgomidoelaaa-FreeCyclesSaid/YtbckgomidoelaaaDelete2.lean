/- slices.Delete of two elements of a slice that the call owns. -/
import Derived.Test.YtbckgomidoelaaaDelete
namespace Go.Proofs.Ytbckgomidoelaaa
set_option linter.unusedVariables false
set_option linter.unusedSimpArgs false
open Go.RowKit

/-- The list without its elements i and i + 1. -/
def without2 (xs : List Int) (i : Nat) : List Int := xs.take i ++ xs.drop (i + 2)
theorem without2_length {xs : List Int} {i : Nat} (h : i + 2 ≤ xs.length) : (without2 xs i).length = xs.length - 2 := by simp [without2]; omega
theorem deleted2 {xs : List Int} {n i : Nat} (hl : xs.length = n) (hi : i + 2 ≤ n) : (((setMany xs i (xs.drop (i + 2))).set (n - 2) 0).set (n - 2 + 1) 0).take (n - 2) = without2 xs i := by
  have hx : (setMany xs i (xs.drop (i + 2))).length = n := by rw [setMany_length, hl]
  apply List.ext_getElem?
  intro j
  by_cases hj : j < n - 2
  · rw [List.getElem?_take, if_pos hj, List.getElem?_set, if_neg (by omega), List.getElem?_set, if_neg (by omega)]
    have h1 := setMany_getD (xs.drop (i + 2)) xs i j (by simp; omega)
    have h2 : ((setMany xs i (xs.drop (i + 2)))[j]?) = some ((setMany xs i (xs.drop (i + 2))).getD j 0) := by
      simp [List.getD, List.getElem?_eq_getElem (show j < (setMany xs i (xs.drop (i + 2))).length by omega)]
    rw [h2, h1]
    have h3 : (without2 xs i)[j]? = some ((without2 xs i).getD j 0) := by
      simp [List.getD, List.getElem?_eq_getElem (show j < (without2 xs i).length by rw [without2_length (by omega)]; omega)]
    rw [h3]
    congr 1
    by_cases hji : j < i
    · rw [if_neg (by omega)]
      simp only [without2, List.getD, List.getElem?_append, List.length_take, List.getElem?_take]
      rw [if_pos (by omega), if_pos hji]
    · rw [if_pos (by simp; omega)]
      simp only [without2, List.getD, List.getElem?_append, List.length_take, List.getElem?_drop]
      rw [if_neg (by omega), show min i xs.length = i from by omega]
  · rw [List.getElem?_eq_none (by simp; omega), List.getElem?_eq_none (by rw [without2_length (by omega)]; omega)]

theorem run_clear_two (w : World) (ty : TypeId) (b o cap : Nat) {v v' : Value} (hc : w.cell? ⟨b, o, none⟩ = some v) (hf : w.frozen? ⟨b, o, none⟩ = false) (hc' : (w.setCell ⟨b, o, none⟩ (.int .i64 0)).cell? ⟨b, o + 1, none⟩ = some v') (hf' : (w.setCell ⟨b, o, none⟩ (.int .i64 0)).frozen? ⟨b, o + 1, none⟩ = false) :
    (Builtin.clear_ #[22] ty #[.slice (some ⟨b, o, none⟩) 2 cap]).run Try.prog w = .ok (.tuple #[]) ((w.setCell ⟨b, o, none⟩ (.int .i64 0)).setCell ⟨b, o + 1, none⟩ (.int .i64 0)) := by
  obtain ⟨i0, hi0, hz0, hz1, hz2⟩ := info_parts int_info
  have e : (⟨b, o, none⟩ : Addr).add 1 = ⟨b, o + 1, none⟩ := by simp [Addr.add]
  simp [Builtin.clear_, run_underlying Try.underlying22, zeroValue, typeInfo, hi0, hz0, storeCells, Builtin.zeroCells, go_sem, hc, hf, e, hc', hf']
theorem run_clear_tail2 (w : World) (ty : TypeId) {base g n c i m d : Nat} {xs : List Int} (h : OwnI w base (some ⟨g, 0, none⟩) n c xs) (hi : i + 2 = n) (hm : m = 2) :
    (Builtin.clear_ #[22] ty #[.slice (some ⟨g, i, none⟩) m d]).run Try.prog w = .ok (.tuple #[]) ((w.setCell ⟨g, i, none⟩ (.int .i64 0)).setCell ⟨g, i + 1, none⟩ (.int .i64 0)) := by
  subst hm
  exact run_clear_two w ty g i d (h.cell (by omega)) (h.frozen i) ((h.set_ i 0).cell (by omega)) ((h.set_ i 0).frozen (i + 1))

set_option maxHeartbeats 1600000 in
set_option maxRecDepth 1000000 in
theorem delete2_any (base g n c i : Nat) (xs : List Int) (w : World) (h : OwnI w base (some ⟨g, 0, none⟩) n c xs) (hi : i + 2 ≤ n) :
    Calls Try.prog 31 #[.slice (some ⟨g, 0, none⟩) n c, .int .i64 i, .int .i64 ((i : Int) + 2)] w fun e w' => e = .returned (.slice (some ⟨g, 0, none⟩) (n - 2) c) ∧ OwnI w' base (some ⟨g, 0, none⟩) (n - 2) c (without2 xs i) ∧ w.grownBy w' (some g) := by
  obtain ⟨i0, hi0, hz0, hz1, hz2⟩ := info_parts int_info
  have hcap := h.cap
  have hsm := h.small
  have HL := hide h.len
  have hcm : c ≤ 9223372036854775807 := by
    rcases h.own.2 with ⟨hv, _⟩ | ⟨g', cap, cur, hv, _, _, _, hcm, _⟩
    · cases hv
    · simp only [Value.slice.injEq, true_and] at hv
      obtain ⟨_, rfl⟩ := hv
      unfold maxLen at hcm
      exact hcm
  obtain ⟨B, hB⟩ : ∃ B : Addr, (if c = i + 2 then some (⟨g, 0, none⟩ : Addr) else some ⟨g, i + 2, none⟩) = some B := by
    by_cases h : c = i + 2
    · exact ⟨_, if_pos h⟩
    · exact ⟨_, if_neg h⟩
  have hnews : Hid (∀ j u, ((xs.drop (i + 2)).map (Value.int .i64))[j]? = some u → w.drew.cell? (B.add j) = some u) := by
    intro j u hu
    have ht := h.il.tail (k := i + 2) (d := c) (by omega) hcap
    rw [Nat.zero_add, hB] at ht
    have hj : j < n - (i + 2) := by
      have := (List.getElem?_eq_some_iff.1 hu).1
      simp at this
      have := HL.out
      omega
    obtain ⟨ad, e, hc⟩ := ht.at_ hj
    injection e with e
    subst e
    show w.cell? _ = _
    rw [hc, ← hu]
    simp [List.getD, show i + 2 + j < xs.length by have := HL.out; omega]
  have s1 : Hid (((xs.drop (i + 2)).map (Value.int .i64)).length = (n - (i + 2)) * 1) := by
    have := HL.out
    show _ = _
    simp
    omega
  have s2 : Hid (∀ u ∈ (xs.drop (i + 2)).map (Value.int .i64), u.oneCell' = true) := ints_oneCell _ _
  have s3 : Hid (∀ j, j < ((xs.drop (i + 2)).map (Value.int .i64)).length → (w.drew.cell? ⟨g, 0 + i * 1 + j, none⟩).isSome = true ∧ w.drew.frozen? ⟨g, 0 + i * 1 + j, none⟩ = false) := by
    intro j hj
    rw [s1.out] at hj
    refine ⟨?_, h.frozen _⟩
    show (w.cell? _).isSome = true
    rw [h.cell (by omega)]
    rfl
  have hic : i ≤ c := by omega
  have hwr : IntKind.i64.wrap ((i : Int) + 2) = (i : Int) + 2 := by rw [IntKind.wrap_i64]; omega
  have hp0 : (0 : Int) ≤ (i : Int) + 2 := by omega
  have hp1 : (i : Int) + 2 ≤ (n : Int) := by omega
  have hp2 : ((i : Int) + 2).toNat = i + 2 := by omega
  have HO : Hid (OwnI (w.drew.setCells g i (List.drop (i + 2) (List.map (Value.int .i64) xs))) base (some ⟨g, 0, none⟩) n c (setMany xs i (xs.drop (i + 2)))) := by
    have h1 : OwnI w.drew base (some ⟨g, 0, none⟩) n c xs := h.drew
    rw [← List.map_drop]
    exact h1.setCells _ i
  have HG : Hid (w.grownBy (w.drew.setCells g i (List.drop (i + 2) (List.map (Value.int .i64) xs))) (some g)) := grownBy_setCells g _ _ _ _ (grownBy_drew (World.grownBy.refl w _))
  have hclr := run_clear_tail2 (w.drew.setCells g i (List.drop (i + 2) (List.map (Value.int .i64) xs))) 0 (i := i + (n - (i + 2))) (m := n - (i + (n - (i + 2)))) (d := c - (i + (n - (i + 2)))) HO.out (by omega) (by omega)
  clear h
  go_enter Try.func31, Try.ntmps31
  go_wp2_with fail
  go_region_law (refine step_append_room rfl (.tmp 22) (.tmp 25) 22 rfl 3 i0 1 Try.underlying22 hi0 hz1 g 0 i c (by simp [Act.eval, Act.put]) B (n - (i + 2)) (c - (i + 2)) ((xs.drop (i + 2)).map (Value.int .i64)) (by simp [Act.eval, Act.put]) s1.out hnews.out s2.out (by omega) s3.out ?_)
  go_wp2
  go_ret
  have e1 : i + (n - (i + 2)) = n - 2 := by omega
  rw [e1]
  refine ⟨rfl, ?_, ?_⟩
  · have h2 := ((HO.out.set_ (n - 2) 0).set_ (n - 2 + 1) 0).shrink (m := n - 2) (by omega) (by omega)
    rw [deleted2 HL.out hi] at h2
    exact h2
  · exact grownBy_setCells g [Value.int .i64 0, Value.int .i64 0] (n - 2) _ _ HG.out
end Go.Proofs.Ytbckgomidoelaaa
