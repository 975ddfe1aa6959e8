/- slices.Delete of one element of a slice that the call owns. -/
import Derived.Test.YtgmjighgncpefaaSmall2
import Derived.Test.YtgmjighgncpefaaBase
namespace Go.Proofs.Ytgmjighgncpefaa
set_option linter.unusedVariables false
set_option linter.unusedSimpArgs false
open Go.RowKit

/-- ys written over xs from o on. -/
def setMany (xs : List Int) (o : Nat) : List Int → List Int
  | [] => xs
  | y :: ys => setMany (xs.set o y) (o + 1) ys
theorem setMany_length : ∀ (ys xs : List Int) (o : Nat), (setMany xs o ys).length = xs.length
  | [], _, _ => rfl
  | y :: ys, xs, o => by rw [setMany, setMany_length ys]; simp
theorem setMany_getD : ∀ (ys xs : List Int) (o j : Nat), o + ys.length ≤ xs.length → (setMany xs o ys).getD j 0 = if o ≤ j ∧ j < o + ys.length then ys.getD (j - o) 0 else xs.getD j 0
  | [], xs, o, j, _ => by rw [setMany, if_neg (by simp)]
  | y :: ys, xs, o, j, h => by
    simp only [List.length_cons] at h
    rw [setMany, setMany_getD ys _ _ _ (by simp; omega)]
    by_cases h1 : o + 1 ≤ j ∧ j < o + 1 + ys.length
    · rw [if_pos h1, if_pos (by simp; omega)]
      rw [show j - o = (j - (o + 1)) + 1 from by omega]
      simp [List.getD]
    · rw [if_neg h1]
      by_cases h2 : j = o
      · subst h2
        rw [if_pos (by simp)]
        simp [List.getD, show j < xs.length by omega]
      · rw [if_neg (by simp; omega)]
        have : ¬ o = j := fun e => h2 e.symm
        simp [List.getD, List.getElem?_set, this]

section
variable {w w' : World} {base g n c : Nat} {xs : List Int}
theorem OwnI.setCells : ∀ (ys : List Int) {w : World} {xs : List Int} (o : Nat), OwnI w base (some ⟨g, 0, none⟩) n c xs → OwnI (w.setCells g o (ys.map (Value.int .i64))) base (some ⟨g, 0, none⟩) n c (setMany xs o ys)
  | [], _, _, _, h => h
  | y :: ys, _, _, o, h => OwnI.setCells ys (o + 1) (h.set_ o y)
theorem OwnI.shrink {A : Option Addr} {m : Nat} (h : OwnI w base A n c xs) (hm : m ≤ n) (h0 : 0 < n) : OwnI w base A m c (xs.take m) := by
  have hl := h.len
  refine ⟨⟨by simp; omega, ?_⟩, by have := h.small; omega⟩
  rcases h.own.2 with ⟨_, h2⟩ | ⟨g, cap, cur, hv, hg, hh, hnc, hcm, hcs, ht⟩
  · omega
  · simp only [Value.slice.injEq, true_and] at hv
    obtain ⟨rfl, rfl⟩ := hv
    refine .inr ⟨g, c, cur, rfl, hg, hh, by omega, hcm, hcs, ?_⟩
    rw [List.map_take, ← ht, List.take_take]
    congr 1
    omega
theorem grownBy_setCells (g : Nat) : ∀ (vs : List Value) (o : Nat) (a w : World), a.grownBy w (some g) → a.grownBy (w.setCells g o vs) (some g)
  | [], _, _, _, h => h
  | v :: vs, o, a, w, h => grownBy_setCells g vs (o + 1) a _ ⟨h.os, h.tape, h.output, by simpa [World.setCell] using h.size, fun i hi hne => (Below.heap_setCell w ⟨g, o, none⟩ v i (fun e => hne (by rw [e]))).trans (h.block i hi hne)⟩
theorem grownBy_drew {a w : World} {row : Option Nat} (h : a.grownBy w row) : a.grownBy w.drew row := ⟨h.os, h.tape, h.output, h.size, h.block⟩
end

/-- The list without its element i. -/
def without (xs : List Int) (i : Nat) : List Int := xs.take i ++ xs.drop (i + 1)
theorem without_length {xs : List Int} {i : Nat} (h : i < xs.length) : (without xs i).length = xs.length - 1 := by simp [without]; omega
theorem deleted {xs : List Int} {n i : Nat} (hl : xs.length = n) (hi : i < n) : ((setMany xs i (xs.drop (i + 1))).set (n - 1) 0).take (n - 1) = without xs i := by
  have hx : (setMany xs i (xs.drop (i + 1))).length = n := by rw [setMany_length, hl]
  apply List.ext_getElem?
  intro j
  by_cases hj : j < n - 1
  · rw [List.getElem?_take, if_pos hj, List.getElem?_set, if_neg (by omega)]
    have h1 := setMany_getD (xs.drop (i + 1)) xs i j (by simp; omega)
    have h2 : ((setMany xs i (xs.drop (i + 1)))[j]?) = some ((setMany xs i (xs.drop (i + 1))).getD j 0) := by
      simp [List.getD, List.getElem?_eq_getElem (show j < (setMany xs i (xs.drop (i + 1))).length by omega)]
    rw [h2, h1]
    have h3 : (without xs i)[j]? = some ((without xs i).getD j 0) := by
      simp [List.getD, List.getElem?_eq_getElem (show j < (without xs i).length by rw [without_length (by omega)]; omega)]
    rw [h3]
    congr 1
    by_cases hji : j < i
    · rw [if_neg (by omega)]
      simp only [without, List.getD, List.getElem?_append, List.length_take, List.getElem?_take]
      rw [if_pos (by omega), if_pos hji]
    · rw [if_pos (by simp; omega)]
      simp only [without, List.getD, List.getElem?_append, List.length_take, List.getElem?_drop]
      rw [if_neg (by omega), show min i xs.length = i from by omega]
  · rw [List.getElem?_eq_none (by simp; omega), List.getElem?_eq_none (by rw [without_length (by omega)]; omega)]

theorem run_clear_one (w : World) (ty : TypeId) (b o cap : Nat) {v : Value} (hc : w.cell? ⟨b, o, none⟩ = some v) (hf : w.frozen? ⟨b, o, none⟩ = false) :
    (Builtin.clear_ #[23] ty #[.slice (some ⟨b, o, none⟩) 1 cap]).run Try.prog w = .ok (.tuple #[]) (w.setCell ⟨b, o, none⟩ (.int .i64 0)) := by
  obtain ⟨i0, hi0, hz0, hz1, hz2⟩ := info_parts int_info
  simp [Builtin.clear_, run_underlying Try.underlying23, zeroValue, typeInfo, hi0, hz0, storeCells, Builtin.zeroCells, go_sem, hc, hf]
theorem run_clear_tail (w : World) (ty : TypeId) {base g n c i m d : Nat} {xs : List Int} (h : OwnI w base (some ⟨g, 0, none⟩) n c xs) (hi : i + 1 = n) (hm : m = 1) :
    (Builtin.clear_ #[23] ty #[.slice (some ⟨g, i, none⟩) m d]).run Try.prog w = .ok (.tuple #[]) (w.setCell ⟨g, i, none⟩ (.int .i64 0)) := by
  subst hm
  exact run_clear_one w ty g i d (h.cell (by omega)) (h.frozen i)

set_option maxHeartbeats 1600000 in
set_option maxRecDepth 1000000 in
theorem delete_any (base g n c i : Nat) (xs : List Int) (w : World) (h : OwnI w base (some ⟨g, 0, none⟩) n c xs) (hi : i < n) :
    Calls Try.prog 33 #[.slice (some ⟨g, 0, none⟩) n c, .int .i64 i, .int .i64 ((i : Int) + 1)] w fun e w' => e = .returned (.slice (some ⟨g, 0, none⟩) (n - 1) c) ∧ OwnI w' base (some ⟨g, 0, none⟩) (n - 1) c (without xs i) ∧ w.grownBy w' (some g) := by
  obtain ⟨i0, hi0, hz0, hz1, hz2⟩ := info_parts int_info
  have hcap := h.cap
  have hsm := h.small
  have HL := hide h.len
  have hcm : c ≤ 9223372036854775807 := by
    rcases h.own.2 with ⟨hv, _⟩ | ⟨g', cap, cur, hv, _, _, _, hcm, _⟩
    · cases hv
    · simp only [Value.slice.injEq, true_and] at hv
      obtain ⟨_, rfl⟩ := hv
      unfold maxLen at hcm
      exact hcm
  obtain ⟨B, hB⟩ : ∃ B : Addr, (if c = i + 1 then some (⟨g, 0, none⟩ : Addr) else some ⟨g, i + 1, none⟩) = some B := by
    by_cases h : c = i + 1
    · exact ⟨_, if_pos h⟩
    · exact ⟨_, if_neg h⟩
  have hnews : Hid (∀ j u, ((xs.drop (i + 1)).map (Value.int .i64))[j]? = some u → w.drew.cell? (B.add j) = some u) := by
    intro j u hu
    have ht := h.il.tail (k := i + 1) (d := c) (by omega) hcap
    rw [Nat.zero_add, hB] at ht
    have hj : j < n - (i + 1) := by
      have := (List.getElem?_eq_some_iff.1 hu).1
      simp at this
      have := HL.out
      omega
    obtain ⟨ad, e, hc⟩ := ht.at_ hj
    injection e with e
    subst e
    show w.cell? _ = _
    rw [hc, ← hu]
    simp [List.getD, show i + 1 + j < xs.length by have := HL.out; omega]
  have s1 : Hid (((xs.drop (i + 1)).map (Value.int .i64)).length = (n - (i + 1)) * 1) := by
    have := HL.out
    show _ = _
    simp
    omega
  have s2 : Hid (∀ u ∈ (xs.drop (i + 1)).map (Value.int .i64), u.oneCell' = true) := ints_oneCell _ _
  have s3 : Hid (∀ j, j < ((xs.drop (i + 1)).map (Value.int .i64)).length → (w.drew.cell? ⟨g, 0 + i * 1 + j, none⟩).isSome = true ∧ w.drew.frozen? ⟨g, 0 + i * 1 + j, none⟩ = false) := by
    intro j hj
    rw [s1.out] at hj
    refine ⟨?_, h.frozen _⟩
    show (w.cell? _).isSome = true
    rw [h.cell (by omega)]
    rfl
  have hic : i ≤ c := by omega
  have hwr : IntKind.i64.wrap ((i : Int) + 1) = (i : Int) + 1 := by rw [IntKind.wrap_i64]; omega
  have hp0 : (0 : Int) ≤ (i : Int) + 1 := by omega
  have hp1 : (i : Int) + 1 ≤ (n : Int) := by omega
  have hp2 : ((i : Int) + 1).toNat = i + 1 := by omega
  have HO : Hid (OwnI (w.drew.setCells g i (List.drop (i + 1) (List.map (Value.int .i64) xs))) base (some ⟨g, 0, none⟩) n c (setMany xs i (xs.drop (i + 1)))) := by
    have h1 : OwnI w.drew base (some ⟨g, 0, none⟩) n c xs := h.drew
    rw [← List.map_drop]
    exact h1.setCells _ i
  have HG : Hid (w.grownBy (w.drew.setCells g i (List.drop (i + 1) (List.map (Value.int .i64) xs))) (some g)) := grownBy_setCells g _ _ _ _ (grownBy_drew (World.grownBy.refl w _))
  have hclr := run_clear_tail (w.drew.setCells g i (List.drop (i + 1) (List.map (Value.int .i64) xs))) 0 (i := i + (n - (i + 1))) (m := n - (i + (n - (i + 1)))) (d := c - (i + (n - (i + 1)))) HO.out (by omega) (by omega)
  clear h
  go_enter Try.func33, Try.ntmps33
  go_wp2_with fail
  go_region_law (refine step_append_room rfl (.tmp 22) (.tmp 25) 23 rfl 3 i0 1 Try.underlying23 hi0 hz1 g 0 i c (by simp [Act.eval, Act.put]) B (n - (i + 1)) (c - (i + 1)) ((xs.drop (i + 1)).map (Value.int .i64)) (by simp [Act.eval, Act.put]) s1.out hnews.out s2.out (by omega) s3.out ?_)
  go_wp2
  go_ret
  have e1 : i + (n - (i + 1)) = n - 1 := by omega
  rw [e1]
  refine ⟨rfl, ?_, ?_⟩
  · have h2 := (HO.out.set_ (n - 1) 0).shrink (m := n - 1) (by omega) (by omega)
    rw [deleted HL.out hi] at h2
    exact h2
  · exact grownBy_setCells g [Value.int .i64 0] (n - 1) _ _ HG.out
end Go.Proofs.Ytgmjighgncpefaa
