/- Several texts of the walk in one. -/
import Derived.Test.YtgmjighgncpefaaPart6
import Derived.Test.YtgmjighgncpefaaPart9
import Derived.Test.YtgmjighgncpefaaPart14
import Derived.Test.YtgmjighgncpefaaPart1
import Derived.Test.YtgmjighgncpefaaBase
import Derived.Deep.Matrix
import Derived.ProofKit
import Derived.SizedLaws
/- PolyDetRows, with what packages polymatrix and laurent answer. -/
/- A slice of slices of integers that came in as an argument, with what a nil slice is. -/
namespace Go.Proofs.Ytgmjighgncpefaa
set_option linter.unusedVariables false
set_option linter.unusedSimpArgs false
open Go.RowKit Go.ChangeShapes Go.WideShapes

theorem weights_mem_all {H : Type} {P : Program} {e : TypeId} : ∀ {ds : List (DataW H)} {d : DataW H}, d ∈ ds → ∀ n ∈ d.weights P e, n ∈ DataW.weightsAll P e ds
  | x :: ds, d, hd, n, hn => by
    rw [DataW.weightsAll]
    rcases List.mem_cons.1 hd with rfl | hd
    · exact List.mem_append_left _ hn
    · exact List.mem_append_right _ (weights_mem_all hd n hn)

theorem bytesInt : Try.prog.bytesOf 3 = 8 := by kernel_rfl
theorem bytesInts : Try.prog.bytesOf 23 = 24 := by kernel_rfl
theorem cellsInt : Try.prog.cellsOf 3 = 1 := by kernel_rfl
theorem cellsInts : Try.prog.cellsOf 23 = 1 := by kernel_rfl

/-- What an argument of type [][]int is. -/
theorem open_rows {H : Type} {enc : TypeId × Value → H} {W : World} {base fuel j : Nat} {held : Bool} {cs : List Value} {x : DataW H × List MemPlace} {ts : List TypeId} {ds : List (DataW H)} {A : Option Addr} {len cap : Nat}
    (h : DataW.trod enc Try.prog W base (fun _ => true) held fuel 41 cs = some x) (hcs : cs = [.slice A len cap]) (hsz : (DataW.weightsEach Try.prog ts ds).all (· ≤ reachBytes) = true) (ht : ts[j]? = some 41) (hd : ds[j]? = some x.1) :
    ∃ xss, SLL W A len cap xss := by
  rcases Go.Deep.open_int_rows Try.underlying41 Try.underlying23 Try.underlying3 cellsInts cellsInt h with ⟨h1, h2⟩ | ⟨a, l, c, A', L, C, Z, h1, hb, hlc, hcm, hx, hr⟩
  · rw [hcs] at h1
    simp only [List.cons.injEq, Value.slice.injEq, and_true] at h1
    obtain ⟨rfl, rfl, rfl⟩ := h1
    exact ⟨[], SLL.nil_ W⟩
  · rw [hcs] at h1
    simp only [List.cons.injEq, Value.slice.injEq, and_true] at h1
    obtain ⟨rfl, rfl, rfl⟩ := h1
    rw [hx] at hd
    have hs := sized_slice hsz ht hd Try.underlying41
    rw [bytesInts] at hs
    simp only [List.length_map, List.length_range, reachBytes] at hs
    have hall := List.all_eq_true.1 hsz
    have hrow : ∀ r, r < len → (Z r).length * 8 ≤ 140737488351232 := by
      intro r hrl
      obtain ⟨_, hLC, _, hZ, _, hnil, _⟩ := hr r (by omega)
      cases hA : A' r with
      | none => rw [hZ, hnil hA]; omega
      | some a' =>
        have hm : ((Z r).length * 8) ∈ (DataW.slice (lits .i64 ((Z r).take (L r))) (lits .i64 ((Z r).drop (L r))) : DataW H).weights Try.prog 23 := by
          rw [DataW.weights, Try.underlying23]
          simp only [bytesInt, lits, List.length_map, List.length_take, List.length_drop]
          rw [show min (L r) (Z r).length + ((Z r).length - L r) = (Z r).length by omega]
          simp
        have hin : (DataW.slice (lits .i64 ((Z r).take (L r))) (lits .i64 ((Z r).drop (L r))) : DataW H) ∈ (List.range len).map fun r => Go.Deep.intRow .i64 (A' r) (L r) (Z r) := by
          refine List.mem_map.2 ⟨r, List.mem_range.2 hrl, ?_⟩
          unfold Go.Deep.intRow
          rw [hA]
        have h2 := weights_mem_all hin _ hm
        have h3 := hall _ (DataW.weights_mem_each ht hd _ (by
          rw [DataW.weights, Try.underlying41]
          exact List.mem_cons_of_mem _ (List.mem_append_left _ h2)))
        exact of_decide_eq_true h3
    refine ⟨(List.range len).map fun r => (Z r).take (L r), ⟨by simp, by omega, (fun h => by cases h), hlc, fun h0 => ⟨a, rfl, ?_, fun r hrl => ?_⟩⟩⟩
    · have := World.block_lt_of_cell? W _ (hr 0 (by omega)).1
      rwa [block_of_add] at this
    · obtain ⟨hc, hLC, _, hZ, _, hnil, hcell⟩ := hr r (by omega)
      refine ⟨A' r, L r, C r, hc, ?_⟩
      have hg : ((List.range len).map fun r => (Z r).take (L r)).getD r [] = (Z r).take (L r) := by simp [List.getD, hrl]
      rw [hg]
      cases hA : A' r with
      | none =>
        have h0 := hnil hA
        have hl0 : L r = 0 := by omega
        rw [hl0, List.take_zero]
        exact ⟨IL.nil_ W, fun _ => ⟨rfl, h0⟩, by omega⟩
      | some a' =>
        refine ⟨IL.of_row hLC hZ (by rw [← hZ]; exact hrow r hrl) (fun i hi => ?_), (fun h => by cases h), hLC⟩
        exact (hcell a' hA).2 i (by omega)
end Go.Proofs.Ytgmjighgncpefaa
