/- A polynomial that came in as an argument. -/
import Derived.Test.YtbajelbfgekilaaPoC
import Derived.Test.YtbajelbfgekilaaBase
import Derived.Lib.SmallJoins
import Derived.ProofKit
import Derived.SizedLaws
import Derived.ChangeOld
namespace Go.Proofs.Ytbajelbfgekilaa
set_option linter.unusedVariables false
set_option linter.unusedSimpArgs false
open Go.RowKit Go.ChangeShapes Go.WideShapes Go.Joins

theorem bytesIntP : Try.prog.bytesOf 3 = 8 := by kernel_rfl
theorem cellsPoly : Try.prog.cellsOf 24 = 2 := by kernel_rfl

/-- What an argument of type api.Poly is. -/
theorem open_poly {H : Type} {enc : TypeId × Value → H} {W : World} {r : Reach} {b0 base j : Nat} {held : Bool} {v : Value} {d : DataW H} {p : List MemPlace} {ts : List TypeId} {ds : List (DataW H)}
    (hv : Value.okWide Try.prog W r b0 24 v) (h : DataW.Trod enc Try.prog W base (fun _ => true) held 24 v d p) (hsz : (DataW.weightsEach Try.prog ts ds).all (· ≤ reachBytes) = true) (ht : ts[j]? = some 24) (hd : ds[j]? = some d) :
    ∃ lo A n c xs, v = PV lo A n c ∧ (Lit.int .i64 lo).wf = true ∧ SL W A n c xs := by
  obtain ⟨c0, c1, y0, y1, m, rfl, rfl, rfl, hy0, hy1⟩ := open_agg2 Try.underlying24 (by kernel_rfl) cellsPoly hv h
  obtain ⟨lo, e0, rfl, wa⟩ := DataW.trod_int Try.underlying3 hy0
  simp only [List.cons.injEq, and_true] at e0
  subst e0
  rcases open_ints Try.underlying22 Try.underlying3 (by kernel_rfl) hy1 with ⟨hcs, _⟩ | ⟨x, l, c, zs, hcs, _, hl, hm, hz, hx, hcell, hwz⟩
  · simp only [List.cons.injEq, and_true] at hcs
    subst hcs
    exact ⟨lo, none, 0, 0, [], rfl, wa, SL.nil_ W⟩
  · simp only [List.cons.injEq, and_true] at hcs
    subst hcs
    have hz' : zs.length = c := by simpa using hz
    have hs : zs.length * 8 ≤ reachBytes := by
      have hall := List.all_eq_true.1 hsz
      refine of_decide_eq_true (hall _ (DataW.weights_mem_each ht hd _ ?_))
      rw [DataW.weights, Try.underlying24]
      have e1 := congrArg Prod.fst hx
      simp only at e1
      rw [e1]
      simp only [List.map_cons, List.map_nil, DataW.weightsEach, DataW.weights, List.append_nil]
      rw [Try.underlying22]
      simp only [bytesIntP, lits, List.length_map, List.length_take, List.length_drop]
      rw [show min l zs.length + (zs.length - l) = zs.length by omega]
      simp
    unfold reachBytes at hs
    exact ⟨lo, some x, l, c, zs.take l, rfl, wa, IL.of_row hl hz' (by omega) hcell, (fun h => by cases h), hl⟩
end Go.Proofs.Ytbajelbfgekilaa
