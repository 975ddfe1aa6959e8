/- timbref1: Circles, MatchingFault. -/
import Derived.Test.YthhcjnmlpojjeaaTlG
import Derived.Test.YthhcjnmlpojjeaaDelete
import Derived.Test.YthhcjnmlpojjeaaBase1
namespace Go.Proofs.Ythhcjnmlpojjeaa
set_option linter.unusedVariables false
set_option linter.unusedSimpArgs false
open Go.RowKit Go.Maps

/-! ### MatchingFault -/
def Tl.bdF (n : Nat) (d : List Int) (i : Nat) : Bool := decide (d.getD i 0 < 0) || decide ((2 * n : Int) ≤ d.getD i 0) || decide (d.getD i 0 = i) || decide (d.getD (d.getD i 0).toNat 0 ≠ i)
def Tl.posF (n i : Nat) : Nat := if i < n then i else 3 * n - 1 - i
def Tl.stF (d : List Int) (st : List Int) (p : Nat) : List Int := if 0 < st.length ∧ st.getD (st.length - 1) 0 = d.getD p 0 then st.take (st.length - 1) else st ++ [(p : Int)]
def Tl.stsF (n : Nat) (d : List Int) (k : Nat) : List Int := (List.range k).foldl (fun st i => Tl.stF d st (Tl.posF n i)) []
theorem Tl.stsF_succ (n : Nat) (d : List Int) (k : Nat) : Tl.stsF n d (k + 1) = Tl.stF d (Tl.stsF n d k) (Tl.posF n k) := by unfold Tl.stsF; rw [List.range_succ, List.foldl_append]; rfl
/-- What is wrong with a matching. -/
def Tl.mtF (m : Int) (d : List Int) : Int :=
  if m < 1 ∨ 6 < m then 1 else if d.length ≠ 2 * m.toNat then 3 else if (List.range d.length).any (Tl.bdF m.toNat d) = true then 3 else if Tl.stsF m.toNat d (2 * m.toNat) ≠ [] then 3 else 0
theorem Tl.bdF_all {n : Nat} {d : List Int} (h : ∀ j, j < d.length → Tl.bdF n d j = false) : (List.range d.length).any (Tl.bdF n d) = false := by
  rw [List.any_eq_false]
  intro j hj
  rw [h j (List.mem_range.1 hj)]
  simp
theorem Tl.bdF_one {n : Nat} {d : List Int} {j : Nat} (hj : j < d.length) (h : Tl.bdF n d j = true) : (List.range d.length).any (Tl.bdF n d) = true := List.any_eq_true.2 ⟨j, List.mem_range.2 hj, h⟩

end Go.Proofs.Ythhcjnmlpojjeaa
