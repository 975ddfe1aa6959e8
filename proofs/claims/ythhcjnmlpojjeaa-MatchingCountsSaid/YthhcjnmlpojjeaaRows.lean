/-
  No cell of these rows narrows 'for every input' (looked for: loops, veiled, ifaces, maps, wideKeys, modest, calm, conditions, laid).
  DERIVED. THE GIVEN ROWS OF THIS SEAT. 6 by the template 'for every input the law returns true; each argument reads behind the call as it read before'; 0 by the template 'total and deterministic' (their statements: YthhcjnmlpojjeaaTotals.lean).
  GIVEN WITH THE SEED: the statements are not yours to turn. If you find one false, say at which input.
  Laid BY PROGRAM, IN A SANDBOX (cutbox-rows.mjs): the forced cells as the released guide's own fill.sh prints them over the translation 109c7a1ac066da74… (all of the seat's roots in one cut). By AI agents, Wed Nov 11 2026. No macro, syntax, notation, axiom, sorry.
-/
import Derived.Test.YthhcjnmlpojjeaaChecked
import GoSem.Claim
import GoSem.ClaimJoined
import GoSem.ClaimMapViews
import Derived.JoinedTies
import Derived.KernelRfl
namespace Go.Proofs.Ythhcjnmlpojjeaa
/- THE CELL 'sum', in the pinned program and in every row, IS THE sha256 OF THE DUMP (.gsa) THAT YthhcjnmlpojjeaaProg.lean LOADS. Nothing in Lean hashes anything: it is a label: what it is worth is what the hold of that sum in a sandbox is worth. -/
noncomputable def Try.pinned : Pinned := { name := "ythhcjnmlpojjeaa", sum := "109c7a1ac066da7415571e6944b5d4f64887ded23506d605ad50184e80c56e55", checked := Try.checked }
namespace Rows
def none {H : Type} : Left H := { results := [], args := [] }

/-- 'timblaw1.MatchingChecks': WHATEVER THE INPUT: true; the input reads as it did. -/
def matchingChecksSpec : ChangeSpec := { name := "matchingChecks", fn := fun _ => fun
  | [d1, d2, d3] => { results := [.lit (.bool true)], args := [d1, d2, d3] }
  | _ => none }
def matchingChecksRow : OpenClaim := { program := "ythhcjnmlpojjeaa", sum := "109c7a1ac066da7415571e6944b5d4f64887ded23506d605ad50184e80c56e55", func := "timbrel/timblaw1.MatchingChecks", spec := "matchingChecks", apart := false }
def MatchingChecksSaid : Prop := matchingChecksRow.holds Try.pinned (OpenSpec.ofChange matchingChecksSpec)

/-- ITS FALSE NEIGHBOUR: 'it returns false'. Refute it at one input. -/
def matchingChecksWrong : ChangeSpec := { name := "matchingChecks", fn := fun _ => fun
  | [d1, d2, d3] => { results := [.lit (.bool false)], args := [d1, d2, d3] }
  | _ => none }
def MatchingChecksWrongFalsely : Prop := matchingChecksRow.holds Try.pinned (OpenSpec.ofChange matchingChecksWrong)

/-- 'timblaw1.MatchingProducts': WHATEVER THE INPUT: true; the input reads as it did. -/
def matchingProductsSpec : ChangeSpec := { name := "matchingProducts", fn := fun _ => fun
  | [d1, d2, d3] => { results := [.lit (.bool true)], args := [d1, d2, d3] }
  | _ => none }
def matchingProductsRow : OpenClaim := { program := "ythhcjnmlpojjeaa", sum := "109c7a1ac066da7415571e6944b5d4f64887ded23506d605ad50184e80c56e55", func := "timbrel/timblaw1.MatchingProducts", spec := "matchingProducts", unfollowed := true, recurses := true, apart := false }
def MatchingProductsSaid : Prop := matchingProductsRow.holds Try.pinned (OpenSpec.ofChange matchingProductsSpec)

/-- ITS FALSE NEIGHBOUR: 'it returns false'. Refute it at one input. -/
def matchingProductsWrong : ChangeSpec := { name := "matchingProducts", fn := fun _ => fun
  | [d1, d2, d3] => { results := [.lit (.bool false)], args := [d1, d2, d3] }
  | _ => none }
def MatchingProductsWrongFalsely : Prop := matchingProductsRow.holds Try.pinned (OpenSpec.ofChange matchingProductsWrong)

/-- 'timblaw1.MatchingElements': WHATEVER THE INPUT: true; the input reads as it did. -/
def matchingElementsSpec : ChangeSpec := { name := "matchingElements", fn := fun _ => fun
  | [d] => { results := [.lit (.bool true)], args := [d] }
  | _ => none }
def matchingElementsRow : OpenClaim := { program := "ythhcjnmlpojjeaa", sum := "109c7a1ac066da7415571e6944b5d4f64887ded23506d605ad50184e80c56e55", func := "timbrel/timblaw1.MatchingElements", spec := "matchingElements", unfollowed := true, recurses := true, apart := false }
def MatchingElementsSaid : Prop := matchingElementsRow.holds Try.pinned (OpenSpec.ofChange matchingElementsSpec)

/-- ITS FALSE NEIGHBOUR: 'it returns false'. Refute it at one input. -/
def matchingElementsWrong : ChangeSpec := { name := "matchingElements", fn := fun _ => fun
  | [d] => { results := [.lit (.bool false)], args := [d] }
  | _ => none }
def MatchingElementsWrongFalsely : Prop := matchingElementsRow.holds Try.pinned (OpenSpec.ofChange matchingElementsWrong)

/-- 'timbkeep1.MatchingRelations': WHATEVER THE INPUT: true; the input reads as it did. -/
def matchingRelationsSpec : ChangeSpec := { name := "matchingRelations", fn := fun _ => fun
  | [d1, d2, d3] => { results := [.lit (.bool true)], args := [d1, d2, d3] }
  | _ => none }
def matchingRelationsRow : OpenClaim := { program := "ythhcjnmlpojjeaa", sum := "109c7a1ac066da7415571e6944b5d4f64887ded23506d605ad50184e80c56e55", func := "timbrel/timbkeep1.MatchingRelations", spec := "matchingRelations", apart := false }
def MatchingRelationsSaid : Prop := matchingRelationsRow.holds Try.pinned (OpenSpec.ofChange matchingRelationsSpec)

/-- ITS FALSE NEIGHBOUR: 'it returns false'. Refute it at one input. -/
def matchingRelationsWrong : ChangeSpec := { name := "matchingRelations", fn := fun _ => fun
  | [d1, d2, d3] => { results := [.lit (.bool false)], args := [d1, d2, d3] }
  | _ => none }
def MatchingRelationsWrongFalsely : Prop := matchingRelationsRow.holds Try.pinned (OpenSpec.ofChange matchingRelationsWrong)

/-- 'timbkeep1.MatchingStacks': WHATEVER THE INPUT: true; the input reads as it did. -/
def matchingStacksSpec : ChangeSpec := { name := "matchingStacks", fn := fun _ => fun
  | [d1, d2, d3, d4] => { results := [.lit (.bool true)], args := [d1, d2, d3, d4] }
  | _ => none }
def matchingStacksRow : OpenClaim := { program := "ythhcjnmlpojjeaa", sum := "109c7a1ac066da7415571e6944b5d4f64887ded23506d605ad50184e80c56e55", func := "timbrel/timbkeep1.MatchingStacks", spec := "matchingStacks", apart := false }
def MatchingStacksSaid : Prop := matchingStacksRow.holds Try.pinned (OpenSpec.ofChange matchingStacksSpec)

/-- ITS FALSE NEIGHBOUR: 'it returns false'. Refute it at one input. -/
def matchingStacksWrong : ChangeSpec := { name := "matchingStacks", fn := fun _ => fun
  | [d1, d2, d3, d4] => { results := [.lit (.bool false)], args := [d1, d2, d3, d4] }
  | _ => none }
def MatchingStacksWrongFalsely : Prop := matchingStacksRow.holds Try.pinned (OpenSpec.ofChange matchingStacksWrong)

/-- 'timbkeep1.MatchingCounts': WHATEVER THE INPUT: true; the input reads as it did. -/
def matchingCountsSpec : ChangeSpec := { name := "matchingCounts", fn := fun _ => fun
  | [d1, d2] => { results := [.lit (.bool true)], args := [d1, d2] }
  | _ => none }
def matchingCountsRow : OpenClaim := { program := "ythhcjnmlpojjeaa", sum := "109c7a1ac066da7415571e6944b5d4f64887ded23506d605ad50184e80c56e55", func := "timbrel/timbkeep1.MatchingCounts", spec := "matchingCounts", unfollowed := true, recurses := true, apart := false }
def MatchingCountsSaid : Prop := matchingCountsRow.holds Try.pinned (OpenSpec.ofChange matchingCountsSpec)

/-- ITS FALSE NEIGHBOUR: 'it returns false'. Refute it at one input. -/
def matchingCountsWrong : ChangeSpec := { name := "matchingCounts", fn := fun _ => fun
  | [d1, d2] => { results := [.lit (.bool false)], args := [d1, d2] }
  | _ => none }
def MatchingCountsWrongFalsely : Prop := matchingCountsRow.holds Try.pinned (OpenSpec.ofChange matchingCountsWrong)

/- THE SECOND FORM. 'bulk': how many values and letters a reading holds, each counted each time it is reached (what is shared counts as often as it is met; a slice's spare places count too). A statement '..UptoSaid' is the law's where the arguments, and the package variables that the reading takes, are together of bulk at most 1048576: NARROWER than '..Said'. Prove '..Said' where nothing that the law and all that it calls make is longer than what came in: it says more and counts as full. Else prove '..UptoSaid'. A law counts once. -/
mutual
def uptoBulk {H : Type} : DataW H → Nat
  | .lit (.string bytes) => bytes.length + 1
  | .lit _ => 1
  | .nil => 1
  | .ptr d => uptoBulk d + 1
  | .slice elems spare => uptoBulkAll elems + uptoBulkAll spare + 1
  | .agg parts => uptoBulkAll parts + 1
  | .iface _ d => uptoBulk d + 1
  | .map entries => uptoBulkEntries entries + 1
  | .held _ => 1
def uptoBulkAll {H : Type} : List (DataW H) → Nat
  | [] => 0
  | d :: r => uptoBulk d + uptoBulkAll r
def uptoBulkEntries {H : Type} : List (Lit × DataW H) → Nat
  | [] => 0
  | x :: r => uptoBulkEntry x + uptoBulkEntries r
def uptoBulkEntry {H : Type} : Lit × DataW H → Nat
  | (.string bytes, d) => bytes.length + uptoBulk d + 1
  | (_, d) => uptoBulk d + 1
 end
def uptoSmall : (H : Type) → List (DataW H) → Bool := fun _ ds => decide (uptoBulkAll ds ≤ 1048576)
def OpenSpec.upto (s : _root_.Go.ChangeSpec) : _root_.Go.OpenSpec := { _root_.Go.OpenSpec.ofChange s with cond := some uptoSmall }

/-- 'timblaw1.MatchingChecks', WHERE WHAT IT READS IS OF BULK AT MOST 1048576: true; the input reads as it did. -/
def matchingChecksUptoRow : OpenClaim := { program := "ythhcjnmlpojjeaa", sum := "109c7a1ac066da7415571e6944b5d4f64887ded23506d605ad50184e80c56e55", func := "timbrel/timblaw1.MatchingChecks", spec := "matchingChecks", apart := false, narrowed := true }
def MatchingChecksUptoSaid : Prop := matchingChecksUptoRow.holds Try.pinned (OpenSpec.upto matchingChecksSpec)

/-- 'timblaw1.MatchingProducts', WHERE WHAT IT READS IS OF BULK AT MOST 1048576: true; the input reads as it did. -/
def matchingProductsUptoRow : OpenClaim := { program := "ythhcjnmlpojjeaa", sum := "109c7a1ac066da7415571e6944b5d4f64887ded23506d605ad50184e80c56e55", func := "timbrel/timblaw1.MatchingProducts", spec := "matchingProducts", unfollowed := true, recurses := true, apart := false, narrowed := true }
def MatchingProductsUptoSaid : Prop := matchingProductsUptoRow.holds Try.pinned (OpenSpec.upto matchingProductsSpec)

/-- 'timblaw1.MatchingElements', WHERE WHAT IT READS IS OF BULK AT MOST 1048576: true; the input reads as it did. -/
def matchingElementsUptoRow : OpenClaim := { program := "ythhcjnmlpojjeaa", sum := "109c7a1ac066da7415571e6944b5d4f64887ded23506d605ad50184e80c56e55", func := "timbrel/timblaw1.MatchingElements", spec := "matchingElements", unfollowed := true, recurses := true, apart := false, narrowed := true }
def MatchingElementsUptoSaid : Prop := matchingElementsUptoRow.holds Try.pinned (OpenSpec.upto matchingElementsSpec)

/-- 'timbkeep1.MatchingRelations', WHERE WHAT IT READS IS OF BULK AT MOST 1048576: true; the input reads as it did. -/
def matchingRelationsUptoRow : OpenClaim := { program := "ythhcjnmlpojjeaa", sum := "109c7a1ac066da7415571e6944b5d4f64887ded23506d605ad50184e80c56e55", func := "timbrel/timbkeep1.MatchingRelations", spec := "matchingRelations", apart := false, narrowed := true }
def MatchingRelationsUptoSaid : Prop := matchingRelationsUptoRow.holds Try.pinned (OpenSpec.upto matchingRelationsSpec)

/-- 'timbkeep1.MatchingStacks', WHERE WHAT IT READS IS OF BULK AT MOST 1048576: true; the input reads as it did. -/
def matchingStacksUptoRow : OpenClaim := { program := "ythhcjnmlpojjeaa", sum := "109c7a1ac066da7415571e6944b5d4f64887ded23506d605ad50184e80c56e55", func := "timbrel/timbkeep1.MatchingStacks", spec := "matchingStacks", apart := false, narrowed := true }
def MatchingStacksUptoSaid : Prop := matchingStacksUptoRow.holds Try.pinned (OpenSpec.upto matchingStacksSpec)

/-- 'timbkeep1.MatchingCounts', WHERE WHAT IT READS IS OF BULK AT MOST 1048576: true; the input reads as it did. -/
def matchingCountsUptoRow : OpenClaim := { program := "ythhcjnmlpojjeaa", sum := "109c7a1ac066da7415571e6944b5d4f64887ded23506d605ad50184e80c56e55", func := "timbrel/timbkeep1.MatchingCounts", spec := "matchingCounts", unfollowed := true, recurses := true, apart := false, narrowed := true }
def MatchingCountsUptoSaid : Prop := matchingCountsUptoRow.holds Try.pinned (OpenSpec.upto matchingCountsSpec)

end Rows
end Go.Proofs.Ythhcjnmlpojjeaa
