/-
  No cell of these rows narrows 'for every input' (looked for: loops, veiled, ifaces, maps, wideKeys, modest, calm, conditions, laid).
  DERIVED. THE GIVEN ROWS OF THIS SEAT. 10 by the template 'for every input the law returns true; each argument reads behind the call as it read before'; 0 by the template 'total and deterministic' (their statements: YtoaiblhlpdaeoaaTotals.lean).
  GIVEN WITH THE SEED: the statements are not yours to turn. If you find one false, say at which input.
  Laid BY PROGRAM, IN A SANDBOX (cutbox-rows.mjs): the forced cells as the released guide's own fill.sh prints them over the translation b850cb395cb5a2e6… (all of the seat's roots in one cut). By AI agents, Wed Nov 11 2026. No macro, syntax, notation, axiom, sorry.
-/
import Derived.Test.YtoaiblhlpdaeoaaChecked
import GoSem.Claim
import GoSem.ClaimJoined
import GoSem.ClaimMapViews
import Derived.JoinedTies
import Derived.KernelRfl
namespace Go.Proofs.Ytoaiblhlpdaeoaa
/- THE CELL 'sum', in the pinned program and in every row, IS THE sha256 OF THE DUMP (.gsa) THAT YtoaiblhlpdaeoaaProg.lean LOADS. Nothing in Lean hashes anything: it is a label: what it is worth is what the hold of that sum in a sandbox is worth. -/
noncomputable def Try.pinned : Pinned := { name := "ytoaiblhlpdaeoaa", sum := "b850cb395cb5a2e61d4e62792c8e6a2b4e94f1bed1f9b217699fd1f29fc83b8b", checked := Try.checked }
namespace Rows
def none {H : Type} : Left H := { results := [], args := [] }

/-- 'timblaw1.GarsideForms': WHATEVER THE INPUT: true; the input reads as it did. -/
def garsideFormsSpec : ChangeSpec := { name := "garsideForms", fn := fun _ => fun
  | [d1, d2] => { results := [.lit (.bool true)], args := [d1, d2] }
  | _ => none }
def garsideFormsRow : OpenClaim := { program := "ytoaiblhlpdaeoaa", sum := "b850cb395cb5a2e61d4e62792c8e6a2b4e94f1bed1f9b217699fd1f29fc83b8b", func := "timbrel/timblaw1.GarsideForms", spec := "garsideForms", unfollowed := true, recurses := true, apart := false }
def GarsideFormsSaid : Prop := garsideFormsRow.holds Try.pinned (OpenSpec.ofChange garsideFormsSpec)

/-- ITS FALSE NEIGHBOUR: 'it returns false'. Refute it at one input. -/
def garsideFormsWrong : ChangeSpec := { name := "garsideForms", fn := fun _ => fun
  | [d1, d2] => { results := [.lit (.bool false)], args := [d1, d2] }
  | _ => none }
def GarsideFormsWrongFalsely : Prop := garsideFormsRow.holds Try.pinned (OpenSpec.ofChange garsideFormsWrong)

/-- 'timblaw1.GarsideWords': WHATEVER THE INPUT: true; the input reads as it did. -/
def garsideWordsSpec : ChangeSpec := { name := "garsideWords", fn := fun _ => fun
  | [d1, d2, d3] => { results := [.lit (.bool true)], args := [d1, d2, d3] }
  | _ => none }
def garsideWordsRow : OpenClaim := { program := "ytoaiblhlpdaeoaa", sum := "b850cb395cb5a2e61d4e62792c8e6a2b4e94f1bed1f9b217699fd1f29fc83b8b", func := "timbrel/timblaw1.GarsideWords", spec := "garsideWords", unfollowed := true, recurses := true, apart := false }
def GarsideWordsSaid : Prop := garsideWordsRow.holds Try.pinned (OpenSpec.ofChange garsideWordsSpec)

/-- ITS FALSE NEIGHBOUR: 'it returns false'. Refute it at one input. -/
def garsideWordsWrong : ChangeSpec := { name := "garsideWords", fn := fun _ => fun
  | [d1, d2, d3] => { results := [.lit (.bool false)], args := [d1, d2, d3] }
  | _ => none }
def GarsideWordsWrongFalsely : Prop := garsideWordsRow.holds Try.pinned (OpenSpec.ofChange garsideWordsWrong)

/-- 'timblaw1.GarsideEquals': WHATEVER THE INPUT: true; the input reads as it did. -/
def garsideEqualsSpec : ChangeSpec := { name := "garsideEquals", fn := fun _ => fun
  | [d1, d2, d3] => { results := [.lit (.bool true)], args := [d1, d2, d3] }
  | _ => none }
def garsideEqualsRow : OpenClaim := { program := "ytoaiblhlpdaeoaa", sum := "b850cb395cb5a2e61d4e62792c8e6a2b4e94f1bed1f9b217699fd1f29fc83b8b", func := "timbrel/timblaw1.GarsideEquals", spec := "garsideEquals", unfollowed := true, recurses := true, apart := false }
def GarsideEqualsSaid : Prop := garsideEqualsRow.holds Try.pinned (OpenSpec.ofChange garsideEqualsSpec)

/-- ITS FALSE NEIGHBOUR: 'it returns false'. Refute it at one input. -/
def garsideEqualsWrong : ChangeSpec := { name := "garsideEquals", fn := fun _ => fun
  | [d1, d2, d3] => { results := [.lit (.bool false)], args := [d1, d2, d3] }
  | _ => none }
def GarsideEqualsWrongFalsely : Prop := garsideEqualsRow.holds Try.pinned (OpenSpec.ofChange garsideEqualsWrong)

/-- 'timbkeep1.GarsideSame': WHATEVER THE INPUT: true; the input reads as it did. -/
def garsideSameSpec : ChangeSpec := { name := "garsideSame", fn := fun _ => fun
  | [d1, d2, d3, d4, d5] => { results := [.lit (.bool true)], args := [d1, d2, d3, d4, d5] }
  | _ => none }
def garsideSameRow : OpenClaim := { program := "ytoaiblhlpdaeoaa", sum := "b850cb395cb5a2e61d4e62792c8e6a2b4e94f1bed1f9b217699fd1f29fc83b8b", func := "timbrel/timbkeep1.GarsideSame", spec := "garsideSame", unfollowed := true, recurses := true, apart := false }
def GarsideSameSaid : Prop := garsideSameRow.holds Try.pinned (OpenSpec.ofChange garsideSameSpec)

/-- ITS FALSE NEIGHBOUR: 'it returns false'. Refute it at one input. -/
def garsideSameWrong : ChangeSpec := { name := "garsideSame", fn := fun _ => fun
  | [d1, d2, d3, d4, d5] => { results := [.lit (.bool false)], args := [d1, d2, d3, d4, d5] }
  | _ => none }
def GarsideSameWrongFalsely : Prop := garsideSameRow.holds Try.pinned (OpenSpec.ofChange garsideSameWrong)

/-- 'timbkeep1.GarsideCenter': WHATEVER THE INPUT: true; the input reads as it did. -/
def garsideCenterSpec : ChangeSpec := { name := "garsideCenter", fn := fun _ => fun
  | [d1, d2] => { results := [.lit (.bool true)], args := [d1, d2] }
  | _ => none }
def garsideCenterRow : OpenClaim := { program := "ytoaiblhlpdaeoaa", sum := "b850cb395cb5a2e61d4e62792c8e6a2b4e94f1bed1f9b217699fd1f29fc83b8b", func := "timbrel/timbkeep1.GarsideCenter", spec := "garsideCenter", unfollowed := true, recurses := true, apart := false }
def GarsideCenterSaid : Prop := garsideCenterRow.holds Try.pinned (OpenSpec.ofChange garsideCenterSpec)

/-- ITS FALSE NEIGHBOUR: 'it returns false'. Refute it at one input. -/
def garsideCenterWrong : ChangeSpec := { name := "garsideCenter", fn := fun _ => fun
  | [d1, d2] => { results := [.lit (.bool false)], args := [d1, d2] }
  | _ => none }
def GarsideCenterWrongFalsely : Prop := garsideCenterRow.holds Try.pinned (OpenSpec.ofChange garsideCenterWrong)

/-- 'timbkeep1.GarsideInverse': WHATEVER THE INPUT: true; the input reads as it did. -/
def garsideInverseSpec : ChangeSpec := { name := "garsideInverse", fn := fun _ => fun
  | [d1, d2] => { results := [.lit (.bool true)], args := [d1, d2] }
  | _ => none }
def garsideInverseRow : OpenClaim := { program := "ytoaiblhlpdaeoaa", sum := "b850cb395cb5a2e61d4e62792c8e6a2b4e94f1bed1f9b217699fd1f29fc83b8b", func := "timbrel/timbkeep1.GarsideInverse", spec := "garsideInverse", unfollowed := true, recurses := true, apart := false }
def GarsideInverseSaid : Prop := garsideInverseRow.holds Try.pinned (OpenSpec.ofChange garsideInverseSpec)

/-- ITS FALSE NEIGHBOUR: 'it returns false'. Refute it at one input. -/
def garsideInverseWrong : ChangeSpec := { name := "garsideInverse", fn := fun _ => fun
  | [d1, d2] => { results := [.lit (.bool false)], args := [d1, d2] }
  | _ => none }
def GarsideInverseWrongFalsely : Prop := garsideInverseRow.holds Try.pinned (OpenSpec.ofChange garsideInverseWrong)

/-- 'timbtop.TopFox': WHATEVER THE INPUT: true; the input reads as it did. -/
def topFoxSpec : ChangeSpec := { name := "topFox", fn := fun _ => fun
  | [d1, d2] => { results := [.lit (.bool true)], args := [d1, d2] }
  | _ => none }
def topFoxRow : OpenClaim := { program := "ytoaiblhlpdaeoaa", sum := "b850cb395cb5a2e61d4e62792c8e6a2b4e94f1bed1f9b217699fd1f29fc83b8b", func := "timbrel/timbtop.TopFox", spec := "topFox", unfollowed := true, recurses := true, apart := false }
def TopFoxSaid : Prop := topFoxRow.holds Try.pinned (OpenSpec.ofChange topFoxSpec)

/-- ITS FALSE NEIGHBOUR: 'it returns false'. Refute it at one input. -/
def topFoxWrong : ChangeSpec := { name := "topFox", fn := fun _ => fun
  | [d1, d2] => { results := [.lit (.bool false)], args := [d1, d2] }
  | _ => none }
def TopFoxWrongFalsely : Prop := topFoxRow.holds Try.pinned (OpenSpec.ofChange topFoxWrong)

/-- 'timbtop.TopBurauDet': WHATEVER THE INPUT: true; the input reads as it did. -/
def topBurauDetSpec : ChangeSpec := { name := "topBurauDet", fn := fun _ => fun
  | [d1, d2] => { results := [.lit (.bool true)], args := [d1, d2] }
  | _ => none }
def topBurauDetRow : OpenClaim := { program := "ytoaiblhlpdaeoaa", sum := "b850cb395cb5a2e61d4e62792c8e6a2b4e94f1bed1f9b217699fd1f29fc83b8b", func := "timbrel/timbtop.TopBurauDet", spec := "topBurauDet", unfollowed := true, recurses := true, apart := false }
def TopBurauDetSaid : Prop := topBurauDetRow.holds Try.pinned (OpenSpec.ofChange topBurauDetSpec)

/-- ITS FALSE NEIGHBOUR: 'it returns false'. Refute it at one input. -/
def topBurauDetWrong : ChangeSpec := { name := "topBurauDet", fn := fun _ => fun
  | [d1, d2] => { results := [.lit (.bool false)], args := [d1, d2] }
  | _ => none }
def TopBurauDetWrongFalsely : Prop := topBurauDetRow.holds Try.pinned (OpenSpec.ofChange topBurauDetWrong)

/-- 'timbtop.TopPermutationBraids': WHATEVER THE INPUT: true; the input reads as it did. -/
def topPermutationBraidsSpec : ChangeSpec := { name := "topPermutationBraids", fn := fun _ => fun
  | [d1, d2] => { results := [.lit (.bool true)], args := [d1, d2] }
  | _ => none }
def topPermutationBraidsRow : OpenClaim := { program := "ytoaiblhlpdaeoaa", sum := "b850cb395cb5a2e61d4e62792c8e6a2b4e94f1bed1f9b217699fd1f29fc83b8b", func := "timbrel/timbtop.TopPermutationBraids", spec := "topPermutationBraids", unfollowed := true, recurses := true, apart := false }
def TopPermutationBraidsSaid : Prop := topPermutationBraidsRow.holds Try.pinned (OpenSpec.ofChange topPermutationBraidsSpec)

/-- ITS FALSE NEIGHBOUR: 'it returns false'. Refute it at one input. -/
def topPermutationBraidsWrong : ChangeSpec := { name := "topPermutationBraids", fn := fun _ => fun
  | [d1, d2] => { results := [.lit (.bool false)], args := [d1, d2] }
  | _ => none }
def TopPermutationBraidsWrongFalsely : Prop := topPermutationBraidsRow.holds Try.pinned (OpenSpec.ofChange topPermutationBraidsWrong)

/-- 'timbtop.TopCrossings': WHATEVER THE INPUT: true; the input reads as it did. -/
def topCrossingsSpec : ChangeSpec := { name := "topCrossings", fn := fun _ => fun
  | [d1, d2, d3] => { results := [.lit (.bool true)], args := [d1, d2, d3] }
  | _ => none }
def topCrossingsRow : OpenClaim := { program := "ytoaiblhlpdaeoaa", sum := "b850cb395cb5a2e61d4e62792c8e6a2b4e94f1bed1f9b217699fd1f29fc83b8b", func := "timbrel/timbtop.TopCrossings", spec := "topCrossings", unfollowed := true, recurses := true, apart := false }
def TopCrossingsSaid : Prop := topCrossingsRow.holds Try.pinned (OpenSpec.ofChange topCrossingsSpec)

/-- ITS FALSE NEIGHBOUR: 'it returns false'. Refute it at one input. -/
def topCrossingsWrong : ChangeSpec := { name := "topCrossings", fn := fun _ => fun
  | [d1, d2, d3] => { results := [.lit (.bool false)], args := [d1, d2, d3] }
  | _ => none }
def TopCrossingsWrongFalsely : Prop := topCrossingsRow.holds Try.pinned (OpenSpec.ofChange topCrossingsWrong)

/- THE SECOND FORM. 'bulk': how many values and letters a reading holds, each counted each time it is reached (what is shared counts as often as it is met; a slice's spare places count too). A statement '..UptoSaid' is the law's where the arguments, and the package variables that the reading takes, are together of bulk at most 1048576: NARROWER than '..Said'. Prove '..Said' where nothing that the law and all that it calls make is longer than what came in: it says more and counts as full. Else prove '..UptoSaid'. A law counts once. -/
mutual
def uptoBulk {H : Type} : DataW H → Nat
  | .lit (.string bytes) => bytes.length + 1
  | .lit _ => 1
  | .nil => 1
  | .ptr d => uptoBulk d + 1
  | .slice elems spare => uptoBulkAll elems + uptoBulkAll spare + 1
  | .agg parts => uptoBulkAll parts + 1
  | .iface _ d => uptoBulk d + 1
  | .map entries => uptoBulkEntries entries + 1
  | .held _ => 1
def uptoBulkAll {H : Type} : List (DataW H) → Nat
  | [] => 0
  | d :: r => uptoBulk d + uptoBulkAll r
def uptoBulkEntries {H : Type} : List (Lit × DataW H) → Nat
  | [] => 0
  | x :: r => uptoBulkEntry x + uptoBulkEntries r
def uptoBulkEntry {H : Type} : Lit × DataW H → Nat
  | (.string bytes, d) => bytes.length + uptoBulk d + 1
  | (_, d) => uptoBulk d + 1
 end
def uptoSmall : (H : Type) → List (DataW H) → Bool := fun _ ds => decide (uptoBulkAll ds ≤ 1048576)
def OpenSpec.upto (s : _root_.Go.ChangeSpec) : _root_.Go.OpenSpec := { _root_.Go.OpenSpec.ofChange s with cond := some uptoSmall }

/-- 'timblaw1.GarsideForms', WHERE WHAT IT READS IS OF BULK AT MOST 1048576: true; the input reads as it did. -/
def garsideFormsUptoRow : OpenClaim := { program := "ytoaiblhlpdaeoaa", sum := "b850cb395cb5a2e61d4e62792c8e6a2b4e94f1bed1f9b217699fd1f29fc83b8b", func := "timbrel/timblaw1.GarsideForms", spec := "garsideForms", unfollowed := true, recurses := true, apart := false, narrowed := true }
def GarsideFormsUptoSaid : Prop := garsideFormsUptoRow.holds Try.pinned (OpenSpec.upto garsideFormsSpec)

/-- 'timblaw1.GarsideWords', WHERE WHAT IT READS IS OF BULK AT MOST 1048576: true; the input reads as it did. -/
def garsideWordsUptoRow : OpenClaim := { program := "ytoaiblhlpdaeoaa", sum := "b850cb395cb5a2e61d4e62792c8e6a2b4e94f1bed1f9b217699fd1f29fc83b8b", func := "timbrel/timblaw1.GarsideWords", spec := "garsideWords", unfollowed := true, recurses := true, apart := false, narrowed := true }
def GarsideWordsUptoSaid : Prop := garsideWordsUptoRow.holds Try.pinned (OpenSpec.upto garsideWordsSpec)

/-- 'timblaw1.GarsideEquals', WHERE WHAT IT READS IS OF BULK AT MOST 1048576: true; the input reads as it did. -/
def garsideEqualsUptoRow : OpenClaim := { program := "ytoaiblhlpdaeoaa", sum := "b850cb395cb5a2e61d4e62792c8e6a2b4e94f1bed1f9b217699fd1f29fc83b8b", func := "timbrel/timblaw1.GarsideEquals", spec := "garsideEquals", unfollowed := true, recurses := true, apart := false, narrowed := true }
def GarsideEqualsUptoSaid : Prop := garsideEqualsUptoRow.holds Try.pinned (OpenSpec.upto garsideEqualsSpec)

/-- 'timbkeep1.GarsideSame', WHERE WHAT IT READS IS OF BULK AT MOST 1048576: true; the input reads as it did. -/
def garsideSameUptoRow : OpenClaim := { program := "ytoaiblhlpdaeoaa", sum := "b850cb395cb5a2e61d4e62792c8e6a2b4e94f1bed1f9b217699fd1f29fc83b8b", func := "timbrel/timbkeep1.GarsideSame", spec := "garsideSame", unfollowed := true, recurses := true, apart := false, narrowed := true }
def GarsideSameUptoSaid : Prop := garsideSameUptoRow.holds Try.pinned (OpenSpec.upto garsideSameSpec)

/-- 'timbkeep1.GarsideCenter', WHERE WHAT IT READS IS OF BULK AT MOST 1048576: true; the input reads as it did. -/
def garsideCenterUptoRow : OpenClaim := { program := "ytoaiblhlpdaeoaa", sum := "b850cb395cb5a2e61d4e62792c8e6a2b4e94f1bed1f9b217699fd1f29fc83b8b", func := "timbrel/timbkeep1.GarsideCenter", spec := "garsideCenter", unfollowed := true, recurses := true, apart := false, narrowed := true }
def GarsideCenterUptoSaid : Prop := garsideCenterUptoRow.holds Try.pinned (OpenSpec.upto garsideCenterSpec)

/-- 'timbkeep1.GarsideInverse', WHERE WHAT IT READS IS OF BULK AT MOST 1048576: true; the input reads as it did. -/
def garsideInverseUptoRow : OpenClaim := { program := "ytoaiblhlpdaeoaa", sum := "b850cb395cb5a2e61d4e62792c8e6a2b4e94f1bed1f9b217699fd1f29fc83b8b", func := "timbrel/timbkeep1.GarsideInverse", spec := "garsideInverse", unfollowed := true, recurses := true, apart := false, narrowed := true }
def GarsideInverseUptoSaid : Prop := garsideInverseUptoRow.holds Try.pinned (OpenSpec.upto garsideInverseSpec)

/-- 'timbtop.TopFox', WHERE WHAT IT READS IS OF BULK AT MOST 1048576: true; the input reads as it did. -/
def topFoxUptoRow : OpenClaim := { program := "ytoaiblhlpdaeoaa", sum := "b850cb395cb5a2e61d4e62792c8e6a2b4e94f1bed1f9b217699fd1f29fc83b8b", func := "timbrel/timbtop.TopFox", spec := "topFox", unfollowed := true, recurses := true, apart := false, narrowed := true }
def TopFoxUptoSaid : Prop := topFoxUptoRow.holds Try.pinned (OpenSpec.upto topFoxSpec)

/-- 'timbtop.TopBurauDet', WHERE WHAT IT READS IS OF BULK AT MOST 1048576: true; the input reads as it did. -/
def topBurauDetUptoRow : OpenClaim := { program := "ytoaiblhlpdaeoaa", sum := "b850cb395cb5a2e61d4e62792c8e6a2b4e94f1bed1f9b217699fd1f29fc83b8b", func := "timbrel/timbtop.TopBurauDet", spec := "topBurauDet", unfollowed := true, recurses := true, apart := false, narrowed := true }
def TopBurauDetUptoSaid : Prop := topBurauDetUptoRow.holds Try.pinned (OpenSpec.upto topBurauDetSpec)

/-- 'timbtop.TopPermutationBraids', WHERE WHAT IT READS IS OF BULK AT MOST 1048576: true; the input reads as it did. -/
def topPermutationBraidsUptoRow : OpenClaim := { program := "ytoaiblhlpdaeoaa", sum := "b850cb395cb5a2e61d4e62792c8e6a2b4e94f1bed1f9b217699fd1f29fc83b8b", func := "timbrel/timbtop.TopPermutationBraids", spec := "topPermutationBraids", unfollowed := true, recurses := true, apart := false, narrowed := true }
def TopPermutationBraidsUptoSaid : Prop := topPermutationBraidsUptoRow.holds Try.pinned (OpenSpec.upto topPermutationBraidsSpec)

/-- 'timbtop.TopCrossings', WHERE WHAT IT READS IS OF BULK AT MOST 1048576: true; the input reads as it did. -/
def topCrossingsUptoRow : OpenClaim := { program := "ytoaiblhlpdaeoaa", sum := "b850cb395cb5a2e61d4e62792c8e6a2b4e94f1bed1f9b217699fd1f29fc83b8b", func := "timbrel/timbtop.TopCrossings", spec := "topCrossings", unfollowed := true, recurses := true, apart := false, narrowed := true }
def TopCrossingsUptoSaid : Prop := topCrossingsUptoRow.holds Try.pinned (OpenSpec.upto topCrossingsSpec)

end Rows
end Go.Proofs.Ytoaiblhlpdaeoaa
