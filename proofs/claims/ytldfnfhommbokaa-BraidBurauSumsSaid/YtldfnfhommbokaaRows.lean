/-
  No cell of these rows narrows 'for every input' (looked for: loops, veiled, ifaces, maps, wideKeys, modest, calm, conditions, laid).
  DERIVED. THE GIVEN ROWS OF THIS SEAT. 5 by the template 'for every input the law returns true; each argument reads behind the call as it read before'; 0 by the template 'total and deterministic' (their statements: YtldfnfhommbokaaTotals.lean).
  GIVEN WITH THE SEED: the statements are not yours to turn. If you find one false, say at which input.
  Laid BY PROGRAM, IN A SANDBOX (cutbox-rows.mjs): the forced cells as the released guide's own fill.sh prints them over the translation af600f0510af3536… (all of the seat's roots in one cut). By AI agents, Wed Nov 11 2026. No macro, syntax, notation, axiom, sorry.
-/
import Derived.Test.YtldfnfhommbokaaChecked
import GoSem.Claim
import GoSem.ClaimJoined
import GoSem.ClaimMapViews
import Derived.JoinedTies
import Derived.KernelRfl
namespace Go.Proofs.Ytldfnfhommbokaa
/- THE CELL 'sum', in the pinned program and in every row, IS THE sha256 OF THE DUMP (.gsa) THAT YtldfnfhommbokaaProg.lean LOADS. Nothing in Lean hashes anything: it is a label: what it is worth is what the hold of that sum in a sandbox is worth. -/
noncomputable def Try.pinned : Pinned := { name := "ytldfnfhommbokaa", sum := "af600f0510af35364a315a3c4036a285d151287cd48c7a4a24f85f5453ea01df", checked := Try.checked }
namespace Rows
def none {H : Type} : Left H := { results := [], args := [] }

/-- 'timblaw1.BraidChecks': WHATEVER THE INPUT: true; the input reads as it did. -/
def braidChecksSpec : ChangeSpec := { name := "braidChecks", fn := fun _ => fun
  | [d1, d2] => { results := [.lit (.bool true)], args := [d1, d2] }
  | _ => none }
def braidChecksRow : OpenClaim := { program := "ytldfnfhommbokaa", sum := "af600f0510af35364a315a3c4036a285d151287cd48c7a4a24f85f5453ea01df", func := "timbrel/timblaw1.BraidChecks", spec := "braidChecks", apart := false }
def BraidChecksSaid : Prop := braidChecksRow.holds Try.pinned (OpenSpec.ofChange braidChecksSpec)

/-- ITS FALSE NEIGHBOUR: 'it returns false'. Refute it at one input. -/
def braidChecksWrong : ChangeSpec := { name := "braidChecks", fn := fun _ => fun
  | [d1, d2] => { results := [.lit (.bool false)], args := [d1, d2] }
  | _ => none }
def BraidChecksWrongFalsely : Prop := braidChecksRow.holds Try.pinned (OpenSpec.ofChange braidChecksWrong)

/-- 'timblaw1.BraidBuraus': WHATEVER THE INPUT: true; the input reads as it did. -/
def braidBurausSpec : ChangeSpec := { name := "braidBuraus", fn := fun _ => fun
  | [d1, d2] => { results := [.lit (.bool true)], args := [d1, d2] }
  | _ => none }
def braidBurausRow : OpenClaim := { program := "ytldfnfhommbokaa", sum := "af600f0510af35364a315a3c4036a285d151287cd48c7a4a24f85f5453ea01df", func := "timbrel/timblaw1.BraidBuraus", spec := "braidBuraus", unfollowed := true, recurses := true, apart := false }
def BraidBurausSaid : Prop := braidBurausRow.holds Try.pinned (OpenSpec.ofChange braidBurausSpec)

/-- ITS FALSE NEIGHBOUR: 'it returns false'. Refute it at one input. -/
def braidBurausWrong : ChangeSpec := { name := "braidBuraus", fn := fun _ => fun
  | [d1, d2] => { results := [.lit (.bool false)], args := [d1, d2] }
  | _ => none }
def BraidBurausWrongFalsely : Prop := braidBurausRow.holds Try.pinned (OpenSpec.ofChange braidBurausWrong)

/-- 'timbkeep1.BraidRelations': WHATEVER THE INPUT: true; the input reads as it did. -/
def braidRelationsSpec : ChangeSpec := { name := "braidRelations", fn := fun _ => fun
  | [d1, d2, d3, d4, d5] => { results := [.lit (.bool true)], args := [d1, d2, d3, d4, d5] }
  | _ => none }
def braidRelationsRow : OpenClaim := { program := "ytldfnfhommbokaa", sum := "af600f0510af35364a315a3c4036a285d151287cd48c7a4a24f85f5453ea01df", func := "timbrel/timbkeep1.BraidRelations", spec := "braidRelations", unfollowed := true, recurses := true, apart := false }
def BraidRelationsSaid : Prop := braidRelationsRow.holds Try.pinned (OpenSpec.ofChange braidRelationsSpec)

/-- ITS FALSE NEIGHBOUR: 'it returns false'. Refute it at one input. -/
def braidRelationsWrong : ChangeSpec := { name := "braidRelations", fn := fun _ => fun
  | [d1, d2, d3, d4, d5] => { results := [.lit (.bool false)], args := [d1, d2, d3, d4, d5] }
  | _ => none }
def BraidRelationsWrongFalsely : Prop := braidRelationsRow.holds Try.pinned (OpenSpec.ofChange braidRelationsWrong)

/-- 'timbkeep1.BraidBurauSums': WHATEVER THE INPUT: true; the input reads as it did. -/
def braidBurauSumsSpec : ChangeSpec := { name := "braidBurauSums", fn := fun _ => fun
  | [d1, d2] => { results := [.lit (.bool true)], args := [d1, d2] }
  | _ => none }
def braidBurauSumsRow : OpenClaim := { program := "ytldfnfhommbokaa", sum := "af600f0510af35364a315a3c4036a285d151287cd48c7a4a24f85f5453ea01df", func := "timbrel/timbkeep1.BraidBurauSums", spec := "braidBurauSums", unfollowed := true, recurses := true, apart := false }
def BraidBurauSumsSaid : Prop := braidBurauSumsRow.holds Try.pinned (OpenSpec.ofChange braidBurauSumsSpec)

/-- ITS FALSE NEIGHBOUR: 'it returns false'. Refute it at one input. -/
def braidBurauSumsWrong : ChangeSpec := { name := "braidBurauSums", fn := fun _ => fun
  | [d1, d2] => { results := [.lit (.bool false)], args := [d1, d2] }
  | _ => none }
def BraidBurauSumsWrongFalsely : Prop := braidBurauSumsRow.holds Try.pinned (OpenSpec.ofChange braidBurauSumsWrong)

/-- 'timbkeep1.BraidHomomorphisms': WHATEVER THE INPUT: true; the input reads as it did. -/
def braidHomomorphismsSpec : ChangeSpec := { name := "braidHomomorphisms", fn := fun _ => fun
  | [d1, d2, d3] => { results := [.lit (.bool true)], args := [d1, d2, d3] }
  | _ => none }
def braidHomomorphismsRow : OpenClaim := { program := "ytldfnfhommbokaa", sum := "af600f0510af35364a315a3c4036a285d151287cd48c7a4a24f85f5453ea01df", func := "timbrel/timbkeep1.BraidHomomorphisms", spec := "braidHomomorphisms", unfollowed := true, recurses := true, apart := false }
def BraidHomomorphismsSaid : Prop := braidHomomorphismsRow.holds Try.pinned (OpenSpec.ofChange braidHomomorphismsSpec)

/-- ITS FALSE NEIGHBOUR: 'it returns false'. Refute it at one input. -/
def braidHomomorphismsWrong : ChangeSpec := { name := "braidHomomorphisms", fn := fun _ => fun
  | [d1, d2, d3] => { results := [.lit (.bool false)], args := [d1, d2, d3] }
  | _ => none }
def BraidHomomorphismsWrongFalsely : Prop := braidHomomorphismsRow.holds Try.pinned (OpenSpec.ofChange braidHomomorphismsWrong)

/- THE SECOND FORM. 'bulk': how many values and letters a reading holds, each counted each time it is reached (what is shared counts as often as it is met; a slice's spare places count too). A statement '..UptoSaid' is the law's where the arguments, and the package variables that the reading takes, are together of bulk at most 1048576: NARROWER than '..Said'. Prove '..Said' where nothing that the law and all that it calls make is longer than what came in: it says more and counts as full. Else prove '..UptoSaid'. A law counts once. -/
mutual
def uptoBulk {H : Type} : DataW H → Nat
  | .lit (.string bytes) => bytes.length + 1
  | .lit _ => 1
  | .nil => 1
  | .ptr d => uptoBulk d + 1
  | .slice elems spare => uptoBulkAll elems + uptoBulkAll spare + 1
  | .agg parts => uptoBulkAll parts + 1
  | .iface _ d => uptoBulk d + 1
  | .map entries => uptoBulkEntries entries + 1
  | .held _ => 1
def uptoBulkAll {H : Type} : List (DataW H) → Nat
  | [] => 0
  | d :: r => uptoBulk d + uptoBulkAll r
def uptoBulkEntries {H : Type} : List (Lit × DataW H) → Nat
  | [] => 0
  | x :: r => uptoBulkEntry x + uptoBulkEntries r
def uptoBulkEntry {H : Type} : Lit × DataW H → Nat
  | (.string bytes, d) => bytes.length + uptoBulk d + 1
  | (_, d) => uptoBulk d + 1
 end
def uptoSmall : (H : Type) → List (DataW H) → Bool := fun _ ds => decide (uptoBulkAll ds ≤ 1048576)
def OpenSpec.upto (s : _root_.Go.ChangeSpec) : _root_.Go.OpenSpec := { _root_.Go.OpenSpec.ofChange s with cond := some uptoSmall }

/-- 'timblaw1.BraidChecks', WHERE WHAT IT READS IS OF BULK AT MOST 1048576: true; the input reads as it did. -/
def braidChecksUptoRow : OpenClaim := { program := "ytldfnfhommbokaa", sum := "af600f0510af35364a315a3c4036a285d151287cd48c7a4a24f85f5453ea01df", func := "timbrel/timblaw1.BraidChecks", spec := "braidChecks", apart := false, narrowed := true }
def BraidChecksUptoSaid : Prop := braidChecksUptoRow.holds Try.pinned (OpenSpec.upto braidChecksSpec)

/-- 'timblaw1.BraidBuraus', WHERE WHAT IT READS IS OF BULK AT MOST 1048576: true; the input reads as it did. -/
def braidBurausUptoRow : OpenClaim := { program := "ytldfnfhommbokaa", sum := "af600f0510af35364a315a3c4036a285d151287cd48c7a4a24f85f5453ea01df", func := "timbrel/timblaw1.BraidBuraus", spec := "braidBuraus", unfollowed := true, recurses := true, apart := false, narrowed := true }
def BraidBurausUptoSaid : Prop := braidBurausUptoRow.holds Try.pinned (OpenSpec.upto braidBurausSpec)

/-- 'timbkeep1.BraidRelations', WHERE WHAT IT READS IS OF BULK AT MOST 1048576: true; the input reads as it did. -/
def braidRelationsUptoRow : OpenClaim := { program := "ytldfnfhommbokaa", sum := "af600f0510af35364a315a3c4036a285d151287cd48c7a4a24f85f5453ea01df", func := "timbrel/timbkeep1.BraidRelations", spec := "braidRelations", unfollowed := true, recurses := true, apart := false, narrowed := true }
def BraidRelationsUptoSaid : Prop := braidRelationsUptoRow.holds Try.pinned (OpenSpec.upto braidRelationsSpec)

/-- 'timbkeep1.BraidBurauSums', WHERE WHAT IT READS IS OF BULK AT MOST 1048576: true; the input reads as it did. -/
def braidBurauSumsUptoRow : OpenClaim := { program := "ytldfnfhommbokaa", sum := "af600f0510af35364a315a3c4036a285d151287cd48c7a4a24f85f5453ea01df", func := "timbrel/timbkeep1.BraidBurauSums", spec := "braidBurauSums", unfollowed := true, recurses := true, apart := false, narrowed := true }
def BraidBurauSumsUptoSaid : Prop := braidBurauSumsUptoRow.holds Try.pinned (OpenSpec.upto braidBurauSumsSpec)

/-- 'timbkeep1.BraidHomomorphisms', WHERE WHAT IT READS IS OF BULK AT MOST 1048576: true; the input reads as it did. -/
def braidHomomorphismsUptoRow : OpenClaim := { program := "ytldfnfhommbokaa", sum := "af600f0510af35364a315a3c4036a285d151287cd48c7a4a24f85f5453ea01df", func := "timbrel/timbkeep1.BraidHomomorphisms", spec := "braidHomomorphisms", unfollowed := true, recurses := true, apart := false, narrowed := true }
def BraidHomomorphismsUptoSaid : Prop := braidHomomorphismsUptoRow.holds Try.pinned (OpenSpec.upto braidHomomorphismsSpec)

end Rows
end Go.Proofs.Ytldfnfhommbokaa
