/-
  No cell of these rows narrows 'for every input' (looked for: loops, veiled, ifaces, maps, wideKeys, modest, calm, conditions, laid).
  DERIVED. THE GIVEN ROWS OF THIS SEAT. 3 by the template 'for every input the law returns true; each argument reads behind the call as it read before'; 0 by the template 'total and deterministic' (their statements: YtllalncbajpodaaTotals.lean).
  GIVEN WITH THE SEED: the statements are not yours to turn. If you find one false, say at which input.
  Laid BY PROGRAM, IN A SANDBOX (cutbox-rows.mjs): the forced cells as the released guide's own fill.sh prints them over the translation e42ef5f4343692ab… (all of the seat's roots in one cut). By AI agents, Wed Nov 11 2026. No macro, syntax, notation, axiom, sorry.
-/
import Derived.Test.YtllalncbajpodaaChecked
import GoSem.Claim
import GoSem.ClaimJoined
import GoSem.ClaimMapViews
import Derived.JoinedTies
import Derived.KernelRfl
namespace Go.Proofs.Ytllalncbajpodaa
/- THE CELL 'sum', in the pinned program and in every row, IS THE sha256 OF THE DUMP (.gsa) THAT YtllalncbajpodaaProg.lean LOADS. Nothing in Lean hashes anything: it is a label: what it is worth is what the hold of that sum in a sandbox is worth. -/
noncomputable def Try.pinned : Pinned := { name := "ytllalncbajpodaa", sum := "e42ef5f4343692ab38d53823ce08d6160b7044fafd92befce79449402b460d2a", checked := Try.checked }
namespace Rows
def none {H : Type} : Left H := { results := [], args := [] }

/-- 'timblaw1.FoxDerives': WHATEVER THE INPUT: true; the input reads as it did. -/
def foxDerivesSpec : ChangeSpec := { name := "foxDerives", fn := fun _ => fun
  | [d1, d2] => { results := [.lit (.bool true)], args := [d1, d2] }
  | _ => none }
def foxDerivesRow : OpenClaim := { program := "ytllalncbajpodaa", sum := "e42ef5f4343692ab38d53823ce08d6160b7044fafd92befce79449402b460d2a", func := "timbrel/timblaw1.FoxDerives", spec := "foxDerives", unfollowed := true, recurses := true, apart := false }
def FoxDerivesSaid : Prop := foxDerivesRow.holds Try.pinned (OpenSpec.ofChange foxDerivesSpec)

/-- ITS FALSE NEIGHBOUR: 'it returns false'. Refute it at one input. -/
def foxDerivesWrong : ChangeSpec := { name := "foxDerives", fn := fun _ => fun
  | [d1, d2] => { results := [.lit (.bool false)], args := [d1, d2] }
  | _ => none }
def FoxDerivesWrongFalsely : Prop := foxDerivesRow.holds Try.pinned (OpenSpec.ofChange foxDerivesWrong)

/-- 'timbkeep1.FreeConjugates': WHATEVER THE INPUT: true; the input reads as it did. -/
def freeConjugatesSpec : ChangeSpec := { name := "freeConjugates", fn := fun _ => fun
  | [d1, d2, d3] => { results := [.lit (.bool true)], args := [d1, d2, d3] }
  | _ => none }
def freeConjugatesRow : OpenClaim := { program := "ytllalncbajpodaa", sum := "e42ef5f4343692ab38d53823ce08d6160b7044fafd92befce79449402b460d2a", func := "timbrel/timbkeep1.FreeConjugates", spec := "freeConjugates", apart := false }
def FreeConjugatesSaid : Prop := freeConjugatesRow.holds Try.pinned (OpenSpec.ofChange freeConjugatesSpec)

/-- ITS FALSE NEIGHBOUR: 'it returns false'. Refute it at one input. -/
def freeConjugatesWrong : ChangeSpec := { name := "freeConjugates", fn := fun _ => fun
  | [d1, d2, d3] => { results := [.lit (.bool false)], args := [d1, d2, d3] }
  | _ => none }
def FreeConjugatesWrongFalsely : Prop := freeConjugatesRow.holds Try.pinned (OpenSpec.ofChange freeConjugatesWrong)

/-- 'timbkeep1.FoxRules': WHATEVER THE INPUT: true; the input reads as it did. -/
def foxRulesSpec : ChangeSpec := { name := "foxRules", fn := fun _ => fun
  | [d1, d2, d3] => { results := [.lit (.bool true)], args := [d1, d2, d3] }
  | _ => none }
def foxRulesRow : OpenClaim := { program := "ytllalncbajpodaa", sum := "e42ef5f4343692ab38d53823ce08d6160b7044fafd92befce79449402b460d2a", func := "timbrel/timbkeep1.FoxRules", spec := "foxRules", unfollowed := true, recurses := true, apart := false }
def FoxRulesSaid : Prop := foxRulesRow.holds Try.pinned (OpenSpec.ofChange foxRulesSpec)

/-- ITS FALSE NEIGHBOUR: 'it returns false'. Refute it at one input. -/
def foxRulesWrong : ChangeSpec := { name := "foxRules", fn := fun _ => fun
  | [d1, d2, d3] => { results := [.lit (.bool false)], args := [d1, d2, d3] }
  | _ => none }
def FoxRulesWrongFalsely : Prop := foxRulesRow.holds Try.pinned (OpenSpec.ofChange foxRulesWrong)

/- THE SECOND FORM. 'bulk': how many values and letters a reading holds, each counted each time it is reached (what is shared counts as often as it is met; a slice's spare places count too). A statement '..UptoSaid' is the law's where the arguments, and the package variables that the reading takes, are together of bulk at most 1048576: NARROWER than '..Said'. Prove '..Said' where nothing that the law and all that it calls make is longer than what came in: it says more and counts as full. Else prove '..UptoSaid'. A law counts once. -/
mutual
def uptoBulk {H : Type} : DataW H → Nat
  | .lit (.string bytes) => bytes.length + 1
  | .lit _ => 1
  | .nil => 1
  | .ptr d => uptoBulk d + 1
  | .slice elems spare => uptoBulkAll elems + uptoBulkAll spare + 1
  | .agg parts => uptoBulkAll parts + 1
  | .iface _ d => uptoBulk d + 1
  | .map entries => uptoBulkEntries entries + 1
  | .held _ => 1
def uptoBulkAll {H : Type} : List (DataW H) → Nat
  | [] => 0
  | d :: r => uptoBulk d + uptoBulkAll r
def uptoBulkEntries {H : Type} : List (Lit × DataW H) → Nat
  | [] => 0
  | x :: r => uptoBulkEntry x + uptoBulkEntries r
def uptoBulkEntry {H : Type} : Lit × DataW H → Nat
  | (.string bytes, d) => bytes.length + uptoBulk d + 1
  | (_, d) => uptoBulk d + 1
 end
def uptoSmall : (H : Type) → List (DataW H) → Bool := fun _ ds => decide (uptoBulkAll ds ≤ 1048576)
def OpenSpec.upto (s : _root_.Go.ChangeSpec) : _root_.Go.OpenSpec := { _root_.Go.OpenSpec.ofChange s with cond := some uptoSmall }

/-- 'timblaw1.FoxDerives', WHERE WHAT IT READS IS OF BULK AT MOST 1048576: true; the input reads as it did. -/
def foxDerivesUptoRow : OpenClaim := { program := "ytllalncbajpodaa", sum := "e42ef5f4343692ab38d53823ce08d6160b7044fafd92befce79449402b460d2a", func := "timbrel/timblaw1.FoxDerives", spec := "foxDerives", unfollowed := true, recurses := true, apart := false, narrowed := true }
def FoxDerivesUptoSaid : Prop := foxDerivesUptoRow.holds Try.pinned (OpenSpec.upto foxDerivesSpec)

/-- 'timbkeep1.FreeConjugates', WHERE WHAT IT READS IS OF BULK AT MOST 1048576: true; the input reads as it did. -/
def freeConjugatesUptoRow : OpenClaim := { program := "ytllalncbajpodaa", sum := "e42ef5f4343692ab38d53823ce08d6160b7044fafd92befce79449402b460d2a", func := "timbrel/timbkeep1.FreeConjugates", spec := "freeConjugates", apart := false, narrowed := true }
def FreeConjugatesUptoSaid : Prop := freeConjugatesUptoRow.holds Try.pinned (OpenSpec.upto freeConjugatesSpec)

/-- 'timbkeep1.FoxRules', WHERE WHAT IT READS IS OF BULK AT MOST 1048576: true; the input reads as it did. -/
def foxRulesUptoRow : OpenClaim := { program := "ytllalncbajpodaa", sum := "e42ef5f4343692ab38d53823ce08d6160b7044fafd92befce79449402b460d2a", func := "timbrel/timbkeep1.FoxRules", spec := "foxRules", unfollowed := true, recurses := true, apart := false, narrowed := true }
def FoxRulesUptoSaid : Prop := foxRulesUptoRow.holds Try.pinned (OpenSpec.upto foxRulesSpec)

end Rows
end Go.Proofs.Ytllalncbajpodaa
