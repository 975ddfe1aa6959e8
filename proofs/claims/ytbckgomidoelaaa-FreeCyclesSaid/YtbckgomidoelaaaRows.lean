/-
  No cell of these rows narrows 'for every input' (looked for: loops, veiled, ifaces, maps, wideKeys, modest, calm, conditions, laid).
  DERIVED. THE GIVEN ROWS OF THIS SEAT. 4 by the template 'for every input the law returns true; each argument reads behind the call as it read before'; 0 by the template 'total and deterministic' (their statements: YtbckgomidoelaaaTotals.lean).
  GIVEN WITH THE SEED: the statements are not yours to turn. If you find one false, say at which input.
  Laid BY PROGRAM, IN A SANDBOX (cutbox-rows.mjs): the forced cells as the released guide's own fill.sh prints them over the translation 49b135ab39219cdf… (all of the seat's roots in one cut). By AI agents, Wed Nov 11 2026. No macro, syntax, notation, axiom, sorry.
-/
import Derived.Test.YtbckgomidoelaaaChecked
import GoSem.Claim
import GoSem.ClaimJoined
import GoSem.ClaimMapViews
import Derived.JoinedTies
import Derived.KernelRfl
namespace Go.Proofs.Ytbckgomidoelaaa
/- THE CELL 'sum', in the pinned program and in every row, IS THE sha256 OF THE DUMP (.gsa) THAT YtbckgomidoelaaaProg.lean LOADS. Nothing in Lean hashes anything: it is a label: what it is worth is what the hold of that sum in a sandbox is worth. -/
noncomputable def Try.pinned : Pinned := { name := "ytbckgomidoelaaa", sum := "49b135ab39219cdf7d8366b8c6519301f315cbe8b360dbd51024c2b5f4e58e8f", checked := Try.checked }
namespace Rows
def none {H : Type} : Left H := { results := [], args := [] }

/-- 'timblaw1.FreeReduces': WHATEVER THE INPUT: true; the input reads as it did. -/
def freeReducesSpec : ChangeSpec := { name := "freeReduces", fn := fun _ => fun
  | [d1, d2] => { results := [.lit (.bool true)], args := [d1, d2] }
  | _ => none }
def freeReducesRow : OpenClaim := { program := "ytbckgomidoelaaa", sum := "49b135ab39219cdf7d8366b8c6519301f315cbe8b360dbd51024c2b5f4e58e8f", func := "timbrel/timblaw1.FreeReduces", spec := "freeReduces", apart := false }
def FreeReducesSaid : Prop := freeReducesRow.holds Try.pinned (OpenSpec.ofChange freeReducesSpec)

/-- ITS FALSE NEIGHBOUR: 'it returns false'. Refute it at one input. -/
def freeReducesWrong : ChangeSpec := { name := "freeReduces", fn := fun _ => fun
  | [d1, d2] => { results := [.lit (.bool false)], args := [d1, d2] }
  | _ => none }
def FreeReducesWrongFalsely : Prop := freeReducesRow.holds Try.pinned (OpenSpec.ofChange freeReducesWrong)

/-- 'timblaw1.FreeCycles': WHATEVER THE INPUT: true; the input reads as it did. -/
def freeCyclesSpec : ChangeSpec := { name := "freeCycles", fn := fun _ => fun
  | [d1, d2] => { results := [.lit (.bool true)], args := [d1, d2] }
  | _ => none }
def freeCyclesRow : OpenClaim := { program := "ytbckgomidoelaaa", sum := "49b135ab39219cdf7d8366b8c6519301f315cbe8b360dbd51024c2b5f4e58e8f", func := "timbrel/timblaw1.FreeCycles", spec := "freeCycles", recurses := true, apart := false }
def FreeCyclesSaid : Prop := freeCyclesRow.holds Try.pinned (OpenSpec.ofChange freeCyclesSpec)

/-- ITS FALSE NEIGHBOUR: 'it returns false'. Refute it at one input. -/
def freeCyclesWrong : ChangeSpec := { name := "freeCycles", fn := fun _ => fun
  | [d1, d2] => { results := [.lit (.bool false)], args := [d1, d2] }
  | _ => none }
def FreeCyclesWrongFalsely : Prop := freeCyclesRow.holds Try.pinned (OpenSpec.ofChange freeCyclesWrong)

/-- 'timbkeep1.FreeGroup': WHATEVER THE INPUT: true; the input reads as it did. -/
def freeGroupSpec : ChangeSpec := { name := "freeGroup", fn := fun _ => fun
  | [d1, d2, d3] => { results := [.lit (.bool true)], args := [d1, d2, d3] }
  | _ => none }
def freeGroupRow : OpenClaim := { program := "ytbckgomidoelaaa", sum := "49b135ab39219cdf7d8366b8c6519301f315cbe8b360dbd51024c2b5f4e58e8f", func := "timbrel/timbkeep1.FreeGroup", spec := "freeGroup", apart := false }
def FreeGroupSaid : Prop := freeGroupRow.holds Try.pinned (OpenSpec.ofChange freeGroupSpec)

/-- ITS FALSE NEIGHBOUR: 'it returns false'. Refute it at one input. -/
def freeGroupWrong : ChangeSpec := { name := "freeGroup", fn := fun _ => fun
  | [d1, d2, d3] => { results := [.lit (.bool false)], args := [d1, d2, d3] }
  | _ => none }
def FreeGroupWrongFalsely : Prop := freeGroupRow.holds Try.pinned (OpenSpec.ofChange freeGroupWrong)

/-- 'timbkeep1.FreeRoots': WHATEVER THE INPUT: true; the input reads as it did. -/
def freeRootsSpec : ChangeSpec := { name := "freeRoots", fn := fun _ => fun
  | [d1, d2] => { results := [.lit (.bool true)], args := [d1, d2] }
  | _ => none }
def freeRootsRow : OpenClaim := { program := "ytbckgomidoelaaa", sum := "49b135ab39219cdf7d8366b8c6519301f315cbe8b360dbd51024c2b5f4e58e8f", func := "timbrel/timbkeep1.FreeRoots", spec := "freeRoots", apart := false }
def FreeRootsSaid : Prop := freeRootsRow.holds Try.pinned (OpenSpec.ofChange freeRootsSpec)

/-- ITS FALSE NEIGHBOUR: 'it returns false'. Refute it at one input. -/
def freeRootsWrong : ChangeSpec := { name := "freeRoots", fn := fun _ => fun
  | [d1, d2] => { results := [.lit (.bool false)], args := [d1, d2] }
  | _ => none }
def FreeRootsWrongFalsely : Prop := freeRootsRow.holds Try.pinned (OpenSpec.ofChange freeRootsWrong)

/- THE SECOND FORM. 'bulk': how many values and letters a reading holds, each counted each time it is reached (what is shared counts as often as it is met; a slice's spare places count too). A statement '..UptoSaid' is the law's where the arguments, and the package variables that the reading takes, are together of bulk at most 1048576: NARROWER than '..Said'. Prove '..Said' where nothing that the law and all that it calls make is longer than what came in: it says more and counts as full. Else prove '..UptoSaid'. A law counts once. -/
mutual
def uptoBulk {H : Type} : DataW H → Nat
  | .lit (.string bytes) => bytes.length + 1
  | .lit _ => 1
  | .nil => 1
  | .ptr d => uptoBulk d + 1
  | .slice elems spare => uptoBulkAll elems + uptoBulkAll spare + 1
  | .agg parts => uptoBulkAll parts + 1
  | .iface _ d => uptoBulk d + 1
  | .map entries => uptoBulkEntries entries + 1
  | .held _ => 1
def uptoBulkAll {H : Type} : List (DataW H) → Nat
  | [] => 0
  | d :: r => uptoBulk d + uptoBulkAll r
def uptoBulkEntries {H : Type} : List (Lit × DataW H) → Nat
  | [] => 0
  | x :: r => uptoBulkEntry x + uptoBulkEntries r
def uptoBulkEntry {H : Type} : Lit × DataW H → Nat
  | (.string bytes, d) => bytes.length + uptoBulk d + 1
  | (_, d) => uptoBulk d + 1
 end
def uptoSmall : (H : Type) → List (DataW H) → Bool := fun _ ds => decide (uptoBulkAll ds ≤ 1048576)
def OpenSpec.upto (s : _root_.Go.ChangeSpec) : _root_.Go.OpenSpec := { _root_.Go.OpenSpec.ofChange s with cond := some uptoSmall }

/-- 'timblaw1.FreeReduces', WHERE WHAT IT READS IS OF BULK AT MOST 1048576: true; the input reads as it did. -/
def freeReducesUptoRow : OpenClaim := { program := "ytbckgomidoelaaa", sum := "49b135ab39219cdf7d8366b8c6519301f315cbe8b360dbd51024c2b5f4e58e8f", func := "timbrel/timblaw1.FreeReduces", spec := "freeReduces", apart := false, narrowed := true }
def FreeReducesUptoSaid : Prop := freeReducesUptoRow.holds Try.pinned (OpenSpec.upto freeReducesSpec)

/-- 'timblaw1.FreeCycles', WHERE WHAT IT READS IS OF BULK AT MOST 1048576: true; the input reads as it did. -/
def freeCyclesUptoRow : OpenClaim := { program := "ytbckgomidoelaaa", sum := "49b135ab39219cdf7d8366b8c6519301f315cbe8b360dbd51024c2b5f4e58e8f", func := "timbrel/timblaw1.FreeCycles", spec := "freeCycles", recurses := true, apart := false, narrowed := true }
def FreeCyclesUptoSaid : Prop := freeCyclesUptoRow.holds Try.pinned (OpenSpec.upto freeCyclesSpec)

/-- 'timbkeep1.FreeGroup', WHERE WHAT IT READS IS OF BULK AT MOST 1048576: true; the input reads as it did. -/
def freeGroupUptoRow : OpenClaim := { program := "ytbckgomidoelaaa", sum := "49b135ab39219cdf7d8366b8c6519301f315cbe8b360dbd51024c2b5f4e58e8f", func := "timbrel/timbkeep1.FreeGroup", spec := "freeGroup", apart := false, narrowed := true }
def FreeGroupUptoSaid : Prop := freeGroupUptoRow.holds Try.pinned (OpenSpec.upto freeGroupSpec)

/-- 'timbkeep1.FreeRoots', WHERE WHAT IT READS IS OF BULK AT MOST 1048576: true; the input reads as it did. -/
def freeRootsUptoRow : OpenClaim := { program := "ytbckgomidoelaaa", sum := "49b135ab39219cdf7d8366b8c6519301f315cbe8b360dbd51024c2b5f4e58e8f", func := "timbrel/timbkeep1.FreeRoots", spec := "freeRoots", apart := false, narrowed := true }
def FreeRootsUptoSaid : Prop := freeRootsUptoRow.holds Try.pinned (OpenSpec.upto freeRootsSpec)

end Rows
end Go.Proofs.Ytbckgomidoelaaa
