/-
  No cell of these rows narrows 'for every input' (looked for: loops, veiled, ifaces, maps, wideKeys, modest, calm, conditions, laid).
  DERIVED. THE GIVEN ROWS OF THIS SEAT. 3 by the template 'for every input the law returns true; each argument reads behind the call as it read before'; 0 by the template 'total and deterministic' (their statements: YtmeicmhojingfaaTotals.lean).
  GIVEN WITH THE SEED: the statements are not yours to turn. If you find one false, say at which input.
  Laid BY PROGRAM, IN A SANDBOX (cutbox-rows.mjs): the forced cells as the released guide's own fill.sh prints them over the translation 83d90f73e65f758b… (all of the seat's roots in one cut). By AI agents, Wed Nov 11 2026. No macro, syntax, notation, axiom, sorry.
-/
import Derived.Test.YtmeicmhojingfaaChecked
import GoSem.Claim
import GoSem.ClaimJoined
import GoSem.ClaimMapViews
import Derived.JoinedTies
import Derived.KernelRfl
namespace Go.Proofs.Ytmeicmhojingfaa
/- THE CELL 'sum', in the pinned program and in every row, IS THE sha256 OF THE DUMP (.gsa) THAT YtmeicmhojingfaaProg.lean LOADS. Nothing in Lean hashes anything: it is a label: what it is worth is what the hold of that sum in a sandbox is worth. -/
noncomputable def Try.pinned : Pinned := { name := "ytmeicmhojingfaa", sum := "83d90f73e65f758b9a2419a4a6804253792ec445c0114997462fafbcd1e7b4eb", checked := Try.checked }
namespace Rows
def none {H : Type} : Left H := { results := [], args := [] }

/-- 'timblaw1.JonesStates': WHATEVER THE INPUT: true; the input reads as it did. -/
def jonesStatesSpec : ChangeSpec := { name := "jonesStates", fn := fun _ => fun
  | [d1, d2] => { results := [.lit (.bool true)], args := [d1, d2] }
  | _ => none }
def jonesStatesRow : OpenClaim := { program := "ytmeicmhojingfaa", sum := "83d90f73e65f758b9a2419a4a6804253792ec445c0114997462fafbcd1e7b4eb", func := "timbrel/timblaw1.JonesStates", spec := "jonesStates", unfollowed := true, recurses := true, plainKeys := false, apart := false }
def JonesStatesSaid : Prop := jonesStatesRow.holds Try.pinned (OpenSpec.ofChange jonesStatesSpec)

/-- ITS FALSE NEIGHBOUR: 'it returns false'. Refute it at one input. -/
def jonesStatesWrong : ChangeSpec := { name := "jonesStates", fn := fun _ => fun
  | [d1, d2] => { results := [.lit (.bool false)], args := [d1, d2] }
  | _ => none }
def JonesStatesWrongFalsely : Prop := jonesStatesRow.holds Try.pinned (OpenSpec.ofChange jonesStatesWrong)

/-- 'timbkeep1.JonesMirror': WHATEVER THE INPUT: true; the input reads as it did. -/
def jonesMirrorSpec : ChangeSpec := { name := "jonesMirror", fn := fun _ => fun
  | [d1, d2] => { results := [.lit (.bool true)], args := [d1, d2] }
  | _ => none }
def jonesMirrorRow : OpenClaim := { program := "ytmeicmhojingfaa", sum := "83d90f73e65f758b9a2419a4a6804253792ec445c0114997462fafbcd1e7b4eb", func := "timbrel/timbkeep1.JonesMirror", spec := "jonesMirror", unfollowed := true, recurses := true, plainKeys := false, apart := false }
def JonesMirrorSaid : Prop := jonesMirrorRow.holds Try.pinned (OpenSpec.ofChange jonesMirrorSpec)

/-- ITS FALSE NEIGHBOUR: 'it returns false'. Refute it at one input. -/
def jonesMirrorWrong : ChangeSpec := { name := "jonesMirror", fn := fun _ => fun
  | [d1, d2] => { results := [.lit (.bool false)], args := [d1, d2] }
  | _ => none }
def JonesMirrorWrongFalsely : Prop := jonesMirrorRow.holds Try.pinned (OpenSpec.ofChange jonesMirrorWrong)

/-- 'timbkeep1.JonesSkein': WHATEVER THE INPUT: true; the input reads as it did. -/
def jonesSkeinSpec : ChangeSpec := { name := "jonesSkein", fn := fun _ => fun
  | [d1, d2, d3, d4] => { results := [.lit (.bool true)], args := [d1, d2, d3, d4] }
  | _ => none }
def jonesSkeinRow : OpenClaim := { program := "ytmeicmhojingfaa", sum := "83d90f73e65f758b9a2419a4a6804253792ec445c0114997462fafbcd1e7b4eb", func := "timbrel/timbkeep1.JonesSkein", spec := "jonesSkein", unfollowed := true, recurses := true, plainKeys := false, apart := false }
def JonesSkeinSaid : Prop := jonesSkeinRow.holds Try.pinned (OpenSpec.ofChange jonesSkeinSpec)

/-- ITS FALSE NEIGHBOUR: 'it returns false'. Refute it at one input. -/
def jonesSkeinWrong : ChangeSpec := { name := "jonesSkein", fn := fun _ => fun
  | [d1, d2, d3, d4] => { results := [.lit (.bool false)], args := [d1, d2, d3, d4] }
  | _ => none }
def JonesSkeinWrongFalsely : Prop := jonesSkeinRow.holds Try.pinned (OpenSpec.ofChange jonesSkeinWrong)

/- THE SECOND FORM. 'bulk': how many values and letters a reading holds, each counted each time it is reached (what is shared counts as often as it is met; a slice's spare places count too). A statement '..UptoSaid' is the law's where the arguments, and the package variables that the reading takes, are together of bulk at most 1048576: NARROWER than '..Said'. Prove '..Said' where nothing that the law and all that it calls make is longer than what came in: it says more and counts as full. Else prove '..UptoSaid'. A law counts once. -/
mutual
def uptoBulk {H : Type} : DataW H → Nat
  | .lit (.string bytes) => bytes.length + 1
  | .lit _ => 1
  | .nil => 1
  | .ptr d => uptoBulk d + 1
  | .slice elems spare => uptoBulkAll elems + uptoBulkAll spare + 1
  | .agg parts => uptoBulkAll parts + 1
  | .iface _ d => uptoBulk d + 1
  | .map entries => uptoBulkEntries entries + 1
  | .held _ => 1
def uptoBulkAll {H : Type} : List (DataW H) → Nat
  | [] => 0
  | d :: r => uptoBulk d + uptoBulkAll r
def uptoBulkEntries {H : Type} : List (Lit × DataW H) → Nat
  | [] => 0
  | x :: r => uptoBulkEntry x + uptoBulkEntries r
def uptoBulkEntry {H : Type} : Lit × DataW H → Nat
  | (.string bytes, d) => bytes.length + uptoBulk d + 1
  | (_, d) => uptoBulk d + 1
 end
def uptoSmall : (H : Type) → List (DataW H) → Bool := fun _ ds => decide (uptoBulkAll ds ≤ 1048576)
def OpenSpec.upto (s : _root_.Go.ChangeSpec) : _root_.Go.OpenSpec := { _root_.Go.OpenSpec.ofChange s with cond := some uptoSmall }

/-- 'timblaw1.JonesStates', WHERE WHAT IT READS IS OF BULK AT MOST 1048576: true; the input reads as it did. -/
def jonesStatesUptoRow : OpenClaim := { program := "ytmeicmhojingfaa", sum := "83d90f73e65f758b9a2419a4a6804253792ec445c0114997462fafbcd1e7b4eb", func := "timbrel/timblaw1.JonesStates", spec := "jonesStates", unfollowed := true, recurses := true, plainKeys := false, apart := false, narrowed := true }
def JonesStatesUptoSaid : Prop := jonesStatesUptoRow.holds Try.pinned (OpenSpec.upto jonesStatesSpec)

/-- 'timbkeep1.JonesMirror', WHERE WHAT IT READS IS OF BULK AT MOST 1048576: true; the input reads as it did. -/
def jonesMirrorUptoRow : OpenClaim := { program := "ytmeicmhojingfaa", sum := "83d90f73e65f758b9a2419a4a6804253792ec445c0114997462fafbcd1e7b4eb", func := "timbrel/timbkeep1.JonesMirror", spec := "jonesMirror", unfollowed := true, recurses := true, plainKeys := false, apart := false, narrowed := true }
def JonesMirrorUptoSaid : Prop := jonesMirrorUptoRow.holds Try.pinned (OpenSpec.upto jonesMirrorSpec)

/-- 'timbkeep1.JonesSkein', WHERE WHAT IT READS IS OF BULK AT MOST 1048576: true; the input reads as it did. -/
def jonesSkeinUptoRow : OpenClaim := { program := "ytmeicmhojingfaa", sum := "83d90f73e65f758b9a2419a4a6804253792ec445c0114997462fafbcd1e7b4eb", func := "timbrel/timbkeep1.JonesSkein", spec := "jonesSkein", unfollowed := true, recurses := true, plainKeys := false, apart := false, narrowed := true }
def JonesSkeinUptoSaid : Prop := jonesSkeinUptoRow.holds Try.pinned (OpenSpec.upto jonesSkeinSpec)

end Rows
end Go.Proofs.Ytmeicmhojingfaa
