/-
  No cell of these rows narrows 'for every input' (looked for: loops, veiled, ifaces, maps, wideKeys, modest, calm, conditions, laid).
  DERIVED. THE GIVEN ROWS OF THIS SEAT. 5 by the template 'for every input the law returns true; each argument reads behind the call as it read before'; 0 by the template 'total and deterministic' (their statements: YtndgffiihbdppaaTotals.lean).
  GIVEN WITH THE SEED: the statements are not yours to turn. If you find one false, say at which input.
  Laid BY PROGRAM, IN A SANDBOX (cutbox-rows.mjs): the forced cells as the released guide's own fill.sh prints them over the translation 2b6b1689362a88d6… (all of the seat's roots in one cut). By AI agents, Wed Nov 11 2026. No macro, syntax, notation, axiom, sorry.
-/
import Derived.Test.YtndgffiihbdppaaChecked
import GoSem.Claim
import GoSem.ClaimJoined
import GoSem.ClaimMapViews
import Derived.JoinedTies
import Derived.KernelRfl
namespace Go.Proofs.Ytndgffiihbdppaa
/- THE CELL 'sum', in the pinned program and in every row, IS THE sha256 OF THE DUMP (.gsa) THAT YtndgffiihbdppaaProg.lean LOADS. Nothing in Lean hashes anything: it is a label: what it is worth is what the hold of that sum in a sandbox is worth. -/
noncomputable def Try.pinned : Pinned := { name := "ytndgffiihbdppaa", sum := "2b6b1689362a88d6713fa00f5fa5de203eae6449197ada392c0b419ef0d6adb3", checked := Try.checked }
namespace Rows
def none {H : Type} : Left H := { results := [], args := [] }

/-- 'timblaw1.LinkParts': WHATEVER THE INPUT: true; the input reads as it did. -/
def linkPartsSpec : ChangeSpec := { name := "linkParts", fn := fun _ => fun
  | [d1, d2] => { results := [.lit (.bool true)], args := [d1, d2] }
  | _ => none }
def linkPartsRow : OpenClaim := { program := "ytndgffiihbdppaa", sum := "2b6b1689362a88d6713fa00f5fa5de203eae6449197ada392c0b419ef0d6adb3", func := "timbrel/timblaw1.LinkParts", spec := "linkParts", unfollowed := true, recurses := true, plainKeys := false, apart := false }
def LinkPartsSaid : Prop := linkPartsRow.holds Try.pinned (OpenSpec.ofChange linkPartsSpec)

/-- ITS FALSE NEIGHBOUR: 'it returns false'. Refute it at one input. -/
def linkPartsWrong : ChangeSpec := { name := "linkParts", fn := fun _ => fun
  | [d1, d2] => { results := [.lit (.bool false)], args := [d1, d2] }
  | _ => none }
def LinkPartsWrongFalsely : Prop := linkPartsRow.holds Try.pinned (OpenSpec.ofChange linkPartsWrong)

/-- 'timbkeep1.JonesOne': WHATEVER THE INPUT: true; the input reads as it did. -/
def jonesOneSpec : ChangeSpec := { name := "jonesOne", fn := fun _ => fun
  | [d1, d2] => { results := [.lit (.bool true)], args := [d1, d2] }
  | _ => none }
def jonesOneRow : OpenClaim := { program := "ytndgffiihbdppaa", sum := "2b6b1689362a88d6713fa00f5fa5de203eae6449197ada392c0b419ef0d6adb3", func := "timbrel/timbkeep1.JonesOne", spec := "jonesOne", unfollowed := true, recurses := true, plainKeys := false, apart := false }
def JonesOneSaid : Prop := jonesOneRow.holds Try.pinned (OpenSpec.ofChange jonesOneSpec)

/-- ITS FALSE NEIGHBOUR: 'it returns false'. Refute it at one input. -/
def jonesOneWrong : ChangeSpec := { name := "jonesOne", fn := fun _ => fun
  | [d1, d2] => { results := [.lit (.bool false)], args := [d1, d2] }
  | _ => none }
def JonesOneWrongFalsely : Prop := jonesOneRow.holds Try.pinned (OpenSpec.ofChange jonesOneWrong)

/-- 'timbkeep1.AlexanderSymmetry': WHATEVER THE INPUT: true; the input reads as it did. -/
def alexanderSymmetrySpec : ChangeSpec := { name := "alexanderSymmetry", fn := fun _ => fun
  | [d1, d2] => { results := [.lit (.bool true)], args := [d1, d2] }
  | _ => none }
def alexanderSymmetryRow : OpenClaim := { program := "ytndgffiihbdppaa", sum := "2b6b1689362a88d6713fa00f5fa5de203eae6449197ada392c0b419ef0d6adb3", func := "timbrel/timbkeep1.AlexanderSymmetry", spec := "alexanderSymmetry", unfollowed := true, recurses := true, plainKeys := false, apart := false }
def AlexanderSymmetrySaid : Prop := alexanderSymmetryRow.holds Try.pinned (OpenSpec.ofChange alexanderSymmetrySpec)

/-- ITS FALSE NEIGHBOUR: 'it returns false'. Refute it at one input. -/
def alexanderSymmetryWrong : ChangeSpec := { name := "alexanderSymmetry", fn := fun _ => fun
  | [d1, d2] => { results := [.lit (.bool false)], args := [d1, d2] }
  | _ => none }
def AlexanderSymmetryWrongFalsely : Prop := alexanderSymmetryRow.holds Try.pinned (OpenSpec.ofChange alexanderSymmetryWrong)

/-- 'timbkeep1.AlexanderParity': WHATEVER THE INPUT: true; the input reads as it did. -/
def alexanderParitySpec : ChangeSpec := { name := "alexanderParity", fn := fun _ => fun
  | [d1, d2] => { results := [.lit (.bool true)], args := [d1, d2] }
  | _ => none }
def alexanderParityRow : OpenClaim := { program := "ytndgffiihbdppaa", sum := "2b6b1689362a88d6713fa00f5fa5de203eae6449197ada392c0b419ef0d6adb3", func := "timbrel/timbkeep1.AlexanderParity", spec := "alexanderParity", unfollowed := true, recurses := true, plainKeys := false, apart := false }
def AlexanderParitySaid : Prop := alexanderParityRow.holds Try.pinned (OpenSpec.ofChange alexanderParitySpec)

/-- ITS FALSE NEIGHBOUR: 'it returns false'. Refute it at one input. -/
def alexanderParityWrong : ChangeSpec := { name := "alexanderParity", fn := fun _ => fun
  | [d1, d2] => { results := [.lit (.bool false)], args := [d1, d2] }
  | _ => none }
def AlexanderParityWrongFalsely : Prop := alexanderParityRow.holds Try.pinned (OpenSpec.ofChange alexanderParityWrong)

/-- 'timbkeep1.LinkSums': WHATEVER THE INPUT: true; the input reads as it did. -/
def linkSumsSpec : ChangeSpec := { name := "linkSums", fn := fun _ => fun
  | [d1, d2] => { results := [.lit (.bool true)], args := [d1, d2] }
  | _ => none }
def linkSumsRow : OpenClaim := { program := "ytndgffiihbdppaa", sum := "2b6b1689362a88d6713fa00f5fa5de203eae6449197ada392c0b419ef0d6adb3", func := "timbrel/timbkeep1.LinkSums", spec := "linkSums", plainKeys := false, apart := false }
def LinkSumsSaid : Prop := linkSumsRow.holds Try.pinned (OpenSpec.ofChange linkSumsSpec)

/-- ITS FALSE NEIGHBOUR: 'it returns false'. Refute it at one input. -/
def linkSumsWrong : ChangeSpec := { name := "linkSums", fn := fun _ => fun
  | [d1, d2] => { results := [.lit (.bool false)], args := [d1, d2] }
  | _ => none }
def LinkSumsWrongFalsely : Prop := linkSumsRow.holds Try.pinned (OpenSpec.ofChange linkSumsWrong)

/- THE SECOND FORM. 'bulk': how many values and letters a reading holds, each counted each time it is reached (what is shared counts as often as it is met; a slice's spare places count too). A statement '..UptoSaid' is the law's where the arguments, and the package variables that the reading takes, are together of bulk at most 1048576: NARROWER than '..Said'. Prove '..Said' where nothing that the law and all that it calls make is longer than what came in: it says more and counts as full. Else prove '..UptoSaid'. A law counts once. -/
mutual
def uptoBulk {H : Type} : DataW H → Nat
  | .lit (.string bytes) => bytes.length + 1
  | .lit _ => 1
  | .nil => 1
  | .ptr d => uptoBulk d + 1
  | .slice elems spare => uptoBulkAll elems + uptoBulkAll spare + 1
  | .agg parts => uptoBulkAll parts + 1
  | .iface _ d => uptoBulk d + 1
  | .map entries => uptoBulkEntries entries + 1
  | .held _ => 1
def uptoBulkAll {H : Type} : List (DataW H) → Nat
  | [] => 0
  | d :: r => uptoBulk d + uptoBulkAll r
def uptoBulkEntries {H : Type} : List (Lit × DataW H) → Nat
  | [] => 0
  | x :: r => uptoBulkEntry x + uptoBulkEntries r
def uptoBulkEntry {H : Type} : Lit × DataW H → Nat
  | (.string bytes, d) => bytes.length + uptoBulk d + 1
  | (_, d) => uptoBulk d + 1
 end
def uptoSmall : (H : Type) → List (DataW H) → Bool := fun _ ds => decide (uptoBulkAll ds ≤ 1048576)
def OpenSpec.upto (s : _root_.Go.ChangeSpec) : _root_.Go.OpenSpec := { _root_.Go.OpenSpec.ofChange s with cond := some uptoSmall }

/-- 'timblaw1.LinkParts', WHERE WHAT IT READS IS OF BULK AT MOST 1048576: true; the input reads as it did. -/
def linkPartsUptoRow : OpenClaim := { program := "ytndgffiihbdppaa", sum := "2b6b1689362a88d6713fa00f5fa5de203eae6449197ada392c0b419ef0d6adb3", func := "timbrel/timblaw1.LinkParts", spec := "linkParts", unfollowed := true, recurses := true, plainKeys := false, apart := false, narrowed := true }
def LinkPartsUptoSaid : Prop := linkPartsUptoRow.holds Try.pinned (OpenSpec.upto linkPartsSpec)

/-- 'timbkeep1.JonesOne', WHERE WHAT IT READS IS OF BULK AT MOST 1048576: true; the input reads as it did. -/
def jonesOneUptoRow : OpenClaim := { program := "ytndgffiihbdppaa", sum := "2b6b1689362a88d6713fa00f5fa5de203eae6449197ada392c0b419ef0d6adb3", func := "timbrel/timbkeep1.JonesOne", spec := "jonesOne", unfollowed := true, recurses := true, plainKeys := false, apart := false, narrowed := true }
def JonesOneUptoSaid : Prop := jonesOneUptoRow.holds Try.pinned (OpenSpec.upto jonesOneSpec)

/-- 'timbkeep1.AlexanderSymmetry', WHERE WHAT IT READS IS OF BULK AT MOST 1048576: true; the input reads as it did. -/
def alexanderSymmetryUptoRow : OpenClaim := { program := "ytndgffiihbdppaa", sum := "2b6b1689362a88d6713fa00f5fa5de203eae6449197ada392c0b419ef0d6adb3", func := "timbrel/timbkeep1.AlexanderSymmetry", spec := "alexanderSymmetry", unfollowed := true, recurses := true, plainKeys := false, apart := false, narrowed := true }
def AlexanderSymmetryUptoSaid : Prop := alexanderSymmetryUptoRow.holds Try.pinned (OpenSpec.upto alexanderSymmetrySpec)

/-- 'timbkeep1.AlexanderParity', WHERE WHAT IT READS IS OF BULK AT MOST 1048576: true; the input reads as it did. -/
def alexanderParityUptoRow : OpenClaim := { program := "ytndgffiihbdppaa", sum := "2b6b1689362a88d6713fa00f5fa5de203eae6449197ada392c0b419ef0d6adb3", func := "timbrel/timbkeep1.AlexanderParity", spec := "alexanderParity", unfollowed := true, recurses := true, plainKeys := false, apart := false, narrowed := true }
def AlexanderParityUptoSaid : Prop := alexanderParityUptoRow.holds Try.pinned (OpenSpec.upto alexanderParitySpec)

/-- 'timbkeep1.LinkSums', WHERE WHAT IT READS IS OF BULK AT MOST 1048576: true; the input reads as it did. -/
def linkSumsUptoRow : OpenClaim := { program := "ytndgffiihbdppaa", sum := "2b6b1689362a88d6713fa00f5fa5de203eae6449197ada392c0b419ef0d6adb3", func := "timbrel/timbkeep1.LinkSums", spec := "linkSums", plainKeys := false, apart := false, narrowed := true }
def LinkSumsUptoSaid : Prop := linkSumsUptoRow.holds Try.pinned (OpenSpec.upto linkSumsSpec)

end Rows
end Go.Proofs.Ytndgffiihbdppaa
