/-
  NARROWER THAN 'FOR EVERY INPUT', by the rows' own cells (each row's printed sentence says how): MatrixDets: laid · MatrixSmiths: laid · MatrixSolutions: laid · MatrixDetTimes: laid · MatrixTurned: laid · MatrixSmithChain: laid · MatrixCounts: laid.
  DERIVED. THE GIVEN ROWS OF THIS SEAT. 7 by the template 'for every input the law returns true; each argument reads behind the call as it read before'; 0 by the template 'total and deterministic' (their statements: YtgjblcfcbohjdaaDoorTotals.lean).
  GIVEN WITH THE SEED: the statements are not yours to turn. If you find one false, say at which input.
  Laid BY PROGRAM, IN A SANDBOX (cutbox-rows.mjs): the forced cells as the released guide's own fill.sh prints them over the translation 036b881323922353… (all of the seat's roots in one cut). By AI agents, Wed Nov 11 2026. No macro, syntax, notation, axiom, sorry.
-/
import Derived.Test.YtgjblcfcbohjdaaDoorChecked
import GoSem.Claim
import GoSem.ClaimJoined
import GoSem.ClaimMapViews
import Derived.JoinedTies
import Derived.KernelRfl
namespace Go.Proofs.YtgjblcfcbohjdaaDoor
/- THE CELL 'sum', in the pinned program and in every row, IS THE sha256 OF THE DUMP (.gsa) THAT YtgjblcfcbohjdaaDoorProg.lean LOADS. Nothing in Lean hashes anything: it is a label: what it is worth is what the hold of that sum in a sandbox is worth. -/
noncomputable def Tryd.pinned : Pinned := { name := "ytgjblcfcbohjdaadoor", sum := "036b8813239223532ac046c53de41e3db2901535f291c59527f70a1b1c7b19a5", checked := Tryd.checked }
namespace Rows
def none {H : Type} : Left H := { results := [], args := [] }

/- WHAT THE LISTED PACKAGE-LEVEL VARIABLES READ AS WHEN THE CALL BEGINS. Each datum BY PROGRAM (the guide's laid-datum.mjs) off the statement by which the dump's own 'gosem.cut.vars' lays the variable. In a bare row this is a premise. The card (YtgjblcfcbohjdaaDoorCards.lean) ties it to the program's text. -/
def laid_math_bits_deBruijn32tab {H : Type} : DataW H := .agg [.lit (.int .u8 0), .lit (.int .u8 1), .lit (.int .u8 28), .lit (.int .u8 2), .lit (.int .u8 29), .lit (.int .u8 14), .lit (.int .u8 24), .lit (.int .u8 3), .lit (.int .u8 30), .lit (.int .u8 22), .lit (.int .u8 20), .lit (.int .u8 15), .lit (.int .u8 25), .lit (.int .u8 17), .lit (.int .u8 4), .lit (.int .u8 8), .lit (.int .u8 31), .lit (.int .u8 27), .lit (.int .u8 13), .lit (.int .u8 23), .lit (.int .u8 21), .lit (.int .u8 19), .lit (.int .u8 16), .lit (.int .u8 7), .lit (.int .u8 26), .lit (.int .u8 12), .lit (.int .u8 18), .lit (.int .u8 6), .lit (.int .u8 11), .lit (.int .u8 5), .lit (.int .u8 10), .lit (.int .u8 9)]
def laid_math_bits_deBruijn64tab {H : Type} : DataW H := .agg [.lit (.int .u8 0), .lit (.int .u8 1), .lit (.int .u8 56), .lit (.int .u8 2), .lit (.int .u8 57), .lit (.int .u8 49), .lit (.int .u8 28), .lit (.int .u8 3), .lit (.int .u8 61), .lit (.int .u8 58), .lit (.int .u8 42), .lit (.int .u8 50), .lit (.int .u8 38), .lit (.int .u8 29), .lit (.int .u8 17), .lit (.int .u8 4), .lit (.int .u8 62), .lit (.int .u8 47), .lit (.int .u8 59), .lit (.int .u8 36), .lit (.int .u8 45), .lit (.int .u8 43), .lit (.int .u8 51), .lit (.int .u8 22), .lit (.int .u8 53), .lit (.int .u8 39), .lit (.int .u8 33), .lit (.int .u8 30), .lit (.int .u8 24), .lit (.int .u8 18), .lit (.int .u8 12), .lit (.int .u8 5), .lit (.int .u8 63), .lit (.int .u8 55), .lit (.int .u8 48), .lit (.int .u8 27), .lit (.int .u8 60), .lit (.int .u8 41), .lit (.int .u8 37), .lit (.int .u8 16), .lit (.int .u8 46), .lit (.int .u8 35), .lit (.int .u8 44), .lit (.int .u8 21), .lit (.int .u8 52), .lit (.int .u8 32), .lit (.int .u8 23), .lit (.int .u8 11), .lit (.int .u8 54), .lit (.int .u8 26), .lit (.int .u8 40), .lit (.int .u8 15), .lit (.int .u8 34), .lit (.int .u8 20), .lit (.int .u8 31), .lit (.int .u8 10), .lit (.int .u8 25), .lit (.int .u8 14), .lit (.int .u8 19), .lit (.int .u8 9), .lit (.int .u8 13), .lit (.int .u8 8), .lit (.int .u8 7), .lit (.int .u8 6)]

/-- 'timblaw1.MatrixDets': WHATEVER THE INPUT: true; the input reads as it did. -/
def matrixDetsSpec : ChangeSpec := { name := "matrixDets", fn := fun _ => fun
  | [d] => { results := [.lit (.bool true)], args := [d] }
  | _ => none }
def matrixDetsRow : OpenClaim := { program := "ytgjblcfcbohjdaadoor", sum := "036b8813239223532ac046c53de41e3db2901535f291c59527f70a1b1c7b19a5", func := "timbrel/timblaw1.MatrixDets", spec := "matrixDets", unfollowed := true, recurses := true, named := ["math/bits.deBruijn32tab", "math/bits.deBruijn64tab"], apart := false, laid := [("math/bits.deBruijn32tab", laid_math_bits_deBruijn32tab), ("math/bits.deBruijn64tab", laid_math_bits_deBruijn64tab)] }
def MatrixDetsSaid : Prop := matrixDetsRow.holds Tryd.pinned (OpenSpec.ofChange matrixDetsSpec)

/-- ITS FALSE NEIGHBOUR: 'it returns false'. Refute it at one input. -/
def matrixDetsWrong : ChangeSpec := { name := "matrixDets", fn := fun _ => fun
  | [d] => { results := [.lit (.bool false)], args := [d] }
  | _ => none }
def MatrixDetsWrongFalsely : Prop := matrixDetsRow.holds Tryd.pinned (OpenSpec.ofChange matrixDetsWrong)

/-- 'timblaw1.MatrixSmiths': WHATEVER THE INPUT: true; the input reads as it did. -/
def matrixSmithsSpec : ChangeSpec := { name := "matrixSmiths", fn := fun _ => fun
  | [d] => { results := [.lit (.bool true)], args := [d] }
  | _ => none }
def matrixSmithsRow : OpenClaim := { program := "ytgjblcfcbohjdaadoor", sum := "036b8813239223532ac046c53de41e3db2901535f291c59527f70a1b1c7b19a5", func := "timbrel/timblaw1.MatrixSmiths", spec := "matrixSmiths", unfollowed := true, recurses := true, named := ["math/bits.deBruijn32tab", "math/bits.deBruijn64tab"], apart := false, laid := [("math/bits.deBruijn32tab", laid_math_bits_deBruijn32tab), ("math/bits.deBruijn64tab", laid_math_bits_deBruijn64tab)] }
def MatrixSmithsSaid : Prop := matrixSmithsRow.holds Tryd.pinned (OpenSpec.ofChange matrixSmithsSpec)

/-- ITS FALSE NEIGHBOUR: 'it returns false'. Refute it at one input. -/
def matrixSmithsWrong : ChangeSpec := { name := "matrixSmiths", fn := fun _ => fun
  | [d] => { results := [.lit (.bool false)], args := [d] }
  | _ => none }
def MatrixSmithsWrongFalsely : Prop := matrixSmithsRow.holds Tryd.pinned (OpenSpec.ofChange matrixSmithsWrong)

/-- 'timblaw1.MatrixSolutions': WHATEVER THE INPUT: true; the input reads as it did. -/
def matrixSolutionsSpec : ChangeSpec := { name := "matrixSolutions", fn := fun _ => fun
  | [d1, d2] => { results := [.lit (.bool true)], args := [d1, d2] }
  | _ => none }
def matrixSolutionsRow : OpenClaim := { program := "ytgjblcfcbohjdaadoor", sum := "036b8813239223532ac046c53de41e3db2901535f291c59527f70a1b1c7b19a5", func := "timbrel/timblaw1.MatrixSolutions", spec := "matrixSolutions", unfollowed := true, recurses := true, named := ["math/bits.deBruijn32tab", "math/bits.deBruijn64tab"], apart := false, laid := [("math/bits.deBruijn32tab", laid_math_bits_deBruijn32tab), ("math/bits.deBruijn64tab", laid_math_bits_deBruijn64tab)] }
def MatrixSolutionsSaid : Prop := matrixSolutionsRow.holds Tryd.pinned (OpenSpec.ofChange matrixSolutionsSpec)

/-- ITS FALSE NEIGHBOUR: 'it returns false'. Refute it at one input. -/
def matrixSolutionsWrong : ChangeSpec := { name := "matrixSolutions", fn := fun _ => fun
  | [d1, d2] => { results := [.lit (.bool false)], args := [d1, d2] }
  | _ => none }
def MatrixSolutionsWrongFalsely : Prop := matrixSolutionsRow.holds Tryd.pinned (OpenSpec.ofChange matrixSolutionsWrong)

/-- 'timbkeep1.MatrixDetTimes': WHATEVER THE INPUT: true; the input reads as it did. -/
def matrixDetTimesSpec : ChangeSpec := { name := "matrixDetTimes", fn := fun _ => fun
  | [d1, d2, d3] => { results := [.lit (.bool true)], args := [d1, d2, d3] }
  | _ => none }
def matrixDetTimesRow : OpenClaim := { program := "ytgjblcfcbohjdaadoor", sum := "036b8813239223532ac046c53de41e3db2901535f291c59527f70a1b1c7b19a5", func := "timbrel/timbkeep1.MatrixDetTimes", spec := "matrixDetTimes", named := ["math/bits.deBruijn32tab", "math/bits.deBruijn64tab"], apart := false, laid := [("math/bits.deBruijn32tab", laid_math_bits_deBruijn32tab), ("math/bits.deBruijn64tab", laid_math_bits_deBruijn64tab)] }
def MatrixDetTimesSaid : Prop := matrixDetTimesRow.holds Tryd.pinned (OpenSpec.ofChange matrixDetTimesSpec)

/-- ITS FALSE NEIGHBOUR: 'it returns false'. Refute it at one input. -/
def matrixDetTimesWrong : ChangeSpec := { name := "matrixDetTimes", fn := fun _ => fun
  | [d1, d2, d3] => { results := [.lit (.bool false)], args := [d1, d2, d3] }
  | _ => none }
def MatrixDetTimesWrongFalsely : Prop := matrixDetTimesRow.holds Tryd.pinned (OpenSpec.ofChange matrixDetTimesWrong)

/-- 'timbkeep1.MatrixTurned': WHATEVER THE INPUT: true; the input reads as it did. -/
def matrixTurnedSpec : ChangeSpec := { name := "matrixTurned", fn := fun _ => fun
  | [d1, d2, d3, d4] => { results := [.lit (.bool true)], args := [d1, d2, d3, d4] }
  | _ => none }
def matrixTurnedRow : OpenClaim := { program := "ytgjblcfcbohjdaadoor", sum := "036b8813239223532ac046c53de41e3db2901535f291c59527f70a1b1c7b19a5", func := "timbrel/timbkeep1.MatrixTurned", spec := "matrixTurned", named := ["math/bits.deBruijn32tab", "math/bits.deBruijn64tab"], apart := false, laid := [("math/bits.deBruijn32tab", laid_math_bits_deBruijn32tab), ("math/bits.deBruijn64tab", laid_math_bits_deBruijn64tab)] }
def MatrixTurnedSaid : Prop := matrixTurnedRow.holds Tryd.pinned (OpenSpec.ofChange matrixTurnedSpec)

/-- ITS FALSE NEIGHBOUR: 'it returns false'. Refute it at one input. -/
def matrixTurnedWrong : ChangeSpec := { name := "matrixTurned", fn := fun _ => fun
  | [d1, d2, d3, d4] => { results := [.lit (.bool false)], args := [d1, d2, d3, d4] }
  | _ => none }
def MatrixTurnedWrongFalsely : Prop := matrixTurnedRow.holds Tryd.pinned (OpenSpec.ofChange matrixTurnedWrong)

/-- 'timbkeep1.MatrixSmithChain': WHATEVER THE INPUT: true; the input reads as it did. -/
def matrixSmithChainSpec : ChangeSpec := { name := "matrixSmithChain", fn := fun _ => fun
  | [d1, d2, d3, d4, d5] => { results := [.lit (.bool true)], args := [d1, d2, d3, d4, d5] }
  | _ => none }
def matrixSmithChainRow : OpenClaim := { program := "ytgjblcfcbohjdaadoor", sum := "036b8813239223532ac046c53de41e3db2901535f291c59527f70a1b1c7b19a5", func := "timbrel/timbkeep1.MatrixSmithChain", spec := "matrixSmithChain", unfollowed := true, recurses := true, named := ["math/bits.deBruijn32tab", "math/bits.deBruijn64tab"], apart := false, laid := [("math/bits.deBruijn32tab", laid_math_bits_deBruijn32tab), ("math/bits.deBruijn64tab", laid_math_bits_deBruijn64tab)] }
def MatrixSmithChainSaid : Prop := matrixSmithChainRow.holds Tryd.pinned (OpenSpec.ofChange matrixSmithChainSpec)

/-- ITS FALSE NEIGHBOUR: 'it returns false'. Refute it at one input. -/
def matrixSmithChainWrong : ChangeSpec := { name := "matrixSmithChain", fn := fun _ => fun
  | [d1, d2, d3, d4, d5] => { results := [.lit (.bool false)], args := [d1, d2, d3, d4, d5] }
  | _ => none }
def MatrixSmithChainWrongFalsely : Prop := matrixSmithChainRow.holds Tryd.pinned (OpenSpec.ofChange matrixSmithChainWrong)

/-- 'timbkeep1.MatrixCounts': WHATEVER THE INPUT: true; the input reads as it did. -/
def matrixCountsSpec : ChangeSpec := { name := "matrixCounts", fn := fun _ => fun
  | [d1, d2, d3, d4] => { results := [.lit (.bool true)], args := [d1, d2, d3, d4] }
  | _ => none }
def matrixCountsRow : OpenClaim := { program := "ytgjblcfcbohjdaadoor", sum := "036b8813239223532ac046c53de41e3db2901535f291c59527f70a1b1c7b19a5", func := "timbrel/timbkeep1.MatrixCounts", spec := "matrixCounts", named := ["math/bits.deBruijn32tab", "math/bits.deBruijn64tab"], apart := false, laid := [("math/bits.deBruijn32tab", laid_math_bits_deBruijn32tab), ("math/bits.deBruijn64tab", laid_math_bits_deBruijn64tab)] }
def MatrixCountsSaid : Prop := matrixCountsRow.holds Tryd.pinned (OpenSpec.ofChange matrixCountsSpec)

/-- ITS FALSE NEIGHBOUR: 'it returns false'. Refute it at one input. -/
def matrixCountsWrong : ChangeSpec := { name := "matrixCounts", fn := fun _ => fun
  | [d1, d2, d3, d4] => { results := [.lit (.bool false)], args := [d1, d2, d3, d4] }
  | _ => none }
def MatrixCountsWrongFalsely : Prop := matrixCountsRow.holds Tryd.pinned (OpenSpec.ofChange matrixCountsWrong)

/- THE SECOND FORM. 'bulk': how many values and letters a reading holds, each counted each time it is reached (what is shared counts as often as it is met; a slice's spare places count too). A statement '..UptoSaid' is the law's where the arguments, and the package variables that the reading takes, are together of bulk at most 1048576: NARROWER than '..Said'. Prove '..Said' where nothing that the law and all that it calls make is longer than what came in: it says more and counts as full. Else prove '..UptoSaid'. A law counts once. -/
mutual
def uptoBulk {H : Type} : DataW H → Nat
  | .lit (.string bytes) => bytes.length + 1
  | .lit _ => 1
  | .nil => 1
  | .ptr d => uptoBulk d + 1
  | .slice elems spare => uptoBulkAll elems + uptoBulkAll spare + 1
  | .agg parts => uptoBulkAll parts + 1
  | .iface _ d => uptoBulk d + 1
  | .map entries => uptoBulkEntries entries + 1
  | .held _ => 1
def uptoBulkAll {H : Type} : List (DataW H) → Nat
  | [] => 0
  | d :: r => uptoBulk d + uptoBulkAll r
def uptoBulkEntries {H : Type} : List (Lit × DataW H) → Nat
  | [] => 0
  | x :: r => uptoBulkEntry x + uptoBulkEntries r
def uptoBulkEntry {H : Type} : Lit × DataW H → Nat
  | (.string bytes, d) => bytes.length + uptoBulk d + 1
  | (_, d) => uptoBulk d + 1
 end
def uptoSmall : (H : Type) → List (DataW H) → Bool := fun _ ds => decide (uptoBulkAll ds ≤ 1048576)
def OpenSpec.upto (s : _root_.Go.ChangeSpec) : _root_.Go.OpenSpec := { _root_.Go.OpenSpec.ofChange s with cond := some uptoSmall }

/-- 'timblaw1.MatrixDets', WHERE WHAT IT READS IS OF BULK AT MOST 1048576: true; the input reads as it did. -/
def matrixDetsUptoRow : OpenClaim := { program := "ytgjblcfcbohjdaadoor", sum := "036b8813239223532ac046c53de41e3db2901535f291c59527f70a1b1c7b19a5", func := "timbrel/timblaw1.MatrixDets", spec := "matrixDets", unfollowed := true, recurses := true, named := ["math/bits.deBruijn32tab", "math/bits.deBruijn64tab"], apart := false, laid := [("math/bits.deBruijn32tab", laid_math_bits_deBruijn32tab), ("math/bits.deBruijn64tab", laid_math_bits_deBruijn64tab)], narrowed := true }
def MatrixDetsUptoSaid : Prop := matrixDetsUptoRow.holds Tryd.pinned (OpenSpec.upto matrixDetsSpec)

/-- 'timblaw1.MatrixSmiths', WHERE WHAT IT READS IS OF BULK AT MOST 1048576: true; the input reads as it did. -/
def matrixSmithsUptoRow : OpenClaim := { program := "ytgjblcfcbohjdaadoor", sum := "036b8813239223532ac046c53de41e3db2901535f291c59527f70a1b1c7b19a5", func := "timbrel/timblaw1.MatrixSmiths", spec := "matrixSmiths", unfollowed := true, recurses := true, named := ["math/bits.deBruijn32tab", "math/bits.deBruijn64tab"], apart := false, laid := [("math/bits.deBruijn32tab", laid_math_bits_deBruijn32tab), ("math/bits.deBruijn64tab", laid_math_bits_deBruijn64tab)], narrowed := true }
def MatrixSmithsUptoSaid : Prop := matrixSmithsUptoRow.holds Tryd.pinned (OpenSpec.upto matrixSmithsSpec)

/-- 'timblaw1.MatrixSolutions', WHERE WHAT IT READS IS OF BULK AT MOST 1048576: true; the input reads as it did. -/
def matrixSolutionsUptoRow : OpenClaim := { program := "ytgjblcfcbohjdaadoor", sum := "036b8813239223532ac046c53de41e3db2901535f291c59527f70a1b1c7b19a5", func := "timbrel/timblaw1.MatrixSolutions", spec := "matrixSolutions", unfollowed := true, recurses := true, named := ["math/bits.deBruijn32tab", "math/bits.deBruijn64tab"], apart := false, laid := [("math/bits.deBruijn32tab", laid_math_bits_deBruijn32tab), ("math/bits.deBruijn64tab", laid_math_bits_deBruijn64tab)], narrowed := true }
def MatrixSolutionsUptoSaid : Prop := matrixSolutionsUptoRow.holds Tryd.pinned (OpenSpec.upto matrixSolutionsSpec)

/-- 'timbkeep1.MatrixDetTimes', WHERE WHAT IT READS IS OF BULK AT MOST 1048576: true; the input reads as it did. -/
def matrixDetTimesUptoRow : OpenClaim := { program := "ytgjblcfcbohjdaadoor", sum := "036b8813239223532ac046c53de41e3db2901535f291c59527f70a1b1c7b19a5", func := "timbrel/timbkeep1.MatrixDetTimes", spec := "matrixDetTimes", named := ["math/bits.deBruijn32tab", "math/bits.deBruijn64tab"], apart := false, laid := [("math/bits.deBruijn32tab", laid_math_bits_deBruijn32tab), ("math/bits.deBruijn64tab", laid_math_bits_deBruijn64tab)], narrowed := true }
def MatrixDetTimesUptoSaid : Prop := matrixDetTimesUptoRow.holds Tryd.pinned (OpenSpec.upto matrixDetTimesSpec)

/-- 'timbkeep1.MatrixTurned', WHERE WHAT IT READS IS OF BULK AT MOST 1048576: true; the input reads as it did. -/
def matrixTurnedUptoRow : OpenClaim := { program := "ytgjblcfcbohjdaadoor", sum := "036b8813239223532ac046c53de41e3db2901535f291c59527f70a1b1c7b19a5", func := "timbrel/timbkeep1.MatrixTurned", spec := "matrixTurned", named := ["math/bits.deBruijn32tab", "math/bits.deBruijn64tab"], apart := false, laid := [("math/bits.deBruijn32tab", laid_math_bits_deBruijn32tab), ("math/bits.deBruijn64tab", laid_math_bits_deBruijn64tab)], narrowed := true }
def MatrixTurnedUptoSaid : Prop := matrixTurnedUptoRow.holds Tryd.pinned (OpenSpec.upto matrixTurnedSpec)

/-- 'timbkeep1.MatrixSmithChain', WHERE WHAT IT READS IS OF BULK AT MOST 1048576: true; the input reads as it did. -/
def matrixSmithChainUptoRow : OpenClaim := { program := "ytgjblcfcbohjdaadoor", sum := "036b8813239223532ac046c53de41e3db2901535f291c59527f70a1b1c7b19a5", func := "timbrel/timbkeep1.MatrixSmithChain", spec := "matrixSmithChain", unfollowed := true, recurses := true, named := ["math/bits.deBruijn32tab", "math/bits.deBruijn64tab"], apart := false, laid := [("math/bits.deBruijn32tab", laid_math_bits_deBruijn32tab), ("math/bits.deBruijn64tab", laid_math_bits_deBruijn64tab)], narrowed := true }
def MatrixSmithChainUptoSaid : Prop := matrixSmithChainUptoRow.holds Tryd.pinned (OpenSpec.upto matrixSmithChainSpec)

/-- 'timbkeep1.MatrixCounts', WHERE WHAT IT READS IS OF BULK AT MOST 1048576: true; the input reads as it did. -/
def matrixCountsUptoRow : OpenClaim := { program := "ytgjblcfcbohjdaadoor", sum := "036b8813239223532ac046c53de41e3db2901535f291c59527f70a1b1c7b19a5", func := "timbrel/timbkeep1.MatrixCounts", spec := "matrixCounts", named := ["math/bits.deBruijn32tab", "math/bits.deBruijn64tab"], apart := false, laid := [("math/bits.deBruijn32tab", laid_math_bits_deBruijn32tab), ("math/bits.deBruijn64tab", laid_math_bits_deBruijn64tab)], narrowed := true }
def MatrixCountsUptoSaid : Prop := matrixCountsUptoRow.holds Tryd.pinned (OpenSpec.upto matrixCountsSpec)

end Rows
end Go.Proofs.YtgjblcfcbohjdaaDoor
