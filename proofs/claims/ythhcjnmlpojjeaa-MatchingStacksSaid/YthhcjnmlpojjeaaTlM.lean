/- The planar matchings come in order of their lists, Catalan numbers of them. -/
import Derived.Test.YthhcjnmlpojjeaaTlX
import Derived.Test.YthhcjnmlpojjeaaSmall2
import Derived.Test.YthhcjnmlpojjeaaBase1
namespace Go.Proofs.Ythhcjnmlpojjeaa
set_option linter.unusedVariables false
set_option linter.unusedSimpArgs false
open Go.RowKit

theorem plan_len : (Tl.plan 1).length = 1 ∧ (Tl.plan 2).length = 2 ∧ (Tl.plan 3).length = 5 ∧ (Tl.plan 4).length = 14 ∧ (Tl.plan 5).length = 42 ∧ (Tl.plan 6).length = 132 := by decide +kernel
end Go.Proofs.Ythhcjnmlpojjeaa
