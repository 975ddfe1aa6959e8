/- Package laurent answers as the document asks. -/
import Derived.Test.YtbajelbfgekilaaLa6
import Derived.Test.YtbajelbfgekilaaLa8
import Derived.Test.YtbajelbfgekilaaLa9
import Derived.Test.YtbajelbfgekilaaLa10
import Derived.Test.YtbajelbfgekilaaLa11
import Derived.Test.YtbajelbfgekilaaLa13
namespace Go.Proofs.Ytbajelbfgekilaa
theorem polyC : PolyC where
  check la A n c xs w ha _ := lcheck_any la A n c xs w ha
  add la A n c xs lb B m d ys w ha hb _ _ := ladd_any la A n c xs lb B m d ys w ha hb
  sub la A n c xs lb B m d ys w ha hb _ _ := lsub_any la A n c xs lb B m d ys w ha hb
  mul la A n c xs lb B m d ys w ha hb _ _ := lmul_any la A n c xs lb B m d ys w ha hb
  div la A n c xs lb B m d ys w ha hb _ _ := ldiv_any la A n c xs lb B m d ys w ha hb
  eval la A n c xs x w ha hla hx := leval_any la A n c xs x w ha hla hx
  conj la A n c xs w ha _ := lconj_any la A n c xs w ha
  norm la A n c xs w ha _ := lnorm_any la A n c xs w ha
end Go.Proofs.Ytbajelbfgekilaa
