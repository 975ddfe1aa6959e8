/- The law and the package together. -/
import Derived.Test.YtbajelbfgekilaaLaOk
import Derived.Test.YtbajelbfgekilaaLawPSing
namespace Go.Proofs.Ytbajelbfgekilaa
end Go.Proofs.Ytbajelbfgekilaa
