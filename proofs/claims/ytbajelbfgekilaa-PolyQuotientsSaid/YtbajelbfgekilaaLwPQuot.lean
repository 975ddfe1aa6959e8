/- The law and the package together. -/
import Derived.Test.YtbajelbfgekilaaLaOk
import Derived.Test.YtbajelbfgekilaaLawPQuot
namespace Go.Proofs.Ytbajelbfgekilaa
end Go.Proofs.Ytbajelbfgekilaa
