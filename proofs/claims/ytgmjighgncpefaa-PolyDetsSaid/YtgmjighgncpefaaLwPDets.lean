/- PolyDets, with what package polymatrix answers. -/
import Derived.Test.YtgmjighgncpefaaPmOk
import Derived.Test.YtgmjighgncpefaaLawPDets
