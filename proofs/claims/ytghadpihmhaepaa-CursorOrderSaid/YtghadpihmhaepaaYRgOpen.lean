/- Slices of ranges, ranges and numbers that came in, in the words of the walks. -/
import Derived.Test.YtghadpihmhaepaaRows
import Derived.Test.YtghadpihmhaepaaYRgJoin
import Derived.ProofKit
import Derived.OpenShut
import Derived.ShutString
import Derived.ChangeOld
import Derived.Below
import Derived.Deep.Slices
import Derived.ChangeSame
namespace Go.Proofs.Ytghadpihmhaepaa
open Go.ChangeShapes Go.WideShapes Go.ChangeAt Go.RowKit
set_option maxRecDepth 100000

end Go.Proofs.Ytghadpihmhaepaa
