/- Values of api.Ledger that came in, opened for the walks. -/
import Derived.Test.YtghadpihmhaepaaZOpBase
import Derived.Test.YtghadpihmhaepaaZInLgi
namespace Go.Proofs.Ytghadpihmhaepaa
open Go.ChangeShapes Go.WideShapes Go.ChangeAt Go.RowKit
set_option maxRecDepth 100000

end Go.Proofs.Ytghadpihmhaepaa
