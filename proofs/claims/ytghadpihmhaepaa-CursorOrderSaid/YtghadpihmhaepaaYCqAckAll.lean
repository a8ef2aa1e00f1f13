/- Contract of the program's AckAll. Written by a program out of XCqAck. -/
import Derived.Test.YtghadpihmhaepaaYCqAck
namespace Go.Proofs.Ytghadpihmhaepaa
open Go.RowKit
set_option maxRecDepth 100000

end Go.Proofs.Ytghadpihmhaepaa
