/- Contract of the document's RightCursor. -/
import Derived.Test.YtghadpihmhaepaaMB
import Derived.Deep.DeepCutAuto
namespace Go.Proofs.Ytghadpihmhaepaa
open Go.RowKit
set_option maxRecDepth 100000

end Go.Proofs.Ytghadpihmhaepaa
