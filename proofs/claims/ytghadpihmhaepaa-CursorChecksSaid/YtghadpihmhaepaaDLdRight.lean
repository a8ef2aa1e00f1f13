/- Contracts of the document's Right. -/
import Derived.Test.YtghadpihmhaepaaCB
namespace Go.Proofs.Ytghadpihmhaepaa
open Go.RowKit
set_option maxRecDepth 100000

end Go.Proofs.Ytghadpihmhaepaa
