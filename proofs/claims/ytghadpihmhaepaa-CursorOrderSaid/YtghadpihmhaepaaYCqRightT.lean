/- Contract of the law's Right (raw: true). Written by wip/mk-cqright.py. -/
import Derived.Test.YtghadpihmhaepaaYCqRightM
namespace Go.Proofs.Ytghadpihmhaepaa
open Go.RowKit
set_option maxRecDepth 100000

end Go.Proofs.Ytghadpihmhaepaa
