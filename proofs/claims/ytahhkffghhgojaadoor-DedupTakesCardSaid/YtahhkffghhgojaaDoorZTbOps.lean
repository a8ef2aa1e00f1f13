/- Contracts of the document's Begin, Done. -/
import Derived.Test.YtahhkffghhgojaaDoorZTbAt
import Derived.Test.YtahhkffghhgojaaDoorMB
import Derived.Laws.OwnMore
namespace Go.Proofs.YtahhkffghhgojaaDoor
open Go.RowKit
set_option maxRecDepth 100000

end Go.Proofs.YtahhkffghhgojaaDoor
