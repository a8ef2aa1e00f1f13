/- The document's table in memory; contract of at: a name's place. -/
import Derived.Test.YtahhkffghhgojaaDoorMB
import Derived.Test.YtahhkffghhgojaaDoorMA
namespace Go.Proofs.YtahhkffghhgojaaDoor
open Go.RowKit
set_option maxRecDepth 100000

end Go.Proofs.YtahhkffghhgojaaDoor
