/- Slices of bytes that came in, opened for the walks. -/
import Derived.Test.YtahhkffghhgojaaRows
import Derived.Test.YtahhkffghhgojaaCA
import Derived.ProofKit
import Derived.OpenShut
import Derived.ShutString
import Derived.ChangeOld
import Derived.Below
import Derived.Deep.Slices
import Derived.ChangeSame
namespace Go.Proofs.Ytahhkffghhgojaa
open Go.ChangeShapes Go.WideShapes Go.ChangeAt Go.RowKit

end Go.Proofs.Ytahhkffghhgojaa
