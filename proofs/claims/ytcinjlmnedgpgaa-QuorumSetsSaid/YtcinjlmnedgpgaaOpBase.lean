/- Slices of bytes that came in, opened for the walks. -/
import Derived.Test.YtcinjlmnedgpgaaRows
import Derived.Test.YtcinjlmnedgpgaaFrm
import Derived.ProofKit
import Derived.OpenShut
import Derived.ShutString
import Derived.ChangeOld
import Derived.Below
import Derived.Deep.Slices
import Derived.ChangeSame
namespace Go.Proofs.Ytcinjlmnedgpgaa
open Go.ChangeShapes Go.WideShapes Go.ChangeAt Go.RowKit

theorem cellsByte : Try.prog.cellsOf 5 = 1 := by kernel_rfl
end Go.Proofs.Ytcinjlmnedgpgaa
