/- What a crash leaves, as lists. Plain mathematics. -/
import Derived.Test.YtamcandcfainfaaGreatMX
namespace Go.Proofs.YtamcandcfainfaaGreat
open Go.RowKit

end Go.Proofs.YtamcandcfainfaaGreat
