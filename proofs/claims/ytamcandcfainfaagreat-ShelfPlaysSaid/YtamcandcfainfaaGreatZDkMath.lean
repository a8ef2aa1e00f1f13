/- What a crash leaves, as lists. Plain mathematics. -/
import Derived.Test.YtamcandcfainfaaGreatMB
import Derived.Test.YtamcandcfainfaaGreatMA
namespace Go.Proofs.YtamcandcfainfaaGreat
open Go.RowKit

end Go.Proofs.YtamcandcfainfaaGreat
