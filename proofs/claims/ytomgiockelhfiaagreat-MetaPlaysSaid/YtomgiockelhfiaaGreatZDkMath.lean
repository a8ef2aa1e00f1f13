/- What a crash leaves, as lists. Plain mathematics. -/
import Derived.Test.YtomgiockelhfiaaGreatMB
import Derived.Test.YtomgiockelhfiaaGreatMA
namespace Go.Proofs.YtomgiockelhfiaaGreat
open Go.RowKit

end Go.Proofs.YtomgiockelhfiaaGreat
