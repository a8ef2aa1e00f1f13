/- What a crash leaves, as lists. Plain mathematics. -/
import Derived.Test.YtomgiockelhfiaaGreatMX
namespace Go.Proofs.YtomgiockelhfiaaGreat
open Go.RowKit

end Go.Proofs.YtomgiockelhfiaaGreat
