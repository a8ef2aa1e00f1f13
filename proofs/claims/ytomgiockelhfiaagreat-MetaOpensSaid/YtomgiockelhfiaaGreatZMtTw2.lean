/- Both keepers: what they show, a crash, Open again; how they begin. -/
import Derived.Test.YtomgiockelhfiaaGreatMX
import Derived.Test.YtomgiockelhfiaaGreatZMtTw
import Derived.Test.YtomgiockelhfiaaGreatZMtShows
import Derived.Test.YtomgiockelhfiaaGreatZDsSays
namespace Go.Proofs.YtomgiockelhfiaaGreat
open Go.RowKit
set_option maxRecDepth 100000
section
variable {w0 w : World} {Z : List Nat} {k dp q m room : Nat} {S : MS} {l : List Nat}
/-- The program's disk, behind a crash, and the document's keeper. -/
def Td (w0 w : World) (Z : List Nat) (dp q m room : Nat) (S : MS) (l : List Nat) : Prop :=
  ∃ Fd Gd, Dk w w0.heap.size dp Fd l l.length room ∧ (∀ x ∈ Fd, x ∉ q :: (Gd ++ Z)) ∧ Rk w w0.heap.size q m (Fd ++ Z) Gd S l room ∧ Frm [] w0 w ∧ ∀ x ∈ Z, x < w.heap.size
end
end Go.Proofs.YtomgiockelhfiaaGreat
