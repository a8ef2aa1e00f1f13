/- The walk of LedgersBetween. -/
import Derived.Test.YtghadpihmhaepaaDLdAwake
import Derived.Test.YtghadpihmhaepaaDLdRight
import Derived.Deep.DeepCutAuto
namespace Go.Proofs.Ytghadpihmhaepaa
open Go.RowKit
set_option maxRecDepth 100000

/-- What a law answers. -/
def LTrue (w : World) (e : Ending) (w' : World) : Prop := e = .returned (.bool true) ∧ Below w.heap.size w w'
theorem lTrue {w w' : World} (hf : Frm [] w w') : LTrue w (.returned (.bool true)) w' := ⟨rfl, hf.below (by simp) (Nat.le_refl _)⟩
end Go.Proofs.Ytghadpihmhaepaa
