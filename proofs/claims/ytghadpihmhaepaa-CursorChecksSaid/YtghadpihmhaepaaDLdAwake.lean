/- Layer 13's fixed fact: contract of Awake. -/
import Derived.Test.YtghadpihmhaepaaCB
namespace Go.Proofs.Ytghadpihmhaepaa
open Go.RowKit
set_option maxRecDepth 100000

def exL : List Ld := [⟨3, true, 2⟩, ⟨5, false, 0⟩]
theorem ld_lit (w : World) (X : List Ld) (cs : Array Value) (hcs : cs.toList = ldc X) (hf : ∀ x ∈ X, x.fits) : LdL (w.alloc (.cells cs 69)) [] (some ⟨w.heap.size, 0, none⟩) X := by
  refine ⟨.inr ⟨_, _, rfl, fun i u hu => ?_⟩, hf, by simp⟩
  rw [(Whole.made w _ cs).cell, Nat.zero_add, ← hu, ← hcs]
  simp
end Go.Proofs.Ytghadpihmhaepaa
