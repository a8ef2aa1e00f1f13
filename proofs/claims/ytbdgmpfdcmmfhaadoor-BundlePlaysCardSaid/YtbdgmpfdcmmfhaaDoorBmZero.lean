/- The document's Map as it is made. -/
import Derived.Test.YtbdgmpfdcmmfhaaDoorBaFew
import Derived.Test.YtbdgmpfdcmmfhaaDoorBmMath
namespace Go.Proofs.YtbdgmpfdcmmfhaaDoor
open Go.RowKit
set_option maxRecDepth 100000
theorem mapZ_run (w : World) : (zeroValue 30).run Tryd.prog w = .ok (.agg (Array.replicate 65536 (.bool false))) w := by
  have h := map_zero
  cases e : Tryd.prog.info? 30 with
  | none => rw [e] at h; cases h
  | some i =>
    rw [e] at h
    have hz : i.zero = some (.agg (Array.replicate 65536 (.bool false))) := h
    simp only [zeroValue, Sem.run_bind]
    rw [run_typeInfo w e]
    simp [Result.andThen, hz]
theorem Mp.made1 (w : World) (t : TypeId) : Mp (w.alloc (.cells ((Array.replicate 65536 (.bool false)).setIfInBounds 0 (.bool true)) t)) w.heap.size (Bf []) := by
  have h := Whole.made w t ((Array.replicate 65536 (Value.bool false)).setIfInBounds 0 (.bool true))
  refine ⟨fun i hi => ?_, fun i _ => h.free i⟩
  rw [h.cell i]
  by_cases e : i = 0
  · subst e
    rw [Array.getElem?_setIfInBounds_self_of_lt (by simp), Bf_zero]
  · rw [Array.getElem?_setIfInBounds_ne (by omega), Array.getElem?_replicate, if_pos hi, Bf_false.2 ⟨e, by simp⟩]
end Go.Proofs.YtbdgmpfdcmmfhaaDoor
