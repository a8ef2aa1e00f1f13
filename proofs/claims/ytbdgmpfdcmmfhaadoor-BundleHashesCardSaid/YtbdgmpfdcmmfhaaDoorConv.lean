/- A string turned into bytes: where they lie. It speaks of no program. (Taken out of XPkWords.) -/
import Derived.Test.YtbdgmpfdcmmfhaaDoorStrL
import Derived.Test.YtbdgmpfdcmmfhaaDoorFrm
import Derived.Lib.ConvBytes
namespace Go.Proofs.YtbdgmpfdcmmfhaaDoor
open Go.RowKit

theorem conv_frm (w : World) (e : TypeId) (s : ByteArray) : Frm [] w (Lib.bytesWorld w e s) :=
  ⟨rfl, rfl, rfl, by rw [Lib.bytesWorld_size]; omega, fun k hk _ => Lib.bytesWorld_at_old w e s k hk⟩
theorem conv_bytes (w : World) (e : TypeId) (s : ByteArray) (hs : s.size ≤ 9223372036854775807) : Bytes (Lib.bytesWorld w e s) (some ⟨w.heap.size, 0, none⟩) (strL s) := by
  refine ⟨strL_lt s, by rw [strL_length]; exact hs, .inr ⟨_, _, rfl, fun i hi => ?_⟩⟩
  rw [strL_length] at hi
  rw [Nat.zero_add, Lib.bytesWorld_cell w e s i hi]
  have h2 : i < s.data.toList.length := by simpa using hi
  simp [strL, List.getD, hi]
end Go.Proofs.YtbdgmpfdcmmfhaaDoor
