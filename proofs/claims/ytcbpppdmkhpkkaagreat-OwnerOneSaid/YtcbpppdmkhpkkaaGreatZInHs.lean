/- A slice of small numbers (uint16) that came in, as the walks are told of it. -/
import Derived.Test.YtcbpppdmkhpkkaaGreatMA
namespace Go.Proofs.YtcbpppdmkhpkkaaGreat
open Go.RowKit

def Hs (w : World) (a : Option Addr) (l : List Nat) : Prop := ∀ i, i < l.length → l.getD i 0 < 65536 ∧ ∃ b off, a = some ⟨b, off, none⟩ ∧ w.cell? ⟨b, off + i, none⟩ = some (.int .u16 (l.getD i 0 : Nat))
theorem Hs.keep {w w' : World} {a : Option Addr} {l : List Nat} (h : Hs w a l) (hf : Frm [] w w') : Hs w' a l := fun i hi => by
  obtain ⟨h1, b, off, ha, hc⟩ := h i hi
  exact ⟨h1, b, off, ha, (hf.cell (block_lt_of_cell hc) (by simp)).trans hc⟩
end Go.Proofs.YtcbpppdmkhpkkaaGreat
