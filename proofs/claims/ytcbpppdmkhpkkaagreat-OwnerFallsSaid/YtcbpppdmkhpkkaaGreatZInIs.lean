/- A slice of ints that came in, as the walks are told of it. -/
import Derived.Test.YtcbpppdmkhpkkaaGreatMA
namespace Go.Proofs.YtcbpppdmkhpkkaaGreat
open Go.RowKit
def Is (w : World) (a : Option Addr) (l : List Int) : Prop := ∀ i, i < l.length → (-9223372036854775808 ≤ l.getD i 0 ∧ l.getD i 0 ≤ 9223372036854775807) ∧ ∃ b off, a = some ⟨b, off, none⟩ ∧ w.cell? ⟨b, off + i, none⟩ = some (.int .i64 (l.getD i 0))
theorem Is.keep {w w' : World} {a : Option Addr} {l : List Int} (h : Is w a l) (hf : Frm [] w w') : Is w' a l := fun i hi => by
  obtain ⟨h1, b, off, ha, hc⟩ := h i hi
  exact ⟨h1, b, off, ha, (hf.cell (block_lt_of_cell hc) (by simp)).trans hc⟩
end Go.Proofs.YtcbpppdmkhpkkaaGreat
