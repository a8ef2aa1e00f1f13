/- Slices of [2]int that came in, as the walks are told of them. -/
import Derived.Test.YtibaloloheakpaaFrm
namespace Go.Proofs.Ytibaloloheakpaa
open Go.RowKit

def Prs (w : World) (a : Option Addr) (ts : List (Int × Int)) : Prop :=
  0 < ts.length → ∃ b off, a = some ⟨b, off, none⟩ ∧ ∀ i, i < ts.length → w.cell? ⟨b, off + i * 2, none⟩ = some (.int .i64 (ts.getD i (0, 0)).1) ∧ w.cell? ⟨b, off + i * 2 + 1, none⟩ = some (.int .i64 (ts.getD i (0, 0)).2)
theorem Prs.keep {w w' : World} {a : Option Addr} {ts : List (Int × Int)} (h : Prs w a ts) (hf : Frm [] w w') : Prs w' a ts := fun h0 => by
  obtain ⟨b, off, ha, hi⟩ := h h0
  exact ⟨b, off, ha, fun i hl => ⟨(hf.cell (block_lt_of_cell (hi i hl).1) (by simp)).trans (hi i hl).1, (hf.cell (block_lt_of_cell (hi i hl).2) (by simp)).trans (hi i hl).2⟩⟩
end Go.Proofs.Ytibaloloheakpaa
