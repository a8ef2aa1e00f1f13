/- What slices of bytes have room for. -/
import Derived.Test.YtamcandcfainfaaGreatMX
namespace Go.Proofs.YtamcandcfainfaaGreat
open Go.RowKit
/-- What each of them holds is no more than it has room for. -/
def LCap (w : World) (a : Option Addr) (L : List (List Nat)) : Prop := ∀ i, i < L.length → ∃ b off ai ci, a = some ⟨b, off, none⟩ ∧ w.cell? ⟨b, off + i, none⟩ = some (.slice ai (L.getD i []).length ci) ∧ (L.getD i []).length ≤ ci
theorem LCap.keep {w w' : World} {a : Option Addr} {L : List (List Nat)} (h : LCap w a L) (hf : Frm [] w w') : LCap w' a L := fun i hi => by
  obtain ⟨b, off, ai, ci, h1, h2, h3⟩ := h i hi
  exact ⟨b, off, ai, ci, h1, (hf.cell (p := ⟨b, off + i, none⟩) (block_lt_of_cell h2) (by simp)).trans h2, h3⟩
end Go.Proofs.YtamcandcfainfaaGreat
