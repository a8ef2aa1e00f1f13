/- Slices of [2][]byte that came in, as the walks are told of them. -/
import Derived.Test.YteidfplenleogaaMA
namespace Go.Proofs.Yteidfplenleogaa
open Go.RowKit

structure Bp where
  xA : Option Addr := none
  xC : Nat := 0
  x : List Nat := []
  yA : Option Addr := none
  yC : Nat := 0
  y : List Nat := []
  deriving Inhabited
structure BpIn (w : World) (b off : Nat) (t : Bp) : Prop where
  c0 : w.cell? ⟨b, off, none⟩ = some (.slice t.xA t.x.length t.xC)
  c1 : w.cell? ⟨b, off + 1, none⟩ = some (.slice t.yA t.y.length t.yC)
  bx : Bytes w t.xA t.x
  byy : Bytes w t.yA t.y
  nx : t.xA = none → t.xC = 0
  ny : t.yA = none → t.yC = 0
theorem BpIn.keep {w w' : World} {b off : Nat} {t : Bp} (h : BpIn w b off t) (hf : Frm [] w w') : BpIn w' b off t :=
  ⟨(hf.cell (block_lt_of_cell h.c0) (by simp)).trans h.c0, (hf.cell (block_lt_of_cell h.c1) (by simp)).trans h.c1, hf.bytes h.bx (by simp), hf.bytes h.byy (by simp), h.nx, h.ny⟩
def Bps (w : World) (a : Option Addr) (ts : List Bp) : Prop := 0 < ts.length → ∃ b off, a = some ⟨b, off, none⟩ ∧ ∀ i, i < ts.length → BpIn w b (off + i * 2) (ts.getD i default)
theorem Bps.keep {w w' : World} {a : Option Addr} {ts : List Bp} (h : Bps w a ts) (hf : Frm [] w w') : Bps w' a ts := fun h0 => by
  obtain ⟨b, off, ha, hi⟩ := h h0
  exact ⟨b, off, ha, fun i hl => (hi i hl).keep hf⟩
end Go.Proofs.Yteidfplenleogaa
