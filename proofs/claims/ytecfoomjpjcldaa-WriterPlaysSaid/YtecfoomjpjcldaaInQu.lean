/- Values of api.Quorum that came in, as the walks are told of them. -/
import Derived.Test.YtecfoomjpjcldaaFrm
namespace Go.Proofs.Ytecfoomjpjcldaa
open Go.RowKit

/-- One api.Quorum. -/
structure Qu where
  places : Int
  write : Int
  ack : Int
instance : Inhabited Qu := ⟨⟨0, 0, 0⟩⟩
def Qu.value (t : Qu) : Value := .agg #[.int .i64 t.places, .int .i64 t.write, .int .i64 t.ack]
/-- What is known of it but its cells. -/
structure QuOk (w : World) (t : Qu) : Prop where
  places_wf : (Lit.int .i64 t.places).wf = true
  write_wf : (Lit.int .i64 t.write).wf = true
  ack_wf : (Lit.int .i64 t.ack).wf = true
/-- It lies at block b from cell o on. -/
structure QuIn (w : World) (b o : Nat) (t : Qu) : Prop where
  c0 : w.cell? ⟨b, o, none⟩ = some (.int .i64 t.places)
  c1 : w.cell? ⟨b, o + 1, none⟩ = some (.int .i64 t.write)
  c2 : w.cell? ⟨b, o + 2, none⟩ = some (.int .i64 t.ack)
  ok : QuOk w t
def Qus (w : World) (a : Option Addr) (ts : List Qu) : Prop := 0 < ts.length → ∃ b off, a = some ⟨b, off, none⟩ ∧ ∀ i, i < ts.length → QuIn w b (off + i * 3) (ts.getD i default)
theorem QuOk.keep {w w' : World} {t : Qu} (h : QuOk w t) (_ : Frm [] w w') : QuOk w' t :=
  ⟨h.places_wf, h.write_wf, h.ack_wf⟩
theorem QuIn.keep {w w' : World} {b o : Nat} {t : Qu} (h : QuIn w b o t) (hf : Frm [] w w') : QuIn w' b o t :=
  ⟨(hf.cell (block_lt_of_cell h.c0) (by simp)).trans h.c0, (hf.cell (block_lt_of_cell h.c1) (by simp)).trans h.c1, (hf.cell (block_lt_of_cell h.c2) (by simp)).trans h.c2, h.ok.keep hf⟩
theorem Qus.keep {w w' : World} {a : Option Addr} {ts : List Qu} (h : Qus w a ts) (hf : Frm [] w w') : Qus w' a ts := fun h0 => by
  obtain ⟨b, off, ha, hi⟩ := h h0
  exact ⟨b, off, ha, fun i hl => (hi i hl).keep hf⟩
end Go.Proofs.Ytecfoomjpjcldaa
