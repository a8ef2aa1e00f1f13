/- Values of mailcoachlaw16.Act that came in, as the walks are told of them. -/
import Derived.Test.YtbdgmpfdcmmfhaaDoorFrm
namespace Go.Proofs.YtbdgmpfdcmmfhaaDoor
open Go.RowKit

/-- One mailcoachlaw16.Act. -/
structure Ba where
  jn : Bool
  pl : Int
  raw : Bool
instance : Inhabited Ba := ⟨⟨false, 0, false⟩⟩
def Ba.value (t : Ba) : Value := .agg #[.bool t.jn, .int .i64 t.pl, .bool t.raw]
/-- What is known of it but its cells. -/
structure BaOk (w : World) (t : Ba) : Prop where
  pl_wf : (Lit.int .i64 t.pl).wf = true
/-- It lies at block b from cell o on. -/
structure BaIn (w : World) (b o : Nat) (t : Ba) : Prop where
  c0 : w.cell? ⟨b, o, none⟩ = some (.bool t.jn)
  c1 : w.cell? ⟨b, o + 1, none⟩ = some (.int .i64 t.pl)
  c2 : w.cell? ⟨b, o + 2, none⟩ = some (.bool t.raw)
  ok : BaOk w t
def Bas (w : World) (a : Option Addr) (ts : List Ba) : Prop := 0 < ts.length → ∃ b off, a = some ⟨b, off, none⟩ ∧ ∀ i, i < ts.length → BaIn w b (off + i * 3) (ts.getD i default)
theorem BaOk.keep {w w' : World} {t : Ba} (h : BaOk w t) (_ : Frm [] w w') : BaOk w' t :=
  ⟨h.pl_wf⟩
theorem BaIn.keep {w w' : World} {b o : Nat} {t : Ba} (h : BaIn w b o t) (hf : Frm [] w w') : BaIn w' b o t :=
  ⟨(hf.cell (block_lt_of_cell h.c0) (by simp)).trans h.c0, (hf.cell (block_lt_of_cell h.c1) (by simp)).trans h.c1, (hf.cell (block_lt_of_cell h.c2) (by simp)).trans h.c2, h.ok.keep hf⟩
theorem Bas.keep {w w' : World} {a : Option Addr} {ts : List Ba} (h : Bas w a ts) (hf : Frm [] w w') : Bas w' a ts := fun h0 => by
  obtain ⟨b, off, ha, hi⟩ := h h0
  exact ⟨b, off, ha, fun i hl => (hi i hl).keep hf⟩
end Go.Proofs.YtbdgmpfdcmmfhaaDoor
