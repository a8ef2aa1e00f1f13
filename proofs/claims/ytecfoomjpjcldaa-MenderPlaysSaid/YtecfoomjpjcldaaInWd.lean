/- Values of mailcoachlaw12.Word that came in, as the walks are told of them. -/
import Derived.Test.YtecfoomjpjcldaaFrm
import Derived.Test.YtecfoomjpjcldaaIt
namespace Go.Proofs.Ytecfoomjpjcldaa
open Go.RowKit

/-- One mailcoachlaw12.Word. -/
structure Wd where
  place : Int
  sure : Nat
  lA : Option Addr
  lC : Nat
  l : List Ix
  raw : Bool
instance : Inhabited Wd := ⟨⟨0, 0, none, 0, [], false⟩⟩
def Wd.value (t : Wd) : Value := .agg #[.int .i64 t.place, .int .u64 (t.sure : Nat), .slice t.lA t.l.length t.lC, .bool t.raw]
/-- What is known of it but its cells. -/
structure WdOk (w : World) (t : Wd) : Prop where
  place_wf : (Lit.int .i64 t.place).wf = true
  sure_lt : t.sure < 18446744073709551616
  l_b : IL w [] t.lA t.l
  l_le : t.l.length ≤ t.lC
  l_nil : t.lA = none → t.lC = 0
/-- It lies at block b from cell o on. -/
structure WdIn (w : World) (b o : Nat) (t : Wd) : Prop where
  c0 : w.cell? ⟨b, o, none⟩ = some (.int .i64 t.place)
  c1 : w.cell? ⟨b, o + 1, none⟩ = some (.int .u64 (t.sure : Nat))
  c2 : w.cell? ⟨b, o + 2, none⟩ = some (.slice t.lA t.l.length t.lC)
  c3 : w.cell? ⟨b, o + 3, none⟩ = some (.bool t.raw)
  ok : WdOk w t
def Wds (w : World) (a : Option Addr) (ts : List Wd) : Prop := 0 < ts.length → ∃ b off, a = some ⟨b, off, none⟩ ∧ ∀ i, i < ts.length → WdIn w b (off + i * 4) (ts.getD i default)
theorem WdOk.keep {w w' : World} {t : Wd} (h : WdOk w t) (hf : Frm [] w w') : WdOk w' t :=
  ⟨h.place_wf, h.sure_lt, h.l_b.keep hf (by simp) (by simp), h.l_le, h.l_nil⟩
theorem WdIn.keep {w w' : World} {b o : Nat} {t : Wd} (h : WdIn w b o t) (hf : Frm [] w w') : WdIn w' b o t :=
  ⟨(hf.cell (block_lt_of_cell h.c0) (by simp)).trans h.c0, (hf.cell (block_lt_of_cell h.c1) (by simp)).trans h.c1, (hf.cell (block_lt_of_cell h.c2) (by simp)).trans h.c2, (hf.cell (block_lt_of_cell h.c3) (by simp)).trans h.c3, h.ok.keep hf⟩
theorem Wds.keep {w w' : World} {a : Option Addr} {ts : List Wd} (h : Wds w a ts) (hf : Frm [] w w') : Wds w' a ts := fun h0 => by
  obtain ⟨b, off, ha, hi⟩ := h h0
  exact ⟨b, off, ha, fun i hl => (hi i hl).keep hf⟩
end Go.Proofs.Ytecfoomjpjcldaa
