/- Values of mailcoachlaw04.Act that came in, as the walks are told of them. -/
import Derived.Test.YtibaloloheakpaaFrm
namespace Go.Proofs.Ytibaloloheakpaa
open Go.RowKit

/-- One mailcoachlaw04.Act. -/
structure Ac where
  k : Nat
  bsA : Option Addr
  bsC : Nat
  bs : List Nat
  n : Int
  keep : Int
  bit : Int
instance : Inhabited Ac := ⟨⟨0, none, 0, [], 0, 0, 0⟩⟩
def Ac.value (t : Ac) : Value := .agg #[.int .u8 (t.k : Nat), .slice t.bsA t.bs.length t.bsC, .int .i64 t.n, .int .i64 t.keep, .int .i64 t.bit]
/-- What is known of it but its cells. -/
structure AcOk (w : World) (t : Ac) : Prop where
  k_lt : t.k < 256
  bs_b : Bytes w t.bsA t.bs
  bs_le : t.bs.length ≤ t.bsC
  bs_nil : t.bsA = none → t.bsC = 0
  n_wf : (Lit.int .i64 t.n).wf = true
  keep_wf : (Lit.int .i64 t.keep).wf = true
  bit_wf : (Lit.int .i64 t.bit).wf = true
/-- It lies at block b from cell o on. -/
structure AcIn (w : World) (b o : Nat) (t : Ac) : Prop where
  c0 : w.cell? ⟨b, o, none⟩ = some (.int .u8 (t.k : Nat))
  c1 : w.cell? ⟨b, o + 1, none⟩ = some (.slice t.bsA t.bs.length t.bsC)
  c2 : w.cell? ⟨b, o + 2, none⟩ = some (.int .i64 t.n)
  c3 : w.cell? ⟨b, o + 3, none⟩ = some (.int .i64 t.keep)
  c4 : w.cell? ⟨b, o + 4, none⟩ = some (.int .i64 t.bit)
  ok : AcOk w t
def Acs (w : World) (a : Option Addr) (ts : List Ac) : Prop := 0 < ts.length → ∃ b off, a = some ⟨b, off, none⟩ ∧ ∀ i, i < ts.length → AcIn w b (off + i * 5) (ts.getD i default)
theorem AcOk.keep {w w' : World} {t : Ac} (h : AcOk w t) (hf : Frm [] w w') : AcOk w' t :=
  ⟨h.k_lt, hf.bytes h.bs_b (by simp), h.bs_le, h.bs_nil, h.n_wf, h.keep_wf, h.bit_wf⟩
theorem AcIn.keep {w w' : World} {b o : Nat} {t : Ac} (h : AcIn w b o t) (hf : Frm [] w w') : AcIn w' b o t :=
  ⟨(hf.cell (block_lt_of_cell h.c0) (by simp)).trans h.c0, (hf.cell (block_lt_of_cell h.c1) (by simp)).trans h.c1, (hf.cell (block_lt_of_cell h.c2) (by simp)).trans h.c2, (hf.cell (block_lt_of_cell h.c3) (by simp)).trans h.c3, (hf.cell (block_lt_of_cell h.c4) (by simp)).trans h.c4, h.ok.keep hf⟩
theorem Acs.keep {w w' : World} {a : Option Addr} {ts : List Ac} (h : Acs w a ts) (hf : Frm [] w w') : Acs w' a ts := fun h0 => by
  obtain ⟨b, off, ha, hi⟩ := h h0
  exact ⟨b, off, ha, fun i hl => (hi i hl).keep hf⟩
end Go.Proofs.Ytibaloloheakpaa
