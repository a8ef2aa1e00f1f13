/- Values of api.Ledger that came in, as the walks are told of them. -/
import Derived.Test.YtghadpihmhaepaaMA
namespace Go.Proofs.Ytghadpihmhaepaa
open Go.RowKit

/-- One api.Ledger. -/
structure Lgi where
  id : Nat
  cl : Bool
  n : Nat
instance : Inhabited Lgi := ⟨⟨0, false, 0⟩⟩
def Lgi.value (t : Lgi) : Value := .agg #[.int .u64 (t.id : Nat), .bool t.cl, .int .u64 (t.n : Nat)]
/-- What is known of it but its cells. -/
structure LgiOk (w : World) (t : Lgi) : Prop where
  id_lt : t.id < 18446744073709551616
  n_lt : t.n < 18446744073709551616
/-- It lies at block b from cell o on. -/
structure LgiIn (w : World) (b o : Nat) (t : Lgi) : Prop where
  c0 : w.cell? ⟨b, o, none⟩ = some (.int .u64 (t.id : Nat))
  c1 : w.cell? ⟨b, o + 1, none⟩ = some (.bool t.cl)
  c2 : w.cell? ⟨b, o + 2, none⟩ = some (.int .u64 (t.n : Nat))
  ok : LgiOk w t
def Lgis (w : World) (a : Option Addr) (ts : List Lgi) : Prop := 0 < ts.length → ∃ b off, a = some ⟨b, off, none⟩ ∧ ∀ i, i < ts.length → LgiIn w b (off + i * 3) (ts.getD i default)
theorem LgiOk.keep {w w' : World} {t : Lgi} (h : LgiOk w t) (_ : Frm [] w w') : LgiOk w' t :=
  ⟨h.id_lt, h.n_lt⟩
theorem LgiIn.keep {w w' : World} {b o : Nat} {t : Lgi} (h : LgiIn w b o t) (hf : Frm [] w w') : LgiIn w' b o t :=
  ⟨(hf.cell (block_lt_of_cell h.c0) (by simp)).trans h.c0, (hf.cell (block_lt_of_cell h.c1) (by simp)).trans h.c1, (hf.cell (block_lt_of_cell h.c2) (by simp)).trans h.c2, h.ok.keep hf⟩
theorem Lgis.keep {w w' : World} {a : Option Addr} {ts : List Lgi} (h : Lgis w a ts) (hf : Frm [] w w') : Lgis w' a ts := fun h0 => by
  obtain ⟨b, off, ha, hi⟩ := h h0
  exact ⟨b, off, ha, fun i hl => (hi i hl).keep hf⟩
end Go.Proofs.Ytghadpihmhaepaa
