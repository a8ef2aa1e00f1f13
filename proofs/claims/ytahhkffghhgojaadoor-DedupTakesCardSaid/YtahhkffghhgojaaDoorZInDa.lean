/- Values of mailcoachlaw15.Act that came in, as the walks are told of them. -/
import Derived.Test.YtahhkffghhgojaaDoorMA
namespace Go.Proofs.YtahhkffghhgojaaDoor
open Go.RowKit

/-- One mailcoachlaw15.Act. -/
structure Da where
  k : Nat
  nm : ByteArray
  seq : Nat
  atL : Nat
  atE : Nat
  raw : Bool
instance : Inhabited Da := ⟨⟨0, ⟨#[]⟩, 0, 0, 0, false⟩⟩
def Da.value (t : Da) : Value := .agg #[.int .u8 (t.k : Nat), .string t.nm, .int .u64 (t.seq : Nat), .int .u64 (t.atL : Nat), .int .u64 (t.atE : Nat), .bool t.raw]
/-- What is known of it but its cells. -/
structure DaOk (w : World) (t : Da) : Prop where
  k_lt : t.k < 256
  nm_le : t.nm.size ≤ 9223372036854775807
  seq_lt : t.seq < 18446744073709551616
  atL_lt : t.atL < 18446744073709551616
  atE_lt : t.atE < 18446744073709551616
/-- It lies at block b from cell o on. -/
structure DaIn (w : World) (b o : Nat) (t : Da) : Prop where
  c0 : w.cell? ⟨b, o, none⟩ = some (.int .u8 (t.k : Nat))
  c1 : w.cell? ⟨b, o + 1, none⟩ = some (.string t.nm)
  c2 : w.cell? ⟨b, o + 2, none⟩ = some (.int .u64 (t.seq : Nat))
  c3 : w.cell? ⟨b, o + 3, none⟩ = some (.int .u64 (t.atL : Nat))
  c4 : w.cell? ⟨b, o + 4, none⟩ = some (.int .u64 (t.atE : Nat))
  c5 : w.cell? ⟨b, o + 5, none⟩ = some (.bool t.raw)
  ok : DaOk w t
def Das (w : World) (a : Option Addr) (ts : List Da) : Prop := 0 < ts.length → ∃ b off, a = some ⟨b, off, none⟩ ∧ ∀ i, i < ts.length → DaIn w b (off + i * 6) (ts.getD i default)
theorem DaOk.keep {w w' : World} {t : Da} (h : DaOk w t) (_ : Frm [] w w') : DaOk w' t :=
  ⟨h.k_lt, h.nm_le, h.seq_lt, h.atL_lt, h.atE_lt⟩
theorem DaIn.keep {w w' : World} {b o : Nat} {t : Da} (h : DaIn w b o t) (hf : Frm [] w w') : DaIn w' b o t :=
  ⟨(hf.cell (block_lt_of_cell h.c0) (by simp)).trans h.c0, (hf.cell (block_lt_of_cell h.c1) (by simp)).trans h.c1, (hf.cell (block_lt_of_cell h.c2) (by simp)).trans h.c2, (hf.cell (block_lt_of_cell h.c3) (by simp)).trans h.c3, (hf.cell (block_lt_of_cell h.c4) (by simp)).trans h.c4, (hf.cell (block_lt_of_cell h.c5) (by simp)).trans h.c5, h.ok.keep hf⟩
theorem Das.keep {w w' : World} {a : Option Addr} {ts : List Da} (h : Das w a ts) (hf : Frm [] w w') : Das w' a ts := fun h0 => by
  obtain ⟨b, off, ha, hi⟩ := h h0
  exact ⟨b, off, ha, fun i hl => (hi i hl).keep hf⟩
end Go.Proofs.YtahhkffghhgojaaDoor
