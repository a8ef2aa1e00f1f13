/- Values of mailcoachlaw09.Act that came in, as the walks are told of them. -/
import Derived.Test.YtamcandcfainfaaGreatMX
namespace Go.Proofs.YtamcandcfainfaaGreat
open Go.RowKit

/-- One mailcoachlaw09.Act. -/
structure Sa where
  kind : Nat
  led : Nat
  ent : Nat
  raw : Bool
  mends : Bool
  sure : Nat
  dataA : Option Addr
  dataC : Nat
  data : List Nat
instance : Inhabited Sa := ⟨⟨0, 0, 0, false, false, 0, none, 0, []⟩⟩
def Sa.value (t : Sa) : Value := .agg #[.int .u8 (t.kind : Nat), .int .u64 (t.led : Nat), .int .u64 (t.ent : Nat), .bool t.raw, .bool t.mends, .int .u64 (t.sure : Nat), .slice t.dataA t.data.length t.dataC]
/-- What is known of it but its cells. -/
structure SaOk (w : World) (t : Sa) : Prop where
  kind_lt : t.kind < 256
  led_lt : t.led < 18446744073709551616
  ent_lt : t.ent < 18446744073709551616
  sure_lt : t.sure < 18446744073709551616
  data_b : Bytes w t.dataA t.data
  data_le : t.data.length ≤ t.dataC
  data_nil : t.dataA = none → t.dataC = 0
/-- It lies at block b from cell o on. -/
structure SaIn (w : World) (b o : Nat) (t : Sa) : Prop where
  c0 : w.cell? ⟨b, o, none⟩ = some (.int .u8 (t.kind : Nat))
  c1 : w.cell? ⟨b, o + 1, none⟩ = some (.int .u64 (t.led : Nat))
  c2 : w.cell? ⟨b, o + 2, none⟩ = some (.int .u64 (t.ent : Nat))
  c3 : w.cell? ⟨b, o + 3, none⟩ = some (.bool t.raw)
  c4 : w.cell? ⟨b, o + 4, none⟩ = some (.bool t.mends)
  c5 : w.cell? ⟨b, o + 5, none⟩ = some (.int .u64 (t.sure : Nat))
  c6 : w.cell? ⟨b, o + 6, none⟩ = some (.slice t.dataA t.data.length t.dataC)
  ok : SaOk w t
def Sas (w : World) (a : Option Addr) (ts : List Sa) : Prop := 0 < ts.length → ∃ b off, a = some ⟨b, off, none⟩ ∧ ∀ i, i < ts.length → SaIn w b (off + i * 7) (ts.getD i default)
theorem SaOk.keep {w w' : World} {t : Sa} (h : SaOk w t) (hf : Frm [] w w') : SaOk w' t :=
  ⟨h.kind_lt, h.led_lt, h.ent_lt, h.sure_lt, hf.bytes h.data_b (by simp), h.data_le, h.data_nil⟩
theorem SaIn.keep {w w' : World} {b o : Nat} {t : Sa} (h : SaIn w b o t) (hf : Frm [] w w') : SaIn w' b o t :=
  ⟨(hf.cell (block_lt_of_cell h.c0) (by simp)).trans h.c0, (hf.cell (block_lt_of_cell h.c1) (by simp)).trans h.c1, (hf.cell (block_lt_of_cell h.c2) (by simp)).trans h.c2, (hf.cell (block_lt_of_cell h.c3) (by simp)).trans h.c3, (hf.cell (block_lt_of_cell h.c4) (by simp)).trans h.c4, (hf.cell (block_lt_of_cell h.c5) (by simp)).trans h.c5, (hf.cell (block_lt_of_cell h.c6) (by simp)).trans h.c6, h.ok.keep hf⟩
theorem Sas.keep {w w' : World} {a : Option Addr} {ts : List Sa} (h : Sas w a ts) (hf : Frm [] w w') : Sas w' a ts := fun h0 => by
  obtain ⟨b, off, ha, hi⟩ := h h0
  exact ⟨b, off, ha, fun i hl => (hi i hl).keep hf⟩
end Go.Proofs.YtamcandcfainfaaGreat
