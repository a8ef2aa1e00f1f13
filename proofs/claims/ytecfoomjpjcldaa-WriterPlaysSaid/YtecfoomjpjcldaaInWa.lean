/- Values of mailcoachlaw11.Act that came in, as the walks are told of them. -/
import Derived.Test.YtecfoomjpjcldaaFrm
namespace Go.Proofs.Ytecfoomjpjcldaa
open Go.RowKit

/-- One mailcoachlaw11.Act. -/
structure Wa where
  k : Nat
  dataA : Option Addr
  dataC : Nat
  data : List Nat
  place : Int
  entry : Nat
  raw : Bool
instance : Inhabited Wa := ⟨⟨0, none, 0, [], 0, 0, false⟩⟩
def Wa.value (t : Wa) : Value := .agg #[.int .u8 (t.k : Nat), .slice t.dataA t.data.length t.dataC, .int .i64 t.place, .int .u64 (t.entry : Nat), .bool t.raw]
/-- What is known of it but its cells. -/
structure WaOk (w : World) (t : Wa) : Prop where
  k_lt : t.k < 256
  data_b : Bytes w t.dataA t.data
  data_le : t.data.length ≤ t.dataC
  data_nil : t.dataA = none → t.dataC = 0
  place_wf : (Lit.int .i64 t.place).wf = true
  entry_lt : t.entry < 18446744073709551616
/-- It lies at block b from cell o on. -/
structure WaIn (w : World) (b o : Nat) (t : Wa) : Prop where
  c0 : w.cell? ⟨b, o, none⟩ = some (.int .u8 (t.k : Nat))
  c1 : w.cell? ⟨b, o + 1, none⟩ = some (.slice t.dataA t.data.length t.dataC)
  c2 : w.cell? ⟨b, o + 2, none⟩ = some (.int .i64 t.place)
  c3 : w.cell? ⟨b, o + 3, none⟩ = some (.int .u64 (t.entry : Nat))
  c4 : w.cell? ⟨b, o + 4, none⟩ = some (.bool t.raw)
  ok : WaOk w t
def Was (w : World) (a : Option Addr) (ts : List Wa) : Prop := 0 < ts.length → ∃ b off, a = some ⟨b, off, none⟩ ∧ ∀ i, i < ts.length → WaIn w b (off + i * 5) (ts.getD i default)
theorem WaOk.keep {w w' : World} {t : Wa} (h : WaOk w t) (hf : Frm [] w w') : WaOk w' t :=
  ⟨h.k_lt, hf.bytes h.data_b (by simp), h.data_le, h.data_nil, h.place_wf, h.entry_lt⟩
theorem WaIn.keep {w w' : World} {b o : Nat} {t : Wa} (h : WaIn w b o t) (hf : Frm [] w w') : WaIn w' b o t :=
  ⟨(hf.cell (block_lt_of_cell h.c0) (by simp)).trans h.c0, (hf.cell (block_lt_of_cell h.c1) (by simp)).trans h.c1, (hf.cell (block_lt_of_cell h.c2) (by simp)).trans h.c2, (hf.cell (block_lt_of_cell h.c3) (by simp)).trans h.c3, (hf.cell (block_lt_of_cell h.c4) (by simp)).trans h.c4, h.ok.keep hf⟩
theorem Was.keep {w w' : World} {a : Option Addr} {ts : List Wa} (h : Was w a ts) (hf : Frm [] w w') : Was w' a ts := fun h0 => by
  obtain ⟨b, off, ha, hi⟩ := h h0
  exact ⟨b, off, ha, fun i hl => (hi i hl).keep hf⟩
end Go.Proofs.Ytecfoomjpjcldaa
