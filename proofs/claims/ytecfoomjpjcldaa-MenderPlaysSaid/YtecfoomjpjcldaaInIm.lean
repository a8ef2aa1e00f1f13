/- Values of api.Item that came in, as the walks are told of them. -/
import Derived.Test.YtecfoomjpjcldaaFrm
namespace Go.Proofs.Ytecfoomjpjcldaa
open Go.RowKit

/-- One api.Item. -/
structure Im where
  ent : Nat
  dataA : Option Addr
  dataC : Nat
  data : List Nat
instance : Inhabited Im := ⟨⟨0, none, 0, []⟩⟩
def Im.value (t : Im) : Value := .agg #[.int .u64 (t.ent : Nat), .slice t.dataA t.data.length t.dataC]
/-- What is known of it but its cells. -/
structure ImOk (w : World) (t : Im) : Prop where
  ent_lt : t.ent < 18446744073709551616
  data_b : Bytes w t.dataA t.data
  data_le : t.data.length ≤ t.dataC
  data_nil : t.dataA = none → t.dataC = 0
/-- It lies at block b from cell o on. -/
structure ImIn (w : World) (b o : Nat) (t : Im) : Prop where
  c0 : w.cell? ⟨b, o, none⟩ = some (.int .u64 (t.ent : Nat))
  c1 : w.cell? ⟨b, o + 1, none⟩ = some (.slice t.dataA t.data.length t.dataC)
  ok : ImOk w t
def Ims (w : World) (a : Option Addr) (ts : List Im) : Prop := 0 < ts.length → ∃ b off, a = some ⟨b, off, none⟩ ∧ ∀ i, i < ts.length → ImIn w b (off + i * 2) (ts.getD i default)
theorem ImOk.keep {w w' : World} {t : Im} (h : ImOk w t) (hf : Frm [] w w') : ImOk w' t :=
  ⟨h.ent_lt, hf.bytes h.data_b (by simp), h.data_le, h.data_nil⟩
theorem ImIn.keep {w w' : World} {b o : Nat} {t : Im} (h : ImIn w b o t) (hf : Frm [] w w') : ImIn w' b o t :=
  ⟨(hf.cell (block_lt_of_cell h.c0) (by simp)).trans h.c0, (hf.cell (block_lt_of_cell h.c1) (by simp)).trans h.c1, h.ok.keep hf⟩
theorem Ims.keep {w w' : World} {a : Option Addr} {ts : List Im} (h : Ims w a ts) (hf : Frm [] w w') : Ims w' a ts := fun h0 => by
  obtain ⟨b, off, ha, hi⟩ := h h0
  exact ⟨b, off, ha, fun i hl => (hi i hl).keep hf⟩
end Go.Proofs.Ytecfoomjpjcldaa
