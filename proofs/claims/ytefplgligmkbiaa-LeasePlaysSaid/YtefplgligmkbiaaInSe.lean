/- Values of api.Session that came in, as the walks are told of them. -/
import Derived.Test.YtefplgligmkbiaaFrm
namespace Go.Proofs.Ytefplgligmkbiaa
open Go.RowKit

/-- One api.Session. -/
structure Se where
  id : Nat
  ends : Nat
  life : Nat
instance : Inhabited Se := ⟨⟨0, 0, 0⟩⟩
def Se.value (t : Se) : Value := .agg #[.int .u64 (t.id : Nat), .int .u64 (t.ends : Nat), .int .u64 (t.life : Nat)]
/-- What is known of it but its cells. -/
structure SeOk (w : World) (t : Se) : Prop where
  id_lt : t.id < 18446744073709551616
  ends_lt : t.ends < 18446744073709551616
  life_lt : t.life < 18446744073709551616
/-- It lies at block b from cell o on. -/
structure SeIn (w : World) (b o : Nat) (t : Se) : Prop where
  c0 : w.cell? ⟨b, o, none⟩ = some (.int .u64 (t.id : Nat))
  c1 : w.cell? ⟨b, o + 1, none⟩ = some (.int .u64 (t.ends : Nat))
  c2 : w.cell? ⟨b, o + 2, none⟩ = some (.int .u64 (t.life : Nat))
  ok : SeOk w t
def Ses (w : World) (a : Option Addr) (ts : List Se) : Prop := 0 < ts.length → ∃ b off, a = some ⟨b, off, none⟩ ∧ ∀ i, i < ts.length → SeIn w b (off + i * 3) (ts.getD i default)
theorem SeOk.keep {w w' : World} {t : Se} (h : SeOk w t) (_ : Frm [] w w') : SeOk w' t :=
  ⟨h.id_lt, h.ends_lt, h.life_lt⟩
theorem SeIn.keep {w w' : World} {b o : Nat} {t : Se} (h : SeIn w b o t) (hf : Frm [] w w') : SeIn w' b o t :=
  ⟨(hf.cell (block_lt_of_cell h.c0) (by simp)).trans h.c0, (hf.cell (block_lt_of_cell h.c1) (by simp)).trans h.c1, (hf.cell (block_lt_of_cell h.c2) (by simp)).trans h.c2, h.ok.keep hf⟩
theorem Ses.keep {w w' : World} {a : Option Addr} {ts : List Se} (h : Ses w a ts) (hf : Frm [] w w') : Ses w' a ts := fun h0 => by
  obtain ⟨b, off, ha, hi⟩ := h h0
  exact ⟨b, off, ha, fun i hl => (hi i hl).keep hf⟩
end Go.Proofs.Ytefplgligmkbiaa
