/- Values of mailcoachlaw07.Act that came in, as the walks are told of them. -/
import Derived.Test.YtefplgligmkbiaaFrm
namespace Go.Proofs.Ytefplgligmkbiaa
open Go.RowKit

/-- One mailcoachlaw07.Act. -/
structure Le where
  k : Nat
  id : Nat
  now : Nat
  life : Nat
instance : Inhabited Le := ⟨⟨0, 0, 0, 0⟩⟩
def Le.value (t : Le) : Value := .agg #[.int .u8 (t.k : Nat), .int .u64 (t.id : Nat), .int .u64 (t.now : Nat), .int .u64 (t.life : Nat)]
/-- What is known of it but its cells. -/
structure LeOk (w : World) (t : Le) : Prop where
  k_lt : t.k < 256
  id_lt : t.id < 18446744073709551616
  now_lt : t.now < 18446744073709551616
  life_lt : t.life < 18446744073709551616
/-- It lies at block b from cell o on. -/
structure LeIn (w : World) (b o : Nat) (t : Le) : Prop where
  c0 : w.cell? ⟨b, o, none⟩ = some (.int .u8 (t.k : Nat))
  c1 : w.cell? ⟨b, o + 1, none⟩ = some (.int .u64 (t.id : Nat))
  c2 : w.cell? ⟨b, o + 2, none⟩ = some (.int .u64 (t.now : Nat))
  c3 : w.cell? ⟨b, o + 3, none⟩ = some (.int .u64 (t.life : Nat))
  ok : LeOk w t
def Les (w : World) (a : Option Addr) (ts : List Le) : Prop := 0 < ts.length → ∃ b off, a = some ⟨b, off, none⟩ ∧ ∀ i, i < ts.length → LeIn w b (off + i * 4) (ts.getD i default)
theorem LeOk.keep {w w' : World} {t : Le} (h : LeOk w t) (_ : Frm [] w w') : LeOk w' t :=
  ⟨h.k_lt, h.id_lt, h.now_lt, h.life_lt⟩
theorem LeIn.keep {w w' : World} {b o : Nat} {t : Le} (h : LeIn w b o t) (hf : Frm [] w w') : LeIn w' b o t :=
  ⟨(hf.cell (block_lt_of_cell h.c0) (by simp)).trans h.c0, (hf.cell (block_lt_of_cell h.c1) (by simp)).trans h.c1, (hf.cell (block_lt_of_cell h.c2) (by simp)).trans h.c2, (hf.cell (block_lt_of_cell h.c3) (by simp)).trans h.c3, h.ok.keep hf⟩
theorem Les.keep {w w' : World} {a : Option Addr} {ts : List Le} (h : Les w a ts) (hf : Frm [] w w') : Les w' a ts := fun h0 => by
  obtain ⟨b, off, ha, hi⟩ := h h0
  exact ⟨b, off, ha, fun i hl => (hi i hl).keep hf⟩
end Go.Proofs.Ytefplgligmkbiaa
