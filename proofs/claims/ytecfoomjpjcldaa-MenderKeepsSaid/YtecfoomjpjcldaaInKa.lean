/- Values of mailcoachlaw12.Act that came in, as the walks are told of them. -/
import Derived.Test.YtecfoomjpjcldaaFrm
namespace Go.Proofs.Ytecfoomjpjcldaa
open Go.RowKit

/-- One mailcoachlaw12.Act. -/
structure Ka where
  k : Nat
  p : Nat
  x : Nat
  lost : Bool
instance : Inhabited Ka := ⟨⟨0, 0, 0, false⟩⟩
def Ka.value (t : Ka) : Value := .agg #[.int .u8 (t.k : Nat), .int .u8 (t.p : Nat), .int .u8 (t.x : Nat), .bool t.lost]
/-- What is known of it but its cells. -/
structure KaOk (w : World) (t : Ka) : Prop where
  k_lt : t.k < 256
  p_lt : t.p < 256
  x_lt : t.x < 256
/-- It lies at block b from cell o on. -/
structure KaIn (w : World) (b o : Nat) (t : Ka) : Prop where
  c0 : w.cell? ⟨b, o, none⟩ = some (.int .u8 (t.k : Nat))
  c1 : w.cell? ⟨b, o + 1, none⟩ = some (.int .u8 (t.p : Nat))
  c2 : w.cell? ⟨b, o + 2, none⟩ = some (.int .u8 (t.x : Nat))
  c3 : w.cell? ⟨b, o + 3, none⟩ = some (.bool t.lost)
  ok : KaOk w t
def Kas (w : World) (a : Option Addr) (ts : List Ka) : Prop := 0 < ts.length → ∃ b off, a = some ⟨b, off, none⟩ ∧ ∀ i, i < ts.length → KaIn w b (off + i * 4) (ts.getD i default)
theorem KaOk.keep {w w' : World} {t : Ka} (h : KaOk w t) (_ : Frm [] w w') : KaOk w' t :=
  ⟨h.k_lt, h.p_lt, h.x_lt⟩
theorem KaIn.keep {w w' : World} {b o : Nat} {t : Ka} (h : KaIn w b o t) (hf : Frm [] w w') : KaIn w' b o t :=
  ⟨(hf.cell (block_lt_of_cell h.c0) (by simp)).trans h.c0, (hf.cell (block_lt_of_cell h.c1) (by simp)).trans h.c1, (hf.cell (block_lt_of_cell h.c2) (by simp)).trans h.c2, (hf.cell (block_lt_of_cell h.c3) (by simp)).trans h.c3, h.ok.keep hf⟩
theorem Kas.keep {w w' : World} {a : Option Addr} {ts : List Ka} (h : Kas w a ts) (hf : Frm [] w w') : Kas w' a ts := fun h0 => by
  obtain ⟨b, off, ha, hi⟩ := h h0
  exact ⟨b, off, ha, fun i hl => (hi i hl).keep hf⟩
end Go.Proofs.Ytecfoomjpjcldaa
