/- Values of mailcoachlaw17.Act that came in, as the walks are told of them. -/
import Derived.Test.YtcbpppdmkhpkkaaGreatKA
namespace Go.Proofs.YtcbpppdmkhpkkaaGreat
open Go.RowKit

/-- One mailcoachlaw17.Act. -/
structure Oa where
  k : Nat
  ses : Nat
  br : Nat
  key : ByteArray
  valA : Option Addr
  valC : Nat
  val : List Nat
instance : Inhabited Oa := ⟨⟨0, 0, 0, ⟨#[]⟩, none, 0, []⟩⟩
def Oa.value (t : Oa) : Value := .agg #[.int .u8 (t.k : Nat), .int .u64 (t.ses : Nat), .int .u64 (t.br : Nat), .string t.key, .slice t.valA t.val.length t.valC]
/-- What is known of it but its cells. -/
structure OaOk (w : World) (t : Oa) : Prop where
  k_lt : t.k < 256
  ses_lt : t.ses < 18446744073709551616
  br_lt : t.br < 18446744073709551616
  key_le : t.key.size ≤ 9223372036854775807
  val_b : Bytes w t.valA t.val
  val_le : t.val.length ≤ t.valC
  val_nil : t.valA = none → t.valC = 0
/-- It lies at block b from cell o on. -/
structure OaIn (w : World) (b o : Nat) (t : Oa) : Prop where
  c0 : w.cell? ⟨b, o, none⟩ = some (.int .u8 (t.k : Nat))
  c1 : w.cell? ⟨b, o + 1, none⟩ = some (.int .u64 (t.ses : Nat))
  c2 : w.cell? ⟨b, o + 2, none⟩ = some (.int .u64 (t.br : Nat))
  c3 : w.cell? ⟨b, o + 3, none⟩ = some (.string t.key)
  c4 : w.cell? ⟨b, o + 4, none⟩ = some (.slice t.valA t.val.length t.valC)
  ok : OaOk w t
def Oas (w : World) (a : Option Addr) (ts : List Oa) : Prop := 0 < ts.length → ∃ b off, a = some ⟨b, off, none⟩ ∧ ∀ i, i < ts.length → OaIn w b (off + i * 5) (ts.getD i default)
theorem OaOk.keep {w w' : World} {t : Oa} (h : OaOk w t) (hf : Frm [] w w') : OaOk w' t :=
  ⟨h.k_lt, h.ses_lt, h.br_lt, h.key_le, hf.bytes h.val_b (by simp), h.val_le, h.val_nil⟩
theorem OaIn.keep {w w' : World} {b o : Nat} {t : Oa} (h : OaIn w b o t) (hf : Frm [] w w') : OaIn w' b o t :=
  ⟨(hf.cell (block_lt_of_cell h.c0) (by simp)).trans h.c0, (hf.cell (block_lt_of_cell h.c1) (by simp)).trans h.c1, (hf.cell (block_lt_of_cell h.c2) (by simp)).trans h.c2, (hf.cell (block_lt_of_cell h.c3) (by simp)).trans h.c3, (hf.cell (block_lt_of_cell h.c4) (by simp)).trans h.c4, h.ok.keep hf⟩
theorem Oas.keep {w w' : World} {a : Option Addr} {ts : List Oa} (h : Oas w a ts) (hf : Frm [] w w') : Oas w' a ts := fun h0 => by
  obtain ⟨b, off, ha, hi⟩ := h h0
  exact ⟨b, off, ha, fun i hl => (hi i hl).keep hf⟩
end Go.Proofs.YtcbpppdmkhpkkaaGreat
