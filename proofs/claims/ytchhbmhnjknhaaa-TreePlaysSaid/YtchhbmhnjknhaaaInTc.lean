/- Values of mailcoachlaw06.Act that came in, as the walks are told of them. -/
import Derived.Test.YtchhbmhnjknhaaaFrm
namespace Go.Proofs.Ytchhbmhnjknhaaa
open Go.RowKit

/-- One mailcoachlaw06.Act. -/
structure Tc where
  k : Nat
  key : ByteArray
  valA : Option Addr
  valC : Nat
  val : List Nat
  want : Nat
  own : Nat
instance : Inhabited Tc := ⟨⟨0, ⟨#[]⟩, none, 0, [], 0, 0⟩⟩
def Tc.value (t : Tc) : Value := .agg #[.int .u8 (t.k : Nat), .string t.key, .slice t.valA t.val.length t.valC, .int .u64 (t.want : Nat), .int .u64 (t.own : Nat)]
/-- What is known of it but its cells. -/
structure TcOk (w : World) (t : Tc) : Prop where
  k_lt : t.k < 256
  key_le : t.key.size ≤ 9223372036854775807
  val_b : Bytes w t.valA t.val
  val_le : t.val.length ≤ t.valC
  val_nil : t.valA = none → t.valC = 0
  want_lt : t.want < 18446744073709551616
  own_lt : t.own < 18446744073709551616
/-- It lies at block b from cell o on. -/
structure TcIn (w : World) (b o : Nat) (t : Tc) : Prop where
  c0 : w.cell? ⟨b, o, none⟩ = some (.int .u8 (t.k : Nat))
  c1 : w.cell? ⟨b, o + 1, none⟩ = some (.string t.key)
  c2 : w.cell? ⟨b, o + 2, none⟩ = some (.slice t.valA t.val.length t.valC)
  c3 : w.cell? ⟨b, o + 3, none⟩ = some (.int .u64 (t.want : Nat))
  c4 : w.cell? ⟨b, o + 4, none⟩ = some (.int .u64 (t.own : Nat))
  ok : TcOk w t
def Tcs (w : World) (a : Option Addr) (ts : List Tc) : Prop := 0 < ts.length → ∃ b off, a = some ⟨b, off, none⟩ ∧ ∀ i, i < ts.length → TcIn w b (off + i * 5) (ts.getD i default)
theorem TcOk.keep {w w' : World} {t : Tc} (h : TcOk w t) (hf : Frm [] w w') : TcOk w' t :=
  ⟨h.k_lt, h.key_le, hf.bytes h.val_b (by simp), h.val_le, h.val_nil, h.want_lt, h.own_lt⟩
theorem TcIn.keep {w w' : World} {b o : Nat} {t : Tc} (h : TcIn w b o t) (hf : Frm [] w w') : TcIn w' b o t :=
  ⟨(hf.cell (block_lt_of_cell h.c0) (by simp)).trans h.c0, (hf.cell (block_lt_of_cell h.c1) (by simp)).trans h.c1, (hf.cell (block_lt_of_cell h.c2) (by simp)).trans h.c2, (hf.cell (block_lt_of_cell h.c3) (by simp)).trans h.c3, (hf.cell (block_lt_of_cell h.c4) (by simp)).trans h.c4, h.ok.keep hf⟩
theorem Tcs.keep {w w' : World} {a : Option Addr} {ts : List Tc} (h : Tcs w a ts) (hf : Frm [] w w') : Tcs w' a ts := fun h0 => by
  obtain ⟨b, off, ha, hi⟩ := h h0
  exact ⟨b, off, ha, fun i hl => (hi i hl).keep hf⟩
end Go.Proofs.Ytchhbmhnjknhaaa
