/- Values of api.Node that came in, as the walks are told of them. -/
import Derived.Test.YtchhbmhnjknhaaaFrm
namespace Go.Proofs.Ytchhbmhnjknhaaa
open Go.RowKit

/-- One api.Node. -/
structure Tn where
  key : ByteArray
  valA : Option Addr
  valC : Nat
  val : List Nat
  ver : Nat
  own : Nat
instance : Inhabited Tn := ⟨⟨⟨#[]⟩, none, 0, [], 0, 0⟩⟩
def Tn.value (t : Tn) : Value := .agg #[.string t.key, .slice t.valA t.val.length t.valC, .int .u64 (t.ver : Nat), .int .u64 (t.own : Nat)]
/-- What is known of it but its cells. -/
structure TnOk (w : World) (t : Tn) : Prop where
  key_le : t.key.size ≤ 9223372036854775807
  val_b : Bytes w t.valA t.val
  val_le : t.val.length ≤ t.valC
  val_nil : t.valA = none → t.valC = 0
  ver_lt : t.ver < 18446744073709551616
  own_lt : t.own < 18446744073709551616
/-- It lies at block b from cell o on. -/
structure TnIn (w : World) (b o : Nat) (t : Tn) : Prop where
  c0 : w.cell? ⟨b, o, none⟩ = some (.string t.key)
  c1 : w.cell? ⟨b, o + 1, none⟩ = some (.slice t.valA t.val.length t.valC)
  c2 : w.cell? ⟨b, o + 2, none⟩ = some (.int .u64 (t.ver : Nat))
  c3 : w.cell? ⟨b, o + 3, none⟩ = some (.int .u64 (t.own : Nat))
  ok : TnOk w t
def Tns (w : World) (a : Option Addr) (ts : List Tn) : Prop := 0 < ts.length → ∃ b off, a = some ⟨b, off, none⟩ ∧ ∀ i, i < ts.length → TnIn w b (off + i * 4) (ts.getD i default)
theorem TnOk.keep {w w' : World} {t : Tn} (h : TnOk w t) (hf : Frm [] w w') : TnOk w' t :=
  ⟨h.key_le, hf.bytes h.val_b (by simp), h.val_le, h.val_nil, h.ver_lt, h.own_lt⟩
theorem TnIn.keep {w w' : World} {b o : Nat} {t : Tn} (h : TnIn w b o t) (hf : Frm [] w w') : TnIn w' b o t :=
  ⟨(hf.cell (block_lt_of_cell h.c0) (by simp)).trans h.c0, (hf.cell (block_lt_of_cell h.c1) (by simp)).trans h.c1, (hf.cell (block_lt_of_cell h.c2) (by simp)).trans h.c2, (hf.cell (block_lt_of_cell h.c3) (by simp)).trans h.c3, h.ok.keep hf⟩
theorem Tns.keep {w w' : World} {a : Option Addr} {ts : List Tn} (h : Tns w a ts) (hf : Frm [] w w') : Tns w' a ts := fun h0 => by
  obtain ⟨b, off, ha, hi⟩ := h h0
  exact ⟨b, off, ha, fun i hl => (hi i hl).keep hf⟩
end Go.Proofs.Ytchhbmhnjknhaaa
