/- Values of api.Cmd that came in, as the walks are told of them. -/
import Derived.Test.YtomgiockelhfiaaGreatMX
namespace Go.Proofs.YtomgiockelhfiaaGreat
open Go.RowKit

/-- One api.Cmd. -/
structure Cm where
  k : Nat
  key : ByteArray
  valA : Option Addr
  valC : Nat
  val : List Nat
  want : Nat
  ses : Nat
  ticks : Nat
instance : Inhabited Cm := ⟨⟨0, ⟨#[]⟩, none, 0, [], 0, 0, 0⟩⟩
def Cm.value (t : Cm) : Value := .agg #[.int .u8 (t.k : Nat), .string t.key, .slice t.valA t.val.length t.valC, .int .u64 (t.want : Nat), .int .u64 (t.ses : Nat), .int .u64 (t.ticks : Nat)]
/-- What is known of it but its cells. -/
structure CmOk (w : World) (t : Cm) : Prop where
  k_lt : t.k < 256
  key_le : t.key.size ≤ 9223372036854775807
  val_b : Bytes w t.valA t.val
  val_le : t.val.length ≤ t.valC
  val_nil : t.valA = none → t.valC = 0
  want_lt : t.want < 18446744073709551616
  ses_lt : t.ses < 18446744073709551616
  ticks_lt : t.ticks < 18446744073709551616
/-- It lies at block b from cell o on. -/
structure CmIn (w : World) (b o : Nat) (t : Cm) : Prop where
  c0 : w.cell? ⟨b, o, none⟩ = some (.int .u8 (t.k : Nat))
  c1 : w.cell? ⟨b, o + 1, none⟩ = some (.string t.key)
  c2 : w.cell? ⟨b, o + 2, none⟩ = some (.slice t.valA t.val.length t.valC)
  c3 : w.cell? ⟨b, o + 3, none⟩ = some (.int .u64 (t.want : Nat))
  c4 : w.cell? ⟨b, o + 4, none⟩ = some (.int .u64 (t.ses : Nat))
  c5 : w.cell? ⟨b, o + 5, none⟩ = some (.int .u64 (t.ticks : Nat))
  ok : CmOk w t
def Cms (w : World) (a : Option Addr) (ts : List Cm) : Prop := 0 < ts.length → ∃ b off, a = some ⟨b, off, none⟩ ∧ ∀ i, i < ts.length → CmIn w b (off + i * 6) (ts.getD i default)
theorem CmOk.keep {w w' : World} {t : Cm} (h : CmOk w t) (hf : Frm [] w w') : CmOk w' t :=
  ⟨h.k_lt, h.key_le, hf.bytes h.val_b (by simp), h.val_le, h.val_nil, h.want_lt, h.ses_lt, h.ticks_lt⟩
theorem CmIn.keep {w w' : World} {b o : Nat} {t : Cm} (h : CmIn w b o t) (hf : Frm [] w w') : CmIn w' b o t :=
  ⟨(hf.cell (block_lt_of_cell h.c0) (by simp)).trans h.c0, (hf.cell (block_lt_of_cell h.c1) (by simp)).trans h.c1, (hf.cell (block_lt_of_cell h.c2) (by simp)).trans h.c2, (hf.cell (block_lt_of_cell h.c3) (by simp)).trans h.c3, (hf.cell (block_lt_of_cell h.c4) (by simp)).trans h.c4, (hf.cell (block_lt_of_cell h.c5) (by simp)).trans h.c5, h.ok.keep hf⟩
theorem Cms.keep {w w' : World} {a : Option Addr} {ts : List Cm} (h : Cms w a ts) (hf : Frm [] w w') : Cms w' a ts := fun h0 => by
  obtain ⟨b, off, ha, hi⟩ := h h0
  exact ⟨b, off, ha, fun i hl => (hi i hl).keep hf⟩
end Go.Proofs.YtomgiockelhfiaaGreat
