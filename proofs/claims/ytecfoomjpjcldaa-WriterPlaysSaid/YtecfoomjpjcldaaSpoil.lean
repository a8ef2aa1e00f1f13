/- At the head of a loop that turns every byte of a row of the call's own: the row is still one. They speak of no program. -/
import Derived.Test.YtecfoomjpjcldaaHead
import Derived.Laws.BitsAllLaws
namespace Go.Proofs.Ytecfoomjpjcldaa
open Go.RowKit

/-- The row at a, of m bytes, is still a row; all else is as it was in w0. -/
structure Spoilt (w0 wr : World) (B : Nat) (e : TypeId) (a : Option Addr) (m cap : Nat) (c : List Nat) : Prop where
  own : wr.ownsRow B e 1 (.slice a m cap) m (c.map u8v)
  b8 : ∀ x ∈ c, x < 256
  len : c.length = m
  frm : Frm (blk a) w0 wr
/-- The loop's relation: the counter, and the row. -/
def SpRel (w0 : World) (B : Nat) (e : TypeId) (a : Option Addr) (m cap : Nat) (i : Value) (wr : World) : Prop :=
  ∃ (k : Nat) (c : List Nat), k ≤ m ∧ i = .int .i64 k ∧ Spoilt w0 wr B e a m cap c
theorem all_bits (c : Nat) (hc : c < 256) : bits BinOp.xor IntKind.u8 (c : Int) 255 = ((c ^^^ 255 : Nat) : Int) := u8_xor_nat c 255 hc (by decide)
theorem Spoilt.at {w0 wr : World} {B : Nat} {e : TypeId} {a : Option Addr} {m cap : Nat} {c : List Nat} (h : Spoilt w0 wr B e a m cap c) {k : Nat} (hk : k < m) :
    ∃ g d, a = some ⟨g, 0, none⟩ ∧ d < 256 ∧ wr.cell? ⟨g, k, none⟩ = some (.int .u8 (d : Nat)) ∧ wr.frozen? ⟨g, k, none⟩ = false ∧ m ≤ cap ∧
      Spoilt w0 (wr.setCell ⟨g, k, none⟩ (.int .u8 ((d ^^^ 255 : Nat) : Int))) B e a m cap (c.set k (d ^^^ 255)) := by
  have hc := (Hd.ofOwn h.own).2
  have hcl := hc.cap_le
  rcases hc with ⟨_, h0, _⟩ | ⟨g, cur, rfl, h1⟩
  · have := h.len; rw [h0] at this; simp at this; omega
  · have hd : c.getD k 0 < 256 := getD_lt h.b8 k
    refine ⟨g, c.getD k 0, rfl, hd, (Hd.ofOwn h.own).2.cellAt (by rw [h.len]; exact hk), (Hd.ofOwn h.own).2.frozenAt k, by rw [← h.len]; exact hcl.1, ?_⟩
    have hst := h.own.stored k (.int .u8 ((c.getD k 0 ^^^ 255 : Nat) : Int))
    have hset : (c.map u8v).set k (.int .u8 ((c.getD k 0 ^^^ 255 : Nat) : Int)) = (c.set k (c.getD k 0 ^^^ 255)).map u8v := by rw [List.map_set]; rfl
    rw [hset] at hst
    refine ⟨hst.1, fun b hb => ?_, by rw [List.length_set]; exact h.len, h.frm.setCell (.inl (by simp)) _⟩
    rcases List.mem_or_eq_of_mem_set hb with h' | h'
    · exact h.b8 b h'
    · rw [h']; exact Nat.xor_lt_two_pow (n := 8) hd (by decide)
theorem Spoilt.start {w : World} {B : Nat} {e : TypeId} {a : Option Addr} {m cap : Nat} {c : List Nat} (h : w.ownsRow B e 1 (.slice a m cap) m (c.map u8v)) (h8 : ∀ x ∈ c, x < 256) : SpRel w B e a m cap (.int .i64 (0 : Nat)) w :=
  ⟨0, c, Nat.zero_le _, rfl, h, h8, (Hd.ofOwn h).1.symm, Frm.refl _ _⟩
end Go.Proofs.Ytecfoomjpjcldaa
