/- Contracts of slices.Grow (of nil) and slices.Concat over ledgers. -/
import Derived.Test.YtghadpihmhaepaaCB
import Derived.Lib.AppendZerosOnto
import Derived.Lib.Walk
import Derived.Lib.SliceRun
namespace Go.Proofs.Ytghadpihmhaepaa
open Go.RowKit
set_option maxRecDepth 100000

/-- One of the slices that are joined. -/
structure LdSl where
  a : Option Addr
  cap : Nat
  l : List Ld
instance : Inhabited LdSl := ⟨⟨none, 0, []⟩⟩
def LdSlIn (w : World) (s : LdSl) : Prop := LdL w [] s.a s.l ∧ (s.a = none → s.cap = 0) ∧ s.l.length ≤ s.cap ∧ s.cap ≤ 9223372036854775807
theorem LdSlIn.keep {w w' : World} {s : LdSl} (h : LdSlIn w s) (hf : Frm [] w w') : LdSlIn w' s := ⟨h.1.sub hf, h.2⟩
def ldall (ss : List LdSl) : List Ld := ss.flatMap LdSl.l
/-- Slices that lie side by side. -/
def LdSlsIn (w : World) (g : Nat) (ss : List LdSl) : Prop := ∀ k, k < ss.length → w.cell? ⟨g, k, none⟩ = some (.slice (ss.getD k default).a (ss.getD k default).l.length (ss.getD k default).cap) ∧ LdSlIn w (ss.getD k default)
theorem LdSlsIn.keep {w w' : World} {g : Nat} {ss : List LdSl} (h : LdSlsIn w g ss) (hf : Frm [] w w') : LdSlsIn w' g ss := fun k hk =>
  ⟨(hf.cell (p := ⟨g, k, none⟩) (block_lt_of_cell (h k hk).1) (by simp)).trans (h k hk).1, (h k hk).2.keep hf⟩
def CatLd (w0 : World) (base : Nat) (ss : List LdSl) (n : Nat) (v i : Value) (wr : World) : Prop :=
  ∃ (k : Nat) (a : Option Addr) (cap : Nat), k ≤ n ∧ i = .int .i64 k ∧ v = .slice a (ldall (ss.take k)).length cap ∧ LdOwn wr base 69 [] a cap (ldall (ss.take k)) ∧ Frm [] w0 wr

end Go.Proofs.Ytghadpihmhaepaa
