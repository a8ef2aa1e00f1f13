/- Package ledgers: contracts of Open, Close. -/
import Derived.Test.YtghadpihmhaepaaDLdConcat
namespace Go.Proofs.Ytghadpihmhaepaa
open Go.RowKit
set_option maxRecDepth 100000

theorem ldc_set (X : List Ld) : ∀ i, i < X.length → ∀ y : Ld, ldc (X.set i y) = (((ldc X).set (i * 3) (.int .u64 (y.id : Nat))).set (i * 3 + 1) (.bool y.cl)).set (i * 3 + 2) (.int .u64 (y.n : Nat)) := by
  induction X with
  | nil => intro i hi; simp at hi
  | cons x X ih =>
    intro i hi y
    have e : ldc (x :: X) = .int .u64 (x.id : Nat) :: .bool x.cl :: .int .u64 (x.n : Nat) :: ldc X := rfl
    rcases i with _ | i
    · rw [e]; rfl
    · have h1 : (i + 1) * 3 = i * 3 + 1 + 1 + 1 := by omega
      rw [List.set_cons_succ, ldc_cons, ih i (by simpa using hi) y, h1, e]
      rfl
theorem LdOwn.zero {w : World} {base cap : Nat} {e : TypeId} {F : List Nat} {a : Option Addr} {X : List Ld} (h : LdOwn w base e F a cap X) (hX : 0 < X.length) : ∃ g, a = some ⟨g, 0, none⟩ := by
  rcases h.own.2 with ⟨_, hl⟩ | ⟨g, c, cur, hv, _⟩
  · omega
  · simp only [Value.slice.injEq] at hv
    exact ⟨g, hv.1⟩
/-- Another one in one's place. -/
theorem LdOwn.put {w : World} {base g cap : Nat} {e : TypeId} {F : List Nat} {X : List Ld} (h : LdOwn w base e F (some ⟨g, 0, none⟩) cap X) {i : Nat} (hi : i < X.length) (y : Ld) (hy : y.fits) :
    LdOwn (((w.setCell ⟨g, i * 3, none⟩ (.int .u64 (y.id : Nat))).setCell ⟨g, i * 3 + 1, none⟩ (.bool y.cl)).setCell ⟨g, i * 3 + 2, none⟩ (.int .u64 (y.n : Nat))) base e F (some ⟨g, 0, none⟩) cap (X.set i y) := by
  refine ⟨?_, fun x hx => ?_, h.away⟩
  · have h1 := (h.own.stored (i * 3) (.int .u64 (y.id : Nat))).1
    have h2 := (h1.stored (i * 3 + 1) (.bool y.cl)).1
    have h3 := (h2.stored (i * 3 + 2) (.int .u64 (y.n : Nat))).1
    rw [ldc_set X i hi y, List.length_set]
    exact h3
  · rcases List.mem_or_eq_of_mem_set hx with h1 | rfl
    · exact h.fits x h1
    · exact hy
/-- What Open answers. -/
def ldOpenC (X : List Ld) (id : Nat) : Nat := if (decide (0 < X.length) && !(lastL X).cl) = true then 23 else if id ≤ (lastL X).id then 30 else if 64 ≤ X.length then 14 else 0
/-- What a call leaves that answers ledgers and an error. -/
def LdTo (w : World) (c : Nat) (Y : List Ld) (e : Ending) (w' : World) : Prop :=
  (c ≠ 0 ∧ e = .returned (.tuple #[.slice none 0 0, .int .i64 (c : Nat)]) ∧ Frm [] w w') ∨
  (c = 0 ∧ ∃ a' cap', e = .returned (.tuple #[.slice a' Y.length cap', .int .i64 0]) ∧ LdOwn w' w.heap.size 69 [] a' cap' Y ∧ Frm [] w w')
/-- What Close answers. -/
def closeC9 (X : List Ld) (n : Nat) : Nat := if (decide (0 < X.length) && !(lastL X).cl) = true then (if 1048576 < n then 14 else 0) else 23
/-- With the last one closed. -/
def closeL9 (X : List Ld) (n : Nat) : List Ld := X.set (X.length - 1) ⟨(lastL X).id, true, n⟩
end Go.Proofs.Ytghadpihmhaepaa
