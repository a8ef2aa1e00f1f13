/- Contracts of the law's Made, Place. -/
import Derived.Test.YtghadpihmhaepaaYLdOpen
import Derived.Test.YtghadpihmhaepaaKA
namespace Go.Proofs.Ytghadpihmhaepaa
open Go.RowKit
set_option maxRecDepth 100000

/-- What Made answers: few ledgers of few entries. -/
def MadeEnd (w : World) (e : Ending) (w' : World) : Prop := ∃ (a : Option Addr) (k cap : Nat) (X : List Ld), e = .returned (.slice a k cap) ∧ k = X.length ∧ k ≤ 13 ∧ (∀ x ∈ X, x.n ≤ 5) ∧ LdOwn w' w.heap.size 69 [] a cap X ∧ Frm [] w w'
/-- While they are made. -/
structure Md13 (w wr : World) (k : Nat) (a : Option Addr) (cap : Nat) (X : List Ld) : Prop where
  own : LdOwn wr w.heap.size 69 [] a cap X
  len : X.length = k
  few : ∀ x ∈ X, x.n ≤ 5
  frm : Frm [] w wr
/-- Two fields of one in a row are stored. -/
theorem LdOwn.put2 {w : World} {base g cap : Nat} {e : TypeId} {F : List Nat} {X : List Ld} (h : LdOwn w base e F (some ⟨g, 0, none⟩) cap X) {i : Nat} (hi : i < X.length) (c : Bool) (n : Nat) (hn : n < 18446744073709551616) :
    LdOwn (w.setCell ⟨g, i * 3 + 1, none⟩ (.bool c)) base e F (some ⟨g, 0, none⟩) cap (X.set i ⟨(X.getD i default).id, c, (X.getD i default).n⟩) ∧
    LdOwn ((w.setCell ⟨g, i * 3 + 1, none⟩ (.bool c)).setCell ⟨g, i * 3 + 2, none⟩ (.int .u64 (n : Nat))) base e F (some ⟨g, 0, none⟩) cap (X.set i ⟨(X.getD i default).id, c, n⟩) := by
  have hx := ld_fits_at h.fits i
  obtain ⟨v0, v1, v2⟩ := ldc_at X i hi
  have len := ldc_length X
  have set_same : ∀ (l : List Value) (j : Nat) (v : Value), l[j]? = some v → l.set j v = l := fun l j v hv => by
    apply List.ext_getElem?
    intro q
    rw [List.getElem?_set]
    split
    · subst_vars
      split
      · exact hv.symm
      · rename_i h1; rw [List.getElem?_eq_none (by omega)] at hv; cases hv
    · rfl
  have h1 := (h.own.stored (i * 3 + 1) (.bool c)).1
  have h2 := (h1.stored (i * 3 + 2) (.int .u64 (n : Nat))).1
  have e0 : (ldc X).set (i * 3) (.int .u64 ((X.getD i default).id : Nat)) = ldc X := set_same _ _ _ v0
  refine ⟨⟨?_, fun x hm => ?_, h.away⟩, ⟨?_, fun x hm => ?_, h.away⟩⟩
  · rw [ldc_set X i hi, List.length_set, e0]
    simp only
    rw [set_same ((ldc X).set (i * 3 + 1) (.bool c)) (i * 3 + 2) _ (by rw [List.getElem?_set_ne (by omega)]; exact v2)]
    exact h1
  · rcases List.mem_or_eq_of_mem_set hm with h3 | rfl
    · exact h.fits x h3
    · exact hx
  · rw [ldc_set X i hi, List.length_set, e0]
    exact h2
  · rcases List.mem_or_eq_of_mem_set hm with h3 | rfl
    · exact h.fits x h3
    · exact ⟨hx.1, hn⟩
end Go.Proofs.Ytghadpihmhaepaa
