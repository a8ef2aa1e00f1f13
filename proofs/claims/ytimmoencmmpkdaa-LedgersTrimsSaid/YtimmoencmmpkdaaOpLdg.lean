/- Opens slices of ledgers and places that came in, in the words of the walks. -/
import Derived.Test.YtimmoencmmpkdaaOpLgi
import Derived.Test.YtimmoencmmpkdaaOpPoi
import Derived.Test.YtimmoencmmpkdaaLdMath
namespace Go.Proofs.Ytimmoencmmpkdaa
open Go.ChangeShapes Go.WideShapes Go.ChangeAt Go.RowKit

def lgL (t : Lgi) : Ld := ⟨t.id, t.cl, t.n⟩
theorem lgL_getD (ts : List Lgi) (i : Nat) : (ts.map lgL).getD i default = lgL (ts.getD i default) := by
  rw [List.getD_eq_getElem?_getD, List.getD_eq_getElem?_getD, List.getElem?_map]
  cases ts[i]? <;> rfl
theorem ldl_of {w : World} {a : Option Addr} {ts : List Lgi} (h : Lgis w a ts) : LdL w [] a (ts.map lgL) := by
  rcases Nat.eq_zero_or_pos ts.length with h0 | h0
  · rw [List.eq_nil_of_length_eq_zero h0]
    exact LdL.nil _ _ _
  obtain ⟨b, off, rfl, hi⟩ := h h0
  refine ⟨.inr ⟨b, off, rfl, fun i u hu => ?_⟩, fun x hx => ?_, by simp⟩
  · have hlt : i < (ldc (ts.map lgL)).length := by
      rcases Nat.lt_or_ge i (ldc (ts.map lgL)).length with h1 | h1
      · exact h1
      · rw [List.getElem?_eq_none h1] at hu; cases hu
    rw [ldc_length, List.length_map] at hlt
    obtain ⟨c0, c1, c2, _⟩ := hi (i / 3) (by omega)
    obtain ⟨e0, e1, e2⟩ := ldc_at (ts.map lgL) (i / 3) (by rw [List.length_map]; omega)
    rw [lgL_getD] at e0 e1 e2
    have hm : i % 3 = 0 ∨ i % 3 = 1 ∨ i % 3 = 2 := by omega
    rcases hm with hm | hm | hm
    · have e : i / 3 * 3 = i := by omega
      rw [e] at c0 e0
      rw [e0] at hu; cases hu; exact c0
    · have e : i / 3 * 3 + 1 = i := by omega
      rw [Nat.add_assoc, e] at c1
      rw [e] at e1
      rw [e1] at hu; cases hu; exact c1
    · have e : i / 3 * 3 + 2 = i := by omega
      rw [Nat.add_assoc, e] at c2
      rw [e] at e2
      rw [e2] at hu; cases hu; exact c2
  · obtain ⟨t, ht, rfl⟩ := List.mem_map.1 hx
    obtain ⟨i, hil, rfl⟩ := List.getElem_of_mem ht
    have hok := (hi i hil).ok
    have e : ts.getD i default = ts[i] := by simp [hil]
    rw [e] at hok
    exact ⟨hok.id_lt, hok.n_lt⟩
theorem open_lds {H : Type} {enc : TypeId × Value → H} {w : World} {held : Bool} {a : Option Addr} {len cap : Nat} {d : DataW H} {p : List MemPlace}
    (h : DataW.Trod enc Try.prog w 0 (fun _ => true) held 22 (.slice a len cap) d p) : ∃ X : List Ld, (LdL w [] a X ∧ X.length ≤ cap ∧ (a = none → cap = 0)) ∧ len = X.length ∧ len ≤ 9223372036854775807 := by
  obtain ⟨ts, h1, h2, h3⟩ := open_Lgis h
  refine ⟨ts.map lgL, ⟨ldl_of h1, ?_⟩, by rw [List.length_map]; exact h2, h3⟩
  rw [List.length_map, ← h2]
  obtain ⟨fuel, hf⟩ := h
  rcases Go.Deep.open_slice Try.underlying22 hf with ⟨hcs, _⟩ | ⟨x, l, c, m, n, D, Pl, hcs, _, hl, hm, hmm, _⟩
  · simp [Value.cells] at hcs
    obtain ⟨rfl, rfl, rfl⟩ := hcs
    exact ⟨Nat.le_refl _, fun _ => rfl⟩
  · simp [Value.cells] at hcs
    obtain ⟨rfl, rfl, rfl⟩ := hcs
    exact ⟨by omega, fun h0 => by cases h0⟩
theorem open_ps {H : Type} {enc : TypeId × Value → H} {w : World} {base : Nat} {held : Bool} {v : Value} {d : DataW H} {p : List MemPlace} (hval : Value.okWide Try.prog w .any base 36 v)
    (h : DataW.Trod enc Try.prog w 0 (fun _ => true) held 36 v d p) : ∃ x : Ps, v = x.val ∧ x.fits := by
  obtain ⟨t, rfl, ht⟩ := open_Poiv hval h
  exact ⟨⟨t.l, t.e⟩, rfl, ht.l_lt, ht.e_lt⟩
end Go.Proofs.Ytimmoencmmpkdaa
