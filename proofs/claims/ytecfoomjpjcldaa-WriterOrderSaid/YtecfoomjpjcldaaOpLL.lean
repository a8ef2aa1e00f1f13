/- Opens a slice of slices of bytes that came in. -/
import Derived.Test.YtecfoomjpjcldaaOpBase
import Derived.Test.YtecfoomjpjcldaaVals
import Derived.Deep.Matrix
namespace Go.Proofs.Ytecfoomjpjcldaa
open Go.ChangeShapes Go.WideShapes Go.ChangeAt Go.RowKit

theorem cellsRow2 : Try.prog.cellsOf 38 = 1 := by kernel_rfl

theorem open_lls {H : Type} {enc : TypeId × Value → H} {W : World} {held : Bool} {a : Option Addr} {len cap : Nat} {d : DataW H} {p : List MemPlace}
    (h : DataW.Trod enc Try.prog W 0 (fun _ => true) held 34 (.slice a len cap) d p) : ∃ L, LIn W a cap L ∧ len = L.length ∧ len ≤ 9223372036854775807 := by
  obtain ⟨fuel, hf⟩ := h
  rcases Go.Deep.open_int_rows Try.underlying34 Try.underlying38 Try.underlying5 cellsRow2 cellsByte hf with ⟨hcs, _⟩ | ⟨x, l, c, A, L, C, Z, hcs, _, hl, hm, _, hr⟩
  · simp [Value.cells] at hcs
    obtain ⟨rfl, rfl, rfl⟩ := hcs
    exact ⟨[], ⟨⟨[], ValsAt.nil _ _, Ents.nil _ _, fun h => absurd rfl h⟩, fun _ => rfl⟩, rfl, by omega⟩
  · simp [Value.cells] at hcs
    obtain ⟨rfl, rfl, rfl⟩ := hcs
    have each : ∀ r, ∃ m : List Nat, r < len → L r = m.length ∧ Bytes W (A r) m := by
      intro r
      by_cases hrl : r < len
      · obtain ⟨_, h2, h3, h4, h5, h6, h7⟩ := hr r (by omega)
        have hrow : RowIn .u8 W (A r) (L r) (C r) (Z r) := by
          cases hA : A r with
          | none =>
            have h0 := h6 hA
            exact .inl ⟨rfl, by omega, h0, List.eq_nil_of_length_eq_zero (by omega)⟩
          | some x' => exact .inr ⟨x', rfl, h2, h3, h4, fun i hi => (h7 x' hA).2 i (by omega), h5⟩
        obtain ⟨m, hm1, hm2⟩ := bytes_of_row hrow
        exact ⟨m, fun _ => ⟨hm1, hm2⟩⟩
      · exact ⟨[], fun h => absurd h hrl⟩
    obtain ⟨f, hf'⟩ := Classical.axiomOfChoice each
    unfold maxLen at hm
    have hM : ∀ r, r < len → ((List.range len).map f).getD r [] = f r := fun r hr => by simp [hr]
    refine ⟨(List.range len).map f, ⟨⟨(List.range len).map (fun r => .slice (A r) (L r) (C r)), ?_, ⟨by simp, fun i hi => ?_⟩, by simp⟩, fun h => by cases h⟩, by simp, by omega⟩
    · by_cases h0 : len = 0
      · left; subst h0; rfl
      · obtain ⟨b, off, spot⟩ := x
        have hc0 := (hr 0 (by omega)).1
        have hspot : spot = none := by simpa [Addr.add] using World.cell?_spot hc0
        subst hspot
        refine .inr ⟨b, off, rfl, fun i u hu => ?_⟩
        have hi : i < len := by
          rcases Nat.lt_or_ge i len with h | h
          · exact h
          · rw [List.getElem?_eq_none (by simpa using h)] at hu; cases hu
        rw [← addr_add, (hr i (by omega)).1]
        simpa [hi] using hu
    · have hi' : i < len := by simpa using hi
      rw [hM i hi']
      refine ⟨A i, C i, by simp [hi', (hf' i hi').1], (hf' i hi').2, by simp, (hr i (by omega)).2.2.2.2.2.1⟩
end Go.Proofs.Ytecfoomjpjcldaa
