/- Opens a slice of ints that came in. -/
import Derived.Test.YtcbpppdmkhpkkaaGreatZOpBase
import Derived.Test.YtcbpppdmkhpkkaaGreatZInIs
namespace Go.Proofs.YtcbpppdmkhpkkaaGreat
open Go.ChangeShapes Go.WideShapes Go.ChangeAt Go.RowKit
theorem cellsI64 : Tryz.prog.cellsOf 3 = 1 := by kernel_rfl
theorem wf_bounds_i64 {n : Int} (h : (Lit.int .i64 n).wf = true) : -9223372036854775808 ≤ n ∧ n ≤ 9223372036854775807 := by
  simp [Lit.wf, IntKind.min, IntKind.max, IntKind.signed, IntKind.bits] at h
  omega
theorem is_of_row {w : World} {a : Option Addr} {len cap : Nat} {zs : List Int} (h : RowIn .i64 w a len cap zs) : ∃ l : List Int, Is w a l ∧ len = l.length ∧ len ≤ 9223372036854775807 := by
  rcases h with ⟨rfl, rfl, rfl, rfl⟩ | ⟨x, rfl, hl, hm, hz, hcell, hwz⟩
  · exact ⟨[], fun i hi => absurd hi (Nat.not_lt_zero _), rfl, by omega⟩
  · unfold maxLen at hm
    have hlen : (zs.take len).length = len := by simp; omega
    refine ⟨zs.take len, fun i hi => ?_, hlen.symm, by omega⟩
    rw [hlen] at hi
    have hiz : i < zs.length := by omega
    have e : (zs.take len).getD i 0 = zs.getD i 0 := by simp [List.getD, hi]
    have hb := wf_bounds_i64 (hwz (zs.getD i 0) (by simp [hiz]))
    have hc := hcell i hiz
    obtain ⟨b, off, spot⟩ := x
    have hc0 := hcell 0 (by omega)
    have hspot : spot = none := by simpa [Addr.add] using World.cell?_spot hc0
    subst hspot
    rw [e]
    refine ⟨hb, b, off, rfl, ?_⟩
    rw [addr_add] at hc
    exact hc
theorem open_is {H : Type} {enc : TypeId × Value → H} {w : World} {held : Bool} {a : Option Addr} {len cap : Nat} {d : DataW H} {p : List MemPlace}
    (h : DataW.Trod enc Tryz.prog w 0 (fun _ => true) held 71 (.slice a len cap) d p) : ∃ l : List Int, Is w a l ∧ len = l.length ∧ len ≤ 9223372036854775807 := by
  obtain ⟨fuel, hf⟩ := h
  obtain ⟨zs, hrow⟩ : ∃ zs, RowIn .i64 w a len cap zs := by
    rcases open_ints Tryz.underlying71 Tryz.underlying3 cellsI64 hf with ⟨hcs, _⟩ | ⟨x, l, c, zs, hcs, _, hl, hm, hz, hx, hcell, hwz⟩
    · simp [Value.cells] at hcs
      obtain ⟨rfl, rfl, rfl⟩ := hcs
      exact ⟨[], .inl ⟨rfl, rfl, rfl, rfl⟩⟩
    · simp [Value.cells] at hcs
      obtain ⟨rfl, rfl, rfl⟩ := hcs
      exact ⟨zs, .inr ⟨x, rfl, hl, hm, by simpa using hz, hcell, hwz⟩⟩
  exact is_of_row hrow
end Go.Proofs.YtcbpppdmkhpkkaaGreat
