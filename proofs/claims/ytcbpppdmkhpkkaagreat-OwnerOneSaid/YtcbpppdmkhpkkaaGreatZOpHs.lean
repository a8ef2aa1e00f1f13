/- Opens a slice of small numbers (uint16) that came in. -/
import Derived.Test.YtcbpppdmkhpkkaaGreatZOpBase
import Derived.Test.YtcbpppdmkhpkkaaGreatZInHs
namespace Go.Proofs.YtcbpppdmkhpkkaaGreat
open Go.ChangeShapes Go.WideShapes Go.ChangeAt Go.RowKit

theorem cellsU16 : Tryz.prog.cellsOf 67 = 1 := by kernel_rfl
theorem wf_bounds_u16 {n : Int} (h : (Lit.int .u16 n).wf = true) : 0 ≤ n ∧ n ≤ 65535 := by
  simp [Lit.wf, IntKind.min, IntKind.max, IntKind.signed, IntKind.bits] at h
  omega
theorem hs_of_row {w : World} {a : Option Addr} {len cap : Nat} {zs : List Int} (h : RowIn .u16 w a len cap zs) : ∃ l : List Nat, Hs w a l ∧ len = l.length ∧ len ≤ 9223372036854775807 := by
  rcases h with ⟨rfl, rfl, rfl, rfl⟩ | ⟨x, rfl, hl, hm, hz, hcell, hwz⟩
  · exact ⟨[], fun i hi => absurd hi (Nat.not_lt_zero _), rfl, by omega⟩
  · unfold maxLen at hm
    have hlen : ((zs.take len).map Int.toNat).length = len := by simp; omega
    refine ⟨(zs.take len).map Int.toNat, fun i hi => ?_, hlen.symm, by omega⟩
    rw [hlen] at hi
    have hiz : i < zs.length := by omega
    have e : ((zs.take len).map Int.toNat).getD i 0 = (zs.getD i 0).toNat := by simp [List.getD, hi, hiz]
    have hb := wf_bounds_u16 (hwz (zs.getD i 0) (by simp [hiz]))
    have hc := hcell i hiz
    obtain ⟨b, off, spot⟩ := x
    have hc0 := hcell 0 (by omega)
    have hspot : spot = none := by simpa [Addr.add] using World.cell?_spot hc0
    subst hspot
    rw [e]
    refine ⟨by omega, b, off, rfl, ?_⟩
    rw [addr_add] at hc
    rw [hc, show (((zs.getD i 0).toNat : Nat) : Int) = zs.getD i 0 by omega]
theorem open_hs {H : Type} {enc : TypeId × Value → H} {w : World} {held : Bool} {a : Option Addr} {len cap : Nat} {d : DataW H} {p : List MemPlace}
    (h : DataW.Trod enc Tryz.prog w 0 (fun _ => true) held 65 (.slice a len cap) d p) : ∃ l : List Nat, Hs w a l ∧ len = l.length ∧ len ≤ 9223372036854775807 := by
  obtain ⟨fuel, hf⟩ := h
  obtain ⟨zs, hrow⟩ : ∃ zs, RowIn .u16 w a len cap zs := by
    rcases open_ints Tryz.underlying65 Tryz.underlying67 cellsU16 hf with ⟨hcs, _⟩ | ⟨x, l, c, zs, hcs, _, hl, hm, hz, hx, hcell, hwz⟩
    · simp [Value.cells] at hcs
      obtain ⟨rfl, rfl, rfl⟩ := hcs
      exact ⟨[], .inl ⟨rfl, rfl, rfl, rfl⟩⟩
    · simp [Value.cells] at hcs
      obtain ⟨rfl, rfl, rfl⟩ := hcs
      exact ⟨zs, .inr ⟨x, rfl, hl, hm, by simpa using hz, hcell, hwz⟩⟩
  exact hs_of_row hrow
end Go.Proofs.YtcbpppdmkhpkkaaGreat
