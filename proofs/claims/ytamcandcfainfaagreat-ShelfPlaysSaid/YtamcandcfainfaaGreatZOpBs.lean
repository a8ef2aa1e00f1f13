/- Opens a slice of bools that came in. -/
import Derived.Test.YtamcandcfainfaaGreatZOpBase
import Derived.Test.YtamcandcfainfaaGreatMB
import Derived.Deep.Grids
namespace Go.Proofs.YtamcandcfainfaaGreat
open Go.ChangeShapes Go.WideShapes Go.ChangeAt Go.RowKit

theorem cellsBool : Tryz.prog.cellsOf 4 = 1 := by kernel_rfl

theorem open_bs {H : Type} {enc : TypeId × Value → H} {W : World} {held : Bool} {a : Option Addr} {len cap : Nat} {d : DataW H} {p : List MemPlace}
    (h : DataW.Trod enc Tryz.prog W 0 (fun _ => true) held 24 (.slice a len cap) d p) : ∃ bs : List Bool, BIn W a bs ∧ len = bs.length ∧ len ≤ 9223372036854775807 := by
  obtain ⟨fuel, hf⟩ := h
  rcases Go.Deep.open_bools Tryz.underlying24 Tryz.underlying4 cellsBool hf with ⟨hcs, _⟩ | ⟨x, l, c, Bf, hcs, _, hl, hm, _, hr⟩
  · simp [Value.cells] at hcs
    obtain ⟨rfl, rfl, rfl⟩ := hcs
    exact ⟨[], fun i hi => absurd hi (by simp), rfl, by omega⟩
  · simp [Value.cells] at hcs
    obtain ⟨rfl, rfl, rfl⟩ := hcs
    unfold maxLen at hm
    refine ⟨(List.range len).map Bf, fun i hi => ?_, by simp, by omega⟩
    have hi' : i < len := by simpa using hi
    obtain ⟨b, off, spot⟩ := x
    have hc0 := hr 0 (by omega)
    have hspot : spot = none := by simpa [Addr.add] using World.cell?_spot hc0
    subst hspot
    refine ⟨b, off, rfl, ?_⟩
    rw [← addr_add, hr i (by omega)]
    simp [List.getD, hi']
end Go.Proofs.YtamcandcfainfaaGreat
