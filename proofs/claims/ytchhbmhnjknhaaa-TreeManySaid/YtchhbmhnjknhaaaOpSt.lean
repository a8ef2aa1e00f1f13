/- Opens a slice of strings that came in. -/
import Derived.Test.YtchhbmhnjknhaaaOpBase
import Derived.Test.YtchhbmhnjknhaaaVals
import Derived.Deep.Grids
import Derived.SliceStrings
namespace Go.Proofs.Ytchhbmhnjknhaaa
open Go.ChangeShapes Go.WideShapes Go.ChangeAt Go.RowKit

theorem cellsStr : Try.prog.cellsOf 9 = 1 := by kernel_rfl

theorem open_sts {H : Type} {enc : TypeId × Value → H} {W : World} {held : Bool} {a : Option Addr} {len cap : Nat} {d : DataW H} {p : List MemPlace}
    (h : DataW.Trod enc Try.prog W 0 (fun _ => true) held 50 (.slice a len cap) d p) :
    ∃ ss : List ByteArray, (∀ i, i < ss.length → (ss.getD i ⟨#[]⟩).size ≤ 9223372036854775807 ∧ ∃ b off, a = some ⟨b, off, none⟩ ∧ W.cell? ⟨b, off + i, none⟩ = some (.string (ss.getD i ⟨#[]⟩))) ∧ len = ss.length ∧ len ≤ 9223372036854775807 := by
  obtain ⟨fuel, hf⟩ := h
  rcases open_strings Try.underlying50 Try.underlying9 cellsStr hf with ⟨hcs, _⟩ | ⟨x, l, c, ss, hcs, _, hl, hm, hlen, _, hr, hsz⟩
  · simp [Value.cells] at hcs
    obtain ⟨rfl, rfl, rfl⟩ := hcs
    exact ⟨[], fun i hi => absurd hi (by simp), rfl, by omega⟩
  · simp [Value.cells] at hcs
    obtain ⟨rfl, rfl, rfl⟩ := hcs
    rw [if_pos rfl] at hlen
    unfold maxLen at hm hsz
    refine ⟨ss.take len, fun i hi => ?_, by simp; omega, by omega⟩
    have hi' : i < len := by simp at hi; omega
    have e : (ss.take len).getD i ⟨#[]⟩ = ss.getD i ByteArray.empty := by simp [List.getD, hi']; rfl
    have hmem : ss.getD i ByteArray.empty ∈ ss := by simp [show i < ss.length by omega]
    obtain ⟨b, off, spot⟩ := x
    have hc0 := hr 0 (by omega)
    have hspot : spot = none := by simpa [Addr.add] using World.cell?_spot hc0
    subst hspot
    rw [e]
    refine ⟨by have := hsz _ hmem; omega, b, off, rfl, ?_⟩
    rw [← addr_add, hr i (by omega)]
end Go.Proofs.Ytchhbmhnjknhaaa
