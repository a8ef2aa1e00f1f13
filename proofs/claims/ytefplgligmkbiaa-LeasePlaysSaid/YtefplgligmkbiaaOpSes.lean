/- Opens a slice of sessions that came in: with what a nil one's capacity is. -/
import Derived.Test.YtefplgligmkbiaaOpSe
namespace Go.Proofs.Ytefplgligmkbiaa
open Go.ChangeShapes Go.WideShapes Go.ChangeAt Go.RowKit

theorem open_ses {H : Type} {enc : TypeId × Value → H} {w : World} {held : Bool} {a : Option Addr} {len cap : Nat} {d : DataW H} {p : List MemPlace}
    (h : DataW.Trod enc Try.prog w 0 (fun _ => true) held 23 (.slice a len cap) d p) : ∃ ts : List Se, (Ses w a ts ∧ (a = none → cap = 0)) ∧ len = ts.length ∧ len ≤ 9223372036854775807 := by
  obtain ⟨ts, h1, h2, h3⟩ := open_Ses h
  refine ⟨ts, ⟨h1, ?_⟩, h2, h3⟩
  obtain ⟨fuel, hf⟩ := h
  rcases Go.Deep.open_slice Try.underlying23 hf with ⟨hcs, _⟩ | ⟨x, l, c, m, n, D, Pl, hcs, _⟩
  · simp [Value.cells] at hcs
    exact fun _ => hcs.2.2
  · simp [Value.cells] at hcs
    intro h0
    rw [hcs.1] at h0
    cases h0
end Go.Proofs.Ytefplgligmkbiaa
