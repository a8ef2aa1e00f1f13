/- A row of the call's own, as it reads. It speaks of no program. -/
import Derived.Test.YtbdgmpfdcmmfhaaDoorVals
namespace Go.Proofs.YtbdgmpfdcmmfhaaDoor
open Go.RowKit

/-- A row of the call's own, as it reads. -/
theorem own_vals {w : World} {base : Nat} {e : TypeId} {sz n cap : Nat} {a : Option Addr} {xs : List Value} (h : w.ownsRow base e sz (.slice a n cap) n xs) : ValsAt w a xs := by
  rcases h.2 with ⟨_, hl⟩ | ⟨g, c, cur, hv, _⟩
  · left
    have := h.1
    rw [hl] at this
    exact List.eq_nil_of_length_eq_zero (by omega)
  · simp only [Value.slice.injEq] at hv
    obtain ⟨rfl, _, rfl⟩ := hv
    refine .inr ⟨g, 0, rfl, fun i u hu => ?_⟩
    have hi : i < xs.length := by
      rcases Nat.lt_or_ge i xs.length with h' | h'
      · exact h'
      · rw [List.getElem?_eq_none h'] at hu; cases hu
    rw [Nat.zero_add, World.ownsRow.cellAt h i (by rw [← h.1]; exact hi)]
    exact hu
end Go.Proofs.YtbdgmpfdcmmfhaaDoor
