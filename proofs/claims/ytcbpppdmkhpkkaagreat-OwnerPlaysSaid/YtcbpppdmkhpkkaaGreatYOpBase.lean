/- Slices of bytes that came in, opened for the walks. -/
import Derived.Test.YtcbpppdmkhpkkaaGreatRows
import Derived.Test.YtcbpppdmkhpkkaaGreatKA
import Derived.ProofKit
import Derived.OpenShut
import Derived.ShutString
import Derived.ChangeOld
import Derived.Below
import Derived.Deep.Slices
import Derived.ChangeSame
namespace Go.Proofs.YtcbpppdmkhpkkaaGreat
open Go.ChangeShapes Go.WideShapes Go.ChangeAt Go.RowKit

theorem cellsByte : Tryz.prog.cellsOf 5 = 1 := by kernel_rfl
theorem open_bytesc {H : Type} {enc : TypeId × Value → H} {w : World} {held : Bool} {fuel : Nat} {v : Value} {y : DataW H × List MemPlace}
    (h : DataW.trod enc Tryz.prog w 0 (fun _ => true) held fuel 36 [v] = some y) :
    ∃ a c l, v = .slice a l.length c ∧ Bytes w a l ∧ l.length ≤ c ∧ (a = none → c = 0) := by
  obtain ⟨a, c, zs, len, hv, hrow⟩ : ∃ a c zs len, v = .slice a len c ∧ RowIn .u8 w a len c zs := by
    rcases open_ints Tryz.underlying36 Tryz.underlying5 cellsByte h with ⟨hcs, _⟩ | ⟨x, l, c, zs, hcs, _, hl, hm, hz, hx, hcell, hwz⟩
    · injection hcs with hcs _
      exact ⟨none, 0, [], 0, hcs, .inl ⟨rfl, rfl, rfl, rfl⟩⟩
    · injection hcs with hcs _
      exact ⟨some x, c, zs, l, hcs, .inr ⟨x, rfl, hl, hm, by simpa using hz, hcell, hwz⟩⟩
  obtain ⟨l, h1, h2⟩ := bytes_of_row hrow
  exact ⟨a, c, l, by rw [hv, h1], h2, by rw [← h1]; exact row_cap hrow, row_nil hrow⟩
end Go.Proofs.YtcbpppdmkhpkkaaGreat
