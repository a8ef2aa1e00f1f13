/- Opens slices of ledgers and places that came in, in the words of the walks. -/
import Derived.Test.YtghadpihmhaepaaZOpLgi
import Derived.Test.YtghadpihmhaepaaZOpPoi
import Derived.Test.YtghadpihmhaepaaMB
namespace Go.Proofs.Ytghadpihmhaepaa
open Go.ChangeShapes Go.WideShapes Go.ChangeAt Go.RowKit
set_option maxRecDepth 100000

def lgL (t : Lgi) : Ld := ⟨t.id, t.cl, t.n⟩
theorem open_ps {H : Type} {enc : TypeId × Value → H} {w : World} {base : Nat} {held : Bool} {v : Value} {d : DataW H} {p : List MemPlace} (hval : Value.okWide Try.prog w .any base 25 v)
    (h : DataW.Trod enc Try.prog w 0 (fun _ => true) held 25 v d p) : ∃ x : Ps, v = x.val ∧ x.fits := by
  obtain ⟨t, rfl, ht⟩ := open_Poiv hval h
  exact ⟨⟨t.l, t.e⟩, rfl, ht.l_lt, ht.e_lt⟩
end Go.Proofs.Ytghadpihmhaepaa
