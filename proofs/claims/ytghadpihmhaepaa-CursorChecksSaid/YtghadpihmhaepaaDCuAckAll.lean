/- Contract of the document's AckAll. -/
import Derived.Test.YtghadpihmhaepaaDCuTight
namespace Go.Proofs.Ytghadpihmhaepaa
open Go.RowKit
set_option maxRecDepth 100000

/-- No cursor, an error's number. -/
def NoEnd (w : World) (code : Int) (e : Ending) (w' : World) : Prop := e = .returned (.tuple #[crsV ⟨0, 0⟩ none 0 0, .int .i64 code]) ∧ Frm [] w w'
/-- Made tight from a mark on. -/
def YesEnd (w : World) (F : List Nat) (X : List Ld) (o : Nat) (m : Ps) (H : List Hel) (e : Ending) (w' : World) : Prop := ∃ (M : Ps) (Z : List Hx) (a : Option Addr) (c : Nat), e = .returned (.tuple #[crsV M a Z.length c, .int .i64 0]) ∧ Reach X o H m M ∧ Stop X o H M ∧ hels Z = tightH M H ∧ HxL w' F a Z ∧ Frm [] w w'
end Go.Proofs.Ytghadpihmhaepaa
