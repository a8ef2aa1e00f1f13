/- Contract of the document's tight. -/
import Derived.Test.YtghadpihmhaepaaCC
namespace Go.Proofs.Ytghadpihmhaepaa
open Go.RowKit
set_option maxRecDepth 100000

def cellN (w : World) (p : Addr) : Nat := match w.cell? p with
  | some v => (intOf v).toNat
  | none => 0
def TiEnd (w : World) (F : List Nat) (X : List Ld) (o : Nat) (m : Ps) (Y : List Hx) (e : Ending) (w' : World) : Prop := ∃ (M : Ps) (Z : List Hx) (a : Option Addr) (c : Nat), e = .returned (crsV M a Z.length c) ∧ Reach X o (hels Y) m M ∧ Stop X o (hels Y) M ∧ hels Z = tightH M (hels Y) ∧ HxL w' F a Z ∧ Frm [] w w'
end Go.Proofs.Ytghadpihmhaepaa
