/- Contracts of the law's Made, Place. -/
import Derived.Test.YtghadpihmhaepaaDLdOpen
import Derived.Test.YtghadpihmhaepaaCA
namespace Go.Proofs.Ytghadpihmhaepaa
open Go.RowKit
set_option maxRecDepth 100000

/-- What Made answers: few ledgers of few entries. -/
def MadeEnd (w : World) (e : Ending) (w' : World) : Prop := ∃ (a : Option Addr) (k cap : Nat) (X : List Ld), e = .returned (.slice a k cap) ∧ k = X.length ∧ k ≤ 13 ∧ (∀ x ∈ X, x.n ≤ 5) ∧ LdOwn w' w.heap.size 69 [] a cap X ∧ Frm [] w w'
/-- While they are made. -/
structure Md13 (w wr : World) (k : Nat) (a : Option Addr) (cap : Nat) (X : List Ld) : Prop where
  own : LdOwn wr w.heap.size 69 [] a cap X
  len : X.length = k
  few : ∀ x ∈ X, x.n ≤ 5
  frm : Frm [] w wr
end Go.Proofs.Ytghadpihmhaepaa
