/- Contract of the law's Made: right ledgers. Written by a program out of XLdMade. -/
import Derived.Test.YtghadpihmhaepaaDLdMade
import Derived.Test.YtghadpihmhaepaaDLdMath3
namespace Go.Proofs.Ytghadpihmhaepaa
open Go.RowKit
set_option maxRecDepth 100000

/-- What Made answers: right ledgers, few, of few entries. -/
def Made14 (w : World) (e : Ending) (w' : World) : Prop := ∃ (a : Option Addr) (k cap : Nat) (X : List Ld), e = .returned (.slice a k cap) ∧ k = X.length ∧ k ≤ 13 ∧ (∀ x ∈ X, x.n ≤ 5) ∧ LdOwn w' w.heap.size 69 [] a cap X ∧ Frm [] w w' ∧ RtLd X
structure Md14 (w wr : World) (k id : Nat) (a : Option Addr) (cap : Nat) (X : List Ld) : Prop where
  own : LdOwn wr w.heap.size 69 [] a cap X
  len : X.length = k
  few : ∀ x ∈ X, x.n ≤ 5
  frm : Frm [] w wr
  grw : Grown X k id
end Go.Proofs.Ytghadpihmhaepaa
