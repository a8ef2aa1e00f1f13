/- Cursors that came in, opened in the words of the walks. -/
import Derived.Test.YtghadpihmhaepaaYOpBase
import Derived.Test.YtghadpihmhaepaaYRgOpen
import Derived.Test.YtghadpihmhaepaaKB
namespace Go.Proofs.Ytghadpihmhaepaa
open Go.ChangeShapes Go.WideShapes Go.ChangeAt Go.RowKit
set_option maxRecDepth 100000

/-- What is known of a cursor that came in. -/
structure CrsIn (w : World) (m : Ps) (a : Option Addr) (n cap : Nat) (X : List Hx) : Prop where
  fits : m.fits
  hl : HxL w [] a X
  len : n = X.length
  nil : a = none → cap = 0
  le : n ≤ cap
  max : cap ≤ 9223372036854775807
end Go.Proofs.Ytghadpihmhaepaa
