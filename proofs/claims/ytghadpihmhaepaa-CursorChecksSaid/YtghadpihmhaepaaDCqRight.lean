/- The law's Right, raw or not; what the laws of cursors begin with. -/
import Derived.Test.YtghadpihmhaepaaDCqRightT
import Derived.Test.YtghadpihmhaepaaDCqRightF
import Derived.Test.YtghadpihmhaepaaDOpHe
import Derived.Test.YtghadpihmhaepaaDLdwBetween
import Derived.Test.YtghadpihmhaepaaDCuMade
import Derived.Test.YtghadpihmhaepaaDCqAwake
namespace Go.Proofs.Ytghadpihmhaepaa
open Go.RowKit
set_option maxRecDepth 100000

theorem cqright_any (m : Ps) (a : Option Addr) (n cap : Nat) (F : List Nat) (X : List Hx) (raw : Bool) (w z : World) (h : CrsIn w m a n cap X) (hz : Frm [] w z) (hF : ∀ x ∈ F, x < z.heap.size) :
    Calls Try.prog 11 #[crsV m a n cap, .bool raw] z (RightEnd z F (placeP m raw)) := by
  have hn : n ≤ 9223372036854775807 := Nat.le_trans h.le h.max
  cases raw
  · exact cqrightF_any m a n cap F X z (h.hl.sub hz) h.len hn hF h.fits
  · exact cqrightT_any m a n cap F X z (h.hl.sub hz) h.len hn hF h.fits
/-- Ledgers of the law. -/
structure Lds14 (w : World) (F : List Nat) (a : Option Addr) (k : Nat) (X : List Ld) (o : Nat) : Prop where
  len : k = X.length
  few : k ≤ 13
  l : LdL w F a X
  fits : ∀ x ∈ X, x.fits
  right : RtLd X
  tot : tot X o ≤ 65
  open5 : o ≤ 5
theorem Lds14.keep {w w' : World} {F F' S : List Nat} {a : Option Addr} {k : Nat} {X : List Ld} {o : Nat} (h : Lds14 w F a k X o) (hf : Frm S w w') (hS : ∀ x ∈ S, x ∈ F ∨ w.heap.size ≤ x) (hF : ∀ x ∈ F', x ∈ F ∨ w.heap.size ≤ x) : Lds14 w' F' a k X o := ⟨h.len, h.few, h.l.keep hf hS hF, h.fits, h.right, h.tot, h.open5⟩
end Go.Proofs.Ytghadpihmhaepaa
