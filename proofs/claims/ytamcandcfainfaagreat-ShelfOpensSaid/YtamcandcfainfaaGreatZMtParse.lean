/- Records as they are taken: plain words, no program. -/
import Derived.Test.YtamcandcfainfaaGreatMX
import Derived.Test.YtamcandcfainfaaGreatZMtDef
namespace Go.Proofs.YtamcandcfainfaaGreat
open Go.RowKit
/-- A number of k bytes; counted bytes. -/
def pU (k : Nat) (l : List Nat) : Option (Nat × List Nat) := if l.length < k then none else some (val (l.take k), l.drop k)
def pB (l : List Nat) : Option (List Nat × List Nat) := if l.length < 4 then none else if l.length - 4 < val (l.take 4) then none else some ((l.drop 4).take (val (l.take 4)), l.drop (4 + val (l.take 4)))
def pX (l : List Nat) : Option (Sn × List Nat) := (pU 8 l).bind fun a => (pU 8 a.2).bind fun b => (pU 8 b.2).bind fun c => some (⟨a.1, b.1, c.1⟩, c.2)
def pN (l : List Nat) : Option (Nd × List Nat) := (pB l).bind fun a => (pB a.2).bind fun b => (pU 8 b.2).bind fun c => (pU 8 c.2).bind fun d => some (⟨strOf a.1, b.1, c.1, d.1⟩, d.2)
def pXs : Nat → List Nat → Option (List Sn × List Nat)
  | 0, l => some ([], l)
  | n + 1, l => (pX l).bind fun a => (pXs n a.2).bind fun b => some (a.1 :: b.1, b.2)
def pNs : Nat → List Nat → Option (List Nd × List Nat)
  | 0, l => some ([], l)
  | n + 1, l => (pN l).bind fun a => (pNs n a.2).bind fun b => some (a.1 :: b.1, b.2)
/-- How many, and they. -/
def pCX (l : List Nat) : Option (List Sn × List Nat) := (pU 2 l).bind fun a => pXs a.1 a.2
def pCN (l : List Nat) : Option (List Nd × List Nat) := (pU 2 l).bind fun a => pNs a.1 a.2
def pS (l : List Nat) : Option (MS × List Nat) := (pU 8 l).bind fun a => (pU 8 a.2).bind fun b => (pCX b.2).bind fun c => (pCN c.2).bind fun d => some (⟨a.1, d.1, b.1, c.1⟩, d.2)
def pC (kind : Nat) (l : List Nat) : Option (MC × List Nat) := (pB l).bind fun a => (pB a.2).bind fun b => (pU 8 b.2).bind fun c => (pU 8 c.2).bind fun d => (pU 8 d.2).bind fun e => some (⟨kind, strOf a.1, b.1, c.1, d.1, e.1⟩, e.2)

/-- A node that its bytes hold. -/
def Nd.fits (d : Nd) : Prop := d.k.size ≤ 64 ∧ d.v.length ≤ 3840 ∧ d.ver < 18446744073709551616 ∧ d.own < 18446744073709551616
end Go.Proofs.YtamcandcfainfaaGreat
