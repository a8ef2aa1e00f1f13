/- Contract of Join. -/
import Derived.Test.YtghadpihmhaepaaDRgLay
import Derived.Deep.LoopGhost
namespace Go.Proofs.Ytghadpihmhaepaa
open Go.RowKit

def JRel (W : World) (A B : List Rg) (kx : Nat) (v0 v1 v5 : Value) (wr : World) : Prop :=
  ∃ (aa ab ao : Option Addr) (na nb m ca cb co : Nat) (la lb out : List Rg), v0 = .slice aa na ca ∧ v1 = .slice ab nb cb ∧ v5 = .slice ao m co ∧
    Hid (na = la.length) ∧ Hid (nb = lb.length) ∧ Hid (m = out.length) ∧ Hid (∀ w', Frm [] W w' → SlIn w' ⟨aa, ca, la⟩) ∧ Hid (∀ w', Frm [] W w' → SlIn w' ⟨ab, cb, lb⟩) ∧
    Hid (OwnR wr W.heap.size ao co out) ∧ Hid (JTo A B out la lb) ∧ Hid (Frm [] W wr) ∧ na + nb ≤ kx

end Go.Proofs.Ytghadpihmhaepaa
