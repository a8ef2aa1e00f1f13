/- A drawn region's word on worlds may be made stronger on the way: what holds over every order under the stronger word holds under the weaker one. It speaks of no program. -/
import Derived.Test.YtamcandcfainfaaGreatMA
import Derived.Deep.RegionHeld
namespace Go.Proofs.YtamcandcfainfaaGreat
open Go.RowKit
theorem wpAnyH_imp {P : Program} {md : Region.Mode} {ops : Array Oper} {Q : Exit → Act → World → Prop} {S S2 : World → Prop} (hS : ∀ w, S2 w → S w) :
    ∀ (fuel : Nat) (listed : Array Bool) (a : Act) (w : World), wpAnyH P md ops Q S2 fuel listed a w → wpAnyH P md ops Q S fuel listed a w
  | 0, _, _, _, h => h
  | fuel + 1, _, _, _, h => ⟨h.1, fun i hi => wpOp_mono (fun a' w' h' => ⟨hS w' h'.1, wpAnyH_imp hS fuel _ a' w' h'.2⟩) (h.2 i hi)⟩
end Go.Proofs.YtamcandcfainfaaGreat
