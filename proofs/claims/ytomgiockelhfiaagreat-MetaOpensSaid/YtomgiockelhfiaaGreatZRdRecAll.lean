/- Contract of the document's Record: all commands. -/
import Derived.Test.YtomgiockelhfiaaGreatMX
import Derived.Test.YtomgiockelhfiaaGreatZRdRecS
namespace Go.Proofs.YtomgiockelhfiaaGreat
open Go.RowKit
set_option maxRecDepth 100000
theorem rrec_any {w : World} {B q : Nat} {F : List Nat} {S : MS} (c : MC) (a : Option Addr) (cap : Nat) (h : Ds w B q F S) (hM : MOk S) (hc : MCOk c) (hF : ∀ x ∈ F, x < w.heap.size) (hb : Bytes w a c.val) (hnil : a = none → cap = 0) :
    Calls Tryz.prog 20 #[.pointer (some ⟨q, 0, none⟩), cmdV c a cap] w (RwE w (recB S c)) := by
  by_cases hk : c.kind = 7
  · exact rrec_snap c a cap h hM hF hk
  · exact rrec_cmd c a cap hc hb hnil hk
end Go.Proofs.YtomgiockelhfiaaGreat
