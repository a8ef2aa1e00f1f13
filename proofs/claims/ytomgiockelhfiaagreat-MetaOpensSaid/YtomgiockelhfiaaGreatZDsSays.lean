/- What the document's State says: List, Get, Live, the time. -/
import Derived.Test.YtomgiockelhfiaaGreatMX
import Derived.Test.YtomgiockelhfiaaGreatZDsCopy
namespace Go.Proofs.YtomgiockelhfiaaGreat
open Go.RowKit
set_option maxRecDepth 100000
theorem ds_list {w : World} {B q : Nat} {F : List Nat} {S : MS} (P : ByteArray) (h : Ds w B q F S) (hF : ∀ x ∈ F, x < w.heap.size) (hP : P.size ≤ 9223372036854775807) :
    Calls Tryz.prog 42 #[.pointer (some ⟨q, 1, none⟩), .string P] w fun e w' => ∃ a' c' Y, nds Y = S.nodes.filter (fun d => pfx P d.k) ∧ e = .returned (.slice a' Y.length c') ∧ NL w' (q :: F) a' Y ∧ Frm [] w w' := by
  obtain ⟨a, c, X, ht, ha⟩ := h.tree
  refine (slist_any P ht hF hP).mono ?_
  rintro e w' ⟨a', c', he, ho, hf⟩
  exact ⟨a', c', lsN P X, ha.list P, he, ho.nl, hf⟩
end Go.Proofs.YtomgiockelhfiaaGreat
