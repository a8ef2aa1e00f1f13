/- What the document's State says: List, Get, Live, the time. -/
import Derived.Test.YtomgiockelhfiaaGreatZDsCopy
import Derived.Test.YtomgiockelhfiaaGreatME
namespace Go.Proofs.YtomgiockelhfiaaGreat
open Go.RowKit
set_option maxRecDepth 100000
theorem ds_list {w : World} {B q : Nat} {F : List Nat} {S : MS} (P : ByteArray) (h : Ds w B q F S) (hF : ∀ x ∈ F, x < w.heap.size) (hP : P.size ≤ 9223372036854775807) :
    Calls Tryz.prog 42 #[.pointer (some ⟨q, 1, none⟩), .string P] w fun e w' => ∃ a' c' Y, nds Y = S.nodes.filter (fun d => pfx P d.k) ∧ e = .returned (.slice a' Y.length c') ∧ NL w' (q :: F) a' Y ∧ Frm [] w w' := by
  obtain ⟨a, c, X, ht, ha⟩ := h.tree
  refine (slist_any P ht hF hP).mono ?_
  rintro e w' ⟨a', c', he, ho, hf⟩
  exact ⟨a', c', lsN P X, ha.list P, he, ho.nl, hf⟩
theorem ds_get {w : World} {B q : Nat} {F : List Nat} {S : MS} (s : ByteArray) (h : Ds w B q F S) :
    Calls Tryz.prog 16 #[.pointer (some ⟨q, 1, none⟩), .string s] w fun e w' => ∃ x : Nx, x.t = getN S.nodes s ∧ e = .returned (.tuple #[x.val, .bool (isN S.nodes s)]) ∧ NxOk w' (q :: F) x ∧ Frm [] w w' := by
  obtain ⟨a, c, X, ht, ha⟩ := h.tree
  refine (sget_any s ht).mono ?_
  rintro e w' ⟨he, hf⟩
  obtain ⟨h1, h2⟩ := sget_like ha s
  rw [h2] at he
  refine ⟨_, h1, he, ?_, hf⟩
  by_cases hin : atN X s < X.length
  · have hm : X.getD (atN X s) default ∈ X := by rw [getD_get hin]; exact List.getElem_mem hin
    exact (ht.row.nl.ok _ hm).keep hf (by simp) (fun x hx => .inl hx)
  · have e0 : X.getD (atN X s) default = (default : Nx) := by
      have := atN_le X s
      simp [List.getD, show atN X s = X.length by omega]
    rw [e0]
    exact ⟨Bytes.nil _, fun hne => absurd rfl hne, fun _ => rfl, by decide, by decide, by decide⟩
end Go.Proofs.YtomgiockelhfiaaGreat
