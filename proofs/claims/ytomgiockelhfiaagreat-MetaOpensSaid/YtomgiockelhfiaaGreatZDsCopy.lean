/- The document's State, copied into a block of its own, and stored back. -/
import Derived.Test.YtomgiockelhfiaaGreatMX
namespace Go.Proofs.YtomgiockelhfiaaGreat
open Go.RowKit
set_option maxRecDepth 100000
theorem NOwn.less {w : World} {B : Nat} {e : TypeId} {F F' : List Nat} {a : Option Addr} {c : Nat} {X : List Nx} (h : NOwn w B e F a c X) (hF : ∀ x ∈ F', x ∈ F ∨ w.heap.size ≤ x) : NOwn w B e F' a c X := h.keep (S := []) (Frm.refl _ _) (by simp) hF
theorem SOwn.less {w : World} {B : Nat} {e : TypeId} {F F' : List Nat} {a : Option Addr} {c : Nat} {X : List Sn} (h : SOwn w B e F a c X) (hF : ∀ x ∈ F', x ∈ F ∨ w.heap.size ≤ x) : SOwn w B e F' a c X := h.keep (S := []) (Frm.refl _ _) (by simp) hF
/-- The cells of a State, and a block of the call's own that holds the same. -/
theorem Ds.cells {w : World} {B q : Nat} {F : List Nat} {S : MS} (h : Ds w B q F S) (hF : ∀ x ∈ F, x < w.heap.size) : ∃ ta tn tc ba bn bc, w.cell? ⟨q, 1, none⟩ = some (.slice ta tn tc) ∧ w.cell? ⟨q, 3, none⟩ = some (.slice ba bn bc) ∧
    ∀ w1 p, Frm [] w w1 → w.heap.size ≤ p → Whole w1 p 46 #[.int .u64 (S.now : Nat), .slice ta tn tc, .int .u64 (S.last : Nat), .slice ba bn bc] → Ds w1 B p (q :: F) S := by
  obtain ⟨a, c, X, ht, ha⟩ := h.tree
  obtain ⟨a2, c2, hb⟩ := h.book
  refine ⟨a, X.length, c, a2, S.ses.length, c2, ht.c0, hb.c1, fun w1 p hf hp hW => ?_⟩
  have hnew : ∀ x ∈ p :: q :: F, x ∈ q :: F ∨ w.heap.size ≤ x := fun x hx => by
    rcases List.mem_cons.1 hx with rfl | hx
    · exact .inr hp
    · exact .inl hx
  have hout : p ∉ q :: F := fun hm => by
    rcases List.mem_cons.1 hm with rfl | hm
    · have := h.plt; omega
    · have := hF p hm; omega
  have hBp : B ≤ p := by have := h.hp; have := h.plt; omega
  exact ⟨hW.cell 0, ⟨a, c, X, ⟨hW.cell 1, fun j => hW.free j, ht.row.keep hf (by simp) hnew, hBp, hout, ht.few⟩, ha⟩, a2, c2, ⟨hW.cell 2, hW.cell 3, fun j => hW.free j, hb.row.keep hf (by simp) hnew, hBp, hout, hb.few, hb.lt⟩⟩
/-- The State at p is stored into the block q. -/
theorem Ds.back {w w2 : World} {B p q : Nat} {F : List Nat} {S T : MS} (h : Ds w B p (q :: F) S) (hq : Ds w B q F T) (hf : Frm [q] w w2)
    (c0 : w2.cell? ⟨q, 0, none⟩ = w.cell? ⟨p, 0, none⟩) (c1 : w2.cell? ⟨q, 1, none⟩ = w.cell? ⟨p, 1, none⟩) (c2 : w2.cell? ⟨q, 2, none⟩ = w.cell? ⟨p, 2, none⟩) (c3 : w2.cell? ⟨q, 3, none⟩ = w.cell? ⟨p, 3, none⟩) (hfz : ∀ j, w2.frozen? ⟨q, j, none⟩ = false) : Ds w2 B q F S := by
  obtain ⟨a, c, X, ht, ha⟩ := h.tree
  obtain ⟨a2, c4, hb⟩ := h.book
  have hT : ∀ x ∈ [q], x ∈ p :: q :: F ∨ w.heap.size ≤ x := fun x hx => .inl (by simp at hx; simp [hx])
  have hS : ∀ x ∈ q :: F, x ∈ p :: q :: F ∨ w.heap.size ≤ x := fun x hx => .inl (List.mem_cons_of_mem _ hx)
  exact ⟨c0.trans h.n0, ⟨a, c, X, ⟨c1.trans ht.c0, hfz, ht.row.keep hf hT hS, hq.hp, hq.out, ht.few⟩, ha⟩, a2, c4, ⟨c2.trans hb.c0, c3.trans hb.c1, hfz, hb.row.keep hf hT hS, hq.hp, hq.out, hb.few, hb.lt⟩⟩
end Go.Proofs.YtomgiockelhfiaaGreat
