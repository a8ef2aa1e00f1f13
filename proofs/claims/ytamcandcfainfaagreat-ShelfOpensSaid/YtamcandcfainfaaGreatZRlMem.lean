/- The document's node in memory (Rs). -/
import Derived.Test.YtamcandcfainfaaGreatMX
import Derived.Test.YtamcandcfainfaaGreatZRl
namespace Go.Proofs.YtamcandcfainfaaGreat
open Go.RowKit
set_option maxRecDepth 100000

/-- The blocks that the document's node writes to. -/
def rwB (q : Nat) (La : Option Addr) (R : List Rl) : List Nat := q :: (blk La ++ R.flatMap fun r => blk r.a)
/-- One ledger; W: all blocks that are written to. -/
structure Rok (w : World) (B : Nat) (W : List Nat) (r : Rl) : Prop where
  row : w.ownsRow B 57 2 (.slice r.a r.X.length r.c) r.X.length (ic r.X)
  ok : IOk w W r.X
  rise : RiseE (its r.X)
  num : r.id < N64 ∧ r.sure < N64
/-- The document's node at q: the ledgers R, no more than m of anything; nothing of it that is written to lies in the blocks F, no value of it in these or in what is written to. -/
structure Rs (w : World) (B : Nat) (F : List Nat) (q : Nat) (dv : Value) (La : Option Addr) (Lc : Nat) (R : List Rl) (m : Nat) : Prop where
  box : Whole w q 40 #[.slice La R.length Lc, dv]
  own : w.ownsRow B 82 5 (.slice La R.length Lc) R.length (rc R)
  all : ∀ r ∈ R, Rok w B (rwB q La R ++ F) r
  ids : (R.map (·.id)).Nodup
  apart : R.Pairwise fun r s => ∀ g ∈ blk r.a, g ∉ blk s.a
  out : ∀ g ∈ rwB q La R, g ∉ F ∧ B ≤ g
  few : R.length ≤ m ∧ ∀ r ∈ R, r.X.length ≤ m
section
variable {w w' : World} {B : Nat} {F F' T : List Nat} {q : Nat} {dv : Value} {La : Option Addr} {Lc : Nat} {R : List Rl} {m : Nat}
theorem Rs.lt (h : Rs w B F q dv La Lc R m) : ∀ g ∈ rwB q La R, g < w.heap.size := by
  intro g hg
  unfold rwB at hg
  simp only [List.mem_cons, List.mem_append, List.mem_flatMap] at hg
  rcases hg with rfl | hg | ⟨r, hr, hg⟩
  · exact h.box.lt
  · exact (World.ownsRow.lt h.own g (ownBlk.2 hg)).2
  · exact (World.ownsRow.lt (h.all r hr).row g (ownBlk.2 hg)).2
theorem Rok.keep {W W' : List Nat} {r : Rl} (h : Rok w B W r) (hf : Frm T w w') (hr : ∀ g ∈ blk r.a, g ∉ T) (hT : ∀ x ∈ T, x ∈ W ∨ w.heap.size ≤ x) (hW : ∀ x ∈ W', x ∈ W ∨ w.heap.size ≤ x) : Rok w' B W' r :=
  ⟨hf.own h.row (fun g hg => hr g (ownBlk.1 hg)), h.ok.keep hf hT hW, h.rise, h.num⟩
theorem Rs.keep (h : Rs w B F q dv La Lc R m) (hf : Frm T w w') (hT : ∀ x ∈ T, x ∈ F ∨ w.heap.size ≤ x) (hF : ∀ x ∈ F', x ∈ F ∨ w.heap.size ≤ x) : Rs w' B F' q dv La Lc R m := by
  have hlt := h.lt
  have nT : ∀ x ∈ rwB q La R, x ∉ T := fun x hx hm => by
    rcases hT x hm with h1 | h1
    · exact (h.out x hx).1 h1
    · have := hlt x hx; omega
  refine ⟨hf.whole h.box (nT _ (by unfold rwB; simp)), hf.own h.own (fun g hg => nT g (by unfold rwB; simp [ownBlk.1 hg])), fun r hr => ?_, h.ids, h.apart, fun g hg => ⟨fun hm => ?_, (h.out g hg).2⟩, h.few⟩
  · refine (h.all r hr).keep hf (fun g hg => nT g ?_) (fun x hx => ?_) (fun x hx => ?_)
    · unfold rwB
      simp only [List.mem_cons, List.mem_append, List.mem_flatMap]
      exact .inr (.inr ⟨r, hr, hg⟩)
    · rcases hT x hx with h1 | h1
      · exact .inl (by simp [h1])
      · exact .inr h1
    · rcases List.mem_append.1 hx with h1 | h1
      · exact .inl (by simp [h1])
      · rcases hF x h1 with h2 | h2
        · exact .inl (by simp [h2])
        · exact .inr h2
  · rcases hF g hm with h1 | h1
    · exact (h.out g hg).1 h1
    · have := hlt g hg; omega
theorem Rs.here (h : Rs w B F q dv La Lc R m) (hf : Frm [] w w') : Rs w' B F q dv La Lc R m := h.keep hf (by simp) (fun x hx => .inl hx)
theorem Rs.more {m' : Nat} (h : Rs w B F q dv La Lc R m) (hm : m ≤ m') : Rs w B F q dv La Lc R m' :=
  ⟨h.box, h.own, h.all, h.ids, h.apart, h.out, Nat.le_trans h.few.1 hm, fun r hr => Nat.le_trans (h.few.2 r hr) hm⟩
/-- The rows' blocks are of three kinds. -/
theorem Rs.kinds (h : Rs w B F q dv La Lc R m) : q ∉ blk La ∧ (∀ r ∈ R, q ∉ blk r.a) ∧ ∀ r ∈ R, ∀ g ∈ blk La, g ∉ blk r.a := by
  have k : ∀ {t : TypeId} {n : Nat} {a : Option Addr} {c sz : Nat} {xs : List Value} {g : Nat}, w.ownsRow B t sz (.slice a n c) n xs → g ∈ blk a → ∃ cs mm, w.heap[g]? = some (.cells cs t mm) := by
    intro t n a c sz xs g ho hg
    rcases ho.2 with ⟨hv, _⟩ | ⟨g', cap', cur, hv, _, hh, _⟩
    · simp only [Value.slice.injEq] at hv
      rw [hv.1] at hg; simp at hg
    · simp only [Value.slice.injEq] at hv
      rw [hv.1] at hg
      simp at hg
      subst hg
      exact ⟨_, _, hh⟩
  obtain ⟨mm, hq⟩ : ∃ mm, w.heap[q]? = some (.cells #[.slice La R.length Lc, dv] 40 mm) := ⟨_, h.box⟩
  refine ⟨fun hm => ?_, fun r hr hm => ?_, fun r hr g hg hm => ?_⟩
  · obtain ⟨cs, m2, e⟩ := k h.own hm
    rw [hq] at e; simp at e
  · obtain ⟨cs, m2, e⟩ := k (h.all r hr).row hm
    rw [hq] at e; simp at e
  · obtain ⟨cs, m2, e⟩ := k h.own hg
    obtain ⟨cs', m3, e'⟩ := k (h.all r hr).row hm
    rw [e] at e'; simp at e'
end
end Go.Proofs.YtamcandcfainfaaGreat
