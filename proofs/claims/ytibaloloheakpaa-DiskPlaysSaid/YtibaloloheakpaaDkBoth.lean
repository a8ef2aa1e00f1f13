/- The disk and the document's disk, side by side. -/
import Derived.Test.YtibaloloheakpaaDkRefCut
import Derived.Test.YtibaloloheakpaaInAc
import Derived.Test.YtibaloloheakpaaSpoil
namespace Go.Proofs.Ytibaloloheakpaa
open Go.RowKit

/-- The two disks, side by side. -/
structure Both (w wr : World) (p m : Nat) (F G : List Nat) (l : List Nat) (s : Nat) (l2 : List Nat) (s2 : Nat) (room : Nat) : Prop where
  dk : Dk wr p p F l s room
  rf : Rf wr p m G l2 s2 room
  apart : ∀ x ∈ F, x ∉ G
  frm : Frm [] w wr
  base : w.heap.size ≤ p

section
variable {w wr w' : World} {p m : Nat} {F G l l2 : List Nat} {s s2 room : Nat}
theorem Both.keep (h : Both w wr p m F G l s l2 s2 room) (hf : Frm [] wr w') : Both w w' p m F G l s l2 s2 room :=
  ⟨h.dk.keep hf (by simp), h.rf.keep hf (by simp), h.apart, h.frm.trans hf (by simp) (by simp), h.base⟩
theorem Both.keepS {S : List Nat} (h : Both w wr p m F G l s l2 s2 room) (hf : Frm S wr w') (hS : ∀ x ∈ S, w.heap.size ≤ x ∧ x ∉ F ∧ x ∉ G) : Both w w' p m F G l s l2 s2 room :=
  ⟨h.dk.keep hf (fun x hx hm => (hS x hm).2.1 hx), h.rf.keep hf (fun x hx hm => (hS x hm).2.2 hx), h.apart, h.frm.trans hf (by simp) (fun x hx => .inr (hS x hx).1), h.base⟩
theorem Both.dkTo {l' : List Nat} {s' : Nat} (h : Both w wr p m F G l s l2 s2 room) (hd : DkTo wr w' p p F l' s' room) :
    ∃ F', Both w w' p m F' G l' s' l2 s2 room ∧ Frm F wr w' ∧ ∀ x ∈ F', x ∈ F ∨ wr.heap.size ≤ x := by
  obtain ⟨F', hd', hf, hx⟩ := hd
  refine ⟨F', ⟨hd', h.rf.keep hf (fun x hx hm => h.apart x hm hx), fun x h1 h2 => ?_, h.frm.dk h.base h.dk hf, h.base⟩, hf, hx⟩
  rcases hx x h1 with h3 | h3
  · exact h.apart x h3 h2
  · have := (h.rf.lt x h2).2; omega
theorem Both.rfTo {l' : List Nat} {s' : Nat} (h : Both w wr p m F G l s l2 s2 room) (hd : RfTo wr w' p m G l' s' room) :
    ∃ G', Both w w' p m F G' l s l' s' room ∧ Frm G wr w' ∧ ∀ x ∈ G', x ∈ G ∨ wr.heap.size ≤ x := by
  obtain ⟨G', hd', hf, hx⟩ := hd
  refine ⟨G', ⟨h.dk.keep hf h.apart, hd', fun x h1 h2 => ?_, h.frm.trans hf (by simp) (fun x hx => .inr (Nat.le_trans h.base (h.rf.lt x hx).1)), h.base⟩, hf, hx⟩
  rcases hx x h2 with h3 | h3
  · exact h.apart x h1 h3
  · have := (h.dk.lt x h1).2; omega
/-- Neither disk lies in what is new. -/
theorem Both.old (h : Both w wr p m F G l s l2 s2 room) {x : Nat} (hx : wr.heap.size ≤ x) : x ∉ F ∧ x ∉ G :=
  ⟨fun hm => by have := (h.dk.lt x hm).2; omega, fun hm => by have := (h.rf.lt x hm).2; omega⟩
theorem Rf.whole {G : List Nat} (h : Rf wr p m G l s room) : ∃ a cap, Whole wr m 31 #[.int .i64 (room : Nat), .int .i64 (s : Nat), .slice a l.length cap] ∧ Bytes wr a l ∧ (a = none → cap = 0) ∧ (∀ x, a = some x → x.block ∈ G) := by
  obtain ⟨hs, a, cap, hm, hh, rfl⟩ := h
  exact ⟨a, cap, hm, hh.bytes hs.1, hh.none_cap, fun x hx => by rw [hx]; simp⟩
/-- All is sure. -/
theorem Rf.sync {G : List Nat} (h : Rf wr p m G l s room) : RfTo wr (wr.setCell ⟨m, 1, none⟩ (.int .i64 (l.length : Nat))) p m G l l.length room := by
  obtain ⟨hs, a, cap, hm, hh, rfl⟩ := h
  have hne := hd_ne hh hm (by decide)
  have hp := hm.put 1 (.int .i64 (l.length : Nat))
  have hf : Frm [m] wr (wr.setCell ⟨m, 1, none⟩ (.int .i64 (l.length : Nat))) := (Frm.refl _ _).setCell (.inl (by simp)) _
  exact ⟨m :: blk a, ⟨⟨hs.1, hs.2.1, Nat.le_refl _, hs.2.2.2.1, hs.2.2.2.2⟩, a, cap, by simpa using hp, hh.keep hf (fun g hg hx => by simp at hx; subst hx; exact hne hg), rfl⟩, hf.weak (fun x hx => .inl (by simp at hx; simp [hx])), fun x hx => .inl hx⟩
end

/-- At the head of the loop over acts. -/
def PlRel (w : World) (p m n room : Nat) (i : Value) (wr : World) : Prop :=
  ∃ (k : Nat) (F G l : List Nat) (s : Nat), k ≤ n ∧ i = .int .i64 k ∧ Both w wr p m F G l s l s room ∧ l.length ≤ 500 * k
/-- Behind an act: the two disks have the same bytes again. -/
def Mid (w : World) (p m k room : Nat) (wr : World) : Prop := ∃ (F G l : List Nat) (s : Nat), Both w wr p m F G l s l s room ∧ l.length ≤ 500 * (k + 1)

theorem crashed_le {l : List Nat} {s : Nat} {keep bit : Int} (hs : s ≤ l.length) : (crashed l s keep bit).length ≤ l.length := by
  rw [crashed_length hs]; unfold keptN; omega
end Go.Proofs.Ytibaloloheakpaa
