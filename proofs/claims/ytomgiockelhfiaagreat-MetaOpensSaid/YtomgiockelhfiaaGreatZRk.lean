/- The document's keeper in memory (Rk); contract of its Do. -/
import Derived.Test.YtomgiockelhfiaaGreatMX
import Derived.Test.YtomgiockelhfiaaGreatZRdRecAll
import Derived.Test.YtomgiockelhfiaaGreatZDkRef
namespace Go.Proofs.YtomgiockelhfiaaGreat
open Go.RowKit
set_option maxRecDepth 100000
theorem Rf.sure {w : World} {B m : Nat} {G l : List Nat} {s room : Nat} (h : Rf w B m G l s room) : Rf (w.setCell ⟨m, 1, none⟩ (.int .i64 (l.length : Nat))) B m G l l.length room := by
  obtain ⟨hs, a, cap, hm, hh, rfl⟩ := h
  have h2 := hm.put 1 (.int .i64 (l.length : Nat))
  have hn := hd_ne hh hm (by decide)
  exact ⟨⟨hs.1, hs.2.1, Nat.le_refl _, hs.2.2.2⟩, a, cap, by simpa using h2, hh.keep (S := [m]) ((Frm.refl _ _).setCell (.inl (by simp)) _) (fun g hg hm' => by simp at hm'; subst hm'; exact hn hg), rfl⟩
/-- The document's keeper at q: its state S, its disk at m with the blocks Gd and the bytes l, all sure; nothing of all that lies in the blocks G. -/
structure Rk (w : World) (B q m : Nat) (G Gd : List Nat) (S : MS) (l : List Nat) (room : Nat) : Prop where
  ds : Ds w B q (Gd ++ G) S
  c4 : w.cell? ⟨q, 4, none⟩ = some (.pointer (some ⟨m, 0, none⟩))
  rf : Rf w B m Gd l l.length room
  out : ∀ x ∈ q :: Gd, x ∉ G
section
variable {w w' : World} {B q m : Nat} {G G' Gd T : List Nat} {S : MS} {l : List Nat} {room : Nat}
theorem Rk.lt (h : Rk w B q m G Gd S l room) : ∀ x ∈ q :: Gd, B ≤ x ∧ x < w.heap.size := by
  intro x hx
  rcases List.mem_cons.1 hx with rfl | hx
  · exact ⟨h.ds.hp, h.ds.plt⟩
  · exact h.rf.lt x hx
theorem Rk.keep (h : Rk w B q m G Gd S l room) (hf : Frm T w w') (hT : ∀ x ∈ T, x ∈ G ∨ w.heap.size ≤ x) (hG : ∀ x ∈ G', x ∈ G ∨ w.heap.size ≤ x) : Rk w' B q m G' Gd S l room := by
  have nT : ∀ x ∈ q :: Gd, x ∉ T := fun x hx hm => by
    rcases hT x hm with h1 | h1
    · exact h.out x hx h1
    · have := (h.lt x hx).2; omega
  have hd : Ds w' B q (Gd ++ (G ++ G')) S := (h.ds.more (F' := Gd ++ (G ++ G')) (Frm.refl _ _) (fun x hx => by
    simp only [List.mem_append] at hx ⊢
    rcases hx with h1 | h1 | h1
    · exact .inl (.inl h1)
    · exact .inl (.inr h1)
    · exact (hG x h1).imp .inr id)).keep hf (nT _ (by simp)) (fun x hx => by
    rcases hT x hx with h1 | h1
    · exact .inl (by simp [h1])
    · exact .inr h1)
  refine ⟨hd.more (Frm.refl _ _) (fun x hx => ?_), (hf.cell (p := ⟨q, 4, none⟩) h.ds.plt (nT _ (by simp))).trans h.c4, h.rf.keep hf (fun x hx => nT x (by simp [hx])), fun x hx hm => ?_⟩
  · simp only [List.mem_append] at hx ⊢
    exact .inl (hx.imp id .inr)
  · rcases hG x hm with h1 | h1
    · exact h.out x hx h1
    · have := (h.lt x hx).2; omega
end
end Go.Proofs.YtomgiockelhfiaaGreat
