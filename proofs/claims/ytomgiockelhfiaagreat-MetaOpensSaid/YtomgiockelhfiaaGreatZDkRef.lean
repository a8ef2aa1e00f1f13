/- The document's disk (mailcoachref03.Disk): what it reads as (Rf); contracts of its Append, Cut, Crash. -/
import Derived.Test.YtomgiockelhfiaaGreatMX
import Derived.Test.YtomgiockelhfiaaGreatZDkMath
namespace Go.Proofs.YtomgiockelhfiaaGreat
open Go.RowKit

/-- The document's disk at block m; its blocks, all from B on, are G. -/
def Rf (w : World) (B m : Nat) (G : List Nat) (l : List Nat) (s room : Nat) : Prop :=
  ((∀ c ∈ l, c < 256) ∧ B ≤ m ∧ s ≤ l.length ∧ l.length ≤ room ∧ room ≤ 16777216) ∧
  ∃ a cap, Whole w m 37 #[.int .i64 (room : Nat), .int .i64 (s : Nat), .slice a l.length cap] ∧ Hd w B 5 a cap l ∧ G = m :: blk a
def RfTo (w w' : World) (B m : Nat) (G : List Nat) (l' : List Nat) (s' room : Nat) : Prop :=
  ∃ G', Rf w' B m G' l' s' room ∧ Frm G w w' ∧ ∀ x ∈ G', x ∈ G ∨ w.heap.size ≤ x
def RfRet (w : World) (B m : Nat) (G : List Nat) (l' : List Nat) (s' room : Nat) (v : Value) (e : Ending) (w' : World) : Prop := e = .returned v ∧ RfTo w w' B m G l' s' room

theorem Rf.lt {w : World} {B m : Nat} {G l : List Nat} {s room : Nat} (h : Rf w B m G l s room) : ∀ x ∈ G, B ≤ x ∧ x < w.heap.size := by
  obtain ⟨hs, a, cap, hm, hh, rfl⟩ := h
  intro x hx
  simp only [List.mem_cons] at hx
  rcases hx with rfl | hx
  · exact ⟨hs.2.1, hm.lt⟩
  · exact hh.blk_lt x hx
theorem Rf.keep {w w' : World} {B m : Nat} {G S l : List Nat} {s room : Nat} (h : Rf w B m G l s room) (hf : Frm S w w') (hS : ∀ x ∈ G, x ∉ S) : Rf w' B m G l s room := by
  obtain ⟨hs, a, cap, hm, hh, rfl⟩ := h
  exact ⟨hs, a, cap, hf.whole hm (hS m (by simp)), hh.keep hf (fun g hg => hS g (by simp [hg])), rfl⟩
theorem Rf.zero (w : World) (room : Nat) (h : room ≤ 16777216) (B : Nat) (hB : B ≤ w.heap.size) : Rf (w.alloc (.cells #[.int .i64 (room : Nat), .int .i64 0, .slice none 0 0] 37)) B w.heap.size [w.heap.size] [] 0 room :=
  ⟨⟨by simp, hB, Nat.le_refl _, Nat.zero_le _, h⟩, none, 0, Whole.made _ _ _, Hd.nil _ _ _, rfl⟩
theorem Rf.mem {w : World} {B m : Nat} {G l : List Nat} {s room : Nat} (h : Rf w B m G l s room) : m ∈ G := by
  obtain ⟨_, a, cap, _, _, rfl⟩ := h; simp

/-- A store to the slice of the document's disk. -/
theorem Rf.stored {w w1 : World} {B m : Nat} {a' : Option Addr} {cap' : Nat} {l' : List Nat} {s room : Nat} {G : List Nat} {x0 : Value} (hm : Whole w1 m 37 #[.int .i64 (room : Nat), .int .i64 (s : Nat), x0])
    (hh : Hd w1 B 5 a' cap' l') (hs : (∀ c ∈ l', c < 256) ∧ B ≤ m ∧ s ≤ l'.length ∧ l'.length ≤ room ∧ room ≤ 16777216) (hf : Frm [] w w1) (hG : m ∈ G) (hb : ∀ g ∈ blk a', g ∈ G ∨ w.heap.size ≤ g) :
    RfTo w (w1.setCell ⟨m, 2, none⟩ (.slice a' l'.length cap')) B m G l' s room := by
  have h2 := hm.put 2 (.slice a' l'.length cap')
  have hn := hd_ne hh hm (by decide)
  have hfs : Frm [m] w1 (w1.setCell ⟨m, 2, none⟩ (.slice a' l'.length cap')) := (Frm.refl _ _).setCell (.inl (by simp)) _
  refine ⟨m :: blk a', ⟨hs, a', cap', by simpa using h2, hh.keep hfs (fun g hg hm' => ?_), rfl⟩, hf.trans hfs (by simp) (fun x hx => ?_), fun x hx => ?_⟩
  · simp at hm'; subst hm'; exact hn hg
  · simp at hx; subst hx; exact .inl hG
  · simp only [List.mem_cons] at hx
    rcases hx with rfl | hx
    · exact .inl hG
    · exact hb x hx

end Go.Proofs.YtomgiockelhfiaaGreat
