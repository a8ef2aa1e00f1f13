/- The document's node with its disk (Rd). -/
import Derived.Test.YtamcandcfainfaaGreatMX
import Derived.Test.YtamcandcfainfaaGreatZRlSays
import Derived.Test.YtamcandcfainfaaGreatZDkRef
namespace Go.Proofs.YtamcandcfainfaaGreat
open Go.RowKit
set_option maxRecDepth 100000
theorem Rf.sureN {w : World} {B m : Nat} {G l : List Nat} {s room : Nat} (h : Rf w B m G l s room) : Rf (w.setCell ⟨m, 1, none⟩ (.int .i64 (l.length : Nat))) B m G l l.length room := by
  obtain ⟨hs, a, cap, hm, hh, rfl⟩ := h
  have h2 := hm.put 1 (.int .i64 (l.length : Nat))
  have hn := hd_ne hh hm (by decide)
  exact ⟨⟨hs.1, hs.2.1, Nat.le_refl _, hs.2.2.2⟩, a, cap, by simpa using h2, hh.keep (S := [m]) ((Frm.refl _ _).setCell (.inl (by simp)) _) (fun g hg hm' => by simp at hm'; subst hm'; exact hn hg), rfl⟩
/-- The document's node at q, with no more than mm of anything, and its disk at m with the bytes l, all sure: the node is S; W: all its blocks; none of them lies in the blocks G. -/
def Rd (w : World) (B : Nat) (G W : List Nat) (q m : Nat) (S : Nd9) (l : List Nat) (room mm : Nat) : Prop :=
  ∃ (La : Option Addr) (Lc : Nat) (R : List Rl) (Gd : List Nat), Rs w B (Gd ++ G) q (.pointer (some ⟨m, 0, none⟩)) La Lc R mm ∧ nodeOf R = S ∧ Rf w B m Gd l l.length room ∧ (∀ x ∈ Gd, x ∉ G) ∧ W = rwB q La R ++ Gd
section
variable {w w' : World} {B q m : Nat} {G G' W T : List Nat} {S : Nd9} {l : List Nat} {room mm : Nat}
theorem Rd.lt (h : Rd w B G W q m S l room mm) : ∀ x ∈ W, B ≤ x ∧ x < w.heap.size ∧ x ∉ G := by
  obtain ⟨La, Lc, R, Gd, hs, _, hf, ho, rfl⟩ := h
  intro x hx
  rcases List.mem_append.1 hx with h1 | h1
  · exact ⟨(hs.out x h1).2, hs.lt x h1, fun hm => (hs.out x h1).1 (List.mem_append_right _ hm)⟩
  · exact ⟨(hf.lt x h1).1, (hf.lt x h1).2, ho x h1⟩
theorem Rd.keep (h : Rd w B G W q m S l room mm) (hf : Frm T w w') (hT : ∀ x ∈ T, x ∈ G ∨ w.heap.size ≤ x) (hG : ∀ x ∈ G', x ∈ G ∨ w.heap.size ≤ x) : Rd w' B G' W q m S l room mm := by
  obtain ⟨La, Lc, R, Gd, hs, hn, hr, ho, rfl⟩ := h
  refine ⟨La, Lc, R, Gd, hs.keep hf (fun x hx => ?_) (fun x hx => ?_), hn, hr.keep hf (fun x hx hm => ?_), fun x hx hm => ?_, rfl⟩
  · exact (hT x hx).imp (List.mem_append_right _) id
  · rcases List.mem_append.1 hx with h1 | h1
    · exact .inl (List.mem_append_left _ h1)
    · exact (hG x h1).imp (List.mem_append_right _) id
  · rcases hT x hm with h1 | h1
    · exact ho x hx h1
    · have := (hr.lt x hx).2; omega
  · rcases hG x hm with h1 | h1
    · exact ho x hx h1
    · have := (hr.lt x hx).2; omega
theorem Rd.here (h : Rd w B G W q m S l room mm) (hf : Frm [] w w') : Rd w' B G W q m S l room mm := h.keep hf (by simp) (fun x hx => .inl hx)
theorem Rd.more {m' : Nat} (h : Rd w B G W q m S l room mm) (hm : mm ≤ m') : Rd w B G W q m S l room m' := by
  obtain ⟨La, Lc, R, Gd, hs, hn⟩ := h
  exact ⟨La, Lc, R, Gd, hs.more hm, hn⟩
/-- What a call leaves. -/
def RdTo (w w' : World) (B : Nat) (G W : List Nat) (q m : Nat) (S' : Nd9) (l' : List Nat) (room mm : Nat) : Prop :=
  ∃ W', Rd w' B G W' q m S' l' room mm ∧ Frm W w w' ∧ ∀ x ∈ W', x ∈ W ∨ w.heap.size ≤ x
theorem RdTo.same (h : Rd w B G W q m S l room mm) (hf : Frm [] w w') {m' : Nat} (hm : mm ≤ m') : RdTo w w' B G W q m S l room m' :=
  ⟨W, (h.here hf).more hm, hf.weak (by simp), fun x hx => .inl hx⟩
theorem RdTo.more {m' : Nat} (h : RdTo w w' B G W q m S l room mm) (hm : mm ≤ m') : RdTo w w' B G W q m S l room m' := by
  obtain ⟨W', h1, h2, h3⟩ := h
  exact ⟨W', h1.more hm, h2, h3⟩
/-- One step behind another. -/
theorem RdTo.then {w1 : World} {W1 : List Nat} (hf : Frm W w w1) (hW : ∀ x ∈ W1, x ∈ W ∨ w.heap.size ≤ x) (h : RdTo w1 w' B G W1 q m S l room mm) : RdTo w w' B G W q m S l room mm := by
  obtain ⟨W', h1, h2, h3⟩ := h
  refine ⟨W', h1, hf.trans h2 (fun x hx => hx) (fun x hx => hW x hx), fun x hx => ?_⟩
  rcases h3 x hx with h4 | h4
  · exact hW x h4
  · have := hf.size; exact .inr (by omega)
end
end Go.Proofs.YtamcandcfainfaaGreat
