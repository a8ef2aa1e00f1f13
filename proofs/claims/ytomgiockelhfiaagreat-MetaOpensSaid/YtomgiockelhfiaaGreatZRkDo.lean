/- Contract of the document's keeper's Do. -/
import Derived.Test.YtomgiockelhfiaaGreatMX
import Derived.Test.YtomgiockelhfiaaGreatZRk
namespace Go.Proofs.YtomgiockelhfiaaGreat
open Go.RowKit
set_option maxRecDepth 100000
theorem cb_lt {v : List Nat} (h : ∀ x ∈ v, x < 256) : ∀ x ∈ cb v, x < 256 := by
  intro x hx
  unfold cb at hx
  rcases List.mem_append.1 hx with h1 | h1
  · exact be_lt _ _ x h1
  · exact h x h1
theorem app_lt {a b : List Nat} (h : ∀ x ∈ a, x < 256) (k : ∀ x ∈ b, x < 256) : ∀ x ∈ a ++ b, x < 256 := fun x hx => (List.mem_append.1 hx).elim (h x) (k x)
theorem flat_lt {α : Type} {f : α → List Nat} {X : List α} (h : ∀ y ∈ X, ∀ x ∈ f y, x < 256) : ∀ x ∈ X.flatMap f, x < 256 := fun x hx => by
  obtain ⟨y, hy, hx⟩ := List.mem_flatMap.1 hx
  exact h y hy x hx
theorem recB_lt {S : MS} {c : MC} (hc : MCOk c) (hv : ∀ d ∈ S.nodes, ∀ x ∈ d.v, x < 256) : ∀ x ∈ recB S c, x < 256 := by
  unfold recB
  refine app_lt (be_lt _ _) ?_
  split
  · unfold encS
    exact app_lt (app_lt (app_lt (app_lt (app_lt (be_lt _ _) (be_lt _ _)) (be_lt _ _)) (flat_lt fun y _ => by unfold encX; exact app_lt (app_lt (be_lt _ _) (be_lt _ _)) (be_lt _ _))) (be_lt _ _)) (flat_lt fun d hd => by unfold encN; exact app_lt (app_lt (app_lt (cb_lt (strL_lt _)) (cb_lt (hv d hd))) (be_lt _ _)) (be_lt _ _))
  · unfold encC
    exact app_lt (app_lt (app_lt (app_lt (cb_lt (strL_lt _)) (cb_lt hc.val.2)) (be_lt _ _)) (be_lt _ _)) (be_lt _ _)
theorem Ds.v8 {w : World} {B q : Nat} {F : List Nat} {S : MS} (h : Ds w B q F S) : ∀ d ∈ S.nodes, ∀ x ∈ d.v, x < 256 := by
  obtain ⟨a, c, X, ht, ha⟩ := h.tree
  intro d hd
  obtain ⟨y, hy, rfl⟩ := List.mem_map.1 (ha.perm.mem_iff.2 hd)
  exact (ht.row.nl.ok y hy).bytes.1
/-- The disk's own block may turn, but for what it is asked here. -/
def SmF (w : World) (m : Nat) (v : Value) (y : World) : Prop := Frm [m] w y ∧ y.cell? ⟨m, 2, none⟩ = some v
/-- What Do of the document's keeper answers and leaves. -/
def RkEnd (w : World) (B q m : Nat) (G Gd : List Nat) (S : MS) (l : List Nat) (room : Nat) (c : MC) (e : Ending) (w' : World) : Prop :=
  ∃ ga gc Gd', e = .returned (.tuple #[.int .u64 (kN S l room c : Nat), .slice ga (kG S l room c).length gc, .int .i64 (kE S l room c : Nat)]) ∧ ValsAt w' ga (uvs (kG S l room c)) ∧ (∀ x, ga = some x → w.heap.size ≤ x.block) ∧
    Rk w' B q m G Gd' (kS S l room c) (kL S l room c) room ∧ Frm (q :: Gd) w w' ∧ (∀ x ∈ Gd', x ∈ Gd ∨ w.heap.size ≤ x)
theorem RkEnd.bad {w w' : World} {B q m : Nat} {G Gd : List Nat} {S : MS} {l : List Nat} {room : Nat} {c : MC} {n : Nat} (he : kE S l room c = n) (hn : n ≠ 0) (hk : Rk w B q m G Gd S l room) (hf : Frm [] w w') :
    RkEnd w B q m G Gd S l room c (.returned (.tuple #[.int .u64 0, .slice none 0 0, .int .i64 (n : Nat)])) w' := by
  have h0 : ¬ kE S l room c = 0 := by rw [he]; exact hn
  unfold RkEnd kN kG kS kL
  rw [if_neg h0, if_neg h0, if_neg h0, if_neg h0, he]
  exact ⟨none, 0, Gd, rfl, .inl rfl, (fun q hq => by cases hq), hk.keep hf (by simp) (fun x hx => .inl hx), hf.weak (by simp), fun x hx => .inl hx⟩
end Go.Proofs.YtomgiockelhfiaaGreat
