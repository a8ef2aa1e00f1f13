/- Rows of ints (numbers from 0 on), of the call's own and as they read. They speak of no program. -/
import Derived.Test.YtbdgmpfdcmmfhaaDoorSn
namespace Go.Proofs.YtbdgmpfdcmmfhaaDoor
open Go.RowKit
set_option maxRecDepth 100000

def ivs (L : List Nat) : List Value := L.map fun n => .int .i64 (n : Nat)
theorem ivs_append (X Y : List Nat) : ivs (X ++ Y) = ivs X ++ ivs Y := by simp [ivs]
theorem ivs_length (X : List Nat) : (ivs X).length = X.length := by simp [ivs]
theorem ivs_one (X : List Nat) : ∀ u ∈ ivs X, u.oneCell' = true := by
  intro u hu
  unfold ivs at hu
  obtain ⟨x, _, rfl⟩ := List.mem_map.1 hu
  rfl
theorem ivs_at (X : List Nat) (i : Nat) (h : i < X.length) : (ivs X)[i]? = some (.int .i64 ((X.getD i 0 : Nat) : Nat)) := by simp [ivs, h]
theorem ivs_ne {X : List Nat} (h : ivs X ≠ []) : X ≠ [] := by rintro rfl; exact h rfl
theorem ivs_ne' {X : List Nat} (h : X ≠ []) : ivs X ≠ [] := by
  intro e
  apply h
  unfold ivs at e
  simpa using e
/-- A slice of ints, as it reads; it lies outside the blocks F. -/
structure IvL (w : World) (F : List Nat) (a : Option Addr) (X : List Nat) : Prop where
  vals : ValsAt w a (ivs X)
  away : X ≠ [] → ∀ q, a = some q → q.block ∉ F
theorem IvL.nil (w : World) (F : List Nat) (a : Option Addr) : IvL w F a [] := ⟨.inl rfl, fun h => absurd rfl h⟩
theorem IvL.keep {w w' : World} {F F' S : List Nat} {a : Option Addr} {X : List Nat} (h : IvL w F a X) (hf : Frm S w w') (hS : ∀ x ∈ S, x ∈ F ∨ w.heap.size ≤ x) (hF : ∀ x ∈ F', x ∈ F ∨ w.heap.size ≤ x) : IvL w' F' a X := by
  refine ⟨h.vals.keep hf (fun hne q hq hm => ?_), fun hne q hq hm => ?_⟩
  · rcases hS _ hm with h1 | h1
    · exact h.away (ivs_ne hne) q hq h1
    · have := valsAt_lt h.vals hne q hq; omega
  · rcases hF _ hm with h1 | h1
    · exact h.away hne q hq h1
    · have := valsAt_lt h.vals (ivs_ne' hne) q hq; omega
theorem IvL.sub {w : World} {F : List Nat} {a : Option Addr} {X : List Nat} (h : IvL w F a X) {w' : World} (hf : Frm [] w w') : IvL w' F a X := h.keep hf (by simp) (fun x hx => .inl hx)
theorem IvL.at {w : World} {F : List Nat} {a : Option Addr} {X : List Nat} (h : IvL w F a X) {i : Nat} (hi : i < X.length) :
    ∃ b off, a = some ⟨b, off, none⟩ ∧ w.cell? ⟨b, off + i, none⟩ = some (.int .i64 ((X.getD i 0 : Nat) : Nat)) := by
  have h0 := ivs_at X i hi
  rcases h.vals with h' | ⟨b, off, rfl, hc⟩
  · rw [h'] at h0; simp at h0
  · exact ⟨b, off, rfl, hc _ _ h0⟩
/-- A row of the call's own. -/
structure IvOwn (w : World) (base : Nat) (e : TypeId) (F : List Nat) (a : Option Addr) (cap : Nat) (X : List Nat) : Prop where
  own : w.ownsRow base e 1 (.slice a X.length cap) X.length (ivs X)
  away : ∀ g ∈ blk a, g ∉ F
section
variable {w w' : World} {base : Nat} {e : TypeId} {F F' S : List Nat} {a : Option Addr} {cap : Nat} {X : List Nat}
theorem IvOwn.nil (w : World) (base : Nat) (e : TypeId) (F : List Nat) : IvOwn w base e F none 0 [] := ⟨World.ownsRow_nil _ _ _ _, by simp⟩
theorem IvOwn.blk_lt (h : IvOwn w base e F a cap X) : ∀ g ∈ blk a, base ≤ g ∧ g < w.heap.size := fun g hg => World.ownsRow.lt h.own g (ownBlk3.2 hg)
theorem IvOwn.keep (h : IvOwn w base e F a cap X) (hf : Frm S w w') (hS : ∀ x ∈ S, x ∈ F ∨ w.heap.size ≤ x) (hF : ∀ x ∈ F', x ∈ F ∨ w.heap.size ≤ x) : IvOwn w' base e F' a cap X := by
  have hb := h.blk_lt
  refine ⟨hf.own h.own (fun g hg hm => ?_), fun g hg hm => ?_⟩
  · rcases hS g hm with h1 | h1
    · exact h.away g (ownBlk3.1 hg) h1
    · have := (hb g (ownBlk3.1 hg)).2; omega
  · rcases hF g hm with h1 | h1
    · exact h.away g hg h1
    · have := (hb g hg).2; omega
theorem IvOwn.sl (h : IvOwn w base e F a cap X) : IvL w F a X := ⟨own_vals h.own, fun _ q hq => h.away q.block (by rw [hq]; simp)⟩
/-- One more is appended. -/
theorem IvOwn.app {n : Nat} {y : Nat} {a' : Option Addr} {cap' : Nat} (h : IvOwn w base e F a cap X) (hn : n = X.length) (hF : ∀ x ∈ F, x < w.heap.size)
    (ha : AppS w w' base e 1 (.slice a n cap) n 1 (ivs X) (ivs [y]) a' cap') : IvOwn w' base e F a' cap' (X ++ [y]) ∧ Frm (blk a) w w' ∧ (∀ g ∈ blk a', g ∈ blk a ∨ w.heap.size ≤ g) ∧ n + 1 = (X ++ [y]).length := by
  subst hn
  have hf : Frm (blk a) w w' := (Frm.refl _ _).grown ha.grown (fun g hg => .inl (ownBlk3.1 hg))
  have hp : ∀ g ∈ blk a', g ∈ blk a ∨ w.heap.size ≤ g := by
    intro g hg
    have hg' : (Value.slice a' (X.length + 1) cap').ownBlock = some g := ownBlk3.2 hg
    rcases ha.place with h1 | h1
    · exact .inl (ownBlk3.1 (h1 ▸ hg'))
    · rw [hg'] at h1
      cases h1
      exact .inr (Nat.le_refl _)
  refine ⟨⟨?_, fun g hg hm => ?_⟩, hf, hp, by simp⟩
  · have := ha.own
    rw [← ivs_append] at this
    simpa using this
  · rcases hp g hg with h1 | h1
    · exact h.away g h1 hm
    · have := hF g hm; omega
end
theorem ivs_vals_one (w : World) (x : Nat) (t : TypeId) : ValsAt (w.alloc (.cells #[.int .i64 (x : Nat)] t)) (some ⟨w.heap.size, 0, none⟩) (ivs [x]) := by
  refine .inr ⟨_, _, rfl, fun i u hu => ?_⟩
  rw [(Whole.made w t _).cell, Nat.zero_add]
  simp only [ivs, List.map_cons, List.map_nil] at hu
  rw [← hu]
  simp
end Go.Proofs.YtbdgmpfdcmmfhaaDoor
