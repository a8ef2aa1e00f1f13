/- The document's node: another ledger in one's place. -/
import Derived.Test.YtamcandcfainfaaGreatMX
import Derived.Test.YtamcandcfainfaaGreatZRlMem
namespace Go.Proofs.YtamcandcfainfaaGreat
open Go.RowKit
set_option maxRecDepth 100000

theorem mem_set_other {R : List Rl} {i : Nat} {y r : Rl} (h : r ∈ R.set i y) : r = y ∨ ∃ j, ∃ hj : j < R.length, j ≠ i ∧ r = R[j] := by
  obtain ⟨j, hj, rfl⟩ := List.mem_iff_getElem.1 h
  rw [List.length_set] at hj
  rw [List.getElem_set]
  by_cases hi : i = j
  · rw [if_pos hi]; exact .inl rfl
  · rw [if_neg hi]; exact .inr ⟨j, hj, fun h => hi h.symm, rfl⟩
section
variable {w w' : World} {B : Nat} {F T : List Nat} {q : Nat} {dv : Value} {La : Option Addr} {Lc : Nat} {R : List Rl} {m m' : Nat}
theorem rwB_row {r : Rl} (hr : r ∈ R) {g : Nat} (hg : g ∈ blk r.a) : g ∈ rwB q La R := by
  unfold rwB
  simp only [List.mem_cons, List.mem_append, List.mem_flatMap]
  exact .inr (.inr ⟨r, hr, hg⟩)
theorem rwB_cases {g : Nat} (h : g ∈ rwB q La R) : g = q ∨ g ∈ blk La ∨ ∃ r ∈ R, g ∈ blk r.a := by
  unfold rwB at h
  simpa only [List.mem_cons, List.mem_append, List.mem_flatMap] using h
/-- The blocks that are written to, with another ledger in one's place. -/
theorem rwB_set {i : Nat} (hi : i < R.length) {y : Rl} {n : Nat} (ha : ∀ g ∈ blk y.a, g ∈ blk (R.getD i default).a ∨ n ≤ g) {g : Nat} (hg : g ∈ rwB q La (R.set i y)) : g ∈ rwB q La R ∨ n ≤ g := by
  rcases rwB_cases hg with rfl | h | ⟨r, hr, h⟩
  · exact .inl (by unfold rwB; simp)
  · exact .inl (by unfold rwB; simp [h])
  · rcases mem_set_other hr with rfl | ⟨j, hj, _, rfl⟩
    · rcases ha g h with h1 | h1
      · exact .inl (rwB_row (r := R.getD i default) (by simp [hi]) h1)
      · exact .inr h1
    · exact .inl (rwB_row (List.getElem_mem hj) h)
theorem Rs.set (h : Rs w B F q dv La Lc R m) (hF : ∀ x ∈ F, x < w.heap.size) {i : Nat} (hi : i < R.length) {y : Rl} (hid : y.id = (R.getD i default).id) (hf : Frm T w w') (hT : ∀ x ∈ T, x ∈ blk La ∨ x ∈ blk (R.getD i default).a ∨ w.heap.size ≤ x)
    (hrow : w'.ownsRow B 82 5 (.slice La R.length Lc) R.length (rc (R.set i y))) (hy : Rok w' B (rwB q La (R.set i y) ++ F) y) (ha : ∀ g ∈ blk y.a, g ∈ blk (R.getD i default).a ∨ w.heap.size ≤ g) (hm : m ≤ m') (hyX : y.X.length ≤ m') :
    Rs w' B F q dv La Lc (R.set i y) m' := by
  obtain ⟨k1, k2, k3⟩ := h.kinds
  have hlt := h.lt
  have hget : R.getD i default = R[i] := by simp [hi]
  have hmem : R.getD i default ∈ R := by simp [hi]
  have hBs : B ≤ w.heap.size := by have h1 := (h.out q (by unfold rwB; simp)).2; have h2 := h.box.lt; omega
  have hap := List.pairwise_iff_getElem.1 h.apart
  have apart : ∀ j (hj : j < R.length), j ≠ i → ∀ g ∈ blk R[j].a, g ∉ blk R[i].a := by
    intro j hj hne g hg hm
    rcases Nat.lt_or_gt_of_ne hne with h1 | h1
    · exact hap j i hj hi h1 g hg hm
    · exact hap i j hi hj h1 g hm hg
  have newB : ∀ g ∈ rwB q La (R.set i y), g ∈ rwB q La R ∨ w.heap.size ≤ g := fun g hg => rwB_set hi ha hg
  have qT : q ∉ T := fun hm => by
    rcases hT q hm with h1 | h1 | h1
    · exact k1 h1
    · exact k2 _ hmem h1
    · have := h.box.lt; omega
  refine ⟨by rw [List.length_set]; exact hf.whole h.box qT, by rw [List.length_set]; exact hrow, fun r hr => ?_, ?_, ?_, fun g hg => ?_, ?_⟩
  · rcases mem_set_other hr with rfl | ⟨j, hj, hne, rfl⟩
    · exact hy
    · have hjm : R[j] ∈ R := List.getElem_mem hj
      refine (h.all _ hjm).keep hf (fun g hg hm => ?_) (fun x hx => ?_) (fun x hx => ?_)
      · rcases hT g hm with h1 | h1 | h1
        · exact k3 _ hjm g h1 hg
        · rw [hget] at h1; exact apart j hj hne g hg h1
        · have := hlt g (rwB_row hjm hg); omega
      · rcases hT x hx with h1 | h1 | h1
        · exact .inl (by unfold rwB; simp [h1])
        · exact .inl (List.mem_append_left _ (rwB_row hmem h1))
        · exact .inr h1
      · rcases List.mem_append.1 hx with h1 | h1
        · rcases newB x h1 with h2 | h2
          · exact .inl (by simp [h2])
          · exact .inr h2
        · exact .inl (by simp [h1])
  · have : (R.set i y).map (·.id) = R.map (·.id) := by
      rw [List.map_set, hid]
      apply List.ext_getElem (by simp)
      intro j h1 h2
      rw [List.getElem_set]
      split
      · rename_i h; subst h; simp [hi]
      · rfl
    rw [this]; exact h.ids
  · refine List.pairwise_iff_getElem.2 fun j k hj hk hjk g hg hm => ?_
    rw [List.length_set] at hj hk
    rw [List.getElem_set] at hg hm
    by_cases e1 : i = j
    · rw [if_pos e1] at hg
      rw [if_neg (by omega)] at hm
      rcases ha g hg with h1 | h1
      · rw [hget] at h1
        exact apart k hk (by omega) g hm h1
      · have := hlt g (rwB_row (List.getElem_mem hk) hm); omega
    · rw [if_neg e1] at hg
      by_cases e2 : i = k
      · rw [if_pos e2] at hm
        rcases ha g hm with h1 | h1
        · rw [hget] at h1
          exact apart j hj (by omega) g hg h1
        · have := hlt g (rwB_row (List.getElem_mem hj) hg); omega
      · rw [if_neg e2] at hm
        exact hap j k hj hk hjk g hg hm
  · rcases newB g hg with h1 | h1
    · exact h.out g h1
    · exact ⟨fun hm => by have := hF g hm; omega, by omega⟩
  · refine ⟨by rw [List.length_set]; exact Nat.le_trans h.few.1 hm, fun r hr => ?_⟩
    rcases mem_set_other hr with rfl | ⟨j, hj, _, rfl⟩
    · exact hyX
    · exact Nat.le_trans (h.few.2 _ (List.getElem_mem hj)) hm
end
end Go.Proofs.YtamcandcfainfaaGreat
