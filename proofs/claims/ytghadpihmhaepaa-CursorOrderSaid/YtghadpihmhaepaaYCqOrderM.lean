/- Acks in some order: what is acked, where the mark is, what is held. Mathematics. -/
import Derived.Test.YtghadpihmhaepaaYCqAk
import Derived.Test.YtghadpihmhaepaaYCqBacklog
namespace Go.Proofs.Ytghadpihmhaepaa
open Go.RowKit
set_option maxRecDepth 100000

theorem allP_nodup {X : List Ld} (h : RtLd X) (o : Nat) : (allP X o).Nodup := by
  unfold allP List.Nodup
  rw [List.pairwise_flatMap]
  refine ⟨fun x _ => ?_, ?_⟩
  · rw [List.pairwise_map]
    exact List.Pairwise.imp (fun {a b} hab e => hab (by injection e)) List.nodup_range
  · refine List.Pairwise.imp ?_ (rise_pair h)
    intro a b hab x hx y hy e
    obtain ⟨i, _, rfl⟩ := List.mem_map.1 hx
    obtain ⟨j, _, rfl⟩ := List.mem_map.1 hy
    injection e with e1 e2
    omega
theorem countP_in {A L : List Ps} (hA : A.Nodup) (hL : L.Nodup) (hs : ∀ p ∈ L, p ∈ A) : A.countP (fun q => decide (q ∈ L)) = L.length := by
  rw [List.countP_eq_length_filter]
  refine List.Perm.length_eq ((List.perm_ext_iff_of_nodup (List.Pairwise.sublist List.filter_sublist hA) hL).2 (fun q => ?_))
  simp only [List.mem_filter, decide_eq_true_eq]
  exact ⟨fun h => h.2, fun h => ⟨hs q h, h⟩⟩
/-- L is acked, and no other entry; what is held are entries; the mark can't go on. -/
structure OrdC (X : List Ld) (o : Nat) (L : List Ps) (C : Crs) : Prop where
  nd : L.Nodup
  sub : ∀ p ∈ L, p ∈ allP X o
  ak : ∀ q ∈ allP X o, (ackedC C q ↔ q ∈ L)
  held : ∀ q : Ps, Mem (ofH C.held q.l) q.e → q ∈ allP X o
  stop : Stop X o C.held C.mark
  ok : OkC C
variable {X : List Ld} {o : Nat} {L : List Ps} {C D : Crs} {p : Ps}
theorem OrdC.no (X : List Ld) (o : Nat) : OrdC X o [] noCrs := ⟨List.nodup_nil, fun p hp => by simp at hp, fun q _ => by simp [ackedC, noCrs, ofH, Mem, Ps.lt], fun q hq => by simp [noCrs, ofH, Mem] at hq, fun p _ => by simp [noCrs, ofH, Mem], okc_no⟩
theorem OrdC.more (h : OrdC X o L C) (hX : RtLd X) (hp : p ∈ allP X o) (hn : p ∉ L) (hD : AckTo X o C p D) : OrdC X o (L ++ [p]) D := by
  have hak : ∀ q ∈ allP X o, (ackedC D q ↔ q ∈ L ++ [p]) := fun q hq => by
    rw [hD.acked hX h.ok hq, h.ak q hq]
    simp
  have hok := hD.ok h.ok
  obtain ⟨H1, h1, h2, h3, h4⟩ := hD
  obtain ⟨a, b⟩ := h1.ok h.ok.srt h.ok.rgs
  have hm : ∀ q : Ps, Mem (ofH D.held q.l) q.e → Mem (ofH H1 q.l) q.e := fun q hq => by
    rw [h4, ofH_leftH a, mem_leftT] at hq
    exact hq.1
  refine ⟨List.nodup_append.2 ⟨h.nd, by simp, fun x hx y hy e => ?_⟩, fun q hq => ?_, hak, fun q hq => ?_, fun q hq hm' => h3 q hq (hm q hm'), hok⟩
  · simp at hy
    subst e hy
    exact hn hx
  · rcases List.mem_append.1 hq with h5 | h5
    · exact h.sub q h5
    · simp at h5
      rw [h5]
      exact hp
  · rcases (h1.mem q).1 (hm q hq) with h5 | rfl
    · exact h.held q h5
    · exact hp
theorem OrdC.first (h : OrdC X o L C) {i : Nat} (hi : i < (allP X o).length) (hb : ∀ j, j < i → (allP X o).getD j default ∈ L) (hn : (allP X o).getD i default ∉ L) : nextC X o C ⟨0, 0⟩ = some ((allP X o).getD i default) := by
  have g : ∀ j, (hj : j < (allP X o).length) → (allP X o).getD j default = (allP X o)[j] := fun j hj => by simp [hj]
  unfold nextC
  rw [List.find?_eq_some_iff_getElem]
  refine ⟨?_, i, hi, (g i hi).symm, fun j hj => ?_⟩
  · rw [decide_eq_true_eq]
    exact ⟨by simp [Ps.lt], fun h1 => hn ((h.ak _ (by rw [g i hi]; exact List.getElem_mem hi)).1 h1)⟩
  · have hj' : j < (allP X o).length := by omega
    have h1 := (h.ak _ (List.getElem_mem hj')).2 (by rw [← g j hj']; exact hb j hj)
    simp [h1]
theorem OrdC.le (h : OrdC X o L C) (hp : p ∈ allP X o) (hn : p ∉ L) : ordP C.mark p ≤ 0 := by
  have h1 : ¬ p.lt C.mark := fun h1 => hn ((h.ak p hp).1 (.inl h1))
  unfold ordP
  rw [if_neg h1]
  split <;> omega
theorem OrdC.back (h : OrdC X o L C) (hX : RtLd X) : backC X o C + L.length = (allP X o).length := by
  rw [← countP_in (allP_nodup hX o) h.nd h.sub, List.length_eq_countP_add_countP (fun q => decide (q ∈ L)), Nat.add_comm]
  congr 1
  unfold backC
  refine List.countP_congr (fun q hq => ?_)
  have := h.ak q hq
  by_cases h1 : q ∈ L <;> simp [h1, this]
theorem OrdC.full (h : OrdC X o L C) (hX : RtLd X) (hl : (allP X o).length ≤ L.length) : C.held = [] := by
  have hall : ∀ q ∈ allP X o, ackedC C q := fun q hq => by
    have h1 := countP_in (allP_nodup hX o) h.nd h.sub
    have h2 : (allP X o).countP (fun q => decide (q ∈ L)) = (allP X o).length := Nat.le_antisymm List.countP_le_length (by omega)
    have h3 := List.countP_eq_length.1 h2 q hq
    exact (h.ak q hq).2 (by simpa using h3)
  cases hh : C.held with
  | nil => rfl
  | cons x H =>
    exfalso
    have hx : x ∈ C.held := by rw [hh]; simp
    obtain ⟨g1, g2⟩ := h.ok.rgs x hx
    obtain ⟨r, R, hr⟩ : ∃ r R, x.2 = r :: R := by
      cases hx2 : x.2 with
      | nil => exact absurd hx2 g1
      | cons r R => exact ⟨r, R, rfl⟩
    have hm : Mem (ofH C.held x.1) r.1 := by
      rw [ofH_mem h.ok.srt hx, hr]
      exact ⟨r, by simp, Nat.le_refl _, g2.1 r (by rw [hr]; simp)⟩
    have hq := h.held ⟨x.1, r.1⟩ hm
    have hlow := h.ok.low _ _ hm
    cases hnx : nextP X o C.mark with
    | none => exact hlow (next_none hnx hq)
    | some q =>
      rcases hall q (next_mem hnx) with h1 | h1
      · exact nextP_ge hnx h1
      · exact h.stop q hnx h1
end Go.Proofs.Ytghadpihmhaepaa
