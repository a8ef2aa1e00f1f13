/- Bundles as a rising list of where they begin (all but the first), and as a function. Of no program. -/
import Derived.Test.YtbdgmpfdcmmfhaaDoorMpAll
import Derived.Test.YtbdgmpfdcmmfhaaDoorMpOf
namespace Go.Proofs.YtbdgmpfdcmmfhaaDoor
open Go.RowKit
set_option maxRecDepth 100000

/-- Rising, of hashes but 0, at most 15. -/
structure BmOk (L : List Nat) : Prop where
  srt : L.Pairwise (· < ·)
  in' : ∀ x ∈ L, 0 < x ∧ x < 65536
  few : L.length ≤ 15
def Bf (L : List Nat) : Nat → Bool := fun i => decide (i = 0 ∨ i ∈ L)
theorem Bf_true {L : List Nat} {i : Nat} : Bf L i = true ↔ i = 0 ∨ i ∈ L := by unfold Bf; rw [decide_eq_true_iff]
theorem Bf_false {L : List Nat} {i : Nat} : Bf L i = false ↔ i ≠ 0 ∧ i ∉ L := by
  unfold Bf; rw [decide_eq_false_iff_not]; exact not_or
theorem Bf_zero (L : List Nat) : Bf L 0 = true := Bf_true.2 (.inl rfl)
theorem bm_nil : BmOk [] := ⟨List.Pairwise.nil, by simp, by simp⟩
/-- Two rising lists of the same numbers are one. -/
theorem up_ext : ∀ {X Y : List Nat}, X.Pairwise (· < ·) → Y.Pairwise (· < ·) → (∀ i, i ∈ X ↔ i ∈ Y) → X = Y
  | [], [], _, _, _ => rfl
  | [], y :: Y, _, _, h => absurd ((h y).2 (by simp)) (by simp)
  | x :: X, [], _, _, h => absurd ((h x).1 (by simp)) (by simp)
  | x :: X, y :: Y, hx, hy, h => by
    have hx' := List.pairwise_cons.1 hx
    have hy' := List.pairwise_cons.1 hy
    have e : x = y := by
      rcases List.mem_cons.1 ((h x).1 (by simp)) with e | e
      · exact e
      · rcases List.mem_cons.1 ((h y).2 (by simp)) with e' | e'
        · exact e'.symm
        · have := hy'.1 x e; have := hx'.1 y e'; omega
    subst e
    congr 1
    refine up_ext hx'.2 hy'.2 (fun i => ⟨fun hi => ?_, fun hi => ?_⟩)
    · rcases List.mem_cons.1 ((h i).1 (by simp [hi])) with e | e
      · have := hx'.1 i hi; omega
      · exact e
    · rcases List.mem_cons.1 ((h i).2 (by simp [hi])) with e | e
      · have := hy'.1 i hi; omega
      · exact e
theorem BmOk.cons {L : List Nat} (h : BmOk L) : (0 :: L).Pairwise (· < ·) := List.pairwise_cons.2 ⟨fun x hx => (h.in' x hx).1, h.srt⟩
theorem allM_Bf {L : List Nat} (h : BmOk L) : allM (Bf L) = 0 :: L := by
  refine up_ext ?_ h.cons (fun i => ?_)
  · unfold allM
    exact List.Pairwise.filter _ List.pairwise_lt_range
  · unfold allM
    rw [List.mem_filter, List.mem_range, Bf_true, List.mem_cons]
    constructor
    · rintro ⟨_, h1⟩; exact h1
    · rintro (rfl | h1)
      · exact ⟨by decide, .inl rfl⟩
      · exact ⟨(h.in' i h1).2, .inr h1⟩
theorem BmOk.lt {L : List Nat} (h : BmOk L) {i j : Nat} (hij : i < j) (hj : j < L.length) : L.getD i 0 < L.getD j 0 := by
  have := List.pairwise_iff_getElem.1 h.srt i j (by omega) hj hij
  have hi : i < L.length := by omega
  simpa [hi, hj] using this
theorem getD_mem {L : List Nat} {i : Nat} (h : i < L.length) : L.getD i 0 ∈ L := by simp [h]
theorem mem_getD {L : List Nat} {x : Nat} (h : x ∈ L) : ∃ i, i < L.length ∧ L.getD i 0 = x := by
  obtain ⟨i, hi, e⟩ := List.getElem_of_mem h
  exact ⟨i, hi, by simp [hi, e]⟩
theorem mem_take_getD {L : List Nat} {i x : Nat} (h : x ∈ L.take i) : ∃ t, t < i ∧ t < L.length ∧ L.getD t 0 = x := by
  obtain ⟨t, ht, e⟩ := List.getElem_of_mem h
  rw [List.length_take] at ht
  refine ⟨t, by omega, by omega, ?_⟩
  rw [List.getElem_take] at e
  have : t < L.length := by omega
  simp [this, e]
theorem mem_drop_getD {L : List Nat} {i x : Nat} (h : x ∈ L.drop i) : ∃ t, i ≤ t ∧ t < L.length ∧ L.getD t 0 = x := by
  obtain ⟨t, ht, e⟩ := List.getElem_of_mem h
  rw [List.length_drop] at ht
  refine ⟨i + t, by omega, by omega, ?_⟩
  rw [List.getElem_drop] at e
  have : i + t < L.length := by omega
  simp [this, e]
/-- Where a number would stand. -/
structure AtB (L : List Nat) (k : Int) (i : Nat) : Prop where
  le : i ≤ L.length
  lo : ∀ t, t < i → ((L.getD t 0 : Nat) : Int) < k
  hi : ∀ t, i ≤ t → t < L.length → k ≤ ((L.getD t 0 : Nat) : Int)
theorem AtB.mem {L : List Nat} {k : Int} {i : Nat} (h : BmOk L) (a : AtB L k i) : (∃ x, k = (x : Nat) ∧ x ∈ L) ↔ i < L.length ∧ ((L.getD i 0 : Nat) : Int) = k := by
  constructor
  · rintro ⟨x, rfl, hx⟩
    obtain ⟨t, ht, e⟩ := mem_getD hx
    have h1 : i ≤ t := by
      rcases Nat.lt_or_ge t i with h2 | h2
      · have := a.lo t h2; omega
      · exact h2
    rcases Nat.eq_or_lt_of_le h1 with h2 | h2
    · subst h2; exact ⟨ht, by omega⟩
    · have := h.lt h2 ht
      have := a.hi i (Nat.le_refl _) (by omega)
      omega
  · rintro ⟨h1, h2⟩
    exact ⟨L.getD i 0, h2.symm, getD_mem h1⟩
/-- One more. -/
theorem BmOk.ins {L : List Nat} {j i : Nat} (h : BmOk L) (a : AtB L (j : Nat) i) (hn : j ∉ L) (h1 : 0 < j) (h2 : j < 65536) (h3 : L.length < 15) :
    BmOk (L.take i ++ ([j] ++ L.drop i)) ∧ Bf (L.take i ++ ([j] ++ L.drop i)) = (fun t => if t = j then true else Bf L t) := by
  have hm : ∀ x, x ∈ L.take i ++ ([j] ++ L.drop i) ↔ x = j ∨ x ∈ L := fun x => by
    rw [List.mem_append, List.mem_append, List.mem_singleton]
    constructor
    · rintro (h4 | h4 | h4)
      · exact .inr (List.mem_of_mem_take h4)
      · exact .inl h4
      · exact .inr (List.mem_of_mem_drop h4)
    · rintro (h4 | h4)
      · exact .inr (.inl h4)
      · rw [← List.take_append_drop i L, List.mem_append] at h4
        rcases h4 with h4 | h4
        · exact .inl h4
        · exact .inr (.inr h4)
  have hs := h.srt
  rw [← List.take_append_drop i L] at hs
  obtain ⟨s1, s2, s3⟩ := List.pairwise_append.1 hs
  refine ⟨⟨?_, fun x hx => ?_, ?_⟩, ?_⟩
  · refine List.pairwise_append.2 ⟨s1, List.pairwise_append.2 ⟨List.pairwise_singleton _ _, s2, fun x hx y hy => ?_⟩, fun x hx y hy => ?_⟩
    · rw [List.mem_singleton] at hx
      subst hx
      obtain ⟨t, t1, t2, rfl⟩ := mem_drop_getD hy
      have := a.hi t t1 t2
      have h5 : L.getD t 0 ≠ x := fun e => hn (e ▸ getD_mem t2)
      omega
    · rcases List.mem_append.1 hy with hy | hy
      · rw [List.mem_singleton] at hy
        subst hy
        obtain ⟨t, t1, t2, rfl⟩ := mem_take_getD hx
        have := a.lo t t1
        omega
      · exact s3 x hx y hy
  · rcases (hm x).1 hx with rfl | h4
    · exact ⟨h1, h2⟩
    · exact h.in' x h4
  · have := a.le
    rw [List.length_append, List.length_append, List.length_take, List.length_drop, List.length_singleton]
    omega
  · funext t
    by_cases e : t = j
    · rw [if_pos e, Bf_true, hm]; exact .inr (.inl e)
    · rw [if_neg e]
      cases e2 : Bf L t
      · rw [Bf_false] at e2 ⊢
        exact ⟨e2.1, fun h4 => ((hm t).1 h4).elim e e2.2⟩
      · rw [Bf_true] at e2 ⊢
        exact e2.imp id (fun h4 => (hm t).2 (.inr h4))
/-- One less. -/
theorem BmOk.del {L : List Nat} {j i : Nat} (h : BmOk L) (a : AtB L (j : Nat) i) (hj : j ∈ L) :
    i < L.length ∧ BmOk (L.take i ++ L.drop (i + 1)) ∧ Bf (L.take i ++ L.drop (i + 1)) = (fun t => if t = j then false else Bf L t) := by
  obtain ⟨h1, h2⟩ := (a.mem h).1 ⟨j, rfl, hj⟩
  have h2' : L.getD i 0 = j := by omega
  have hd : L.drop i = j :: L.drop (i + 1) := by
    rw [← h2', List.drop_eq_getElem_cons h1]
    simp [h1]
  have hs := h.srt
  rw [← List.take_append_drop i L, hd] at hs
  obtain ⟨s1, s2, s3⟩ := List.pairwise_append.1 hs
  obtain ⟨s4, s5⟩ := List.pairwise_cons.1 s2
  have hm : ∀ x, x ∈ L.take i ++ L.drop (i + 1) ↔ x ≠ j ∧ x ∈ L := fun x => by
    conv => rhs; rw [← List.take_append_drop i L, hd]
    rw [List.mem_append, List.mem_append, List.mem_cons]
    constructor
    · rintro (h4 | h4)
      · have := s3 x h4 j (by simp)
        exact ⟨by omega, .inl h4⟩
      · have := s4 x h4
        exact ⟨by omega, .inr (.inr h4)⟩
    · rintro ⟨h4, h5 | h5 | h5⟩
      · exact .inl h5
      · exact absurd h5 h4
      · exact .inr h5
  refine ⟨h1, ⟨List.pairwise_append.2 ⟨s1, s5, fun x hx y hy => s3 x hx y (by simp [hy])⟩, fun x hx => h.in' x ((hm x).1 hx).2, ?_⟩, ?_⟩
  · have := h.few
    rw [List.length_append, List.length_take, List.length_drop]; omega
  · have hj0 := (h.in' j hj).1
    funext t
    by_cases e : t = j
    · rw [if_pos e, Bf_false]
      exact ⟨by omega, fun h4 => ((hm t).1 h4).1 e⟩
    · rw [if_neg e]
      cases e2 : Bf L t
      · rw [Bf_false] at e2 ⊢
        exact ⟨e2.1, fun h4 => e2.2 ((hm t).1 h4).2⟩
      · rw [Bf_true] at e2 ⊢
        exact e2.imp id (fun h4 => (hm t).2 ⟨e, h4⟩)
/-- The bundle of a hash, by the list: of the beginnings up to it the last one, and the next one. -/
theorem ofP_next {L : List Nat} {n k : Nat} (h : BmOk L) (hk : k < L.length) (hlo : ∀ t, t < k → L.getD t 0 ≤ n) (hn : n < L.getD k 0) : OfP (Bf L) n ((0 :: L).getD k 0) (L.getD k 0) := by
  have hb := (h.in' _ (getD_mem hk)).2
  refine ⟨?_, ?_, fun j h1 h2 => ?_, hn, by omega, .inr (Bf_true.2 (.inr (getD_mem hk)))⟩
  · cases k with
    | zero => simp
    | succ k => have := hlo k (by omega); simpa using this
  · cases k with
    | zero => exact Bf_zero L
    | succ k => exact Bf_true.2 (.inr (by have := getD_mem (L := L) (i := k) (by omega); simpa using this))
  · rw [Bf_false]
    refine ⟨by omega, fun hm => ?_⟩
    obtain ⟨t, ht, rfl⟩ := mem_getD hm
    rcases Nat.lt_trichotomy t k with e | e | e
    · cases k with
      | zero => omega
      | succ k =>
        have h3 : (0 :: L).getD (k + 1) 0 = L.getD k 0 := by simp
        rw [h3] at h1
        rcases Nat.eq_or_lt_of_le (show t ≤ k by omega) with e2 | e2
        · subst e2; omega
        · have := h.lt e2 (by omega); omega
    · subst e; omega
    · have := h.lt e ht; omega
theorem ofP_last {L : List Nat} {n : Nat} (h : BmOk L) (hlo : ∀ t, t < L.length → L.getD t 0 ≤ n) (hn : n < 65536) : OfP (Bf L) n ((0 :: L).getD L.length 0) 65536 := by
  refine ⟨?_, ?_, fun j h1 h2 => ?_, hn, Nat.le_refl _, .inl rfl⟩
  · cases e : L.length with
    | zero => simp
    | succ k => have := hlo k (by omega); simpa using this
  · cases e : L.length with
    | zero => exact Bf_zero L
    | succ k => exact Bf_true.2 (.inr (by have := getD_mem (L := L) (i := k) (by omega); simpa using this))
  · rw [Bf_false]
    refine ⟨by omega, fun hm => ?_⟩
    obtain ⟨t, ht, rfl⟩ := mem_getD hm
    cases e : L.length with
    | zero => omega
    | succ k =>
      rw [e] at h1
      have h3 : (0 :: L).getD (k + 1) 0 = L.getD k 0 := by simp
      rw [h3] at h1
      rcases Nat.eq_or_lt_of_le (show t ≤ k by omega) with e2 | e2
      · subst e2; omega
      · have := h.lt e2 (by omega); omega
end Go.Proofs.YtbdgmpfdcmmfhaaDoor
