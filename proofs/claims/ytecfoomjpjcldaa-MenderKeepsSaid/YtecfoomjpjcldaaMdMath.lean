/- What a mender has heard, as plain data: whatever the order. -/
import Derived.Test.YtecfoomjpjcldaaMdCalls
namespace Go.Proofs.Ytecfoomjpjcldaa
open Go.RowKit

/-- A word: a place, how far it is sure, its entries. -/
structure Wr12 where
  p : Nat := 0
  s : Nat := 0
  l : List (Nat × List Nat) := []
instance : Inhabited Wr12 := ⟨{}⟩
/-- Entries by number, with those of a list; none, where one has other bytes. -/
def joinF : (Nat → Option (List Nat)) → List (Nat × List Nat) → Option (Nat → Option (List Nat))
  | f, [] => some f
  | f, (k, d) :: l => match f k with
    | none => joinF (fun i => if i = k then some d else f i) l
    | some x => if x = d then joinF f l else none
theorem join_map {l : List (Nat × List Nat)} : ∀ {t : Tn}, (joinT t l).map atT = joinF (atT t) l := by
  induction l with
  | nil => intro t; rfl
  | cons x l ih =>
    intro t
    obtain ⟨k, d⟩ := x
    cases hk : atT t k with
    | none =>
      rw [join_new hk, ih]
      have h1 : atT (withT t k d k) = fun i => if i = k then some d else atT t i := funext fun i => at_with hk
      simp only [joinF]
      rw [hk, h1]
    | some y =>
      by_cases hy : y = d
      · subst hy
        rw [join_same hk, ih]
        simp only [joinF]
        rw [hk]; simp
      · rw [join_other hk hy]
        simp only [joinF]
        rw [hk]; simp [hy]
theorem joinF_some {l : List (Nat × List Nat)} : ∀ {f f' : Nat → Option (List Nat)}, joinF f l = some f' → ∀ k d, f' k = some d ↔ f k = some d ∨ (k, d) ∈ l := by
  induction l with
  | nil => intro f f' h k d; simp only [joinF, Option.some.injEq] at h; subst h; simp
  | cons x l ih =>
    intro f f' h k d
    obtain ⟨e, y⟩ := x
    simp only [joinF] at h
    cases he : f e with
    | none =>
      rw [he] at h
      simp only at h
      rw [ih h k d]
      by_cases hk : k = e
      · subst hk
        simp only [if_true, he, Option.some.injEq, List.mem_cons, Prod.mk.injEq, true_and]
        constructor
        · rintro (h1 | h1)
          · exact .inr (.inl h1.symm)
          · exact .inr (.inr h1)
        · rintro (h1 | h1 | h1)
          · cases h1
          · exact .inl h1.symm
          · exact .inr h1
      · simp [hk]
    | some z =>
      rw [he] at h
      simp only at h
      by_cases hz : z = y
      · subst hz
        rw [if_pos rfl] at h
        rw [ih h k d]
        simp only [List.mem_cons, Prod.mk.injEq]
        constructor
        · rintro (h1 | h1)
          · exact .inl h1
          · exact .inr (.inr h1)
        · rintro (h1 | ⟨rfl, rfl⟩ | h1)
          · exact .inl h1
          · exact .inl he
          · exact .inr h1
      · rw [if_neg hz] at h; cases h
/-- What was heard of the words S, in whatever order and however often. -/
structure HeardBy (S : List Wr12) (h : Nat → Bool) (su : Nat) (f : Nat → Option (List Nat)) : Prop where
  places : ∀ j, h j = true ↔ ∃ x ∈ S, x.p = j
  most : ∀ x ∈ S, x.s ≤ su
  sure : su = 0 ∨ ∃ x ∈ S, x.s = su
  items : ∀ k d, f k = some d ↔ ∃ x ∈ S, (k, d) ∈ x.l
theorem HeardBy.none : HeardBy [] (fun _ => false) 0 (atT .nil) := ⟨by simp, by simp, .inl rfl, fun k d => by simp [atT, findT]⟩
theorem HeardBy.hear {S : List Wr12} {h : Nat → Bool} {su : Nat} {t t' : Tn} (b : HeardBy S h su (atT t)) (x : Wr12) (hj : joinT t x.l = some t') : HeardBy (x :: S) (hrd h x.p) (max su x.s) (atT t') := by
  have hF : joinF (atT t) x.l = some (atT t') := by rw [← join_map, hj]; rfl
  refine ⟨fun j => ?_, fun y hy => ?_, ?_, fun k d => ?_⟩
  · unfold hrd
    by_cases hjp : j = x.p
    · rw [if_pos hjp]; simp [hjp]
    · rw [if_neg hjp, b.places]; simp [Ne.symm hjp]
  · rcases List.mem_cons.1 hy with rfl | hy
    · exact Nat.le_max_right _ _
    · exact Nat.le_trans (b.most y hy) (Nat.le_max_left _ _)
  · rcases Nat.le_total su x.s with h1 | h1
    · rw [Nat.max_eq_right h1]; exact .inr ⟨x, by simp, rfl⟩
    · rw [Nat.max_eq_left h1]
      rcases b.sure with h2 | ⟨y, hy, h2⟩
      · exact .inl h2
      · exact .inr ⟨y, by simp [hy], h2⟩
  · rw [joinF_some hF k d, b.items k d]
    simp only [List.mem_cons, exists_eq_or_imp]
    exact Or.comm
theorem HeardBy.same {S T : List Wr12} {h h' : Nat → Bool} {su su' : Nat} {f f' : Nat → Option (List Nat)} (b : HeardBy S h su f) (c : HeardBy T h' su' f') (hST : ∀ x, x ∈ S ↔ x ∈ T) : h = h' ∧ su = su' ∧ f = f' := by
  refine ⟨funext fun j => ?_, ?_, funext fun k => ?_⟩
  · rw [Bool.eq_iff_iff, b.places, c.places]; simp only [hST]
  · have h1 : su ≤ su' := by
      rcases b.sure with h1 | ⟨x, hx, rfl⟩
      · omega
      · exact c.most x ((hST x).1 hx)
    have h2 : su' ≤ su := by
      rcases c.sure with h1 | ⟨x, hx, rfl⟩
      · omega
      · exact b.most x ((hST x).2 hx)
    omega
  · apply Option.ext
    intro d
    show f k = some d ↔ f' k = some d
    rw [b.items, c.items]; simp only [hST]
end Go.Proofs.Ytecfoomjpjcldaa
