/- A number more in right ranges. It speaks of no program. -/
import Derived.Test.YtghadpihmhaepaaMA
namespace Go.Proofs.Ytghadpihmhaepaa

theorem tw_before {p : Rg → Bool} {L : List Rg} : ∀ {i : Nat}, i < (L.takeWhile p).length → p (L.getD i (0, 0)) = true := by
  induction L with
  | nil => intro i h; simp at h
  | cons x L ih =>
    intro i h
    rw [List.takeWhile_cons] at h
    split at h
    · rename_i hx
      rcases i with _ | i
      · simpa using hx
      · have := ih (i := i) (by simpa using h)
        simpa using this
    · simp at h
theorem tw_at {p : Rg → Bool} {L : List Rg} : (L.takeWhile p).length < L.length → p (L.getD (L.takeWhile p).length (0, 0)) = false := by
  induction L with
  | nil => intro h; simp at h
  | cons x L ih =>
    intro h
    rw [List.takeWhile_cons] at h ⊢
    by_cases hx : p x = true
    · rw [if_pos hx] at h ⊢
      have := ih (by simpa using h)
      simpa using this
    · rw [if_neg hx]
      simpa using hx
theorem tw_le {p : Rg → Bool} (L : List Rg) : (L.takeWhile p).length ≤ L.length := (List.takeWhile_prefix _).length_le
theorem rt_add' {R : List Rg} (hR : Rt R) (e : Nat) : ∃ S : List Rg, Rt S ∧ (∀ x, Mem S x ↔ Mem R x ∨ x = e) ∧ S.length ≤ R.length + 1 := by
  obtain ⟨fr, hfr⟩ : ∃ fr, fr = (R.takeWhile (fun r => decide (r.2 < e))).length := ⟨_, rfl⟩
  obtain ⟨to', hto⟩ : ∃ to', to' = (R.takeWhile (fun r => decide (r.1 ≤ e + 1))).length := ⟨_, rfl⟩
  have frl : fr ≤ R.length := by rw [hfr]; exact tw_le R
  have tol : to' ≤ R.length := by rw [hto]; exact tw_le R
  have b1 : ∀ i, i < fr → (R.getD i (0, 0)).2 < e := fun i hi => by
    rw [hfr] at hi
    simpa using tw_before hi
  have b2 : ∀ i, fr ≤ i → i < R.length → e ≤ (R.getD i (0, 0)).2 := fun i h1 h2 => by
    have h3 := tw_at (p := fun r => decide (r.2 < e)) (L := R) (by rw [← hfr]; omega)
    rw [← hfr] at h3
    have h3 : ¬ (R.getD fr (0, 0)).2 < e := by simpa using h3
    rcases Nat.lt_or_eq_of_le h1 with h4 | rfl
    · have := rt_gap hR h4 h2
      have := rt_lt hR h2
      omega
    · omega
  have c1 : ∀ i, i < to' → (R.getD i (0, 0)).1 ≤ e + 1 := fun i hi => by
    rw [hto] at hi
    simpa using tw_before hi
  have c2 : ∀ i, to' ≤ i → i < R.length → e + 1 < (R.getD i (0, 0)).1 := fun i h1 h2 => by
    have h3 := tw_at (p := fun r => decide (r.1 ≤ e + 1)) (L := R) (by rw [← hto]; omega)
    rw [← hto] at h3
    have h3 : ¬ (R.getD to' (0, 0)).1 ≤ e + 1 := by simpa using h3
    rcases Nat.lt_or_eq_of_le h1 with h4 | rfl
    · have := rt_gap hR h4 h2
      have := rt_lt hR (i := to') (by omega)
      omega
    · omega
  have hft : fr ≤ to' := by
    rcases Nat.lt_or_ge to' fr with h1 | h1
    · have h2 := b1 to' h1
      have h3 := c2 to' (Nat.le_refl _) (by omega)
      have h4 := rt_lt hR (i := to') (by omega)
      omega
    · exact h1
  obtain ⟨h1, h2⟩ := add_spec hR (r := (e, e + 1)) (by show e < e + 1; omega) hft tol b1 b2 c1 c2 rfl
  refine ⟨_, h1, fun n => ?_, ?_⟩
  · rw [h2 n]
    simp only
    exact ⟨fun h => h.imp id (fun h => by omega), fun h => h.imp id (fun h => by omega)⟩
  · simp only [List.length_append, List.length_take, List.length_drop, List.length_cons, List.length_nil]
    omega
theorem rt_add {R : List Rg} (hR : Rt R) (e : Nat) : ∃ S : List Rg, Rt S ∧ ∀ x, Mem S x ↔ Mem R x ∨ x = e := by
  obtain ⟨S, h1, h2, _⟩ := rt_add' hR e
  exact ⟨S, h1, h2⟩
theorem rt_add_len {R out : List Rg} {e : Nat} (hR : Rt R) (ho : Rt out) (h : ∀ x, Mem out x ↔ Mem R x ∨ x = e) : out.length ≤ R.length + 1 := by
  obtain ⟨S, h1, h2, h3⟩ := rt_add' hR e
  rw [rt_uniq ho h1 (fun n => by rw [h n, h2 n])]
  exact h3
end Go.Proofs.Ytghadpihmhaepaa
