/- Result in one word, whatever it answers. -/
import Derived.Test.YtecfoomjpjcldaaMdMath
namespace Go.Proofs.Ytecfoomjpjcldaa
open Go.RowKit
/-- What Result answers: an error's number, entries. -/
def ResV (P W A : Nat) (h : Nat → Bool) (su : Nat) (f : Nat → Option (List Nat)) (code : Nat) (l : List (Nat × List Nat)) : Prop :=
  (covN P W A (hrdL h) = false ∧ code = 23 ∧ l = []) ∨ (covN P W A (hrdL h) = true ∧ ∃ k, RunOf f k ∧ ((k < su ∧ code = 22 ∧ l = []) ∨ (su ≤ k ∧ code = 0 ∧ l = rowN f k)))
theorem ResV.one {P W A : Nat} {h : Nat → Bool} {su : Nat} {f : Nat → Option (List Nat)} {c c' : Nat} {l l' : List (Nat × List Nat)} (r : ResV P W A h su f c l) (r' : ResV P W A h su f c' l') : c = c' ∧ l = l' := by
  rcases r with ⟨h1, rfl, rfl⟩ | ⟨h1, k, hk, r⟩
  · rcases r' with ⟨_, rfl, rfl⟩ | ⟨h2, _⟩
    · exact ⟨rfl, rfl⟩
    · rw [h1] at h2; cases h2
  · rcases r' with ⟨h2, _⟩ | ⟨_, k', hk', r'⟩
    · rw [h1] at h2; cases h2
    · obtain rfl := hk.one hk'
      rcases r with ⟨h3, rfl, rfl⟩ | ⟨h3, rfl, rfl⟩
      · rcases r' with ⟨_, rfl, rfl⟩ | ⟨h4, _⟩
        · exact ⟨rfl, rfl⟩
        · omega
      · rcases r' with ⟨h4, _⟩ | ⟨_, rfl, rfl⟩
        · omega
        · exact ⟨rfl, rfl⟩
theorem result_u {w : World} {p : Nat} {F : List Nat} {P W A : Nat} {h : Nat → Bool} {su : Nat} {t : Tn} (m : Md w p F P W A h su t) (hs : (keysT t).length ≤ 16777216) (hF : ∀ x ∈ F, x < w.heap.size) :
    Calls Try.prog 30 #[.pointer (some ⟨p, 0, none⟩)] w fun e w' => ∃ (code : Nat) (a : Option Addr) (c : Nat) (X : List Ix), e = .returned (.tuple #[.slice a X.length c, .int .i64 (code : Nat)]) ∧ ResV P W A h su (atT t) code (its X) ∧ X.length ≤ 16777216 ∧ IL w' (p :: F) a X ∧ X.length ≤ c ∧ Frm [] w w' := by
  refine (result_any m hs hF).mono ?_
  rintro e w' ⟨hf, ⟨hc, rfl⟩ | ⟨hc, k, hk, ⟨hlt, rfl⟩ | ⟨hge, a, c, X, rfl, hits, rfl, hown⟩⟩⟩
  · exact ⟨23, none, 0, [], rfl, .inl ⟨hc, rfl, rfl⟩, Nat.zero_le _, IL.nil _ _ _, Nat.le_refl _, hf⟩
  · exact ⟨22, none, 0, [], rfl, .inr ⟨hc, k, hk, .inl ⟨hlt, rfl, rfl⟩⟩, Nat.zero_le _, IL.nil _ _ _, Nat.le_refl _, hf⟩
  · exact ⟨0, a, c, X, rfl, .inr ⟨hc, X.length, hk, .inr ⟨hge, rfl, hits⟩⟩, Nat.le_trans (at_few hk.1) hs, hown.il, hown.caps.1, hf⟩
theorem set_snoc {S : List Wr12} {f : Nat → Wr12} {i : Nat} {y : Wr12} (h : ∀ x, x ∈ S ↔ ∃ j, j < i ∧ x = f j) (hy : y = f i) : ∀ x, x ∈ y :: S ↔ ∃ j, j < i + 1 ∧ x = f j := by
  intro x
  rw [List.mem_cons, h]
  constructor
  · rintro (rfl | ⟨j, hj, rfl⟩)
    · exact ⟨i, by omega, hy⟩
    · exact ⟨j, by omega, rfl⟩
  · rintro ⟨j, hj, rfl⟩
    rcases Nat.lt_or_ge j i with h1 | h1
    · exact .inr ⟨j, h1, rfl⟩
    · obtain rfl : j = i := by omega
      exact .inl hy.symm
end Go.Proofs.Ytecfoomjpjcldaa
