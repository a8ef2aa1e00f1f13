/- (For a door seat.) A few bytes below 128 are a text. -/
import Derived.Test.YtahhkffghhgojaaDoorMB
namespace Go.Proofs.YtahhkffghhgojaaDoor
open Go.RowKit
theorem exVV : ∃ V, VOk V := by
  classical
  refine ⟨fun l => if Val (false, l) true then true else false, fun l b h => ?_⟩
  by_cases ht : Val (false, l) true
  · simp only [if_pos ht]; exact Val.one ht h
  · simp only [if_neg ht]
    cases b with
    | false => rfl
    | true => exact absurd h ht
theorem val_ascii : ∀ l : List Nat, (∀ c ∈ l, c < 128) → l.length ≤ 9 → Val (false, l) true := by
  intro l
  induction l with
  | nil => intro _ _; exact .done rfl
  | cons c l ih =>
    intro h hl
    have hc := h c (by simp)
    have e : vstep (false, c :: l) = .inl (false, l) := by
      show vF (c :: l) = _
      unfold vF
      rw [if_neg (by simp), if_pos (by simpa using hc), if_neg (by simp at hl ⊢; omega)]
      rfl
    exact .next e (ih (fun x hx => h x (by simp [hx])) (by simp at hl; omega))
theorem VOk.ascii {V : List Nat → Bool} (hV : VOk V) {l : List Nat} (h : ∀ c ∈ l, c < 128) (hl : l.length ≤ 9) : V l = true := hV l true (val_ascii l h hl)
end Go.Proofs.YtahhkffghhgojaaDoor
