/- Both keepers, the program's and the document's, with the same state; contract of the law's did. -/
import Derived.Test.YtomgiockelhfiaaGreatMX
import Derived.Test.YtomgiockelhfiaaGreatZRkDo
import Derived.Test.YtomgiockelhfiaaGreatZMtPair
namespace Go.Proofs.YtomgiockelhfiaaGreat
open Go.RowKit
set_option maxRecDepth 100000
/-- The program's keeper at k on the disk dp, the document's at q on the disk m: one state, one disk's bytes; nothing of both lies in Z. -/
def Tm (w0 w : World) (Z : List Nat) (k dp q m room : Nat) (S : MS) (l : List Nat) : Prop :=
  ∃ jq Fd Gd, Kp w w0.heap.size (q :: (Gd ++ Z)) k jq dp Fd S l room ∧ Rk w w0.heap.size q m (k :: (Fd ++ Z)) Gd S l room ∧ Frm [] w0 w ∧ ∀ x ∈ Z, x < w.heap.size
section
variable {w0 w : World} {Z Z' : List Nat} {k dp q m room : Nat} {S : MS} {l : List Nat}
theorem Tm.here {w' : World} (h : Tm w0 w Z k dp q m room S l) (hf : Frm [] w w') (hZ : ∀ x ∈ Z', x ∈ Z ∨ w.heap.size ≤ x) (hZl : ∀ x ∈ Z', x < w'.heap.size) : Tm w0 w' Z' k dp q m room S l := by
  obtain ⟨jq, Fd, Gd, h1, h2, h3, h4⟩ := h
  refine ⟨jq, Fd, Gd, h1.keep hf (by simp) (fun x hx => ?_), h2.keep hf (by simp) (fun x hx => ?_), h3.trans hf (by simp) (by simp), hZl⟩
  · simp only [List.mem_cons, List.mem_append] at hx ⊢
    rcases hx with h | h | h
    · exact .inl (.inl h)
    · exact .inl (.inr (.inl h))
    · exact (hZ x h).imp (fun h => .inr (.inr h)) id
  · simp only [List.mem_cons, List.mem_append] at hx ⊢
    rcases hx with h | h | h
    · exact .inl (.inl h)
    · exact .inl (.inr (.inl h))
    · exact (hZ x h).imp (fun h => .inr (.inr h)) id
theorem Tm.same {w' : World} (h : Tm w0 w Z k dp q m room S l) (hf : Frm [] w w') : Tm w0 w' Z k dp q m room S l := by
  have hz := h
  obtain ⟨_, _, _, _, _, _, h4⟩ := hz
  exact h.here hf (fun x hx => .inl hx) (fun x hx => Nat.lt_of_lt_of_le (h4 x hx) hf.size)
theorem Tm.frm (h : Tm w0 w Z k dp q m room S l) : Frm [] w0 w := by obtain ⟨_, _, _, _, _, h3, _⟩ := h; exact h3
/-- What did leaves. -/
def TmEnd (w0 w : World) (Z : List Nat) (k dp q m room : Nat) (S : MS) (l : List Nat) (e : Ending) (w' : World) : Prop :=
  e = .returned (.bool true) ∧ Tm w0 w' Z k dp q m room S l ∧ ∃ T, Frm T w w' ∧ (∀ x ∈ T, w0.heap.size ≤ x) ∧ ∀ x ∈ Z, x ∉ T
end
end Go.Proofs.YtomgiockelhfiaaGreat
