/- A keeper of a disk of its own through the calls: what each answers and leaves. -/
import Derived.Test.YtomgiockelhfiaaGreatMX
namespace Go.Proofs.YtomgiockelhfiaaGreat
open Go.RowKit
set_option maxRecDepth 100000
/-- Since w0 a keeper of a disk of its own. -/
def Kv (w0 w : World) (k : Nat) (S : MS) (l : List Nat) (room : Nat) : Prop := ∃ jq dp Fd, Kp w w0.heap.size [] k jq dp Fd S l room ∧ Frm [] w0 w ∧ MOk S
theorem Kv.here {w0 w w' : World} {k : Nat} {S : MS} {l : List Nat} {room : Nat} (h : Kv w0 w k S l room) (hf : Frm [] w w') : Kv w0 w' k S l room := by
  obtain ⟨jq, dp, Fd, hk0, hf0, hM⟩ := h
  exact ⟨jq, dp, Fd, hk0.here hf, hf0.trans hf (by simp) (by simp), hM⟩
end Go.Proofs.YtomgiockelhfiaaGreat
