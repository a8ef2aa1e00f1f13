/- A keeper of a disk of its own through the calls: what each answers and leaves. -/
import Derived.Test.YtomgiockelhfiaaGreatME
namespace Go.Proofs.YtomgiockelhfiaaGreat
open Go.RowKit
set_option maxRecDepth 100000
/-- Since w0 a keeper of a disk of its own. -/
def Kv (w0 w : World) (k : Nat) (S : MS) (l : List Nat) (room : Nat) : Prop := ∃ jq dp Fd, Kp w w0.heap.size [] k jq dp Fd S l room ∧ Frm [] w0 w ∧ MOk S
theorem Kv.here {w0 w w' : World} {k : Nat} {S : MS} {l : List Nat} {room : Nat} (h : Kv w0 w k S l room) (hf : Frm [] w w') : Kv w0 w' k S l room := by
  obtain ⟨jq, dp, Fd, hk0, hf0, hM⟩ := h
  exact ⟨jq, dp, Fd, hk0.here hf, hf0.trans hf (by simp) (by simp), hM⟩
theorem kopen_low (w0 w : World) (dp room : Nat) (h : Dk w dp dp [dp] [] 0 room) (hf : Frm [] w0 w) (hd : w0.heap.size ≤ dp) :
    Calls Tryz.prog 9 #[.pointer (some ⟨dp, 0, none⟩)] w fun e w' => ∃ k jq Fd, e = .returned (.tuple #[.pointer (some ⟨k, 0, none⟩), .int .i64 0]) ∧ Kp w' w0.heap.size [] k jq dp Fd {} [] room ∧ Frm [] w0 w' := by
  refine (kopen_new [] h (by simp) (by simp)).mono ?_
  rintro e w' ⟨k, jq, Fd, rfl, hk, hf1, hx, _⟩
  refine ⟨k, jq, Fd, rfl, ⟨?_, hk.jn, ?_, fun x hx => ⟨by simp, by have := (hk.out x hx).2; omega⟩⟩, hf.trans hf1 (by simp) (fun x hx => by simp at hx; subst hx; exact .inr hd)⟩
  · obtain ⟨tp, bp, h1, h2⟩ := hk.keeper
    exact ⟨tp, bp, h1, h2.low hd⟩
  · have h1 := hk.dk
    obtain ⟨⟨a1, a2, a3⟩, h2⟩ := h1
    refine ⟨⟨a1, by omega, a3⟩, ?_⟩
    rcases h2 with h2 | ⟨r, a, cap, hon, hF⟩
    · exact .inl h2
    · refine .inr ⟨r, a, cap, ⟨hon.disk, hon.row, ?_, by have := hon.hr; omega⟩, hF⟩
      rcases hon.head with ⟨q1, q2, q3⟩ | ⟨g, cur, p0, p1, p3⟩
      · exact .inl ⟨q1, q2, q3⟩
      · exact .inr ⟨g, cur, p0, by omega, p3⟩
end Go.Proofs.YtomgiockelhfiaaGreat
