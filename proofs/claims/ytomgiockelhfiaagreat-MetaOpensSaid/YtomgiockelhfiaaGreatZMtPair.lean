/- Two keepers on disks of their own; a disk's records and the state behind them. -/
import Derived.Test.YtomgiockelhfiaaGreatMX
import Derived.Test.YtomgiockelhfiaaGreatZMtKv
import Derived.Test.YtomgiockelhfiaaGreatZMtApart
namespace Go.Proofs.YtomgiockelhfiaaGreat
open Go.RowKit
set_option maxRecDepth 100000
theorem Kp.low {w : World} {B B' k jq dp : Nat} {G Fd : List Nat} {S : MS} {l : List Nat} {room : Nat} (h : Kp w B G k jq dp Fd S l room) (hB : B' ≤ B) : Kp w B' G k jq dp Fd S l room := by
  refine ⟨?_, h.jn, ?_, fun x hx => ⟨(h.out x hx).1, Nat.le_trans hB (h.out x hx).2⟩⟩
  · obtain ⟨tp, bp, h1, h2⟩ := h.keeper
    exact ⟨tp, bp, h1, h2.low hB⟩
  · have h1 := h.dk
    obtain ⟨⟨a1, a2, a3⟩, h2⟩ := h1
    refine ⟨⟨a1, by omega, a3⟩, ?_⟩
    rcases h2 with h2 | ⟨r, a, cap, hon, hF⟩
    · exact .inl h2
    · refine .inr ⟨r, a, cap, ⟨hon.disk, hon.row, ?_, by have := hon.hr; omega⟩, hF⟩
      rcases hon.head with ⟨q1, q2, q3⟩ | ⟨g, cur, p0, p1, p3⟩
      · exact .inl ⟨q1, q2, q3⟩
      · exact .inr ⟨g, cur, p0, by omega, p3⟩
/-- Records on a disk, and the state behind them. -/
def Rc (S : MS) (l : List Nat) : Prop := ∃ R, l = allF R ∧ Fit R ∧ repAll {} R = some S
theorem Rc.first : Rc {} [] := ⟨[], rfl, fun b hb => by simp at hb, rfl⟩
theorem Rc.recs {S : MS} {l : List Nat} (h : Rc S l) : repAll {} (recs l) = some S ∧ l.take (recN l) = l := by
  obtain ⟨R, rfl, hf, hr⟩ := h
  have h1 := recs_all' R hf
  exact ⟨by rw [h1.1]; exact hr, by rw [h1.2]; exact List.take_length⟩
theorem kE_zero {S : MS} {l : List Nat} {room : Nat} {c : MC} (h : kE S l room c = 0) : doE S c = 0 ∧ (recB S c).length ≤ 4096 := by
  unfold kE at h
  by_cases h0 : doE S c = 0
  · refine ⟨h0, ?_⟩
    rw [if_neg (by simp [h0])] at h
    unfold jc at h
    by_cases h1 : 4096 < (recB S c).length
    · rw [if_pos h1] at h; omega
    · omega
  · rw [if_pos h0] at h; exact absurd h h0
theorem Rc.step {m : Nat} {S : MS} {l : List Nat} {room : Nat} {c : MC} (h : Rc S l) (hM : MOk S) (hV : MVer m S) (hc : MCOk c) (h8 : ∀ x ∈ kL S l room c, x < 256) : Rc (kS S l room c) (kL S l room c) := by
  by_cases h0 : kE S l room c = 0
  · have hk : kL S l room c = l ++ fr (recB S c) := by unfold kL; rw [if_pos h0]
    have hs : kS S l room c = doS S c := by unfold kS; rw [if_pos h0]
    obtain ⟨hd, hl⟩ := kE_zero h0
    obtain ⟨R, hR, hf, hr⟩ := h
    rw [hk] at h8 ⊢
    rw [hs]
    refine ⟨R ++ [recB S c], by rw [allF_append, allF_one, hR], hf.append (Fit.one hl fun x hx => h8 x (List.mem_append_right _ (by unfold fr; exact List.mem_append_right _ hx))), ?_⟩
    rw [repAll_snoc, hr]
    exact rep1_rec hM hV hc hd
  · have hk : kL S l room c = l := by unfold kL; rw [if_neg h0]
    have hs : kS S l room c = S := by unfold kS; rw [if_neg h0]
    rw [hk, hs]
    exact h
/-- The keeper k on the disk dp, the keeper p on one of its own. -/
def Pr (w0 w : World) (k p dp room : Nat) (S : MS) (l : List Nat) (T : MS) (m : List Nat) : Prop :=
  ∃ jq Fd jp op Fp, Kp w w0.heap.size (p :: Fp) k jq dp Fd S l room ∧ Kp w w0.heap.size (k :: Fd) p jp op Fp T m room ∧ Frm [] w0 w
section
variable {w0 w : World} {k p dp room : Nat} {S T : MS} {l m : List Nat}
theorem Pr.here {w' : World} (h : Pr w0 w k p dp room S l T m) (hf : Frm [] w w') : Pr w0 w' k p dp room S l T m := by
  obtain ⟨jq, Fd, jp, op, Fp, h1, h2, h3⟩ := h
  exact ⟨jq, Fd, jp, op, Fp, h1.here hf, h2.here hf, h3.trans hf (by simp) (by simp)⟩
theorem Pr.frm (h : Pr w0 w k p dp room S l T m) : Frm [] w0 w := by obtain ⟨_, _, _, _, _, _, _, h3⟩ := h; exact h3
/-- The first one's disk, the second keeper. -/
def Pd (w0 w : World) (p dp room : Nat) (l : List Nat) (T : MS) (m : List Nat) : Prop :=
  ∃ Fd jp op Fp, Dk w w0.heap.size dp Fd l l.length room ∧ Kp w w0.heap.size Fd p jp op Fp T m room ∧ (∀ x ∈ Fd, w0.heap.size ≤ x) ∧ Frm [] w0 w
end
end Go.Proofs.YtomgiockelhfiaaGreat
