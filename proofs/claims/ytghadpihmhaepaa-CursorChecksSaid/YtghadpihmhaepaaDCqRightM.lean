/- What the law's Right answers; while it is made. -/
import Derived.Test.YtghadpihmhaepaaDCqAck
import Derived.Test.YtghadpihmhaepaaCC
import Derived.Test.YtghadpihmhaepaaCB
namespace Go.Proofs.Ytghadpihmhaepaa
open Go.RowKit

/-- In the making. -/
structure Rgt (M : Ps) (H : List Hel) (last : Nat) : Prop where
  srt : Srt H
  rgs : RgsH H
  bd : BdH 14 H
  low : ∀ h ∈ H, h.1 ≤ last
  mark : ∀ h ∈ H, ∀ e, Mem h.2 e → ¬ (Ps.mk h.1 e).lt M
theorem Rgt.nil (M : Ps) (last : Nat) : Rgt M [] last := ⟨List.Pairwise.nil, fun x hx => by simp at hx, fun x hx => by simp at hx, fun x hx => by simp at hx, fun x hx => by simp at hx⟩
theorem Rgt.ok {M : Ps} {H : List Hel} {last : Nat} (h : Rgt M H last) : OkC ⟨M, H⟩ := ⟨h.srt, h.rgs, fun l e he => by
  simp only at he ⊢
  rcases ofH_find H l with h0 | ⟨x, hx, rfl, h0⟩
  · rw [h0] at he; exact absurd he (Mem.nil _)
  · rw [h0] at he; exact h.mark x hx e he⟩
theorem Rgt.snoc {M : Ps} {H : List Hel} {last : Nat} (h : Rgt M H last) {x : Hel} (hup : H = [] ∨ last < x.1) (h1 : x.2 ≠ []) (h2 : Rt x.2) (h3 : x.2.length ≤ 14) (h4 : ∀ e, Mem x.2 e → ¬ (Ps.mk x.1 e).lt M) : Rgt M (H ++ [x]) x.1 := by
  refine ⟨?_, ?_, ?_, ?_, ?_⟩
  · refine List.pairwise_append.2 ⟨h.srt, List.pairwise_singleton _ _, fun a ha b hb => ?_⟩
    rw [List.mem_singleton.1 hb]
    rcases hup with rfl | hup
    · simp at ha
    · have := h.low a ha; omega
  all_goals
    intro y hy
    rcases List.mem_append.1 hy with hy | hy
  · exact h.rgs y hy
  · rw [List.mem_singleton.1 hy]; exact ⟨h1, h2⟩
  · exact h.bd y hy
  · rw [List.mem_singleton.1 hy]; exact h3
  · rcases hup with rfl | hup
    · simp at hy
    · have := h.low y hy; omega
  · rw [List.mem_singleton.1 hy]; exact Nat.le_refl _
  · exact h.mark y hy
  · rw [List.mem_singleton.1 hy]; exact h4
/-- A right cursor of few. -/
def RightEnd (w : World) (F : List Nat) (M : Ps) (e : Ending) (w' : World) : Prop := ∃ (Z : List Hx) (a : Option Addr) (zn c : Nat), e = .returned (crsV M a zn c) ∧ Hid (zn = Z.length) ∧ Hid (zn ≤ 7 ∧ OkC ⟨M, hels Z⟩ ∧ BdH 14 (hels Z)) ∧ Hid (HxL w' F a Z ∧ CapOk a Z.length c) ∧ Hid (Frm [] w w')
end Go.Proofs.Ytghadpihmhaepaa
