/- Slices cut out of a slice of bytes: the values written out, and what they read as. They speak of no program. -/
import Derived.Test.YtpamiglinmfgkaaDoorPkTake
import Derived.Laws.Slices
namespace Go.Proofs.YtpamiglinmfgkaaDoor
open Go.RowKit

/-- The address of a piece from place lo on. -/
def cutAt (a : Option Addr) (cap lo : Nat) : Option Addr := if cap = lo then a else a.map (·.add lo)

section
variable {P : Program} {t e : TypeId}
theorem run_cut_lh (ht : P.underlying t = some (.slice e)) (hz : ∀ w, (Go.sizeOf e).run P w = .ok 1 w) (w : World) (a : Option Addr) (n cap lo hi : Nat) (l h : Int) (hl : l = (lo : Nat)) (hh : h = (hi : Nat)) (h1 : lo ≤ hi) (h2 : hi ≤ cap) (kl : IntKind := .i64) (kh : IntKind := .i64) :
    (Instr.slice t (.slice a n cap) (some (.int kl l)) (some (.int kh h)) none).run P w = .ok (.slice (cutAt a cap lo) (hi - lo) (cap - lo)) w := by
  subst hl; subst hh
  have ht' : P.underlying t = some (.slice (P.elem t)) := by simp [Program.elem, ht]
  have he : P.elem t = e := by simp [Program.elem, ht]
  rw [run_slice_lh w t _ _ _ ht' kl kh _ _ (by omega) (by omega) (by omega), he, hz]
  simp [Result.andThen, sliced, cutAt]
theorem run_cut_l (ht : P.underlying t = some (.slice e)) (hz : ∀ w, (Go.sizeOf e).run P w = .ok 1 w) (w : World) (a : Option Addr) (n cap lo : Nat) (l : Int) (hl : l = (lo : Nat)) (h1 : lo ≤ n) (kl : IntKind := .i64) :
    (Instr.slice t (.slice a n cap) (some (.int kl l)) none none).run P w = .ok (.slice (cutAt a cap lo) (n - lo) (cap - lo)) w := by
  subst hl
  have ht' : P.underlying t = some (.slice (P.elem t)) := by simp [Program.elem, ht]
  have he : P.elem t = e := by simp [Program.elem, ht]
  rw [run_slice_l w t _ _ _ ht' kl _ (by omega) (by omega), he, hz]
  simp [Result.andThen, sliced, cutAt]
end
theorem cut_bytes {w : World} {a : Option Addr} {cap : Nat} {l : List Nat} (h : Bytes w a l) (hc : l.length ≤ cap) (lo : Nat) : Bytes w (cutAt a cap lo) (l.drop lo) := by
  unfold cutAt
  by_cases hlo : cap = lo
  · rw [if_pos hlo, List.drop_eq_nil_of_le (by omega)]; exact Bytes.nil _
  · rw [if_neg hlo]; exact h.drop lo
theorem cut_none {a : Option Addr} {cap lo : Nat} (h : a = none → cap = 0) (hc : cutAt a cap lo = none) : cap - lo = 0 := by
  unfold cutAt at hc
  by_cases hlo : cap = lo
  · omega
  · rw [if_neg hlo] at hc
    have := h (by simpa using hc)
    omega
theorem cut_block {a : Option Addr} {cap lo : Nat} {x : Addr} (hc : cutAt a cap lo = some x) : ∃ y, a = some y ∧ x.block = y.block := by
  unfold cutAt at hc
  by_cases hlo : cap = lo
  · rw [if_pos hlo] at hc; exact ⟨x, hc, rfl⟩
  · rw [if_neg hlo] at hc
    cases a with
    | none => cases hc
    | some y =>
      simp at hc
      subst hc
      exact ⟨y, rfl, by unfold Addr.add; split <;> rfl⟩
end Go.Proofs.YtpamiglinmfgkaaDoor
