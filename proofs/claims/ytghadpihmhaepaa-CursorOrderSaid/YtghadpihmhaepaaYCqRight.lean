/- The law's Right, raw or not; what the laws of cursors begin with. -/
import Derived.Test.YtghadpihmhaepaaYCqRightT
import Derived.Test.YtghadpihmhaepaaYCqRightF
import Derived.Test.YtghadpihmhaepaaYOpHe
import Derived.Test.YtghadpihmhaepaaYLdwBetween
import Derived.Test.YtghadpihmhaepaaYCuMade
import Derived.Test.YtghadpihmhaepaaYCqAwake
namespace Go.Proofs.Ytghadpihmhaepaa
open Go.RowKit
set_option maxRecDepth 100000

theorem tot_few14 {X : List Ld} {o : Nat} (h : ∀ x ∈ X, x.n ≤ 5) (ho : o ≤ 5) : tot X o ≤ X.length * 5 := by
  induction X with
  | nil => exact Nat.le_refl _
  | cons x X ih =>
    have h1 := ih (fun y hy => h y (by simp [hy]))
    have h2 := h x (by simp)
    have h3 : x.size o ≤ 5 := by unfold Ld.size; split <;> omega
    show x.size o + tot X o ≤ (X.length + 1) * 5
    omega
/-- Ledgers of the law. -/
structure Lds14 (w : World) (F : List Nat) (a : Option Addr) (k : Nat) (X : List Ld) (o : Nat) : Prop where
  len : k = X.length
  few : k ≤ 13
  l : LdL w F a X
  fits : ∀ x ∈ X, x.fits
  right : RtLd X
  tot : tot X o ≤ 65
  open5 : o ≤ 5
theorem Made14.lds {w w' : World} {e : Ending} (h : Made14 w e w') {F : List Nat} {o : Nat} (hF : ∀ x ∈ F, x < w.heap.size) (ho : o ≤ 5) : ∃ (a : Option Addr) (k cap : Nat) (X : List Ld), e = .returned (.slice a k cap) ∧ Lds14 w' F a k X o ∧ Frm [] w w' := by
  obtain ⟨a, k, cap, X, rfl, h1, h2, h3, h4, h5, h6⟩ := h
  refine ⟨a, k, cap, X, rfl, ⟨h1, h2, ⟨h4.sl.vals, h4.fits, fun _ y hy hm => ?_⟩, h4.fits, h6, by have := tot_few14 h3 ho; omega, ho⟩, h5⟩
  have h7 := (h4.blk_lt y.block (by rw [hy]; simp)).1
  have h8 := hF _ hm
  omega
theorem Lds14.keep {w w' : World} {F F' S : List Nat} {a : Option Addr} {k : Nat} {X : List Ld} {o : Nat} (h : Lds14 w F a k X o) (hf : Frm S w w') (hS : ∀ x ∈ S, x ∈ F ∨ w.heap.size ≤ x) (hF : ∀ x ∈ F', x ∈ F ∨ w.heap.size ≤ x) : Lds14 w' F' a k X o := ⟨h.len, h.few, h.l.keep hf hS hF, h.fits, h.right, h.tot, h.open5⟩
end Go.Proofs.Ytghadpihmhaepaa
