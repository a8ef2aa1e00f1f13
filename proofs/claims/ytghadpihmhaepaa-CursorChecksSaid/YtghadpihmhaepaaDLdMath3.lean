/- Ledgers in a row that grow: opened, closed. -/
import Derived.Test.YtghadpihmhaepaaDLdOpen
namespace Go.Proofs.Ytghadpihmhaepaa
open Go.RowKit

theorem lastL_snoc (X : List Ld) (y : Ld) : lastL (X ++ [y]) = y := by
  unfold lastL
  rw [List.length_append, List.length_singleton, Nat.add_sub_cancel, List.getD_eq_getElem?_getD, List.getElem?_append_right (Nat.le_refl _), Nat.sub_self]
  rfl
theorem getD_snoc_lt {X : List Ld} {y : Ld} {i : Nat} (h : i < X.length) : (X ++ [y]).getD i default = X.getD i default := by
  rw [List.getD_eq_getElem?_getD, List.getD_eq_getElem?_getD, List.getElem?_append_left h]
theorem getD_snoc_eq (X : List Ld) (y : Ld) : (X ++ [y]).getD X.length default = y := by
  rw [List.getD_eq_getElem?_getD, List.getElem?_append_right (Nat.le_refl _), Nat.sub_self]
  rfl
/-- All of them closed, k of them, numbers of no more than so many. -/
structure Grown (X : List Ld) (k m : Nat) : Prop where
  len : X.length = k
  right : RtLd X
  closed : ∀ x ∈ X, x.cl = true
  low : (lastL X).id ≤ m
  fits : ∀ x ∈ X, x.fits
theorem Grown.nil (m : Nat) : Grown [] 0 m := ⟨rfl, ⟨by decide, fun i hi => by simp at hi⟩, by simp, Nat.zero_le _, by simp⟩
theorem Grown.ends {X : List Ld} {k m : Nat} (h : Grown X k m) : (decide (0 < X.length) && !(lastL X).cl) = false := by
  rcases Nat.eq_zero_or_pos X.length with h0 | h0
  · simp [h0]
  · have : (lastL X).cl = true := by
      unfold lastL
      have h1 : X.length - 1 < X.length := by omega
      have e : X.getD (X.length - 1) default = X[X.length - 1] := by simp [h1]
      rw [e]; exact h.closed _ (List.getElem_mem h1)
    simp [this]
theorem Grown.snoc {X : List Ld} {k m : Nat} (h : Grown X k m) (hk : k < 64) {y : Ld} (h1 : (lastL X).id < y.id) (h2 : y.n ≤ 1048576) (h3 : y.cl = false → y.n = 0) : RtLd (X ++ [y]) := by
  refine ⟨by rw [List.length_append]; have := h.len; simp; omega, fun i hi => ?_⟩
  rw [List.length_append, List.length_singleton] at hi
  rcases Nat.lt_or_eq_of_le (Nat.le_of_lt_succ hi) with hlt | rfl
  · rw [getD_snoc_lt hlt, getD_snoc_lt (show i - 1 < X.length by omega)]
    obtain ⟨a1, a2, a3, _⟩ := h.right.2 i hlt
    refine ⟨a1, a2, a3, fun hc => ?_⟩
    have e : X.getD i default = X[i] := by simp [hlt]
    have := h.closed _ (List.getElem_mem hlt)
    rw [← e, hc] at this
    cases this
  · rw [getD_snoc_eq]
    refine ⟨by omega, h2, fun h0 => ?_, fun hc => ⟨by simp, h3 hc⟩⟩
    rw [getD_snoc_lt (show X.length - 1 < X.length by omega)]
    exact h1
theorem Grown.more {X : List Ld} {k m : Nat} (h : Grown X k m) (hk : k < 64) {y : Ld} (h1 : (lastL X).id < y.id) (h2 : y.n ≤ 1048576) (h3 : y.cl = true) {m' : Nat} (h4 : y.id ≤ m') (h5 : y.fits) : Grown (X ++ [y]) (k + 1) m' := by
  refine ⟨by rw [List.length_append, h.len]; rfl, h.snoc hk h1 h2 (fun hc => by rw [h3] at hc; cases hc), fun x hx => ?_, by rw [lastL_snoc]; exact h4, fun x hx => ?_⟩
  · rcases List.mem_append.1 hx with hx | hx
    · exact h.closed x hx
    · rw [List.mem_singleton.1 hx]; exact h3
  · rcases List.mem_append.1 hx with hx | hx
    · exact h.fits x hx
    · rw [List.mem_singleton.1 hx]; exact h5
/-- What a call of Open, Close leaves that does it. -/
def LdDone (w : World) (k : Nat) (Y : List Ld) (e : Ending) (w' : World) : Prop := ∃ a' cap', e = .returned (.tuple #[.slice a' k cap', .int .i64 0]) ∧ LdOwn w' w.heap.size 69 [] a' cap' Y ∧ Frm [] w w'
theorem LdTo.done {w w' : World} {Y : List Ld} {e : Ending} (h : LdTo w 0 Y e w') {k : Nat} (hk : k = Y.length) : LdDone w k Y e w' := by
  subst hk
  rcases h with ⟨h, _⟩ | ⟨_, h⟩
  · exact absurd rfl h
  · exact h
end Go.Proofs.Ytghadpihmhaepaa
