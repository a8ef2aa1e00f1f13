/- What the table's calls leave, as a line that is laid under its name. It speaks of no program. -/
import Derived.Test.YtahhkffghhgojaaDoorZMapS
namespace Go.Proofs.YtahhkffghhgojaaDoor
open Go.RowKit
set_option maxRecDepth 100000

/-- A name's line, or none of it. -/
def lnOf (X : List Ln) (s : ByteArray) : Ln := (lookL X s).getD ⟨⟨#[]⟩, 0, 0, 0, 0⟩
def hasL (X : List Ln) (s : ByteArray) : Bool := (lookL X s).isSome
theorem lnOf_val (X : List Ln) (s : ByteArray) : ((lookL X s).map Ln.val).getD (.agg #[.string ⟨#[]⟩, .int .u64 0, .int .u64 0, .int .u64 0, .int .u64 0]) = (lnOf X s).val := by
  unfold lnOf
  cases lookL X s <;> rfl
theorem lnOf_has {X : List Ln} {s : ByteArray} (d : Dist X) (h : hasL X s = true) : lnOf X s ∈ X ∧ (lnOf X s).nm = s := by
  obtain ⟨x, hx⟩ := Option.isSome_iff_exists.1 h
  unfold lnOf
  rw [hx]
  exact (lookL_some d).1 hx
theorem lnOf_not {X : List Ln} {s : ByteArray} (h : hasL X s = false) : lnOf X s = ⟨⟨#[]⟩, 0, 0, 0, 0⟩ := by
  unfold hasL at h
  unfold lnOf
  cases e : lookL X s with
  | none => rfl
  | some x => rw [e] at h; cases h
theorem begC_ln (X : List Ln) (s : ByteArray) (q : Nat) : begC X s q = if s.size < 1 ∨ 64 < s.size then 10 else if q = 0 then 2 else if q ≤ (lnOf X s).done then 40 else if q ≤ (lnOf X s).top then 41 else if hasL X s = false ∧ X.length = 16 then 14 else 0 := by
  rw [begC_look]
  unfold begK lnOf hasL
  split
  · rfl
  · split
    · rfl
    · rename_i h0
      have h1 : ¬ q ≤ 0 := by omega
      cases lookL X s with
      | none => simp [h1]
      | some x => simp
theorem donC_ln (X : List Ln) (s : ByteArray) (q : Nat) : donC X s q = if hasL X s = false ∨ (lnOf X s).top < q then 11 else if q ≤ (lnOf X s).done then 40 else 0 := by
  rw [donC_look]
  unfold donK lnOf hasL
  cases lookL X s with
  | none => simp
  | some x => simp
theorem hasL_at (X : List Ln) (s : ByteArray) : hasL X s = true ↔ atL X s < X.length := by
  unfold hasL
  rw [lookL_at]
  by_cases h : atL X s < X.length <;> simp [h]
theorem upd_put {X : List Ln} {s : ByteArray} (d : Dist X) (h : hasL X s = true) (f : Ln → Ln) (hf : (f (lnOf X s)).nm = s) : updL X s f = putL X (f (lnOf X s)) := by
  have hs : (lookL X (f (lnOf X s)).nm).isSome = true := by rw [hf]; exact h
  obtain ⟨h1, h2⟩ := lnOf_has d h
  unfold putL
  rw [if_pos hs, hf]
  unfold updL
  apply List.map_congr_left
  intro y hy
  by_cases e : y.nm = s
  · rw [if_pos e, if_pos e]
    rw [d.uniq hy h1 (e.trans h2.symm)]
  · rw [if_neg e, if_neg e]
theorem begX_has {X : List Ln} {s : ByteArray} {q : Nat} (d : Dist X) (h0 : begC X s q = 0) (h : hasL X s = true) : begX X s q = putL X ((lnOf X s).wtop q) := by
  unfold begX
  have h1 := (hasL_at X s).1 h
  rw [if_pos h0, if_pos h1, set_upd d s (fun x => x.wtop q) h1]
  exact upd_put d h (fun x => x.wtop q) (lnOf_has d h).2
theorem begX_not {X : List Ln} {s : ByteArray} {q : Nat} (h0 : begC X s q = 0) (h : hasL X s = false) : begX X s q = putL X ⟨s, q, 0, 0, 0⟩ := by
  unfold begX
  have h1 : ¬ atL X s < X.length := fun h2 => by rw [(hasL_at X s).2 h2] at h; cases h
  rw [if_pos h0, if_neg h1]
  unfold putL
  have h2 : (lookL X (⟨s, q, 0, 0, 0⟩ : Ln).nm).isSome = false := h
  rw [h2]
  rfl
theorem begX_err {X : List Ln} {s : ByteArray} {q : Nat} (h0 : begC X s q ≠ 0) : begX X s q = X := by unfold begX; rw [if_neg h0]
theorem donX_zero {X : List Ln} {s : ByteArray} {q l e : Nat} (d : Dist X) (h0 : donC X s q = 0) : donX X s q l e = putL X ((lnOf X s).wdone q l e) := by
  unfold donX
  have h1 := donC_zero h0
  have h := (hasL_at X s).2 h1
  rw [if_pos h0, set_upd d s (fun x => x.wdone q l e) h1]
  exact upd_put d h (fun x => x.wdone q l e) (lnOf_has d h).2
theorem donX_err {X : List Ln} {s : ByteArray} {q l e : Nat} (h0 : donC X s q ≠ 0) : donX X s q l e = X := by unfold donX; rw [if_neg h0]
theorem lnOf_fits {X : List Ln} (h : ∀ x ∈ X, x.fits) (s : ByteArray) : (lnOf X s).fits := by
  unfold lnOf
  cases e : lookL X s with
  | none => exact ⟨by show (0 : Nat) < _; decide, by show (0 : Nat) < _; decide, by show (0 : Nat) < _; decide, by show (0 : Nat) < _; decide⟩
  | some x => exact h _ (List.mem_of_find?_eq_some e)
theorem lnOf_size {X : List Ln} {k : Nat} (h : ∀ x ∈ X, x.nm.size ≤ k) (s : ByteArray) : (lnOf X s).nm.size ≤ k := by
  unfold lnOf
  cases e : lookL X s with
  | none => exact Nat.zero_le _
  | some x => exact h _ (List.mem_of_find?_eq_some e)
end Go.Proofs.YtahhkffghhgojaaDoor
