/- What the table's calls answer and leave, over lists of lines. It speaks of no program. -/
import Derived.Test.YtahhkffghhgojaaLnCut
namespace Go.Proofs.Ytahhkffghhgojaa
open Go.RowKit
set_option maxRecDepth 100000

/-- Begin's code, and the lines behind it. -/
def begC (X : List Ln) (s : ByteArray) (q : Nat) : Nat :=
  if s.size < 1 ∨ 64 < s.size then 10 else if q = 0 then 2 else
  if atL X s < X.length then (if q ≤ (X.getD (atL X s) default).done then 40 else if q ≤ (X.getD (atL X s) default).top then 41 else 0)
  else if X.length = 16 then 14 else 0
def begX (X : List Ln) (s : ByteArray) (q : Nat) : List Ln :=
  if begC X s q = 0 then (if atL X s < X.length then X.set (atL X s) ((X.getD (atL X s) default).wtop q) else X ++ [⟨s, q, 0, 0, 0⟩]) else X
/-- Done's. -/
def donC (X : List Ln) (s : ByteArray) (q : Nat) : Nat :=
  if atL X s < X.length then (if (X.getD (atL X s) default).top < q then 11 else if q ≤ (X.getD (atL X s) default).done then 40 else 0) else 11
def donX (X : List Ln) (s : ByteArray) (q l e : Nat) : List Ln :=
  if donC X s q = 0 then X.set (atL X s) ((X.getD (atL X s) default).wdone q l e) else X
/-- Forget's. -/
def forX (X : List Ln) : List Ln := (X.filter fun x => decide (0 < x.done)).map fun x => x.wtop x.done
theorem forX_take {X : List Ln} {k : Nat} (h : k < X.length) : forX (X.take (k + 1)) = forX (X.take k) ++ if 0 < (X.getD k default).done then [(X.getD k default).wtop (X.getD k default).done] else [] := by
  rw [ln_get h]
  unfold forX
  rw [List.take_succ_eq_append_getElem h, List.filter_append, List.map_append]
  congr 1
  by_cases h1 : 0 < X[k].done <;> simp [h1]
theorem forX_len (X : List Ln) : (forX X).length ≤ X.length := by
  unfold forX; rw [List.length_map]; exact List.length_filter_le _ _
/-- Where a line comes among others, by its name. -/
def posL (Y : List Ln) (K : ByteArray) : Nat := Y.findIdx (fun y => !kl y.nm K)
theorem posL_le (Y : List Ln) (K : ByteArray) : posL Y K ≤ Y.length := List.findIdx_le_length
theorem posL_before {Y : List Ln} {K : ByteArray} {j : Nat} (h : j < posL Y K) : kl (Y.getD j default).nm K = true := by
  have hj : j < Y.length := Nat.lt_of_lt_of_le h (posL_le Y K)
  have := List.not_of_lt_findIdx h
  rw [ln_get hj]
  simpa using this
theorem posL_at {Y : List Ln} {K : ByteArray} (h : posL Y K < Y.length) : kl (Y.getD (posL Y K) default).nm K = false := by
  have h1 := List.findIdx_getElem (p := fun y : Ln => !kl y.nm K) (w := h)
  rw [ln_get h]
  have h2 : (!kl Y[posL Y K].nm K) = true := h1
  simpa using h2
def insL (x : Ln) (Y : List Ln) : List Ln := Y.take (posL Y x.nm) ++ ([x] ++ Y.drop (posL Y x.nm))
theorem insL_len (x : Ln) (Y : List Ln) : (insL x Y).length = Y.length + 1 := by
  have := posL_le Y x.nm
  unfold insL; simp; omega
/-- All lines, by their names. -/
def allX (X : List Ln) : List Ln := X.foldl (fun Y x => insL x Y) []
theorem allX_take {X : List Ln} {k : Nat} (h : k < X.length) : allX (X.take (k + 1)) = insL (X.getD k default) (allX (X.take k)) := by
  rw [ln_get h]
  unfold allX
  rw [List.take_succ_eq_append_getElem h, List.foldl_append]
  rfl
theorem allX_len (X : List Ln) (k : Nat) (h : k ≤ X.length) : (allX (X.take k)).length = k := by
  induction k with
  | zero => simp [allX]
  | succ k ih =>
    have := ih (by omega)
    rw [allX_take (by omega), insL_len]; omega
end Go.Proofs.Ytahhkffghhgojaa
