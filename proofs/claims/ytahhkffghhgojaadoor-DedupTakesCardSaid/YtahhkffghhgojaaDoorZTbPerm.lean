/- Tables in any order: what they answer, and what they are when sorted, hangs on their lines alone. It speaks of no program. -/
import Derived.Test.YtahhkffghhgojaaDoorMB
namespace Go.Proofs.YtahhkffghhgojaaDoor
open Go.RowKit
set_option maxRecDepth 100000

/-- Each name once; names of 1 to 64 bytes; at most 16 lines, whose numbers fit. -/
structure TbOk (X : List Ln) : Prop where
  dist : X.Pairwise fun x y => x.nm ≠ y.nm
  size : ∀ x ∈ X, 1 ≤ x.nm.size ∧ x.nm.size ≤ 64
  few : X.length ≤ 16
  fits : ∀ x ∈ X, x.fits
def Dist (X : List Ln) : Prop := X.Pairwise fun x y => x.nm ≠ y.nm
def SrtL (X : List Ln) : Prop := X.Pairwise fun x y => kl x.nm y.nm = true
theorem SrtL.dist {X : List Ln} (h : SrtL X) : Dist X := h.imp fun h1 => kl_ne h1
theorem Dist.perm {X Y : List Ln} (h : Dist X) (p : X.Perm Y) : Dist Y := p.pairwise h (fun h1 => h1.symm)
theorem Dist.uniq {X : List Ln} (d : Dist X) {x y : Ln} (hx : x ∈ X) (hy : y ∈ X) (h : x.nm = y.nm) : x = y := by
  obtain ⟨i, hi, rfl⟩ := List.getElem_of_mem hx
  obtain ⟨j, hj, rfl⟩ := List.getElem_of_mem hy
  rcases Nat.lt_trichotomy i j with h1 | rfl | h1
  · exact absurd h (List.pairwise_iff_getElem.1 d _ _ hi hj h1)
  · rfl
  · exact absurd h.symm (List.pairwise_iff_getElem.1 d _ _ hj hi h1)
/-- A name's line, if it has one. -/
def lookL (X : List Ln) (s : ByteArray) : Option Ln := X.find? fun x => decide (x.nm = s)
theorem lookL_at (X : List Ln) (s : ByteArray) : lookL X s = if atL X s < X.length then some (X.getD (atL X s) default) else none := by
  by_cases h : atL X s < X.length
  · rw [if_pos h]
    unfold lookL
    have h2 : (X.getD (atL X s) default) = X[atL X s] := ln_get h
    rw [h2]
    unfold atL
    rw [List.find?_eq_some_iff_getElem]
    have h1 := List.findIdx_getElem (p := fun x : Ln => decide (x.nm = s)) (w := h)
    exact ⟨h1, _, h, rfl, fun j hj => by simpa using List.not_of_lt_findIdx hj⟩
  · rw [if_neg h]
    unfold lookL
    rw [List.find?_eq_none]
    intro x hx
    have h1 : atL X s = X.length := by have := atL_le X s; omega
    have := List.findIdx_eq_length.1 h1 x hx
    simpa using this
theorem lookL_some {X : List Ln} {s : ByteArray} {x : Ln} (d : Dist X) : lookL X s = some x ↔ x ∈ X ∧ x.nm = s := by
  constructor
  · intro h
    have := List.find?_some h
    exact ⟨List.mem_of_find?_eq_some h, by simpa using this⟩
  · rintro ⟨hx, rfl⟩
    cases h : lookL X x.nm with
    | none =>
      have := List.find?_eq_none.1 h x hx
      simp at this
    | some y =>
      have h1 := List.mem_of_find?_eq_some h
      have h2 : y.nm = x.nm := by simpa using List.find?_some h
      congr 1
      exact d.uniq h1 hx h2
theorem lookL_none {X : List Ln} {s : ByteArray} : lookL X s = none ↔ ∀ x ∈ X, x.nm ≠ s := by
  unfold lookL
  rw [List.find?_eq_none]
  simp
theorem lookL_perm {X Y : List Ln} (d : Dist X) (p : X.Perm Y) (s : ByteArray) : lookL X s = lookL Y s := by
  cases h : lookL Y s with
  | none =>
    rw [lookL_none] at h ⊢
    exact fun x hx => h x (p.mem_iff.1 hx)
  | some y =>
    rw [lookL_some (d.perm p)] at h
    rw [lookL_some d]
    exact ⟨p.mem_iff.2 h.1, h.2⟩
/-- What is answered, by a name's line. -/
def begK (o : Option Ln) (n : Nat) (s : ByteArray) (q : Nat) : Nat :=
  if s.size < 1 ∨ 64 < s.size then 10 else if q = 0 then 2 else
  match o with
  | some x => if q ≤ x.done then 40 else if q ≤ x.top then 41 else 0
  | none => if n = 16 then 14 else 0
def donK (o : Option Ln) (q : Nat) : Nat :=
  match o with
  | some x => if x.top < q then 11 else if q ≤ x.done then 40 else 0
  | none => 11
theorem begC_look (X : List Ln) (s : ByteArray) (q : Nat) : begC X s q = begK (lookL X s) X.length s q := by
  unfold begC begK
  rw [lookL_at]
  by_cases h : atL X s < X.length <;> simp [h]
theorem donC_look (X : List Ln) (s : ByteArray) (q : Nat) : donC X s q = donK (lookL X s) q := by
  unfold donC donK
  rw [lookL_at]
  by_cases h : atL X s < X.length <;> simp [h]
/-- A line is laid anew by its name. -/
def updL (X : List Ln) (s : ByteArray) (f : Ln → Ln) : List Ln := X.map fun x => if x.nm = s then f x else x
theorem set_upd {X : List Ln} (d : Dist X) (s : ByteArray) (f : Ln → Ln) (h : atL X s < X.length) : X.set (atL X s) (f (X.getD (atL X s) default)) = updL X s f := by
  have hk := atL_key h
  apply List.ext_getElem
  · simp [updL]
  · intro i h1 h2
    simp only [updL, List.getElem_map, List.getElem_set]
    have hi : i < X.length := by simpa using h1
    by_cases e : atL X s = i
    · subst e
      rw [if_pos rfl]
      rw [ln_get h] at hk ⊢
      rw [if_pos hk]
    · rw [if_neg e, if_neg]
      intro hc
      have h3 : X[i].nm = X[atL X s].nm := by rw [hc, ← ln_get h, hk]
      rcases Nat.lt_or_gt_of_ne e with h4 | h4
      · exact (List.pairwise_iff_getElem.1 d _ _ h hi h4) h3.symm
      · exact (List.pairwise_iff_getElem.1 d _ _ hi h h4) h3
theorem updL_perm {X Y : List Ln} (p : X.Perm Y) (s : ByteArray) (f : Ln → Ln) : (updL X s f).Perm (updL Y s f) := p.map _
theorem updL_names {X : List Ln} (s : ByteArray) (f : Ln → Ln) (hf : ∀ x, (f x).nm = x.nm) : (updL X s f).map Ln.nm = X.map Ln.nm := by
  unfold updL
  rw [List.map_map]
  apply List.map_congr_left
  intro x _
  simp only [Function.comp]
  split
  · exact hf x
  · rfl
theorem dist_names {X Y : List Ln} (h : X.map Ln.nm = Y.map Ln.nm) (d : Dist X) : Dist Y := by
  unfold Dist at *
  have h1 : (X.map Ln.nm).Pairwise (fun a b => a ≠ b) := List.pairwise_map.2 d
  rw [h] at h1
  exact List.pairwise_map.1 h1
theorem srt_names {X Y : List Ln} (h : X.map Ln.nm = Y.map Ln.nm) (d : SrtL X) : SrtL Y := by
  unfold SrtL at *
  have h1 : (X.map Ln.nm).Pairwise (fun a b => kl a b = true) := List.pairwise_map.2 d
  rw [h] at h1
  exact List.pairwise_map.1 h1
end Go.Proofs.YtahhkffghhgojaaDoor
