/- Ledgers in a row: from place to place; what trimming leaves. It speaks of no program. -/
import Derived.Test.YtimmoencmmpkdaaLdMath
namespace Go.Proofs.Ytimmoencmmpkdaa
open Go.RowKit

/-- The place behind all places. -/
def farP : Ps := ⟨18446744073709551615, 18446744073709551615⟩
theorem Ld.size_lt {x : Ld} (hx : x.fits) {o : Nat} (ho : o < 18446744073709551616) : x.size o < 18446744073709551616 := by
  unfold Ld.size
  split
  · exact hx.2
  · exact ho
theorem Ld.ahead_far {x : Ld} (hx : x.fits) {o : Nat} (ho : o < 18446744073709551616) : x.ahead o farP = x.size o := by
  have h1 := hx.1
  have h2 := x.size_lt hx ho
  unfold Ld.ahead farP
  simp only
  split
  · rfl
  · split
    · omega
    · omega
theorem ld_fits_at {X : List Ld} (h : ∀ x ∈ X, x.fits) (i : Nat) : (X.getD i default).fits := by
  rcases Nat.lt_or_ge i X.length with h1 | h1
  · have e : X.getD i default = X[i] := by simp [h1]
    rw [e]; exact h _ (List.getElem_mem h1)
  · have e : X.getD i default = default := by simp [Nat.not_lt.2 h1]
    rw [e]; exact ⟨by decide, by decide⟩
theorem btw_congr {X : List Ld} {o : Nat} {a b a' : Ps} (h : ∀ x ∈ X, x.ahead o a = x.ahead o a') : btw X o a b = btw X o a' b := by
  unfold btw
  congr 1
  exact List.map_congr_left (fun x hx => by rw [h x hx])
theorem ld_split {X : List Ld} {k : Nat} (hk : k < X.length) : X = X.take k ++ X.getD k default :: X.drop (k + 1) := by
  have e : X.getD k default = X[k] := by simp [hk]
  rw [e, ← List.drop_eq_getElem_cons hk, List.take_append_drop]
theorem mem_take_at {X : List Ld} {k : Nat} {x : Ld} (h : x ∈ X.take k) : ∃ i, i < k ∧ i < X.length ∧ x = X.getD i default := by
  obtain ⟨i, hi, rfl⟩ := List.getElem_of_mem h
  have h1 : i < k ∧ i < X.length := by rw [List.length_take] at hi; omega
  exact ⟨i, h1.1, h1.2, by simp [h1.2]⟩
theorem mem_drop_at {X : List Ld} {k : Nat} {x : Ld} (h : x ∈ X.drop k) : ∃ i, k ≤ i ∧ i < X.length ∧ x = X.getD i default := by
  obtain ⟨i, hi, rfl⟩ := List.getElem_of_mem h
  have h1 : k + i < X.length := by rw [List.length_drop] at hi; omega
  exact ⟨k + i, by omega, h1, by simp [h1]⟩
/-- The entry that is answered is there. -/
theorem nextP_self {X : List Ld} {o : Nat} {p q : Ps} (h : nextP X o p = some q) : nextP X o q = some q := by
  have hge := nextP_ge h
  obtain ⟨k, h1, h2, h3, rfl⟩ := nextP_some h
  have e : (X.getD k default).ahead o ⟨(X.getD k default).id, (X.getD k default).ahead o p⟩ = (X.getD k default).ahead o p := by
    conv => lhs; unfold Ld.ahead
    simp only
    rw [if_neg (Nat.lt_irrefl _), if_pos trivial]
    exact Nat.min_eq_right (Nat.le_of_lt h3)
  have := nextP_at (p := ⟨(X.getD k default).id, (X.getD k default).ahead o p⟩) h1 (fun i hi hc => h2 i hi (Nat.lt_of_le_of_lt ((X.getD i default).ahead_mono o hge) hc)) (by rw [e]; exact h3)
  rw [this, e]
/-- From place to place: one entry less is left. -/
theorem btw_step {X : List Ld} {o : Nat} {p q : Ps} (hr : RtLd X) (hf : ∀ x ∈ X, x.fits) (ho : o < 18446744073709551616) (h : nextP X o p = some q) : btw X o p farP = btw X o (behindP q) farP + 1 := by
  have hge := nextP_ge h
  obtain ⟨k, h1, h2, h3, hq⟩ := nextP_some h
  have hxf := ld_fits_at hf k
  have hsz := Ld.size_lt hxf ho
  obtain ⟨x, hx⟩ : ∃ x, x = X.getD k default := ⟨_, rfl⟩
  rw [← hx] at h3 hq hxf hsz
  have hqe : q.e < x.size o := by rw [hq]; exact h3
  have hbq : behindP q = ⟨x.id, x.ahead o p + 1⟩ := by
    unfold behindP
    rw [if_neg (by omega), hq]
  have hlt : ¬ (behindP q).lt q := by rw [hbq, hq]; unfold Ps.lt; simp only; omega
  have hmono : ¬ (behindP q).lt p := fun hh => by
    rw [hbq] at hh
    rw [hq] at hge
    unfold Ps.lt at hh hge
    simp only at hh hge
    omega
  have eA : ∀ y ∈ X.take k, y.ahead o p = y.ahead o (behindP q) := fun y hy => by
    obtain ⟨i, hi, _, rfl⟩ := mem_take_at hy
    have a1 := h2 i hi
    have a2 := (X.getD i default).ahead_le o p
    have a3 := (X.getD i default).ahead_le o (behindP q)
    have a4 := (X.getD i default).ahead_mono o hmono
    omega
  have hpl : p.l ≤ x.id := by
    rcases Nat.lt_or_ge x.id p.l with hh | hh
    · unfold Ld.ahead at h3
      rw [if_pos hh] at h3
      omega
    · exact hh
  have eB : ∀ y ∈ X.drop (k + 1), y.ahead o p = y.ahead o (behindP q) := fun y hy => by
    obtain ⟨i, hi, hil, rfl⟩ := mem_drop_at hy
    have hid := hr.rise (i := k) (j := i) (by omega) hil
    rw [← hx] at hid
    unfold Ld.ahead
    rw [hbq]
    simp only
    rw [if_neg (by omega), if_neg (by omega), if_neg (by omega), if_neg (by omega)]
  have ex : x.ahead o (behindP q) = x.ahead o p + 1 := by
    conv => lhs; unfold Ld.ahead
    rw [hbq]
    simp only
    rw [if_neg (Nat.lt_irrefl _), if_pos trivial]
    omega
  have hs := ld_split h1
  rw [← hx] at hs
  rw [hs, btw_append, btw_cons, btw_append, btw_cons, btw_congr eA, btw_congr eB, ex, x.ahead_far hxf ho]
  omega
theorem btw_none {X : List Ld} {o : Nat} {p b : Ps} (h : nextP X o p = none) : btw X o p b = 0 := by
  have h' := nextP_none' h
  have key : ∀ k, k ≤ X.length → btw (X.take k) o p b = 0 := by
    intro k
    induction k with
    | zero => intro _; rfl
    | succ k ih =>
      intro hk
      rw [btw_take o p b (by omega), ih (by omega)]
      have a1 := h' k (by omega)
      have a2 := (X.getD k default).ahead_le o b
      omega
  have := key X.length (Nat.le_refl _)
  rwa [List.take_length] at this

/-- How many go. -/
def goesN (X : List Ld) (p : Ps) : Nat := (X.takeWhile (goesL p)).length
theorem goesN_le (X : List Ld) (p : Ps) : goesN X p ≤ X.length := (List.takeWhile_prefix _).length_le
theorem trimL_eq (X : List Ld) (p : Ps) : trimL X p = X.drop (goesN X p) := by
  unfold trimL goesN
  have h : X.takeWhile (goesL p) ++ X.dropWhile (goesL p) = X := List.takeWhile_append_dropWhile
  generalize X.takeWhile (goesL p) = A at h ⊢
  generalize X.dropWhile (goesL p) = B at h ⊢
  rw [← h, List.drop_left]
theorem goesN_before {X : List Ld} {p : Ps} {i : Nat} (h : i < goesN X p) : goesL p (X.getD i default) = true := by
  have hl := goesN_le X p
  have e : X.getD i default = (X.takeWhile (goesL p))[i] := by
    have h1 : i < X.length := by omega
    rw [List.getD_eq_getElem?_getD, List.getElem?_eq_getElem h1]
    simp only [Option.getD_some]
    exact ((List.takeWhile_prefix (goesL p)).getElem h).symm
  rw [e]
  have hm : (X.takeWhile (goesL p))[i] ∈ X.takeWhile (goesL p) := List.getElem_mem _
  exact (List.all_eq_true.1 List.all_takeWhile) _ hm
theorem goesN_at {X : List Ld} {p : Ps} (h : goesN X p < X.length) : goesL p (X.getD (goesN X p) default) = false := by
  induction X with
  | nil => simp at h
  | cons x X ih =>
    unfold goesN at h ⊢
    cases hx : goesL p x
    · rw [List.takeWhile_cons_of_neg (by simp [hx])]
      simpa using hx
    · rw [List.takeWhile_cons_of_pos hx] at h ⊢
      simp only [List.length_cons] at h ⊢
      rw [List.getD_cons_succ]
      exact ih (by unfold goesN; omega)
/-- How many go, found one by one. -/
theorem goesN_eq {X : List Ld} {p : Ps} {k : Nat} (hk : k ≤ X.length) (h1 : ∀ i, i < k → goesL p (X.getD i default) = true) (h2 : k < X.length → goesL p (X.getD k default) = false) : goesN X p = k := by
  have hle := goesN_le X p
  rcases Nat.lt_trichotomy (goesN X p) k with h | h | h
  · have := goesN_at (X := X) (p := p) (by omega)
    rw [h1 _ h] at this; cases this
  · exact h
  · have := goesN_before h
    rw [h2 (by omega)] at this; cases this
theorem goes_ahead {x : Ld} {o : Nat} {p : Ps} (h : goesL p x = true) : x.ahead o p = x.size o := by
  unfold goesL Ps.lt at h
  simp only [Bool.and_eq_true, decide_eq_true_iff] at h
  unfold Ld.ahead Ld.size
  rw [if_pos h.1]
  split
  · rfl
  · split
    · omega
    · omega
theorem RtLd.drop {X : List Ld} (h : RtLd X) (k : Nat) : RtLd (X.drop k) := by
  refine ⟨by rw [List.length_drop]; have := h.1; omega, fun i hi => ?_⟩
  rw [List.length_drop] at hi
  have e : ∀ j, (X.drop k).getD j default = X.getD (k + j) default := fun j => by
    rw [List.getD_eq_getElem?_getD, List.getD_eq_getElem?_getD, List.getElem?_drop]
  obtain ⟨h1, h2, h3, h4⟩ := h.2 (k + i) (by omega)
  rw [e, e, List.length_drop]
  refine ⟨h1, h2, fun h0 => ?_, fun hc => ?_⟩
  · have := h3 (by omega)
    rwa [show k + i - 1 = k + (i - 1) by omega] at this
  · have := h4 hc
    exact ⟨by omega, this.2⟩
theorem btw_trim (X : List Ld) (o : Nat) (p b : Ps) : btw (trimL X p) o p b = btw X o p b := by
  rw [trimL_eq]
  have h : btw (X.take (goesN X p)) o p b + btw (X.drop (goesN X p)) o p b = btw X o p b := by rw [← btw_append, List.take_append_drop]
  have h0 : btw (X.take (goesN X p)) o p b = 0 := by
    have e : btw (X.take (goesN X p)) o p b = btw (X.take (goesN X p)) o b b := by
      unfold btw
      congr 1
      apply List.map_congr_left
      intro x hx
      obtain ⟨i, hi, _, rfl⟩ := mem_take_at hx
      have := goes_ahead (o := o) (goesN_before hi)
      have := (X.getD i default).ahead_le o b
      omega
    rw [e]
    exact btw_back _ _ (Ps.lt_irrefl _)
  omega
theorem nextP_append {A B : List Ld} {o : Nat} {p : Ps} (h : ∀ x ∈ A, ¬ x.ahead o p < x.size o) : nextP (A ++ B) o p = nextP B o p := by
  induction A with
  | nil => rfl
  | cons x A ih =>
    rw [List.cons_append]
    conv => lhs; unfold nextP
    rw [if_neg (h x (by simp))]
    exact ih (fun y hy => h y (by simp [hy]))
theorem nextP_trim (X : List Ld) (o : Nat) (p : Ps) : nextP (trimL X p) o p = nextP X o p := by
  rw [trimL_eq]
  conv => rhs; rw [← List.take_append_drop (goesN X p) X]
  rw [nextP_append]
  intro x hx
  obtain ⟨i, hi, _, rfl⟩ := mem_take_at hx
  rw [goes_ahead (goesN_before hi)]
  omega
end Go.Proofs.Ytimmoencmmpkdaa
