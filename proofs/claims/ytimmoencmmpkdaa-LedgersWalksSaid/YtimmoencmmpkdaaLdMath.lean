/- Ledgers in a row, as plain data: right ones, how many entries are ahead of a place, all places, the first one from a place on, between two, trimmed. It speaks of no program. -/
import Derived.Test.YtimmoencmmpkdaaLd
import Derived.Test.YtimmoencmmpkdaaPs
namespace Go.Proofs.Ytimmoencmmpkdaa
open Go.RowKit

/-- How many entries it has. -/
def Ld.size (x : Ld) (o : Nat) : Nat := if x.cl then x.n else o
/-- a ahead of b. -/
def Ps.lt (a b : Ps) : Prop := a.l < b.l ∨ a.l = b.l ∧ a.e < b.e
instance (a b : Ps) : Decidable (a.lt b) := inferInstanceAs (Decidable (_ ∨ _))
/-- Order's answer. -/
def ordP (a b : Ps) : Int := if a.lt b then -1 else if b.lt a then 1 else 0
theorem ordP_neg {a b : Ps} : ordP a b < 0 ↔ a.lt b := by
  unfold ordP
  split
  · simp_all
  · split <;> simp_all
theorem ordP_pos {a b : Ps} : 0 < ordP a b ↔ b.lt a := by
  unfold ordP
  split
  · rename_i h
    simp only [Int.reduceNeg, Int.reduceLT, false_iff]
    unfold Ps.lt at *; omega
  · split <;> simp_all
theorem ordP_le {a b : Ps} : ordP a b ≤ 0 ↔ ¬ b.lt a := by rw [← ordP_pos]; omega
theorem ordP_ge {a b : Ps} : 0 ≤ ordP a b ↔ ¬ a.lt b := by rw [← ordP_neg]; omega
theorem Ps.lt_trans {a b c : Ps} (h : a.lt b) (k : b.lt c) : a.lt c := by unfold Ps.lt at *; omega
theorem Ps.lt_irrefl (a : Ps) : ¬ a.lt a := by unfold Ps.lt; omega
theorem Ps.ext' {a b : Ps} (h : a.l = b.l) (k : a.e = b.e) : a = b := by cases a; cases b; simp_all
theorem Ps.tri {a b : Ps} (h : ¬ a.lt b) (k : ¬ b.lt a) : a = b := by
  apply Ps.ext' <;> (unfold Ps.lt at *; omega)

/-- How many of its entries are ahead of a place. -/
def Ld.ahead (x : Ld) (o : Nat) (p : Ps) : Nat := if x.id < p.l then x.size o else if x.id = p.l then min (x.size o) p.e else 0
theorem Ld.ahead_le (x : Ld) (o : Nat) (p : Ps) : x.ahead o p ≤ x.size o := by
  unfold Ld.ahead
  split
  · omega
  · split <;> omega
theorem Ld.ahead_mono (x : Ld) (o : Nat) {p q : Ps} (h : ¬ q.lt p) : x.ahead o p ≤ x.ahead o q := by
  have h1 := x.ahead_le o p
  unfold Ld.ahead Ps.lt at *
  split <;> split <;> (try split) <;> (try split) <;> omega
/-- An entry of it is ahead of a place just if its number is below that. -/
theorem Ld.lt_ahead (x : Ld) (o : Nat) (p : Ps) {k : Nat} (hk : k < x.size o) : k < x.ahead o p ↔ (Ps.mk x.id k).lt p := by
  unfold Ld.ahead Ps.lt
  simp only
  split
  · exact ⟨fun _ => .inl ‹_›, fun _ => hk⟩
  · split
    · constructor
      · intro h; right; omega
      · intro h; omega
    · constructor
      · intro h; omega
      · intro h; omega

/-- Right ledgers. -/
def RtTo9 (X : List Ld) (k : Nat) : Prop := ∀ i, i < k → (X.getD i default).id ≠ 0 ∧ (X.getD i default).n ≤ 1048576 ∧ (0 < i → (X.getD (i - 1) default).id < (X.getD i default).id) ∧ ((X.getD i default).cl = false → i + 1 = X.length ∧ (X.getD i default).n = 0)
def RtLd (X : List Ld) : Prop := X.length ≤ 64 ∧ RtTo9 X X.length
/-- One after the other. -/
theorem RtTo9.next {X : List Ld} {k : Nat} (h : RtTo9 X k) (h1 : (X.getD k default).id ≠ 0) (h2 : (X.getD k default).n ≤ 1048576) (h3 : 0 < k → (X.getD (k - 1) default).id < (X.getD k default).id) (h4 : (X.getD k default).cl = false → k + 1 = X.length ∧ (X.getD k default).n = 0) : RtTo9 X (k + 1) := by
  intro i hi
  rcases Nat.lt_or_eq_of_le (Nat.le_of_lt_succ hi) with h5 | rfl
  · exact h i h5
  · exact ⟨h1, h2, h3, h4⟩
theorem RtLd.rise {X : List Ld} (h : RtLd X) {i j : Nat} (hij : i < j) (hj : j < X.length) : (X.getD i default).id < (X.getD j default).id := by
  induction j with
  | zero => omega
  | succ j ih =>
    have h1 := (h.2 (j + 1) hj).2.2.1 (by omega)
    rw [Nat.add_sub_cancel] at h1
    rcases Nat.lt_or_eq_of_le (Nat.le_of_lt_succ hij) with h2 | rfl
    · exact Nat.lt_trans (ih h2 (by omega)) h1
    · exact h1

/-- Between two places. -/
def btw (X : List Ld) (o : Nat) (a b : Ps) : Nat := (X.map fun x => x.ahead o b - x.ahead o a).sum
def tot (X : List Ld) (o : Nat) : Nat := (X.map fun x => x.size o).sum
theorem btw_cons (x : Ld) (X : List Ld) (o : Nat) (a b : Ps) : btw (x :: X) o a b = (x.ahead o b - x.ahead o a) + btw X o a b := rfl
theorem btw_append (X Y : List Ld) (o : Nat) (a b : Ps) : btw (X ++ Y) o a b = btw X o a b + btw Y o a b := by unfold btw; rw [List.map_append, List.sum_append_nat]
theorem tot_append (X Y : List Ld) (o : Nat) : tot (X ++ Y) o = tot X o + tot Y o := by unfold tot; rw [List.map_append, List.sum_append_nat]
theorem btw_le_tot (X : List Ld) (o : Nat) (a b : Ps) : btw X o a b ≤ tot X o := by
  induction X with
  | nil => exact Nat.le_refl _
  | cons x X ih =>
    rw [btw_cons]
    show _ ≤ x.size o + tot X o
    have := x.ahead_le o b
    omega
theorem btw_take {X : List Ld} {k : Nat} (o : Nat) (a b : Ps) (hk : k < X.length) : btw (X.take (k + 1)) o a b = btw (X.take k) o a b + ((X.getD k default).ahead o b - (X.getD k default).ahead o a) := by
  have e : X.getD k default = X[k] := by simp [hk]
  rw [e, List.take_succ_eq_append_getElem hk, btw_append]
  simp [btw]
theorem tot_take {X : List Ld} {k : Nat} (o : Nat) (hk : k < X.length) : tot (X.take (k + 1)) o = tot (X.take k) o + (X.getD k default).size o := by
  have e : X.getD k default = X[k] := by simp [hk]
  rw [e, List.take_succ_eq_append_getElem hk, tot_append]
  simp [tot]
theorem tot_take_le (X : List Ld) (o k : Nat) : tot (X.take k) o ≤ tot X o := by
  have h : tot (X.take k ++ X.drop k) o = tot X o := by rw [List.take_append_drop]
  rw [tot_append] at h
  omega
theorem size_le_tot {X : List Ld} {k : Nat} (o : Nat) (hk : k < X.length) : (X.getD k default).size o ≤ tot X o := by
  have := tot_take o hk
  have := tot_take_le X o (k + 1)
  omega
theorem btw_add (X : List Ld) (o : Nat) {a b c : Ps} (h : ¬ b.lt a) (k : ¬ c.lt b) : btw X o a b + btw X o b c = btw X o a c := by
  induction X with
  | nil => rfl
  | cons x X ih =>
    rw [btw_cons, btw_cons, btw_cons]
    have := x.ahead_mono o h
    have := x.ahead_mono o k
    omega
theorem btw_back (X : List Ld) (o : Nat) {a c : Ps} (h : ¬ c.lt a) : btw X o c a = 0 := by
  induction X with
  | nil => rfl
  | cons x X ih =>
    rw [btw_cons, ih]
    have := x.ahead_mono o h
    omega
theorem tot_le' {X : List Ld} {o M : Nat} (h : RtLd X) (ho : o ≤ M) (hM : 1048576 ≤ M) : tot X o ≤ X.length * M := by
  have key : ∀ k, k ≤ X.length → tot (X.take k) o ≤ k * M := by
    intro k
    induction k with
    | zero => intro _; simp [tot]
    | succ k ih =>
      intro hk
      rw [tot_take o (by omega)]
      have h1 := ih (by omega)
      have h2 := (h.2 k (by omega)).2.1
      have h3 : (X.getD k default).size o ≤ M := by unfold Ld.size; split <;> omega
      rw [Nat.succ_mul]
      omega
  have h1 := key X.length (Nat.le_refl _)
  rwa [List.take_length] at h1
theorem tot_le {X : List Ld} {o : Nat} (h : RtLd X) (ho : o ≤ 1099511627776) : tot X o ≤ 70368744177664 := by
  have h1 := tot_le' h ho (by omega)
  have h2 : X.length * 1099511627776 ≤ 64 * 1099511627776 := Nat.mul_le_mul_right _ h.1
  omega

/-- The first entry from a place on. -/
def nextP (X : List Ld) (o : Nat) (p : Ps) : Option Ps := match X with
  | [] => none
  | x :: X => if x.ahead o p < x.size o then some ⟨x.id, x.ahead o p⟩ else nextP X o p
/-- Behind all. -/
def endP (X : List Ld) (o : Nat) : Ps := match X.getLast? with
  | none => ⟨0, 0⟩
  | some x => ⟨x.id, x.size o⟩
/-- What Next answers. -/
def nextV (X : List Ld) (o : Nat) (p : Ps) : Ps × Bool := match nextP X o p with
  | some q => (q, true)
  | none => (endP X o, false)
theorem nextP_at {X : List Ld} {o : Nat} {p : Ps} {k : Nat} (hk : k < X.length) (h : ∀ i, i < k → ¬ (X.getD i default).ahead o p < (X.getD i default).size o) (h1 : (X.getD k default).ahead o p < (X.getD k default).size o) :
    nextP X o p = some ⟨(X.getD k default).id, (X.getD k default).ahead o p⟩ := by
  induction X generalizing k with
  | nil => simp at hk
  | cons x X ih =>
    unfold nextP
    rcases k with _ | k
    · simp only [List.getD_cons_zero] at h1 ⊢
      rw [if_pos h1]
    · rw [if_neg (by have := h 0 (by omega); simpa using this)]
      simp only [List.getD_cons_succ] at h1 ⊢
      exact ih (by simpa using hk) (fun i hi => by have := h (i + 1) (by omega); simpa using this) h1
theorem nextP_none {X : List Ld} {o : Nat} {p : Ps} (h : ∀ i, i < X.length → ¬ (X.getD i default).ahead o p < (X.getD i default).size o) : nextP X o p = none := by
  induction X with
  | nil => rfl
  | cons x X ih =>
    unfold nextP
    rw [if_neg (by have := h 0 (by simp); simpa using this)]
    exact ih (fun i hi => by have := h (i + 1) (by simpa using hi); simpa using this)
theorem nextP_some {X : List Ld} {o : Nat} {p q : Ps} (h : nextP X o p = some q) : ∃ k, k < X.length ∧ (∀ i, i < k → ¬ (X.getD i default).ahead o p < (X.getD i default).size o) ∧ (X.getD k default).ahead o p < (X.getD k default).size o ∧ q = ⟨(X.getD k default).id, (X.getD k default).ahead o p⟩ := by
  induction X with
  | nil => cases h
  | cons x X ih =>
    unfold nextP at h
    by_cases hc : x.ahead o p < x.size o
    · rw [if_pos hc] at h
      injection h with h
      exact ⟨0, by simp, fun i hi => by omega, by simpa using hc, by simpa using h.symm⟩
    · rw [if_neg hc] at h
      obtain ⟨k, h1, h2, h3, h4⟩ := ih h
      refine ⟨k + 1, by simpa using h1, fun i hi => ?_, by simpa using h3, by simpa using h4⟩
      rcases i with _ | i
      · simpa using hc
      · simpa using h2 i (by omega)
theorem nextP_none' {X : List Ld} {o : Nat} {p : Ps} (h : nextP X o p = none) : ∀ i, i < X.length → ¬ (X.getD i default).ahead o p < (X.getD i default).size o := by
  intro i hi hc
  -- the first such one would be answered
  have : ∃ k, k < X.length ∧ (∀ j, j < k → ¬ (X.getD j default).ahead o p < (X.getD j default).size o) ∧ (X.getD k default).ahead o p < (X.getD k default).size o := by
    induction i using Nat.strongRecOn with
    | _ i ih =>
      by_cases hh : ∃ j, j < i ∧ (X.getD j default).ahead o p < (X.getD j default).size o
      · obtain ⟨j, hj, hjc⟩ := hh
        exact ih j hj (by omega) hjc
      · exact ⟨i, hi, fun j hj hjc => hh ⟨j, hj, hjc⟩, hc⟩
  obtain ⟨k, h1, h2, h3⟩ := this
  rw [nextP_at h1 h2 h3] at h
  cases h
/-- An entry at or behind the place is answered. -/
theorem nextP_ge {X : List Ld} {o : Nat} {p q : Ps} (h : nextP X o p = some q) : ¬ q.lt p := by
  obtain ⟨k, h1, h2, h3, rfl⟩ := nextP_some h
  intro hlt
  have := ((X.getD k default).lt_ahead o p (k := (X.getD k default).ahead o p) h3).2 hlt
  omega

/-- All places. -/
def allP (X : List Ld) (o : Nat) : List Ps := X.flatMap fun x => (List.range (x.size o)).map fun k => ⟨x.id, k⟩
theorem allP_cons (x : Ld) (X : List Ld) (o : Nat) : allP (x :: X) o = ((List.range (x.size o)).map fun k => ⟨x.id, k⟩) ++ allP X o := rfl
theorem allP_append (X Y : List Ld) (o : Nat) : allP (X ++ Y) o = allP X o ++ allP Y o := by unfold allP; rw [List.flatMap_append]
theorem allP_take {X : List Ld} {k : Nat} (o : Nat) (hk : k < X.length) : allP (X.take (k + 1)) o = allP (X.take k) o ++ ((List.range ((X.getD k default).size o)).map fun j => ⟨(X.getD k default).id, j⟩) := by
  have e : X.getD k default = X[k] := by simp [hk]
  rw [e, List.take_succ_eq_append_getElem hk, allP_append]
  simp [allP]
theorem allP_length (X : List Ld) (o : Nat) : (allP X o).length = tot X o := by
  induction X with
  | nil => rfl
  | cons x X ih => rw [allP_cons, List.length_append, ih]; simp [tot]
theorem find_range {n m : Nat} {f : Nat → Ps} {P : Ps → Bool} (h : ∀ k, k < n → (P (f k) = true ↔ m ≤ k)) : ((List.range n).map f).find? P = if m < n then some (f m) else none := by
  split
  · rename_i hm
    rw [List.find?_eq_some_iff_append]
    refine ⟨(h m hm).2 (Nat.le_refl _), (List.range m).map f, (List.range' (m + 1) (n - m - 1)).map f, ?_, fun a ha => ?_⟩
    · rw [← List.map_cons, ← List.map_append]
      congr 1
      obtain ⟨r, rfl⟩ : ∃ r, n = m + (r + 1) := ⟨n - m - 1, by omega⟩
      rw [List.range_eq_range', List.range_eq_range', ← List.range'_append_1, List.range'_succ, show m + (r + 1) - m - 1 = r by omega, Nat.zero_add]
    · simp only [List.mem_map, List.mem_range] at ha
      obtain ⟨k, hk, rfl⟩ := ha
      have := h k (by omega)
      cases hP : P (f k)
      · rfl
      · have := this.1 hP; omega
  · rw [List.find?_eq_none]
    intro a ha
    simp only [List.mem_map, List.mem_range] at ha
    obtain ⟨k, hk, rfl⟩ := ha
    intro hP
    have := (h k hk).1 hP
    omega
/-- The document's way: entry by entry. -/
theorem nextP_find (X : List Ld) (o : Nat) (p : Ps) : (allP X o).find? (fun q => decide (¬ q.lt p)) = nextP X o p := by
  induction X with
  | nil => rfl
  | cons x X ih =>
    rw [allP_cons, List.find?_append, ih]
    rw [find_range (m := x.ahead o p) (fun k hk => by rw [decide_eq_true_iff, ← x.lt_ahead o p hk]; omega)]
    conv => rhs; unfold nextP
    split <;> simp
theorem count_range {n m1 m2 : Nat} {f : Nat → Ps} {P : Ps → Bool} (h : ∀ k, k < n → (P (f k) = true ↔ m1 ≤ k ∧ k < m2)) (h2 : m2 ≤ n) : ((List.range n).map f).countP P = m2 - m1 := by
  rw [List.countP_map]
  have e : (List.range n).countP (P ∘ f) = (List.range n).countP (fun k => decide (m1 ≤ k ∧ k < m2)) := by
    apply List.countP_congr
    intro k hk
    simp only [Function.comp, decide_eq_true_iff]
    exact h k (List.mem_range.1 hk)
  rw [e]
  clear e h
  induction n generalizing m2 with
  | zero => simp; omega
  | succ n ih =>
    rw [List.range_succ, List.countP_append]
    rcases Nat.lt_or_ge n m2 with h3 | h3
    · have e : (List.range n).countP (fun k => decide (m1 ≤ k ∧ k < m2)) = (List.range n).countP (fun k => decide (m1 ≤ k ∧ k < n)) := by
        apply List.countP_congr
        intro k hk
        have := List.mem_range.1 hk
        simp only [decide_eq_true_iff]
        omega
      rw [e, ih (Nat.le_refl _)]
      by_cases h4 : m1 ≤ n
      · rw [show [n].countP (fun k => decide (m1 ≤ k ∧ k < m2)) = 1 by simp [h4, h3]]; omega
      · rw [show [n].countP (fun k => decide (m1 ≤ k ∧ k < m2)) = 0 by simp; omega]; omega
    · rw [ih h3, show [n].countP (fun k => decide (m1 ≤ k ∧ k < m2)) = 0 by simp; omega]; omega
theorem btw_count (X : List Ld) (o : Nat) (a b : Ps) : (allP X o).countP (fun q => decide (¬ q.lt a ∧ q.lt b)) = btw X o a b := by
  induction X with
  | nil => rfl
  | cons x X ih =>
    rw [allP_cons, List.countP_append, ih, btw_cons]
    congr 1
    exact count_range (fun k hk => by
      rw [decide_eq_true_iff, ← x.lt_ahead o a hk, ← x.lt_ahead o b hk]; omega) (x.ahead_le o b)

/-- Trimmed: what goes. -/
def goesL (p : Ps) (x : Ld) : Bool := x.cl && decide (¬ p.lt ⟨x.id, x.n⟩)
def trimL (X : List Ld) (p : Ps) : List Ld := X.dropWhile (goesL p)
/-- The place behind one. -/
def behindP (p : Ps) : Ps := if p.e = 18446744073709551615 then ⟨(p.l + 1) % 18446744073709551616, 0⟩ else ⟨p.l, p.e + 1⟩
end Go.Proofs.Ytimmoencmmpkdaa
