/- Contracts and mathematics that the proofs of this seat stand on: LdMath, LdMath2, CuMath, LdBase, LdCheck, EqLd, LdSame, LdOrder, LdTrim, EqPs, LdRefO, CuOf, LdRefA, CuHold, CuHoldM, CqFind, CqConcat, CqAcked, LdNext. -/
import Derived.Test.YtghadpihmhaepaaMA
import Derived.WalkKit
import Derived.Deep.LoopGhost
import Derived.Deep.QuietTactic
import Derived.BigQuiet
import Derived.Outline
import Derived.IntWalk
import Derived.Lib.Hide
import Derived.Lib.QuietBelow
import Derived.Deep.RegionHeld3
import Derived.Laws.Rows
import Derived.RegionTactic
import Derived.BigRegion
import Derived.Laws.StructEq
import Derived.Deep.RegionWith
import Derived.Deep.DeepCutAuto
import Derived.Lib.SliceRun
import Derived.Lib.AppendZerosOnto
import Derived.Lib.Walk
/- Ledgers in a row, as plain data: right ones, how many entries are ahead of a place, all places, the first one from a place on, between two, trimmed. It speaks of no program. -/
namespace Go.Proofs.Ytghadpihmhaepaa
open Go.RowKit

/-- How many entries it has. -/
def Ld.size (x : Ld) (o : Nat) : Nat := if x.cl then x.n else o
/-- a ahead of b. -/
def Ps.lt (a b : Ps) : Prop := a.l < b.l ∨ a.l = b.l ∧ a.e < b.e
instance (a b : Ps) : Decidable (a.lt b) := inferInstanceAs (Decidable (_ ∨ _))
/-- Order's answer. -/
def ordP (a b : Ps) : Int := if a.lt b then -1 else if b.lt a then 1 else 0
theorem ordP_neg {a b : Ps} : ordP a b < 0 ↔ a.lt b := by
  unfold ordP
  split
  · simp_all
  · split <;> simp_all
theorem ordP_pos {a b : Ps} : 0 < ordP a b ↔ b.lt a := by
  unfold ordP
  split
  · rename_i h
    simp only [Int.reduceNeg, Int.reduceLT, false_iff]
    unfold Ps.lt at *; omega
  · split <;> simp_all
theorem ordP_le {a b : Ps} : ordP a b ≤ 0 ↔ ¬ b.lt a := by rw [← ordP_pos]; omega
theorem ordP_ge {a b : Ps} : 0 ≤ ordP a b ↔ ¬ a.lt b := by rw [← ordP_neg]; omega
theorem Ps.lt_trans {a b c : Ps} (h : a.lt b) (k : b.lt c) : a.lt c := by unfold Ps.lt at *; omega
theorem Ps.lt_irrefl (a : Ps) : ¬ a.lt a := by unfold Ps.lt; omega
theorem Ps.ext' {a b : Ps} (h : a.l = b.l) (k : a.e = b.e) : a = b := by cases a; cases b; simp_all
theorem Ps.tri {a b : Ps} (h : ¬ a.lt b) (k : ¬ b.lt a) : a = b := by
  apply Ps.ext' <;> (unfold Ps.lt at *; omega)

/-- How many of its entries are ahead of a place. -/
def Ld.ahead (x : Ld) (o : Nat) (p : Ps) : Nat := if x.id < p.l then x.size o else if x.id = p.l then min (x.size o) p.e else 0
theorem Ld.ahead_le (x : Ld) (o : Nat) (p : Ps) : x.ahead o p ≤ x.size o := by
  unfold Ld.ahead
  split
  · omega
  · split <;> omega
/-- An entry of it is ahead of a place just if its number is below that. -/
theorem Ld.lt_ahead (x : Ld) (o : Nat) (p : Ps) {k : Nat} (hk : k < x.size o) : k < x.ahead o p ↔ (Ps.mk x.id k).lt p := by
  unfold Ld.ahead Ps.lt
  simp only
  split
  · exact ⟨fun _ => .inl ‹_›, fun _ => hk⟩
  · split
    · constructor
      · intro h; right; omega
      · intro h; omega
    · constructor
      · intro h; omega
      · intro h; omega

/-- Right ledgers. -/
def RtTo9 (X : List Ld) (k : Nat) : Prop := ∀ i, i < k → (X.getD i default).id ≠ 0 ∧ (X.getD i default).n ≤ 1048576 ∧ (0 < i → (X.getD (i - 1) default).id < (X.getD i default).id) ∧ ((X.getD i default).cl = false → i + 1 = X.length ∧ (X.getD i default).n = 0)
def RtLd (X : List Ld) : Prop := X.length ≤ 64 ∧ RtTo9 X X.length
/-- One after the other. -/
theorem RtTo9.next {X : List Ld} {k : Nat} (h : RtTo9 X k) (h1 : (X.getD k default).id ≠ 0) (h2 : (X.getD k default).n ≤ 1048576) (h3 : 0 < k → (X.getD (k - 1) default).id < (X.getD k default).id) (h4 : (X.getD k default).cl = false → k + 1 = X.length ∧ (X.getD k default).n = 0) : RtTo9 X (k + 1) := by
  intro i hi
  rcases Nat.lt_or_eq_of_le (Nat.le_of_lt_succ hi) with h5 | rfl
  · exact h i h5
  · exact ⟨h1, h2, h3, h4⟩
theorem RtLd.rise {X : List Ld} (h : RtLd X) {i j : Nat} (hij : i < j) (hj : j < X.length) : (X.getD i default).id < (X.getD j default).id := by
  induction j with
  | zero => omega
  | succ j ih =>
    have h1 := (h.2 (j + 1) hj).2.2.1 (by omega)
    rw [Nat.add_sub_cancel] at h1
    rcases Nat.lt_or_eq_of_le (Nat.le_of_lt_succ hij) with h2 | rfl
    · exact Nat.lt_trans (ih h2 (by omega)) h1
    · exact h1

/-- Between two places. -/
def btw (X : List Ld) (o : Nat) (a b : Ps) : Nat := (X.map fun x => x.ahead o b - x.ahead o a).sum
def tot (X : List Ld) (o : Nat) : Nat := (X.map fun x => x.size o).sum
theorem btw_cons (x : Ld) (X : List Ld) (o : Nat) (a b : Ps) : btw (x :: X) o a b = (x.ahead o b - x.ahead o a) + btw X o a b := rfl
theorem btw_append (X Y : List Ld) (o : Nat) (a b : Ps) : btw (X ++ Y) o a b = btw X o a b + btw Y o a b := by unfold btw; rw [List.map_append, List.sum_append_nat]
theorem tot_append (X Y : List Ld) (o : Nat) : tot (X ++ Y) o = tot X o + tot Y o := by unfold tot; rw [List.map_append, List.sum_append_nat]
theorem btw_le_tot (X : List Ld) (o : Nat) (a b : Ps) : btw X o a b ≤ tot X o := by
  induction X with
  | nil => exact Nat.le_refl _
  | cons x X ih =>
    rw [btw_cons]
    show _ ≤ x.size o + tot X o
    have := x.ahead_le o b
    omega
theorem btw_take {X : List Ld} {k : Nat} (o : Nat) (a b : Ps) (hk : k < X.length) : btw (X.take (k + 1)) o a b = btw (X.take k) o a b + ((X.getD k default).ahead o b - (X.getD k default).ahead o a) := by
  have e : X.getD k default = X[k] := by simp [hk]
  rw [e, List.take_succ_eq_append_getElem hk, btw_append]
  simp [btw]
theorem tot_take {X : List Ld} {k : Nat} (o : Nat) (hk : k < X.length) : tot (X.take (k + 1)) o = tot (X.take k) o + (X.getD k default).size o := by
  have e : X.getD k default = X[k] := by simp [hk]
  rw [e, List.take_succ_eq_append_getElem hk, tot_append]
  simp [tot]
theorem tot_take_le (X : List Ld) (o k : Nat) : tot (X.take k) o ≤ tot X o := by
  have h : tot (X.take k ++ X.drop k) o = tot X o := by rw [List.take_append_drop]
  rw [tot_append] at h
  omega
theorem size_le_tot {X : List Ld} {k : Nat} (o : Nat) (hk : k < X.length) : (X.getD k default).size o ≤ tot X o := by
  have := tot_take o hk
  have := tot_take_le X o (k + 1)
  omega
/-- The first entry from a place on. -/
def nextP (X : List Ld) (o : Nat) (p : Ps) : Option Ps := match X with
  | [] => none
  | x :: X => if x.ahead o p < x.size o then some ⟨x.id, x.ahead o p⟩ else nextP X o p
/-- Behind all. -/
def endP (X : List Ld) (o : Nat) : Ps := match X.getLast? with
  | none => ⟨0, 0⟩
  | some x => ⟨x.id, x.size o⟩
/-- What Next answers. -/
def nextV (X : List Ld) (o : Nat) (p : Ps) : Ps × Bool := match nextP X o p with
  | some q => (q, true)
  | none => (endP X o, false)
theorem nextP_at {X : List Ld} {o : Nat} {p : Ps} {k : Nat} (hk : k < X.length) (h : ∀ i, i < k → ¬ (X.getD i default).ahead o p < (X.getD i default).size o) (h1 : (X.getD k default).ahead o p < (X.getD k default).size o) :
    nextP X o p = some ⟨(X.getD k default).id, (X.getD k default).ahead o p⟩ := by
  induction X generalizing k with
  | nil => simp at hk
  | cons x X ih =>
    unfold nextP
    rcases k with _ | k
    · simp only [List.getD_cons_zero] at h1 ⊢
      rw [if_pos h1]
    · rw [if_neg (by have := h 0 (by omega); simpa using this)]
      simp only [List.getD_cons_succ] at h1 ⊢
      exact ih (by simpa using hk) (fun i hi => by have := h (i + 1) (by omega); simpa using this) h1
theorem nextP_none {X : List Ld} {o : Nat} {p : Ps} (h : ∀ i, i < X.length → ¬ (X.getD i default).ahead o p < (X.getD i default).size o) : nextP X o p = none := by
  induction X with
  | nil => rfl
  | cons x X ih =>
    unfold nextP
    rw [if_neg (by have := h 0 (by simp); simpa using this)]
    exact ih (fun i hi => by have := h (i + 1) (by simpa using hi); simpa using this)
theorem nextP_some {X : List Ld} {o : Nat} {p q : Ps} (h : nextP X o p = some q) : ∃ k, k < X.length ∧ (∀ i, i < k → ¬ (X.getD i default).ahead o p < (X.getD i default).size o) ∧ (X.getD k default).ahead o p < (X.getD k default).size o ∧ q = ⟨(X.getD k default).id, (X.getD k default).ahead o p⟩ := by
  induction X with
  | nil => cases h
  | cons x X ih =>
    unfold nextP at h
    by_cases hc : x.ahead o p < x.size o
    · rw [if_pos hc] at h
      injection h with h
      exact ⟨0, by simp, fun i hi => by omega, by simpa using hc, by simpa using h.symm⟩
    · rw [if_neg hc] at h
      obtain ⟨k, h1, h2, h3, h4⟩ := ih h
      refine ⟨k + 1, by simpa using h1, fun i hi => ?_, by simpa using h3, by simpa using h4⟩
      rcases i with _ | i
      · simpa using hc
      · simpa using h2 i (by omega)
/-- An entry at or behind the place is answered. -/
theorem nextP_ge {X : List Ld} {o : Nat} {p q : Ps} (h : nextP X o p = some q) : ¬ q.lt p := by
  obtain ⟨k, h1, h2, h3, rfl⟩ := nextP_some h
  intro hlt
  have := ((X.getD k default).lt_ahead o p (k := (X.getD k default).ahead o p) h3).2 hlt
  omega

/-- All places. -/
def allP (X : List Ld) (o : Nat) : List Ps := X.flatMap fun x => (List.range (x.size o)).map fun k => ⟨x.id, k⟩
theorem allP_cons (x : Ld) (X : List Ld) (o : Nat) : allP (x :: X) o = ((List.range (x.size o)).map fun k => ⟨x.id, k⟩) ++ allP X o := rfl
theorem allP_append (X Y : List Ld) (o : Nat) : allP (X ++ Y) o = allP X o ++ allP Y o := by unfold allP; rw [List.flatMap_append]
theorem allP_take {X : List Ld} {k : Nat} (o : Nat) (hk : k < X.length) : allP (X.take (k + 1)) o = allP (X.take k) o ++ ((List.range ((X.getD k default).size o)).map fun j => ⟨(X.getD k default).id, j⟩) := by
  have e : X.getD k default = X[k] := by simp [hk]
  rw [e, List.take_succ_eq_append_getElem hk, allP_append]
  simp [allP]
theorem allP_length (X : List Ld) (o : Nat) : (allP X o).length = tot X o := by
  induction X with
  | nil => rfl
  | cons x X ih => rw [allP_cons, List.length_append, ih]; simp [tot]
theorem find_range {n m : Nat} {f : Nat → Ps} {P : Ps → Bool} (h : ∀ k, k < n → (P (f k) = true ↔ m ≤ k)) : ((List.range n).map f).find? P = if m < n then some (f m) else none := by
  split
  · rename_i hm
    rw [List.find?_eq_some_iff_append]
    refine ⟨(h m hm).2 (Nat.le_refl _), (List.range m).map f, (List.range' (m + 1) (n - m - 1)).map f, ?_, fun a ha => ?_⟩
    · rw [← List.map_cons, ← List.map_append]
      congr 1
      obtain ⟨r, rfl⟩ : ∃ r, n = m + (r + 1) := ⟨n - m - 1, by omega⟩
      rw [List.range_eq_range', List.range_eq_range', ← List.range'_append_1, List.range'_succ, show m + (r + 1) - m - 1 = r by omega, Nat.zero_add]
    · simp only [List.mem_map, List.mem_range] at ha
      obtain ⟨k, hk, rfl⟩ := ha
      have := h k (by omega)
      cases hP : P (f k)
      · rfl
      · have := this.1 hP; omega
  · rw [List.find?_eq_none]
    intro a ha
    simp only [List.mem_map, List.mem_range] at ha
    obtain ⟨k, hk, rfl⟩ := ha
    intro hP
    have := (h k hk).1 hP
    omega
/-- The document's way: entry by entry. -/
theorem nextP_find (X : List Ld) (o : Nat) (p : Ps) : (allP X o).find? (fun q => decide (¬ q.lt p)) = nextP X o p := by
  induction X with
  | nil => rfl
  | cons x X ih =>
    rw [allP_cons, List.find?_append, ih]
    rw [find_range (m := x.ahead o p) (fun k hk => by rw [decide_eq_true_iff, ← x.lt_ahead o p hk]; omega)]
    conv => rhs; unfold nextP
    split <;> simp
theorem count_range {n m1 m2 : Nat} {f : Nat → Ps} {P : Ps → Bool} (h : ∀ k, k < n → (P (f k) = true ↔ m1 ≤ k ∧ k < m2)) (h2 : m2 ≤ n) : ((List.range n).map f).countP P = m2 - m1 := by
  rw [List.countP_map]
  have e : (List.range n).countP (P ∘ f) = (List.range n).countP (fun k => decide (m1 ≤ k ∧ k < m2)) := by
    apply List.countP_congr
    intro k hk
    simp only [Function.comp, decide_eq_true_iff]
    exact h k (List.mem_range.1 hk)
  rw [e]
  clear e h
  induction n generalizing m2 with
  | zero => simp; omega
  | succ n ih =>
    rw [List.range_succ, List.countP_append]
    rcases Nat.lt_or_ge n m2 with h3 | h3
    · have e : (List.range n).countP (fun k => decide (m1 ≤ k ∧ k < m2)) = (List.range n).countP (fun k => decide (m1 ≤ k ∧ k < n)) := by
        apply List.countP_congr
        intro k hk
        have := List.mem_range.1 hk
        simp only [decide_eq_true_iff]
        omega
      rw [e, ih (Nat.le_refl _)]
      by_cases h4 : m1 ≤ n
      · rw [show [n].countP (fun k => decide (m1 ≤ k ∧ k < m2)) = 1 by simp [h4, h3]]; omega
      · rw [show [n].countP (fun k => decide (m1 ≤ k ∧ k < m2)) = 0 by simp; omega]; omega
    · rw [ih h3, show [n].countP (fun k => decide (m1 ≤ k ∧ k < m2)) = 0 by simp; omega]; omega
theorem btw_count (X : List Ld) (o : Nat) (a b : Ps) : (allP X o).countP (fun q => decide (¬ q.lt a ∧ q.lt b)) = btw X o a b := by
  induction X with
  | nil => rfl
  | cons x X ih =>
    rw [allP_cons, List.countP_append, ih, btw_cons]
    congr 1
    exact count_range (fun k hk => by
      rw [decide_eq_true_iff, ← x.lt_ahead o a hk, ← x.lt_ahead o b hk]; omega) (x.ahead_le o b)

/-- Trimmed: what goes. -/
def goesL (p : Ps) (x : Ld) : Bool := x.cl && decide (¬ p.lt ⟨x.id, x.n⟩)
def trimL (X : List Ld) (p : Ps) : List Ld := X.dropWhile (goesL p)
/-- The place behind one. -/
def behindP (p : Ps) : Ps := if p.e = 18446744073709551615 then ⟨(p.l + 1) % 18446744073709551616, 0⟩ else ⟨p.l, p.e + 1⟩
end Go.Proofs.Ytghadpihmhaepaa
/- Ledgers in a row: from place to place; what trimming leaves. It speaks of no program. -/
namespace Go.Proofs.Ytghadpihmhaepaa
open Go.RowKit

/-- The place behind all places. -/
def farP : Ps := ⟨18446744073709551615, 18446744073709551615⟩
theorem Ld.size_lt {x : Ld} (hx : x.fits) {o : Nat} (ho : o < 18446744073709551616) : x.size o < 18446744073709551616 := by
  unfold Ld.size
  split
  · exact hx.2
  · exact ho
theorem ld_fits_at {X : List Ld} (h : ∀ x ∈ X, x.fits) (i : Nat) : (X.getD i default).fits := by
  rcases Nat.lt_or_ge i X.length with h1 | h1
  · have e : X.getD i default = X[i] := by simp [h1]
    rw [e]; exact h _ (List.getElem_mem h1)
  · have e : X.getD i default = default := by simp [Nat.not_lt.2 h1]
    rw [e]; exact ⟨by decide, by decide⟩
/-- How many go. -/
def goesN (X : List Ld) (p : Ps) : Nat := (X.takeWhile (goesL p)).length
theorem RtLd.drop {X : List Ld} (h : RtLd X) (k : Nat) : RtLd (X.drop k) := by
  refine ⟨by rw [List.length_drop]; have := h.1; omega, fun i hi => ?_⟩
  rw [List.length_drop] at hi
  have e : ∀ j, (X.drop k).getD j default = X.getD (k + j) default := fun j => by
    rw [List.getD_eq_getElem?_getD, List.getD_eq_getElem?_getD, List.getElem?_drop]
  obtain ⟨h1, h2, h3, h4⟩ := h.2 (k + i) (by omega)
  rw [e, e, List.length_drop]
  refine ⟨h1, h2, fun h0 => ?_, fun hc => ?_⟩
  · have := h3 (by omega)
    rwa [show k + i - 1 = k + (i - 1) by omega] at this
  · have := h4 hc
    exact ⟨by omega, this.2⟩
end Go.Proofs.Ytghadpihmhaepaa
/- Cursors as plain data. It speaks of no program. -/
namespace Go.Proofs.Ytghadpihmhaepaa
open Go.RowKit

abbrev Hel := Nat × List Rg
/-- A cursor. -/
structure Crs where
  mark : Ps := {}
  held : List Hel := []
/-- What is held of a ledger. -/
def ofH (H : List Hel) (led : Nat) : List Rg := match H.find? (fun h => decide (h.1 = led)) with
  | some h => h.2
  | none => []
theorem hels_getD (X : List Hx) (i : Nat) : (hels X).getD i default = (X.getD i default).t := by
  unfold hels
  rw [List.getD_eq_getElem?_getD, List.getD_eq_getElem?_getD, List.getElem?_map]
  cases X[i]? <;> rfl
theorem ofH_at {H : List Hel} {led k : Nat} (hk : k < H.length) (h1 : ∀ j, j < k → (H.getD j default).1 ≠ led) (h2 : (H.getD k default).1 = led) : ofH H led = (H.getD k default).2 := by
  induction H generalizing k with
  | nil => simp at hk
  | cons h H ih =>
    unfold ofH
    rcases k with _ | k
    · simp only [List.getD_cons_zero] at h2 ⊢
      rw [List.find?_cons_of_pos (by simpa using h2)]
    · have h3 := h1 0 (by omega)
      simp only [List.getD_cons_zero] at h3
      rw [List.find?_cons_of_neg (by simpa using h3)]
      simp only [List.getD_cons_succ] at h2 ⊢
      exact ih (by simpa using hk) (fun j hj => by have := h1 (j + 1) (by omega); simpa using this) h2
theorem ofH_none {H : List Hel} {led : Nat} (h1 : ∀ j, j < H.length → (H.getD j default).1 ≠ led) : ofH H led = [] := by
  induction H with
  | nil => rfl
  | cons h H ih =>
    unfold ofH
    have h3 := h1 0 (by simp)
    simp only [List.getD_cons_zero] at h3
    rw [List.find?_cons_of_neg (by simpa using h3)]
    exact ih (fun j hj => by have := h1 (j + 1) (by simpa using hj); simpa using this)
/-- Acked. -/
def ackedC (c : Crs) (p : Ps) : Prop := p.lt c.mark ∨ Mem (ofH c.held p.l) p.e
/-- Right, one by one. -/
def RtH1 (m : Ps) (H : List Hel) (i : Nat) : Prop := (H.getD i default).2 ≠ [] ∧ RtI (H.getD i default).2 ∧ (0 < i → (H.getD (i - 1) default).1 < (H.getD i default).1) ∧ ¬ (Ps.mk (H.getD i default).1 ((H.getD i default).2.getD 0 (0, 0)).1).lt m
def RtC (c : Crs) : Prop := ∀ i, i < c.held.length → RtH1 c.mark c.held i
end Go.Proofs.Ytghadpihmhaepaa
/- Package ledgers: contracts of size, last, endsOpen; cmp.Compare, cmp.Or, Order. -/
namespace Go.Proofs.Ytghadpihmhaepaa
open Go.RowKit
set_option maxRecDepth 100000

/-- The same world but for new blocks. -/
def LRet (w : World) (v : Value) (e : Ending) (w' : World) : Prop := e = .returned v ∧ Frm [] w w'
theorem ldsize_any (x : Ld) (o : Nat) (w : World) : Calls Try.prog 80 #[x.val, .int .u64 (o : Nat)] w (LRet w (.int .u64 (x.size o : Nat))) := by
  obtain ⟨i, c, n⟩ := x
  unfold Ld.val Ld.size LRet
  have HF : Hid (Frm [] w (w.alloc (.cells #[.int .u64 (i : Nat), .bool c, .int .u64 (n : Nat)] 69))) := (Frm.refl _ _).alloc _
  cases c
  · go_enter Try.func80, Try.ntmps80
    go_wp2
    go_ret
    exact ⟨rfl, HF.out⟩
  · go_enter Try.func80, Try.ntmps80
    go_wp2
    go_ret
    exact ⟨rfl, HF.out⟩
/-- The last one; a zero one, if there is none. -/
def lastL (X : List Ld) : Ld := X.getD (X.length - 1) default
theorem ldlast_any (a : Option Addr) (n cap : Nat) (X : List Ld) (w : World) (h : LdL w [] a X) (hn : n = X.length) (hsz : n < 4611686018427387904) : Calls Try.prog 81 #[.slice a n cap] w (LRet w (lastL X).val) := by
  have HF : Hid (Frm [] w (w.alloc (.cells #[.int .u64 0, .bool false, .int .u64 0] 69))) := (Frm.refl _ _).alloc _
  rcases Nat.eq_zero_or_pos n with h0 | h0
  · have hX : X = [] := List.eq_nil_of_length_eq_zero (by omega)
    subst hX
    subst h0
    clear h hn
    go_enter Try.func81, Try.ntmps81
    go_wp2
    refine bodyPost_ret (results_cell_row (P := Try.prog) rfl _ _ w.heap.size _ _ _ _ rfl (heap_alloc_new w _) Try.underlying69 rfl (by kernel_rfl)) rfl ?_
    exact ⟨rfl, (Frm.refl _ _).alloc _⟩
  · obtain ⟨k, rfl⟩ : ∃ k, n = k + 1 := ⟨n - 1, by omega⟩
    have hh := h.sub HF.out
    obtain ⟨b, off, rfl, d0, d1, d2, _⟩ := hh.at (i := k) (by omega)
    have e : X.getD k default = lastL X := by unfold lastL; rw [← hn, Nat.add_sub_cancel]
    rw [e] at d0 d1 d2
    generalize lastL X = x at d0 d1 d2 ⊢
    obtain ⟨i, c, m⟩ := x
    unfold Ld.val LRet
    simp only at d0 d1 d2 ⊢
    have e1 : ((k + 1 : Nat) : Int) - 1 = (k : Nat) := by omega
    have e2 : (((k + 1 : Nat) : Int) == 0) = false := by rw [beq_eq_false_iff_ne]; omega
    clear h hn hh e h0
    go_enter Try.func81, Try.ntmps81
    go_wp2
    refine bodyPost_ret (results_cell_row (P := Try.prog) rfl _ _ w.heap.size _ _ _ _ rfl (heap_alloc_new w _) Try.underlying69 rfl (by kernel_rfl)) rfl ?_
    exact ⟨rfl, (Frm.refl _ _).alloc _⟩
theorem ldfld0 (a b c : Value) (w : World) : (Instr.field 69 (.agg #[a, b, c]) 0).run Try.prog w = .ok a w := by kernel_rfl
theorem ldnan_any {w : World} (a : Nat) : Calls Try.prog 78 #[.int .u64 (a : Nat)] w fun e w' => e = .returned (.bool false) ∧ w = w' := by
  go_enter Try.func78, Try.ntmps78
  go_wp2
  go_ret
  exact ⟨rfl, rfl⟩
def ldcmp (a b : Nat) : Int := if a < b then -1 else if b < a then 1 else 0
set_option maxHeartbeats 1000000 in
theorem ldcmp_any {w : World} (a b : Nat) : Calls Try.prog 54 #[.int .u64 (a : Nat), .int .u64 (b : Nat)] w fun e w' => e = .returned (.int .i64 (ldcmp a b)) ∧ w = w' := by
  have h1 := Lib.hid (fun w => ldnan_any (w := w) a)
  have h2 := Lib.hid (fun w => ldnan_any (w := w) b)
  unfold ldcmp
  by_cases ha : a < b
  · rw [if_pos ha]
    go_enter Try.func54, Try.ntmps54
    go_wp2_with ((first | (with_reducible refine (h1.out _).mono ?_) | (with_reducible refine (h2.out _).mono ?_)); rintro e w' ⟨rfl, rfl⟩)
    go_ret
    exact ⟨rfl, rfl⟩
  · rw [if_neg ha]
    by_cases hb : b < a
    · rw [if_pos hb]
      go_enter Try.func54, Try.ntmps54
      go_wp2_with ((first | (with_reducible refine (h1.out _).mono ?_) | (with_reducible refine (h2.out _).mono ?_)); rintro e w' ⟨rfl, rfl⟩)
      go_ret
      exact ⟨rfl, rfl⟩
    · rw [if_neg hb]
      go_enter Try.func54, Try.ntmps54
      go_wp2_with ((first | (with_reducible refine (h1.out _).mono ?_) | (with_reducible refine (h2.out _).mono ?_)); rintro e w' ⟨rfl, rfl⟩)
      go_ret
      exact ⟨rfl, rfl⟩
/-- The first of two that is not zero. -/
theorem ldor_any (g : Nat) (a b : Int) (w : World) (h0 : w.cell? ⟨g, 0, none⟩ = some (.int .i64 a)) (h1 : w.cell? ⟨g, 1, none⟩ = some (.int .i64 b)) :
    Calls Try.prog 53 #[.slice (some ⟨g, 0, none⟩) 2 2] w fun e w' => e = .returned (.int .i64 (if a = 0 then b else a)) ∧ w = w' := by
  by_cases ha : a = 0
  · subst ha
    rw [if_pos rfl]
    by_cases hb : b = 0
    · subst hb
      go_enter Try.func53, Try.ntmps53
      go_wp2
      refine wp_loop_rounds 3 ?_
      iterate 3 (rw [rounds_succ]; go_wp2)
      go_ret
      exact ⟨rfl, rfl⟩
    · have hb' : (b != 0) = true := by simpa using hb
      go_enter Try.func53, Try.ntmps53
      go_wp2
      refine wp_loop_rounds 2 ?_
      iterate 2 (rw [rounds_succ]; go_wp2)
      go_ret
      exact ⟨rfl, rfl⟩
  · rw [if_neg ha]
    have ha' : (a != 0) = true := by simpa using ha
    go_enter Try.func53, Try.ntmps53
    go_wp2
    refine wp_loop_rounds 1 ?_
    iterate 1 (rw [rounds_succ]; go_wp2)
    go_ret
    exact ⟨rfl, rfl⟩
end Go.Proofs.Ytghadpihmhaepaa
/- Package ledgers: contract of Check; of the document's Right. -/
namespace Go.Proofs.Ytghadpihmhaepaa
open Go.RowKit
set_option maxRecDepth 100000

/-- A call that answers whether P. -/
def LBool (P : Prop) (w : World) (e : Ending) (w' : World) : Prop := ∃ b : Bool, e = .returned (.bool b) ∧ (b = true ↔ P) ∧ Frm [] w w'
theorem LBool.t {P : Prop} {w w' : World} (hp : P) (hf : Frm [] w w') : LBool P w (.returned (.bool true)) w' := ⟨true, rfl, by simp [hp], hf⟩
theorem LBool.f {P : Prop} {w w' : World} (hp : ¬ P) (hf : Frm [] w w') : LBool P w (.returned (.bool false)) w' := ⟨false, rfl, by simp [hp], hf⟩
theorem LBool.yes {P : Prop} {w w' : World} {e : Ending} (h : LBool P w e w') (hp : P) : e = .returned (.bool true) ∧ Frm [] w w' := by
  obtain ⟨b, rfl, hb, hf⟩ := h
  exact ⟨by rw [hb.2 hp], hf⟩
theorem LBool.no {P : Prop} {w w' : World} {e : Ending} (h : LBool P w e w') (hp : ¬ P) : e = .returned (.bool false) ∧ Frm [] w w' := by
  obtain ⟨b, rfl, hb, hf⟩ := h
  exact ⟨by cases b with | false => rfl | true => exact absurd (hb.1 rfl) hp, hf⟩
/-- The number ahead of one. -/
def lowL (X : List Ld) (k : Nat) : Nat := if k = 0 then 0 else (X.getD (k - 1) default).id
/-- What a round asks. -/
theorem RtTo9.step {X : List Ld} {k : Nat} (h : RtTo9 X k) (h1 : lowL X k < (X.getD k default).id) (h2 : (X.getD k default).n ≤ 1048576) (h4 : (X.getD k default).cl = false → k + 1 = X.length ∧ (X.getD k default).n = 0) : RtTo9 X (k + 1) := by
  refine h.next (by omega) h2 (fun h0 => ?_) h4
  unfold lowL at h1
  rwa [if_neg (by omega)] at h1
theorem RtLd.asks {X : List Ld} (h : RtLd X) {k : Nat} (hk : k < X.length) : lowL X k < (X.getD k default).id ∧ (X.getD k default).n ≤ 1048576 ∧ ((X.getD k default).cl = false → k + 1 = X.length ∧ (X.getD k default).n = 0) := by
  obtain ⟨h1, h2, h3, h4⟩ := h.2 k hk
  refine ⟨?_, h2, h4⟩
  unfold lowL
  split
  · omega
  · exact h3 (by omega)
end Go.Proofs.Ytghadpihmhaepaa
/- '==' and '!=' of two api.Ledger. -/
namespace Go.Proofs.Ytghadpihmhaepaa
open Go.RowKit
set_option maxRecDepth 100000
end Go.Proofs.Ytghadpihmhaepaa
/- Contracts of the document's Size, SameLedgers. -/
namespace Go.Proofs.Ytghadpihmhaepaa
open Go.RowKit
set_option maxRecDepth 100000

theorem rlsize_any (x : Ld) (o : Nat) (w : World) : Calls Try.prog 51 #[x.val, .int .u64 (o : Nat)] w (LRet w (.int .u64 (x.size o : Nat))) := by
  obtain ⟨i, c, n⟩ := x
  unfold Ld.val Ld.size LRet
  have HF : Hid (Frm [] w (w.alloc (.cells #[.int .u64 (i : Nat), .bool c, .int .u64 (n : Nat)] 69))) := (Frm.refl _ _).alloc _
  cases c
  · go_enter Try.func51, Try.ntmps51
    go_wp2
    go_ret
    exact ⟨rfl, HF.out⟩
  · go_enter Try.func51, Try.ntmps51
    go_wp2
    go_ret
    exact ⟨rfl, HF.out⟩
end Go.Proofs.Ytghadpihmhaepaa
/- Package ledgers: contracts of Order, ahead, Behind. -/
namespace Go.Proofs.Ytghadpihmhaepaa
open Go.RowKit
set_option maxRecDepth 100000

theorem ldcmp_or (a b : Ps) : (if ldcmp a.l b.l = 0 then ldcmp a.e b.e else ldcmp a.l b.l) = ordP a b := by
  unfold ldcmp ordP Ps.lt
  split <;> (repeat' split) <;> (try rfl) <;> (try omega) <;> simp_all <;> omega
set_option maxHeartbeats 1000000 in
theorem ldorder_any (a b : Ps) (w : World) : Calls Try.prog 26 #[a.val, b.val] w (LRet w (.int .i64 (ordP a b))) := by
  rw [← ldcmp_or]
  obtain ⟨al, ae⟩ := a
  obtain ⟨bl, be⟩ := b
  unfold Ps.val LRet
  simp only
  have H1 := Lib.hid (fun w => ldcmp_any (w := w) al bl)
  have H2 := Lib.hid (fun w => ldcmp_any (w := w) ae be)
  generalize ldcmp al bl = c1 at H1 ⊢
  generalize ldcmp ae be = c2 at H2 ⊢
  have OR := Lib.hid (fun g w h0 h1 => ldor_any g c1 c2 w h0 h1)
  generalize (if c1 = 0 then c2 else c1) = c at OR ⊢
  obtain ⟨w1, hw1⟩ : ∃ w1, w1 = (w.alloc (.cells #[.int .u64 (al : Nat), .int .u64 (ae : Nat)] 25)).alloc (.cells #[.int .u64 (bl : Nat), .int .u64 (be : Nat)] 25) := ⟨_, rfl⟩
  have F1 : Hid (Frm [] w w1) := Lib.hid (by rw [hw1]; exact ((Frm.refl _ _).alloc _).alloc _)
  have B1 : Whole w1 w.heap.size 25 #[.int .u64 (al : Nat), .int .u64 (ae : Nat)] := by rw [hw1]; exact (Whole.made _ _ _).alloc _
  have B2 : Whole w1 (w.heap.size + 1) 25 #[.int .u64 (bl : Nat), .int .u64 (be : Nat)] := by
    rw [hw1]
    have := Whole.made (w.alloc (.cells #[.int .u64 (al : Nat), .int .u64 (ae : Nat)] 25)) 25 #[.int .u64 (bl : Nat), .int .u64 (be : Nat)]
    rwa [World.size_alloc] at this
  have k1 : ∀ y, Frm [] w1 y → y.cell? ⟨w.heap.size, 0, none⟩ = some (.int .u64 (al : Nat)) := fun y hy => (hy.whole B1 (by simp)).cell 0
  have k2 : ∀ y, Frm [] w1 y → y.cell? ⟨w.heap.size, 1, none⟩ = some (.int .u64 (ae : Nat)) := fun y hy => (hy.whole B1 (by simp)).cell 1
  have k3 : ∀ y, Frm [] w1 y → y.cell? ⟨w.heap.size + 1, 0, none⟩ = some (.int .u64 (bl : Nat)) := fun y hy => (hy.whole B2 (by simp)).cell 0
  have k4 : ∀ y, Frm [] w1 y → y.cell? ⟨w.heap.size + 1, 1, none⟩ = some (.int .u64 (be : Nat)) := fun y hy => (hy.whole B2 (by simp)).cell 1
  clear B1 B2
  have HW1 := Lib.hid hw1
  clear hw1
  go_enter Try.func26, Try.ntmps26
  go_wp2
  rw [← HW1.out]
  refine wp_region_held_drew (S := fun w' => Frm [] w1 w') (by kernel_rfl) (Frm.drew (Frm.refl _ _)) (fun hHeld => ?_)
  refine wpAnyH_take (i := 0) (oi := ⟨some 5, _, _, _, _, _⟩) (v := ?_) rfl (by kernel_rfl) (by kernel_rfl) (by kernel_rfl) (fun _ _ _ h => h) (Or.inl ⟨by rfl, ?_⟩) (by assumption) ?_
  rotate_left 1
  · (intro w hSw; (try dsimp only at hSw); go_simp; all_goals with_reducible rfl)
  try simp only [Act.put, List.setIfInBounds_toArray, List.set_cons_zero, List.set_cons_succ]
  refine wpAnyH_take (i := 1) (oi := ⟨some 6, _, _, _, _, _⟩) (v := ?_) rfl (by kernel_rfl) (by kernel_rfl) (by kernel_rfl) (fun _ _ _ h => h) (Or.inl ⟨by rfl, ?_⟩) (by assumption) ?_
  rotate_left 1
  · (intro w hSw; (try dsimp only at hSw); go_simp; all_goals with_reducible rfl)
  try simp only [Act.put, List.setIfInBounds_toArray, List.set_cons_zero, List.set_cons_succ]
  refine wpAnyH_take (i := 2) (oi := ⟨some 7, _, _, _, _, _⟩) (v := ?_) rfl (by kernel_rfl) (by kernel_rfl) (by kernel_rfl) (fun _ _ _ h => h) (Or.inl ⟨by rfl, ?_⟩) (by assumption) ?_
  rotate_left 1
  · (intro w hSw; (try dsimp only at hSw); go_simp; all_goals with_reducible rfl)
  try simp only [Act.put, List.setIfInBounds_toArray, List.set_cons_zero, List.set_cons_succ]
  refine wpAnyH_take (i := 3) (oi := ⟨some 8, _, _, _, _, _⟩) (v := ?_) rfl (by kernel_rfl) (by kernel_rfl) (by kernel_rfl) (fun _ _ _ h => h) (Or.inl ⟨by rfl, ?_⟩) (by assumption) ?_
  rotate_left 1
  · (intro w hSw; (try dsimp only at hSw); go_simp; all_goals with_reducible rfl)
  try simp only [Act.put, List.setIfInBounds_toArray, List.set_cons_zero, List.set_cons_succ]
  refine wpAnyH_take (i := 5) (oi := ⟨some 10, _, _, _, _, _⟩) (v := ?_) rfl (by kernel_rfl) (by kernel_rfl) (by kernel_rfl) (fun _ _ _ h => h) (Or.inl ⟨by rfl, ?_⟩) (by assumption) ?_
  rotate_left 1
  · (intro w hSw; (try dsimp only at hSw); go_simp; all_goals with_reducible rfl)
  try simp only [Act.put, List.setIfInBounds_toArray, List.set_cons_zero, List.set_cons_succ]
  refine wpAnyH_take (i := 6) (oi := ⟨some 11, _, _, _, _, _⟩) (v := ?_) rfl (by kernel_rfl) (by kernel_rfl) (by kernel_rfl) (fun _ _ _ h => h) (Or.inl ⟨by rfl, ?_⟩) (by assumption) ?_
  rotate_left 1
  · (intro w hSw; (try dsimp only at hSw); go_simp; all_goals with_reducible rfl)
  try simp only [Act.put, List.setIfInBounds_toArray, List.set_cons_zero, List.set_cons_succ]
  refine wpAnyH_take (i := 7) (oi := ⟨some 12, _, _, _, _, _⟩) (v := ?_) rfl (by kernel_rfl) (by kernel_rfl) (by kernel_rfl) (fun _ _ _ h => h) (Or.inl ⟨by rfl, ?_⟩) (by assumption) ?_
  rotate_left 1
  · (intro w hSw; (try dsimp only at hSw); go_simp; all_goals with_reducible rfl)
  try simp only [Act.put, List.setIfInBounds_toArray, List.set_cons_zero, List.set_cons_succ]
  refine wpAnyH_take (i := 8) (oi := ⟨some 13, _, _, _, _, _⟩) (v := ?_) rfl (by kernel_rfl) (by kernel_rfl) (by kernel_rfl) (fun _ _ _ h => h) (Or.inl ⟨by rfl, ?_⟩) (by assumption) ?_
  rotate_left 1
  · (intro w hSw; (try dsimp only at hSw); go_simp; all_goals with_reducible rfl)
  try simp only [Act.put, List.setIfInBounds_toArray, List.set_cons_zero, List.set_cons_succ]
  refine wpAnyH_ready (rs := [4]) (by kernel_rfl) (by simp) ?_
  refine AllReadyH.cons (o := ⟨some 9, _, _, _, _, _⟩) rfl (fun K hK => ?_) AllReadyH.nil
  go_simp
  go_at_call 54; (with_reducible refine (H1.out _).mono ?_); rintro e w' ⟨rfl, rfl⟩
  go_wp2_with fail
  refine hK.out _ _ (by assumption) (fun hHeld => ?_)
  clear hK K
  try simp only [Act.put, List.setIfInBounds_toArray, List.set_cons_zero, List.set_cons_succ]
  refine wpAnyH_ready (rs := [9]) (by kernel_rfl) (by simp) ?_
  refine AllReadyH.cons (o := ⟨some 14, _, _, _, _, _⟩) rfl (fun K hK => ?_) AllReadyH.nil
  go_simp
  go_at_call 54; (with_reducible refine (H2.out _).mono ?_); rintro e w' ⟨rfl, rfl⟩
  go_wp2_with fail
  refine hK.out _ _ (by assumption) (fun hHeld => ?_)
  clear hK K
  try simp only [Act.put, List.setIfInBounds_toArray, List.set_cons_zero, List.set_cons_succ]
  refine wpAnyH_ready (rs := [10]) (by kernel_rfl) (by simp) ?_
  refine AllReadyH.cons (o := ⟨some 15, _, _, _, _, _⟩) rfl (fun K hK => ?_) AllReadyH.nil
  go_simp
  refine hK.out _ _ (by repeat (first | assumption | apply Frm.alloc | apply Frm.drew | exact Frm.refl _ _)) (fun hHeld => ?_)
  clear hK K
  try simp only [Act.put, List.setIfInBounds_toArray, List.set_cons_zero, List.set_cons_succ]
  refine wpAnyH_ready (rs := [11]) (by kernel_rfl) (by simp) ?_
  refine AllReadyH.cons (o := ⟨some 16, _, _, _, _, _⟩) rfl (fun K hK => ?_) AllReadyH.nil
  go_simp
  go_at_call 53; (with_reducible refine (OR.out _ _ (by simp) (by simp)).mono ?_); rintro e w' ⟨rfl, rfl⟩
  go_wp2_with fail
  refine hK.out _ _ (by assumption) (fun hHeld => ?_)
  clear hK K
  try simp only [Act.put, List.setIfInBounds_toArray, List.set_cons_zero, List.set_cons_succ]
  refine wpAnyH_take (i := 12) (oi := ⟨some 4, _, _, _, _, _⟩) (v := ?_) rfl (by kernel_rfl) (by kernel_rfl) (by kernel_rfl) (fun _ _ _ h => h) (Or.inl ⟨by rfl, ?_⟩) (by assumption) ?_
  rotate_left 1
  · (intro w hSw; (try dsimp only at hSw); go_simp; all_goals with_reducible rfl)
  try simp only [Act.put, List.setIfInBounds_toArray, List.set_cons_zero, List.set_cons_succ]
  refine wpAnyH_done (by kernel_rfl) ?_ _
  go_wp2
  go_ret
  exact ⟨rfl, F1.out.trans hHeld (by simp) (by simp)⟩
set_option maxHeartbeats 1000000 in
theorem ldahead_any (x : Ld) (o : Nat) (p : Ps) (w : World) : Calls Try.prog 75 #[x.val, .int .u64 (o : Nat), p.val] w (LRet w (.int .u64 (x.ahead o p : Nat))) := by
  have HS := Lib.hid (fun z => ldsize_any x o z)
  unfold Ld.ahead
  generalize x.size o = sz at HS ⊢
  obtain ⟨i, c, n⟩ := x
  obtain ⟨pl, pe⟩ := p
  unfold Ps.val Ld.val LRet
  unfold Ld.val LRet at HS
  simp only at HS ⊢
  obtain ⟨w1, hw1⟩ : ∃ w1, w1 = (w.alloc (.cells #[.int .u64 (i : Nat), .bool c, .int .u64 (n : Nat)] 69)).alloc (.cells #[.int .u64 (pl : Nat), .int .u64 (pe : Nat)] 25) := ⟨_, rfl⟩
  have F1 : Hid (Frm [] w w1) := Lib.hid (by rw [hw1]; exact ((Frm.refl _ _).alloc _).alloc _)
  have B1 : Whole w1 w.heap.size 69 #[.int .u64 (i : Nat), .bool c, .int .u64 (n : Nat)] := by rw [hw1]; exact (Whole.made _ _ _).alloc _
  have B2 : Whole w1 (w.heap.size + 1) 25 #[.int .u64 (pl : Nat), .int .u64 (pe : Nat)] := by
    rw [hw1]
    have := Whole.made (w.alloc (.cells #[.int .u64 (i : Nat), .bool c, .int .u64 (n : Nat)] 69)) 25 #[.int .u64 (pl : Nat), .int .u64 (pe : Nat)]
    rwa [World.size_alloc] at this
  by_cases h1 : i < pl
  · rw [if_pos h1]
    have d1 : decide (i < pl) = true := decide_eq_true h1
    go_enter Try.func75, Try.ntmps75
    go_wp2_with fail
    rw [← hw1]
    (with_reducible refine (HS.out _).mono ?_)
    rintro e w' ⟨rfl, hf⟩
    have FF : Hid (Frm [] w w') := Lib.hid (F1.out.trans hf (by simp) (by simp))
    clear hf
    go_wp2
    go_ret
    exact ⟨rfl, FF.out⟩
  · rw [if_neg h1]
    have d1 : decide (i < pl) = false := decide_eq_false h1
    by_cases h2 : i = pl
    · rw [if_pos h2]
      obtain ⟨m, hm⟩ : ∃ m, m = min sz pe := ⟨_, rfl⟩
      rw [← hm]
      have hmin : ∀ (w : World), (Builtin.min_ #[23, 23] 23 #[.int .u64 (sz : Int), .int .u64 (pe : Int)]).run Try.prog w = .ok (.int .u64 (m : Nat)) w := by
        intro w
        simp [go_sem]
        (first | omega | (split <;> (first | (simp; omega) | omega)))
      have d2 : ((i : Int) == (pl : Int)) = true := by rw [beq_iff_eq]; omega
      have k1 : ∀ y, Frm [] w1 y → y.cell? ⟨w.heap.size, 0, none⟩ = some (.int .u64 (i : Nat)) := fun y hy => (hy.whole B1 (by simp)).cell 0
      have k2 : ∀ y, Frm [] w1 y → y.cell? ⟨w.heap.size, 1, none⟩ = some (.bool c) := fun y hy => (hy.whole B1 (by simp)).cell 1
      have k3 : ∀ y, Frm [] w1 y → y.cell? ⟨w.heap.size, 2, none⟩ = some (.int .u64 (n : Nat)) := fun y hy => (hy.whole B1 (by simp)).cell 2
      have k4 : ∀ y, Frm [] w1 y → y.cell? ⟨w.heap.size + 1, 1, none⟩ = some (.int .u64 (pe : Nat)) := fun y hy => (hy.whole B2 (by simp)).cell 1
      have HW1 := Lib.hid hw1
      clear hw1 h1 h2 hm B1 B2
      go_enter Try.func75, Try.ntmps75
      go_wp2
      rw [← HW1.out]
      refine wp_region_held_drew (S := fun w' => Frm [] w1 w') (by kernel_rfl) (Frm.drew (Frm.refl _ _)) (fun hHeld => ?_)
      refine wpAnyH_take (i := 0) (oi := ⟨some 22, _, _, _, _, _⟩) (v := ?_) rfl (by kernel_rfl) (by kernel_rfl) (by kernel_rfl) (fun _ _ _ h => h) (Or.inl ⟨by rfl, ?_⟩) (by assumption) ?_
      rotate_left 1
      · (intro w hSw; (try dsimp only at hSw); go_simp; all_goals with_reducible rfl)
      try simp only [Act.put, List.setIfInBounds_toArray, List.set_cons_zero, List.set_cons_succ]
      refine wpAnyH_take (i := 1) (oi := ⟨some 23, _, _, _, _, _⟩) (v := ?_) rfl (by kernel_rfl) (by kernel_rfl) (by kernel_rfl) (fun _ _ _ h => h) (Or.inl ⟨by rfl, ?_⟩) (by assumption) ?_
      rotate_left 1
      · (intro w hSw; (try dsimp only at hSw); go_simp; all_goals with_reducible rfl)
      try simp only [Act.put, List.setIfInBounds_toArray, List.set_cons_zero, List.set_cons_succ]
      refine wpAnyH_take (i := 3) (oi := ⟨some 25, _, _, _, _, _⟩) (v := ?_) rfl (by kernel_rfl) (by kernel_rfl) (by kernel_rfl) (fun _ _ _ h => h) (Or.inl ⟨by rfl, ?_⟩) (by assumption) ?_
      rotate_left 1
      · (intro w hSw; (try dsimp only at hSw); go_simp; all_goals with_reducible rfl)
      try simp only [Act.put, List.setIfInBounds_toArray, List.set_cons_zero, List.set_cons_succ]
      refine wpAnyH_take (i := 4) (oi := ⟨some 26, _, _, _, _, _⟩) (v := ?_) rfl (by kernel_rfl) (by kernel_rfl) (by kernel_rfl) (fun _ _ _ h => h) (Or.inl ⟨by rfl, ?_⟩) (by assumption) ?_
      rotate_left 1
      · (intro w hSw; (try dsimp only at hSw); go_simp; all_goals with_reducible rfl)
      try simp only [Act.put, List.setIfInBounds_toArray, List.set_cons_zero, List.set_cons_succ]
      refine wpAnyH_ready (rs := [2]) (by kernel_rfl) (by simp) ?_
      refine AllReadyH.cons (o := ⟨some 24, _, _, _, _, _⟩) rfl (fun K hK => ?_) AllReadyH.nil
      go_simp
      go_at_call 80; (with_reducible refine (HS.out _).mono ?_); rintro e w' ⟨rfl, hf⟩; have hHeld2 : Frm [] w1 w' := hHeld.trans hf (by simp) (by simp)
      go_wp2_with fail
      refine hK.out _ _ (by assumption) (fun hHeld => ?_)
      clear hK K
      try simp only [Act.put, List.setIfInBounds_toArray, List.set_cons_zero, List.set_cons_succ]
      refine wpAnyH_take (i := 5) (oi := ⟨some 27, _, _, _, _, _⟩) (v := ?_) rfl (by kernel_rfl) (by kernel_rfl) (by kernel_rfl) (fun _ _ _ h => h) (Or.inl ⟨by rfl, ?_⟩) (by assumption) ?_
      rotate_left 1
      · (intro w hSw; (try dsimp only at hSw); go_simp; all_goals with_reducible rfl)
      try simp only [Act.put, List.setIfInBounds_toArray, List.set_cons_zero, List.set_cons_succ]
      refine wpAnyH_take (i := 6) (oi := ⟨some 6, _, _, _, _, _⟩) (v := ?_) rfl (by kernel_rfl) (by kernel_rfl) (by kernel_rfl) (fun _ _ _ h => h) (Or.inl ⟨by rfl, ?_⟩) (by assumption) ?_
      rotate_left 1
      · (intro w hSw; (try dsimp only at hSw); go_simp; all_goals with_reducible rfl)
      try simp only [Act.put, List.setIfInBounds_toArray, List.set_cons_zero, List.set_cons_succ]
      refine wpAnyH_done (by kernel_rfl) ?_ _
      go_wp2
      go_ret
      exact ⟨rfl, F1.out.trans hHeld (by simp) (by simp)⟩
    · rw [if_neg h2]
      have d2 : ((i : Int) == (pl : Int)) = false := by rw [beq_eq_false_iff_ne]; omega
      go_enter Try.func75, Try.ntmps75
      go_wp2
      go_ret
      exact ⟨rfl, by rw [← hw1]; exact F1.out⟩
/-- The place behind one. -/
theorem ldbehind_any (p : Ps) (hp : p.fits) (w : World) : Calls Try.prog 42 #[p.val] w (LRet w (behindP p).val) := by
  obtain ⟨pl, pe⟩ := p
  obtain ⟨h1, h2⟩ := hp
  unfold behindP Ps.val LRet
  simp only at h1 h2 ⊢
  by_cases he : pe = 18446744073709551615
  · rw [if_pos he]
    have d1 : ((pe : Int) == 18446744073709551615) = true := by rw [beq_iff_eq]; omega
    obtain ⟨q, hq⟩ : ∃ q, q = (pl + 1) % 18446744073709551616 := ⟨_, rfl⟩
    rw [← hq]
    have hw : IntKind.u64.wrap ((pl : Int) + 1) = (q : Int) := by simp [IntKind.wrap, IntKind.bits, IntKind.signed]; omega
    have hw2 : ((pl : Int) + 1) % 18446744073709551616 = (q : Int) := by omega
    clear hq h1 h2 he
    go_enter Try.func42, Try.ntmps42
    go_wp2
    trace_state
    refine bodyPost_ret (results_cell_row (P := Try.prog) rfl _ _ (w.heap.size + 1) _ _ _ _ rfl (heap_alloc2_new w _ _) Try.underlying25 rfl (by kernel_rfl)) rfl ?_
    exact ⟨rfl, ((Frm.refl _ _).alloc _).alloc _⟩
  · rw [if_neg he]
    have d1 : ((pe : Int) == 18446744073709551615) = false := by rw [beq_eq_false_iff_ne]; omega
    obtain ⟨q, hq⟩ : ∃ q, q = pe + 1 := ⟨_, rfl⟩
    rw [← hq]
    have hw : IntKind.u64.wrap ((pe : Int) + 1) = (q : Int) := by simp [IntKind.wrap, IntKind.bits, IntKind.signed]; omega
    have hw2 : ((pe : Int) + 1) % 18446744073709551616 = (q : Int) := by omega
    clear hq h1 h2 he
    go_enter Try.func42, Try.ntmps42
    go_wp2
    refine bodyPost_ret (results_cell_row (P := Try.prog) rfl _ _ (w.heap.size + 1) _ _ _ _ rfl (heap_alloc2_new w _ _) Try.underlying25 rfl (by kernel_rfl)) rfl ?_
    exact ⟨rfl, ((Frm.refl _ _).alloc _).alloc _⟩
end Go.Proofs.Ytghadpihmhaepaa
/- Package ledgers: contracts of slices.Clone, slices.IndexFunc over ledgers, of what Trim hands it, of Trim. -/
namespace Go.Proofs.Ytghadpihmhaepaa
open Go.RowKit
set_option maxRecDepth 100000

theorem infoLd : (Try.prog.info? 69).map (fun i => (i.zero, i.size, i.bytes)) = some (some (.agg #[.int .u64 0, .bool false, .int .u64 0]), 3, 24) := by kernel_rfl
/-- What a call hands back that makes ledgers of its own. -/
def RetLd (w : World) (Y : List Ld) (e : Ending) (w' : World) : Prop := ∃ a' cap', e = .returned (.slice a' Y.length cap') ∧ LdOwn w' w.heap.size 69 [] a' cap' Y ∧ Frm [] w w'
/-- How far IndexFunc comes. -/
def stayI (X : List Ld) (p : Ps) : Int := if goesN X p < X.length then (goesN X p : Nat) else -1
end Go.Proofs.Ytghadpihmhaepaa
/- '==' and '!=' of two api.Pos. -/
namespace Go.Proofs.Ytghadpihmhaepaa
open Go.RowKit
set_option maxRecDepth 100000
theorem stood_ps : Try.prog.stoodInHeld 25 = false := by kernel_rfl
theorem fields_ps : Try.prog.underlying 25 = some (.struct (Try.prog.fieldsOf 25)) := by kernel_rfl
theorem part_ps0 (p0 : Nat) (p1 : Nat) (w : World) : (part 23 #[.int .u64 (p0 : Nat), .int .u64 (p1 : Nat)] 0).run Try.prog w = .ok (.int .u64 (p0 : Nat)) w := by kernel_rfl
theorem part_ps1 (p0 : Nat) (p1 : Nat) (w : World) : (part 23 #[.int .u64 (p0 : Nat), .int .u64 (p1 : Nat)] 1).run Try.prog w = .ok (.int .u64 (p1 : Nat)) w := by kernel_rfl
theorem fl_ps : ((Try.prog.fieldsOf 25).toList.map fun f => (f.name, f.type, f.offset)) = [("Ledger", 23, 0), ("Entry", 23, 1)] := by kernel_rfl
theorem equal_ps (p0 : Nat) (p1 : Nat) (q0 : Nat) (q1 : Nat) (w : World) : (Op.equalIn 10000 25 (.agg #[.int .u64 (p0 : Nat), .int .u64 (p1 : Nat)]) (.agg #[.int .u64 (q0 : Nat), .int .u64 (q1 : Nat)])).run Try.prog w = .ok (decide ((⟨p0, p1⟩ : Ps) = ⟨q0, q1⟩)) w := by
  rw [run_equalIn_struct w 9999 _ _ _ fields_ps stood_ps]
  have hl := fl_ps
  generalize (Try.prog.fieldsOf 25).toList = fs at hl
  have e0 := fun d (x y : Nat) W => run_equalIn_int (P := Try.prog) W d 23 .u64 .u64 (x : Int) (y : Int) Try.underlying23
  rcases fs with _ | ⟨f0, _ | ⟨f1, _ | ⟨x, fs⟩⟩⟩
  · simp at hl
  · simp at hl
  · simp only [List.map_cons, List.map_nil, List.cons.injEq, Prod.mk.injEq, and_true] at hl
    obtain ⟨⟨n0, t0, o0⟩, n1, t1, o1⟩ := hl
    simp only [Op.eqFields, n0, n1, t0, t1, o0, o1]
    simp only [Sem.run_bind, ne_eq, String.reduceEq, not_false_eq_true, if_true, part_ps0, Result.andThen_ok, e0 9998]
    by_cases h0 : p0 = q0
    · by_cases h1 : p1 = q1
      · simp [h0, h1, part_ps1, e0]
      · have g1 : ((p1 : Int) == (q1 : Int)) = false := by simp; omega
        simp [h0, h1, g1, part_ps1, e0]
    · have g0 : ((p0 : Int) == (q0 : Int)) = false := by simp; omega
      simp [h0, g0]
  · simp at hl
theorem eql_ps (p0 : Nat) (p1 : Nat) (q0 : Nat) (q1 : Nat) (w : World) : (binOp .eql 25 (.agg #[.int .u64 (p0 : Nat), .int .u64 (p1 : Nat)]) (.agg #[.int .u64 (q0 : Nat), .int .u64 (q1 : Nat)])).run Try.prog w = .ok (.bool (decide ((⟨p0, p1⟩ : Ps) = ⟨q0, q1⟩))) w := by
  rw [run_eql_struct, equal_ps]; rfl
theorem neq_ps (p0 : Nat) (p1 : Nat) (q0 : Nat) (q1 : Nat) (w : World) : (binOp .neq 25 (.agg #[.int .u64 (p0 : Nat), .int .u64 (p1 : Nat)]) (.agg #[.int .u64 (q0 : Nat), .int .u64 (q1 : Nat)])).run Try.prog w = .ok (.bool (!decide ((⟨p0, p1⟩ : Ps) = ⟨q0, q1⟩))) w := by
  rw [run_neq_struct, equal_ps]; rfl
end Go.Proofs.Ytghadpihmhaepaa
/- Contracts of the document's Order, Behind, Trim; of the law's Place. -/
namespace Go.Proofs.Ytghadpihmhaepaa
open Go.RowKit
set_option maxRecDepth 100000

set_option maxHeartbeats 2000000 in
theorem rlorder_any (a b : Ps) (w : World) : Calls Try.prog 43 #[a.val, b.val] w (LRet w (.int .i64 (ordP a b))) := by
  obtain ⟨al, ae⟩ := a
  obtain ⟨bl, be⟩ := b
  unfold Ps.val LRet
  simp only
  obtain ⟨w1, hw1⟩ : ∃ w1, w1 = (w.alloc (.cells #[.int .u64 (al : Nat), .int .u64 (ae : Nat)] 25)).alloc (.cells #[.int .u64 (bl : Nat), .int .u64 (be : Nat)] 25) := ⟨_, rfl⟩
  have F1 : Hid (Frm [] w w1) := Lib.hid (by rw [hw1]; exact ((Frm.refl _ _).alloc _).alloc _)
  obtain ⟨g, hg⟩ : ∃ g, g = w.heap.size := ⟨_, rfl⟩
  have B1 : Whole w1 g 25 #[.int .u64 (al : Nat), .int .u64 (ae : Nat)] := by rw [hw1, hg]; exact (Whole.made _ _ _).alloc _
  have B2 : Whole w1 (g + 1) 25 #[.int .u64 (bl : Nat), .int .u64 (be : Nat)] := by
    rw [hw1, hg]
    have := Whole.made (w.alloc (.cells #[.int .u64 (al : Nat), .int .u64 (ae : Nat)] 25)) 25 #[.int .u64 (bl : Nat), .int .u64 (be : Nat)]
    rwa [World.size_alloc] at this
  have k1 := B1.cell 0
  have k2 := B1.cell 1
  have k3 := B2.cell 0
  have k4 := B2.cell 1
  simp only [List.getElem?_toArray, List.getElem?_cons_zero, List.getElem?_cons_succ] at k1 k2 k3 k4
  have ee := fun w => eql_ps al ae bl be w
  clear B1 B2
  have HW1 := Lib.hid hw1
  have HG := Lib.hid hg
  by_cases h1 : al < bl
  · have d1 : decide (al < bl) = true := decide_eq_true h1
    have d1' : decide ((al : Int) < (bl : Int)) = true := decide_eq_true (by omega)
    have E : Hid (ordP ⟨al, ae⟩ ⟨bl, be⟩ = -1) := Lib.hid (by unfold ordP Ps.lt; exact if_pos (Or.inl h1))
    rw [E.out]
    clear h1
    go_enter Try.func43, Try.ntmps43
    go_upto_region 1 with (fail)
    rw [← hw1, ← hg]
    clear hw1 hg
    go_wp2
    go_ret
    exact ⟨rfl, F1.out⟩
  have d1 : decide (al < bl) = false := decide_eq_false h1
  have d1' : decide ((al : Int) < (bl : Int)) = false := decide_eq_false (by omega)
  by_cases h2 : al = bl
  · have d2 : ((al : Int) == (bl : Int)) = true := by rw [beq_iff_eq]; omega
    by_cases h3 : ae < be
    · have d3 : decide (ae < be) = true := decide_eq_true h3
      have d3' : decide ((ae : Int) < (be : Int)) = true := decide_eq_true (by omega)
      have E : Hid (ordP ⟨al, ae⟩ ⟨bl, be⟩ = -1) := Lib.hid (by unfold ordP Ps.lt; exact if_pos (Or.inr ⟨h2, h3⟩))
      rw [E.out]
      clear h1 h2 h3
      go_enter Try.func43, Try.ntmps43
      go_upto_region 1 with (fail)
      rw [← hw1, ← hg]
      clear hw1 hg
      go_wp2
      go_ret
      exact ⟨rfl, F1.out⟩
    · have d3 : decide (ae < be) = false := decide_eq_false h3
      have d3' : decide ((ae : Int) < (be : Int)) = false := decide_eq_false (by omega)
      by_cases h4 : ae = be
      · have E : Hid (ordP ⟨al, ae⟩ ⟨bl, be⟩ = 0) := Lib.hid (by subst h2; subst h4; unfold ordP; rw [if_neg (Ps.lt_irrefl _), if_neg (Ps.lt_irrefl _)])
        have ee2 : ∀ w : World, (binOp .eql 25 (.agg #[.int .u64 (al : Nat), .int .u64 (ae : Nat)]) (.agg #[.int .u64 (bl : Nat), .int .u64 (be : Nat)])).run Try.prog w = .ok (.bool true) w := fun w => by rw [ee, decide_eq_true (by rw [h2, h4])]
        rw [E.out]
        clear h1 h2 h3 h4 ee
        go_enter Try.func43, Try.ntmps43
        go_upto_region 1 with (fail)
        rw [← hw1, ← hg]
        clear hw1 hg
        go_wp2
        go_ret
        exact ⟨rfl, F1.out⟩
      · have E : Hid (ordP ⟨al, ae⟩ ⟨bl, be⟩ = 1) := Lib.hid (by unfold ordP Ps.lt; exact (if_neg (by simp only; omega)).trans (if_pos (by simp only; omega)))
        have ee2 : ∀ w : World, (binOp .eql 25 (.agg #[.int .u64 (al : Nat), .int .u64 (ae : Nat)]) (.agg #[.int .u64 (bl : Nat), .int .u64 (be : Nat)])).run Try.prog w = .ok (.bool false) w := fun w => by rw [ee, decide_eq_false (by simp [h4])]
        rw [E.out]
        clear h1 h2 h3 h4 ee
        go_enter Try.func43, Try.ntmps43
        go_upto_region 1 with (fail)
        rw [← hw1, ← hg]
        clear hw1 hg
        go_wp2
        go_ret
        exact ⟨rfl, F1.out⟩
  · have d2 : ((al : Int) == (bl : Int)) = false := by rw [beq_eq_false_iff_ne]; omega
    have E : Hid (ordP ⟨al, ae⟩ ⟨bl, be⟩ = 1) := Lib.hid (by unfold ordP Ps.lt; exact (if_neg (by simp only; omega)).trans (if_pos (by simp only; omega)))
    have ee2 : ∀ w : World, (binOp .eql 25 (.agg #[.int .u64 (al : Nat), .int .u64 (ae : Nat)]) (.agg #[.int .u64 (bl : Nat), .int .u64 (be : Nat)])).run Try.prog w = .ok (.bool false) w := fun w => by rw [ee, decide_eq_false (by simp [h2])]
    rw [E.out]
    clear h1 h2 ee
    go_enter Try.func43, Try.ntmps43
    go_upto_region 1 with (fail)
    rw [← hw1, ← hg]
    clear hw1 hg
    go_wp2
    go_ret
    exact ⟨rfl, F1.out⟩
theorem rlbehind_any (p : Ps) (hp : p.fits) (w : World) : Calls Try.prog 44 #[p.val] w (LRet w (behindP p).val) := by
  obtain ⟨pl, pe⟩ := p
  obtain ⟨h1, h2⟩ := hp
  unfold behindP Ps.val LRet
  simp only at h1 h2 ⊢
  by_cases he : pe = 18446744073709551615
  · rw [if_pos he]
    have d1 : ((pe : Int) == 18446744073709551615) = true := by rw [beq_iff_eq]; omega
    obtain ⟨q, hq⟩ : ∃ q, q = (pl + 1) % 18446744073709551616 := ⟨_, rfl⟩
    rw [← hq]
    have hw : IntKind.u64.wrap ((pl : Int) + 1) = (q : Int) := by simp [IntKind.wrap, IntKind.bits, IntKind.signed]; omega
    have hw2 : ((pl : Int) + 1) % 18446744073709551616 = (q : Int) := by omega
    clear hq h1 h2 he
    go_enter Try.func44, Try.ntmps44
    go_wp2
    refine bodyPost_ret (results_cell_row (P := Try.prog) rfl _ _ (w.heap.size + 1) _ _ _ _ rfl (heap_alloc2_new w _ _) Try.underlying25 rfl (by kernel_rfl)) rfl ?_
    exact ⟨rfl, ((Frm.refl _ _).alloc _).alloc _⟩
  · rw [if_neg he]
    have d1 : ((pe : Int) == 18446744073709551615) = false := by rw [beq_eq_false_iff_ne]; omega
    obtain ⟨q, hq⟩ : ∃ q, q = pe + 1 := ⟨_, rfl⟩
    rw [← hq]
    have hw : IntKind.u64.wrap ((pe : Int) + 1) = (q : Int) := by simp [IntKind.wrap, IntKind.bits, IntKind.signed]; omega
    have hw2 : ((pe : Int) + 1) % 18446744073709551616 = (q : Int) := by omega
    clear hq h1 h2 he
    go_enter Try.func44, Try.ntmps44
    go_wp2
    refine bodyPost_ret (results_cell_row (P := Try.prog) rfl _ _ (w.heap.size + 1) _ _ _ _ rfl (heap_alloc2_new w _ _) Try.underlying25 rfl (by kernel_rfl)) rfl ?_
    exact ⟨rfl, ((Frm.refl _ _).alloc _).alloc _⟩
/-- What Place answers. -/
def placeP (p : Ps) (raw : Bool) : Ps := if raw then p else ⟨p.l % 16, p.e % 8⟩
theorem placeP_fits (p : Ps) (raw : Bool) (h : p.fits) : (placeP p raw).fits := by
  unfold placeP
  cases raw
  · have h1 := Nat.mod_le p.l 16
    have h2 := Nat.mod_le p.e 8
    exact ⟨Nat.lt_of_le_of_lt h1 h.1, Nat.lt_of_le_of_lt h2 h.2⟩
  · exact h
theorem ldplace_any (p : Ps) (raw : Bool) (w : World) : Calls Try.prog 12 #[p.val, .bool raw] w (LRet w (placeP p raw).val) := by
  obtain ⟨pl, pe⟩ := p
  unfold placeP Ps.val LRet
  simp only
  cases raw
  · obtain ⟨q, hq⟩ : ∃ q, q = pl % 16 := ⟨_, rfl⟩
    obtain ⟨r, hr⟩ : ∃ r, r = pe % 8 := ⟨_, rfl⟩
    rw [if_neg (by simp), ← hq, ← hr]
    have h1 : (pl : Int) % 16 = (q : Int) := by omega
    have h2 : (pl : Int).tmod 16 = (q : Int) := by rw [hq]; rfl
    have h3 : (pe : Int) % 8 = (r : Int) := by omega
    have h4 : (pe : Int).tmod 8 = (r : Int) := by rw [hr]; rfl
    have h5 : IntKind.u64.wrap (q : Int) = (q : Int) := by simp [IntKind.wrap, IntKind.bits, IntKind.signed]; omega
    have h6 : IntKind.u64.wrap (r : Int) = (r : Int) := by simp [IntKind.wrap, IntKind.bits, IntKind.signed]; omega
    clear hq hr
    go_enter Try.func12, Try.ntmps12
    go_wp2
    refine bodyPost_ret (results_cell_row (P := Try.prog) rfl _ _ (w.heap.size + 1) _ _ _ _ rfl (heap_alloc2_new w _ _) Try.underlying25 rfl (by kernel_rfl)) rfl ?_
    exact ⟨rfl, ((Frm.refl _ _).alloc _).alloc _⟩
  · rw [if_pos rfl]
    go_enter Try.func12, Try.ntmps12
    go_wp2
    refine bodyPost_ret (results_cell_row (P := Try.prog) rfl _ _ (w.heap.size + 1) _ _ _ _ rfl (heap_alloc2_new w _ _) Try.underlying25 rfl (by kernel_rfl)) rfl ?_
    exact ⟨rfl, ((Frm.refl _ _).alloc _).alloc _⟩
end Go.Proofs.Ytghadpihmhaepaa
/- Contracts of the document's Of, Acked. -/
namespace Go.Proofs.Ytghadpihmhaepaa
open Go.RowKit
set_option maxRecDepth 100000

/-- A cursor's value: its mark; what is held lies at a. -/
def crsV (m : Ps) (a : Option Addr) (n cap : Nat) : Value := .agg #[.int .u64 (m.l : Nat), .int .u64 (m.e : Nat), .slice a n cap]
/-- Ranges as a call answers them. -/
def RsEnd (w : World) (F : List Nat) (l : List Rg) (e : Ending) (w' : World) : Prop := ∃ (a : Option Addr) (c : Nat), e = .returned (.slice a l.length c) ∧ Rr w' a l ∧ (a = none → c = 0) ∧ l.length ≤ c ∧ c ≤ 9223372036854775807 ∧ (l ≠ [] → ∀ q, a = some q → q.block ∉ F) ∧ Frm [] w w'
theorem HxL.sub {w w' : World} {F : List Nat} {a : Option Addr} {X : List Hx} (h : HxL w F a X) (hf : Frm [] w w') : HxL w' F a X := h.keep hf (by simp) (fun x hx => .inl hx)
set_option maxHeartbeats 2000000 in
theorem crof_any (m : Ps) (a : Option Addr) (n cap : Nat) (F : List Nat) (X : List Hx) (led : Nat) (w : World) (h : HxL w F a X) (hn : n = X.length) (hsz : n < 4611686018427387904) :
    Calls Try.prog 38 #[crsV m a n cap, .int .u64 (led : Nat)] w (RsEnd w F (ofH (hels X) led)) := by
  obtain ⟨w1, hw1⟩ : ∃ w1, w1 = w.alloc (.cells #[.int .u64 (m.l : Nat), .int .u64 (m.e : Nat), .slice a n cap] 28) := ⟨_, rfl⟩
  have F1 : Hid (Frm [] w w1) := Lib.hid (by rw [hw1]; exact (Frm.refl _ _).alloc _)
  obtain ⟨g, hg⟩ : ∃ g, g = w.heap.size := ⟨_, rfl⟩
  have B1 : Hid (Whole w1 g 28 #[.int .u64 (m.l : Nat), .int .u64 (m.e : Nat), .slice a n cap]) := Lib.hid (by rw [hw1, hg]; exact Whole.made _ _ _)
  have H := Lib.hid h; clear h
  have HN := Lib.hid hn; clear hn
  obtain ⟨Q, hQ⟩ : ∃ Q, Q = RsEnd w F (ofH (hels X) led) := ⟨_, rfl⟩
  rw [← hQ]
  have HQ := Lib.hid hQ; clear hQ
  unfold crsV
  have c2 := B1.out.cell 2
  simp only [List.getElem?_toArray, List.getElem?_cons_zero, List.getElem?_cons_succ] at c2
  go_enter Try.func38, Try.ntmps38
  go_wp2
  rw [← hw1, ← hg]
  have HG := Lib.hid hg; clear hg
  have HW1 := Lib.hid hw1; clear hw1
  go_loop [5] (fun s5 => ∃ k : Nat, k ≤ n ∧ s5 = .int .i64 (k : Nat) ∧ Hid (∀ j, j < k → ((hels X).getD j default).1 ≠ led)) (fun s5 => n - (intOf s5).toNat)
  case atStart => exact ⟨0, Nat.zero_le _, rfl, Lib.hid (fun j hj => absurd hj (Nat.not_lt_zero _))⟩
  case round =>
    obtain ⟨k, hk, rfl, HI⟩ := hrel
    by_cases hlt : k < n
    · have hlt' : (k : Int) < (n : Int) := by omega
      have hkX : k < X.length := by have := HN.out; omega
      obtain ⟨b, off, rfl, d0, d1, hok⟩ := (H.out.sub F1.out).at (i := k) hkX
      have EK := Lib.hid (hels_getD X k)
      obtain ⟨x, hx⟩ : ∃ x, x = X.getD k default := ⟨_, rfl⟩
      rw [← hx] at d0 d1 hok EK
      have OK := Lib.hid hok
      have KL : Hid (k < (hels X).length) := Lib.hid (by rw [hels_length]; exact hkX)
      clear hx hkX hok
      by_cases he : x.t.1 = led
      · have e1 : ((x.t.1 : Int) == (led : Int)) = true := by rw [beq_iff_eq]; omega
        have E : Hid (ofH (hels X) led = x.t.2) := Lib.hid (by rw [ofH_at KL.out HI.out (by rw [EK.out]; exact he), EK.out])
        have FIN : Hid (Q (.returned (.slice x.a x.t.2.length x.c)) w1) := Lib.hid (by
          rw [HQ.out, E.out]
          exact ⟨x.a, x.c, rfl, OK.out.rs, OK.out.nil, OK.out.room.1, OK.out.room.2, OK.out.away, F1.out⟩)
        clear he
        go_wp2
        exact FIN.out
      · have e1 : ((x.t.1 : Int) == (led : Int)) = false := by rw [beq_eq_false_iff_ne]; omega
        have NX : Hid (∀ j, j < k + 1 → ((hels X).getD j default).1 ≠ led) := Lib.hid (fun j hj => by
          rcases Nat.lt_or_eq_of_le (Nat.le_of_lt_succ hj) with h | rfl
          · exact HI.out j h
          · rw [EK.out]; exact he)
        clear he
        go_wp2
        go_round
        case rel => exact ⟨k + 1, by omega, by go_num, NX⟩
        case measure => simp [intOf]; omega
    · obtain rfl : k = n := by omega
      have FIN : Hid (Q (.returned (.slice none 0 0)) w1) := Lib.hid (by
        rw [HQ.out, ofH_none (by rw [hels_length, ← HN.out]; exact HI.out)]
        exact ⟨none, 0, rfl, Rr.nil _ _, fun _ => rfl, Nat.le_refl _, Nat.zero_le _, fun h => absurd rfl h, F1.out⟩)
      go_wp2
      exact FIN.out
set_option maxHeartbeats 2000000 in
theorem cracked_any (m : Ps) (a : Option Addr) (n cap : Nat) (F : List Nat) (X : List Hx) (p : Ps) (w : World) (h : HxL w F a X) (hn : n = X.length) (hsz : n < 4611686018427387904) (hr : ∀ x ∈ X, x.t.2.length < 4611686018427387904) :
    Calls Try.prog 19 #[crsV m a n cap, p.val] w (BoolOf (ackedC ⟨m, hels X⟩ p) w) := by
  have OF := Lib.hid (fun z (hz : Frm [] w z) => crof_any m a n cap F X p.l z (h.sub hz) hn hsz)
  have IN : Hid (∀ (z : World) (ar : Option Addr) (cr : Nat), Rr z ar (ofH (hels X) p.l) → Calls Try.prog 47 #[.slice ar (ofH (hels X) p.l).length cr, .int .u64 (p.e : Nat)] z (BoolOf (Mem (ofH (hels X) p.l) p.e) z)) := Lib.hid (fun z ar cr hz => (in_any hz rfl (by
    unfold ofH
    split
    · rename_i hh hf
      have := List.mem_of_find?_eq_some hf
      unfold hels at this
      obtain ⟨x, hx, rfl⟩ := List.mem_map.1 this
      exact hr x hx
    · decide)).mono fun e w' hh => hh.1)
  have ORD := Lib.hid (fun z => rlorder_any p m z)
  obtain ⟨c, hc⟩ : ∃ c, c = ordP p m := ⟨_, rfl⟩
  rw [← hc] at ORD
  have I1 : (c < 0 ↔ p.lt m) := by rw [hc]; exact ordP_neg
  have II := Lib.hid I1
  unfold ackedC
  simp only
  generalize ofH (hels X) p.l = R at OF IN ⊢
  obtain ⟨w1, hw1⟩ : ∃ w1, w1 = (w.alloc (.cells #[.int .u64 (m.l : Nat), .int .u64 (m.e : Nat), .slice a n cap] 28)).alloc (.cells #[.int .u64 (p.l : Nat), .int .u64 (p.e : Nat)] 25) := ⟨_, rfl⟩
  have F1 : Hid (Frm [] w w1) := Lib.hid (by rw [hw1]; exact ((Frm.refl _ _).alloc _).alloc _)
  obtain ⟨g, hg⟩ : ∃ g, g = w.heap.size := ⟨_, rfl⟩
  have B1 : Hid (Whole w1 g 28 #[.int .u64 (m.l : Nat), .int .u64 (m.e : Nat), .slice a n cap]) := Lib.hid (by rw [hw1, hg]; exact (Whole.made _ _ _).alloc _)
  have B2 : Hid (Whole w1 (g + 1) 25 #[.int .u64 (p.l : Nat), .int .u64 (p.e : Nat)]) := Lib.hid (by
    rw [hw1, hg]
    have := Whole.made (w.alloc (.cells #[.int .u64 (m.l : Nat), .int .u64 (m.e : Nat), .slice a n cap] 28)) 25 #[.int .u64 (p.l : Nat), .int .u64 (p.e : Nat)]
    rwa [World.size_alloc] at this)
  have r0 : ∀ z, Frm [] w1 z → z.cell? ⟨g, 0, none⟩ = some (.int .u64 (m.l : Nat)) := fun z hz => (hz.whole B1.out (by simp)).cell 0
  have r1 : ∀ z, Frm [] w1 z → z.cell? ⟨g, 1, none⟩ = some (.int .u64 (m.e : Nat)) := fun z hz => (hz.whole B1.out (by simp)).cell 1
  have r2 : ∀ z, Frm [] w1 z → z.cell? ⟨g, 2, none⟩ = some (.slice a n cap) := fun z hz => (hz.whole B1.out (by simp)).cell 2
  have r3 : ∀ z, Frm [] w1 z → z.cell? ⟨g + 1, 0, none⟩ = some (.int .u64 (p.l : Nat)) := fun z hz => (hz.whole B2.out (by simp)).cell 0
  have r4 : ∀ z, Frm [] w1 z → z.cell? ⟨g + 1, 1, none⟩ = some (.int .u64 (p.e : Nat)) := fun z hz => (hz.whole B2.out (by simp)).cell 1
  clear h hn hr hc I1
  obtain ⟨pl, pe⟩ := p
  obtain ⟨ml, me⟩ := m
  unfold LRet Ps.val at ORD
  unfold crsV at OF
  unfold crsV Ps.val
  simp only at ORD OF IN r0 r1 r2 r3 r4 hw1 II ⊢
  by_cases h1 : c < 0
  · have d1 : decide (c < 0) = true := decide_eq_true h1
    have YES : Hid (Ps.lt ⟨pl, pe⟩ ⟨ml, me⟩ ∨ Mem R pe) := Lib.hid (.inl (II.out.1 h1))
    clear h1
    go_enter Try.func19, Try.ntmps19
    go_wp2
    rw [← hw1, ← hg]
    clear hw1 hg
    refine wp_region_held_drew (S := fun w' => Frm [] w1 w') (by kernel_rfl) (Frm.drew (Frm.refl _ _)) (fun hHeld => ?_)
    refine wpAnyH_take (i := 0) (oi := ⟨some 5, _, _, _, _, _⟩) (v := ?_) rfl (by kernel_rfl) (by kernel_rfl) (by kernel_rfl) (fun _ _ _ h => h) (Or.inl ⟨by rfl, ?_⟩) (by assumption) ?_
    rotate_left 1
    · (intro w hSw; (try dsimp only at hSw); go_simp; all_goals with_reducible rfl)
    try simp only [Act.put, List.setIfInBounds_toArray, List.set_cons_zero, List.set_cons_succ]
    refine wpAnyH_take (i := 1) (oi := ⟨some 6, _, _, _, _, _⟩) (v := ?_) rfl (by kernel_rfl) (by kernel_rfl) (by kernel_rfl) (fun _ _ _ h => h) (Or.inl ⟨by rfl, ?_⟩) (by assumption) ?_
    rotate_left 1
    · (intro w hSw; (try dsimp only at hSw); go_simp; all_goals with_reducible rfl)
    try simp only [Act.put, List.setIfInBounds_toArray, List.set_cons_zero, List.set_cons_succ]
    refine wpAnyH_take (i := 2) (oi := ⟨some 7, _, _, _, _, _⟩) (v := ?_) rfl (by kernel_rfl) (by kernel_rfl) (by kernel_rfl) (fun _ _ _ h => h) (Or.inl ⟨by rfl, ?_⟩) (by assumption) ?_
    rotate_left 1
    · (intro w hSw; (try dsimp only at hSw); go_simp; all_goals with_reducible rfl)
    try simp only [Act.put, List.setIfInBounds_toArray, List.set_cons_zero, List.set_cons_succ]
    refine wpAnyH_ready (rs := [3]) (by kernel_rfl) (by simp) ?_
    refine AllReadyH.cons (o := ⟨some 8, _, _, _, _, _⟩) rfl (fun K hK => ?_) AllReadyH.nil
    go_simp
    go_at_call 43; (with_reducible refine (ORD.out _).mono ?_); rintro e v1 ⟨rfl, hv1⟩; have hHeld1 : Frm [] w1 v1 := hHeld.trans hv1 (by simp) (by simp)
    go_wp2_with fail
    refine hK.out _ _ (by assumption) (fun hHeld => ?_)
    clear hK K
    try simp only [Act.put, List.setIfInBounds_toArray, List.set_cons_zero, List.set_cons_succ]
    refine wpAnyH_take (i := 4) (oi := ⟨some 9, _, _, _, _, _⟩) (v := ?_) rfl (by kernel_rfl) (by kernel_rfl) (by kernel_rfl) (fun _ _ _ h => h) (Or.inl ⟨by rfl, ?_⟩) (by assumption) ?_
    rotate_left 1
    · (intro w hSw; (try dsimp only at hSw); go_simp; all_goals with_reducible rfl)
    try simp only [Act.put, List.setIfInBounds_toArray, List.set_cons_zero, List.set_cons_succ]
    refine wpAnyH_take (i := 5) (oi := ⟨some 10, _, _, _, _, _⟩) (v := ?_) rfl (by kernel_rfl) (by kernel_rfl) (by kernel_rfl) (fun _ _ _ h => h) (Or.inl ⟨by rfl, ?_⟩) (by assumption) ?_
    rotate_left 1
    · (intro w hSw; (try dsimp only at hSw); go_simp; all_goals with_reducible rfl)
    try simp only [Act.put, List.setIfInBounds_toArray, List.set_cons_zero, List.set_cons_succ]
    refine wpAnyH_take (i := 6) (oi := ⟨some 11, _, _, _, _, _⟩) (v := undef) rfl (by kernel_rfl) (by kernel_rfl) (by kernel_rfl) (fun _ _ _ h => h) (Or.inr ⟨by rfl, rfl⟩) (by assumption) ?_
    try simp only [Act.put, List.setIfInBounds_toArray, List.set_cons_zero, List.set_cons_succ]
    refine wpAnyH_take (i := 7) (oi := ⟨some 12, _, _, _, _, _⟩) (v := undef) rfl (by kernel_rfl) (by kernel_rfl) (by kernel_rfl) (fun _ _ _ h => h) (Or.inr ⟨by rfl, rfl⟩) (by assumption) ?_
    try simp only [Act.put, List.setIfInBounds_toArray, List.set_cons_zero, List.set_cons_succ]
    refine wpAnyH_take (i := 8) (oi := ⟨some 13, _, _, _, _, _⟩) (v := undef) rfl (by kernel_rfl) (by kernel_rfl) (by kernel_rfl) (fun _ _ _ h => h) (Or.inr ⟨by rfl, rfl⟩) (by assumption) ?_
    try simp only [Act.put, List.setIfInBounds_toArray, List.set_cons_zero, List.set_cons_succ]
    refine wpAnyH_take (i := 9) (oi := ⟨some 14, _, _, _, _, _⟩) (v := undef) rfl (by kernel_rfl) (by kernel_rfl) (by kernel_rfl) (fun _ _ _ h => h) (Or.inr ⟨by rfl, rfl⟩) (by assumption) ?_
    try simp only [Act.put, List.setIfInBounds_toArray, List.set_cons_zero, List.set_cons_succ]
    refine wpAnyH_take (i := 10) (oi := ⟨some 15, _, _, _, _, _⟩) (v := undef) rfl (by kernel_rfl) (by kernel_rfl) (by kernel_rfl) (fun _ _ _ h => h) (Or.inr ⟨by rfl, rfl⟩) (by assumption) ?_
    try simp only [Act.put, List.setIfInBounds_toArray, List.set_cons_zero, List.set_cons_succ]
    refine wpAnyH_take (i := 11) (oi := ⟨some 16, _, _, _, _, _⟩) (v := undef) rfl (by kernel_rfl) (by kernel_rfl) (by kernel_rfl) (fun _ _ _ h => h) (Or.inr ⟨by rfl, rfl⟩) (by assumption) ?_
    try simp only [Act.put, List.setIfInBounds_toArray, List.set_cons_zero, List.set_cons_succ]
    refine wpAnyH_take (i := 12) (oi := ⟨some 17, _, _, _, _, _⟩) (v := undef) rfl (by kernel_rfl) (by kernel_rfl) (by kernel_rfl) (fun _ _ _ h => h) (Or.inr ⟨by rfl, rfl⟩) (by assumption) ?_
    try simp only [Act.put, List.setIfInBounds_toArray, List.set_cons_zero, List.set_cons_succ]
    refine wpAnyH_take (i := 13) (oi := ⟨some 18, _, _, _, _, _⟩) (v := ?_) rfl (by kernel_rfl) (by kernel_rfl) (by kernel_rfl) (fun _ _ _ h => h) (Or.inl ⟨by rfl, ?_⟩) (by assumption) ?_
    rotate_left 1
    · (intro w hSw; (try dsimp only at hSw); go_simp; all_goals with_reducible rfl)
    try simp only [Act.put, List.setIfInBounds_toArray, List.set_cons_zero, List.set_cons_succ]
    refine wpAnyH_take (i := 14) (oi := ⟨some 4, _, _, _, _, _⟩) (v := ?_) rfl (by kernel_rfl) (by kernel_rfl) (by kernel_rfl) (fun _ _ _ h => h) (Or.inl ⟨by rfl, ?_⟩) (by assumption) ?_
    rotate_left 1
    · (intro w hSw; (try dsimp only at hSw); go_simp; all_goals with_reducible rfl)
    try simp only [Act.put, List.setIfInBounds_toArray, List.set_cons_zero, List.set_cons_succ]
    refine wpAnyH_done (by kernel_rfl) ?_ _
    have FX : Hid (Frm [] w _) := Lib.hid (F1.out.trans hHeld (by simp) (by simp))
    clear r0 r1 r2 r3 r4
    go_wp2
    go_ret
    exact boolOf_t YES.out FX.out
  · have d1 : decide (c < 0) = false := decide_eq_false h1
    have NL : Hid (¬ Ps.lt ⟨pl, pe⟩ ⟨ml, me⟩) := Lib.hid (fun h => h1 (II.out.2 h))
    clear h1
    go_enter Try.func19, Try.ntmps19
    go_wp2
    rw [← hw1, ← hg]
    clear hw1 hg
    refine wp_region_held_drew (S := fun w' => Frm [] w1 w') (by kernel_rfl) (Frm.drew (Frm.refl _ _)) (fun hHeld => ?_)
    refine wpAnyH_take (i := 0) (oi := ⟨some 5, _, _, _, _, _⟩) (v := ?_) rfl (by kernel_rfl) (by kernel_rfl) (by kernel_rfl) (fun _ _ _ h => h) (Or.inl ⟨by rfl, ?_⟩) (by assumption) ?_
    rotate_left 1
    · (intro w hSw; (try dsimp only at hSw); go_simp; all_goals with_reducible rfl)
    try simp only [Act.put, List.setIfInBounds_toArray, List.set_cons_zero, List.set_cons_succ]
    refine wpAnyH_take (i := 1) (oi := ⟨some 6, _, _, _, _, _⟩) (v := ?_) rfl (by kernel_rfl) (by kernel_rfl) (by kernel_rfl) (fun _ _ _ h => h) (Or.inl ⟨by rfl, ?_⟩) (by assumption) ?_
    rotate_left 1
    · (intro w hSw; (try dsimp only at hSw); go_simp; all_goals with_reducible rfl)
    try simp only [Act.put, List.setIfInBounds_toArray, List.set_cons_zero, List.set_cons_succ]
    refine wpAnyH_take (i := 2) (oi := ⟨some 7, _, _, _, _, _⟩) (v := ?_) rfl (by kernel_rfl) (by kernel_rfl) (by kernel_rfl) (fun _ _ _ h => h) (Or.inl ⟨by rfl, ?_⟩) (by assumption) ?_
    rotate_left 1
    · (intro w hSw; (try dsimp only at hSw); go_simp; all_goals with_reducible rfl)
    try simp only [Act.put, List.setIfInBounds_toArray, List.set_cons_zero, List.set_cons_succ]
    refine wpAnyH_ready (rs := [3]) (by kernel_rfl) (by simp) ?_
    refine AllReadyH.cons (o := ⟨some 8, _, _, _, _, _⟩) rfl (fun K hK => ?_) AllReadyH.nil
    go_simp
    go_at_call 43; (with_reducible refine (ORD.out _).mono ?_); rintro e v1 ⟨rfl, hv1⟩; have hHeld1 : Frm [] w1 v1 := hHeld.trans hv1 (by simp) (by simp)
    go_wp2_with fail
    refine hK.out _ _ (by assumption) (fun hHeld => ?_)
    clear hK K
    try simp only [Act.put, List.setIfInBounds_toArray, List.set_cons_zero, List.set_cons_succ]
    refine wpAnyH_take (i := 4) (oi := ⟨some 9, _, _, _, _, _⟩) (v := ?_) rfl (by kernel_rfl) (by kernel_rfl) (by kernel_rfl) (fun _ _ _ h => h) (Or.inl ⟨by rfl, ?_⟩) (by assumption) ?_
    rotate_left 1
    · (intro w hSw; (try dsimp only at hSw); go_simp; all_goals with_reducible rfl)
    try simp only [Act.put, List.setIfInBounds_toArray, List.set_cons_zero, List.set_cons_succ]
    refine wpAnyH_take (i := 5) (oi := ⟨some 10, _, _, _, _, _⟩) (v := ?_) rfl (by kernel_rfl) (by kernel_rfl) (by kernel_rfl) (fun _ _ _ h => h) (Or.inl ⟨by rfl, ?_⟩) (by assumption) ?_
    rotate_left 1
    · (intro w hSw; (try dsimp only at hSw); go_simp; all_goals with_reducible rfl)
    try simp only [Act.put, List.setIfInBounds_toArray, List.set_cons_zero, List.set_cons_succ]
    refine wpAnyH_take (i := 6) (oi := ⟨some 11, _, _, _, _, _⟩) (v := ?_) rfl (by kernel_rfl) (by kernel_rfl) (by kernel_rfl) (fun _ _ _ h => h) (Or.inl ⟨by rfl, ?_⟩) (by assumption) ?_
    rotate_left 1
    · (intro w hSw; (try dsimp only at hSw); go_simp; all_goals with_reducible rfl)
    try simp only [Act.put, List.setIfInBounds_toArray, List.set_cons_zero, List.set_cons_succ]
    refine wpAnyH_take (i := 7) (oi := ⟨some 12, _, _, _, _, _⟩) (v := ?_) rfl (by kernel_rfl) (by kernel_rfl) (by kernel_rfl) (fun _ _ _ h => h) (Or.inl ⟨by rfl, ?_⟩) (by assumption) ?_
    rotate_left 1
    · (intro w hSw; (try dsimp only at hSw); go_simp; all_goals with_reducible rfl)
    try simp only [Act.put, List.setIfInBounds_toArray, List.set_cons_zero, List.set_cons_succ]
    refine wpAnyH_take (i := 8) (oi := ⟨some 13, _, _, _, _, _⟩) (v := ?_) rfl (by kernel_rfl) (by kernel_rfl) (by kernel_rfl) (fun _ _ _ h => h) (Or.inl ⟨by rfl, ?_⟩) (by assumption) ?_
    rotate_left 1
    · (intro w hSw; (try dsimp only at hSw); go_simp; all_goals with_reducible rfl)
    try simp only [Act.put, List.setIfInBounds_toArray, List.set_cons_zero, List.set_cons_succ]
    refine wpAnyH_take (i := 10) (oi := ⟨some 15, _, _, _, _, _⟩) (v := ?_) rfl (by kernel_rfl) (by kernel_rfl) (by kernel_rfl) (fun _ _ _ h => h) (Or.inl ⟨by rfl, ?_⟩) (by assumption) ?_
    rotate_left 1
    · (intro w hSw; (try dsimp only at hSw); go_simp; all_goals with_reducible rfl)
    try simp only [Act.put, List.setIfInBounds_toArray, List.set_cons_zero, List.set_cons_succ]
    refine wpAnyH_take (i := 11) (oi := ⟨some 16, _, _, _, _, _⟩) (v := ?_) rfl (by kernel_rfl) (by kernel_rfl) (by kernel_rfl) (fun _ _ _ h => h) (Or.inl ⟨by rfl, ?_⟩) (by assumption) ?_
    rotate_left 1
    · (intro w hSw; (try dsimp only at hSw); go_simp; all_goals with_reducible rfl)
    try simp only [Act.put, List.setIfInBounds_toArray, List.set_cons_zero, List.set_cons_succ]
    refine wpAnyH_ready (rs := [9]) (by kernel_rfl) (by simp) ?_
    refine AllReadyH.cons (o := ⟨some 14, _, _, _, _, _⟩) rfl (fun K hK => ?_) AllReadyH.nil
    go_simp
    go_at_call 38; (with_reducible refine (OF.out _ (F1.out.trans hHeld (by simp) (by simp))).mono ?_); rintro e v2 ⟨ar, cr, rfl, hrr, _, _, _, _, hv2⟩; have RR := Lib.hid hrr; clear hrr; have hHeld2 : Frm [] w1 v2 := hHeld.trans hv2 (by simp) (by simp)
    go_wp2_with fail
    refine hK.out _ _ (by assumption) (fun hHeld => ?_)
    clear hK K
    try simp only [Act.put, List.setIfInBounds_toArray, List.set_cons_zero, List.set_cons_succ]
    refine wpAnyH_ready (rs := [12]) (by kernel_rfl) (by simp) ?_
    refine AllReadyH.cons (o := ⟨some 17, _, _, _, _, _⟩) rfl (fun K hK => ?_) AllReadyH.nil
    go_simp
    go_at_call 47; (with_reducible refine (IN.out _ _ _ RR.out).mono ?_); rintro e v3 ⟨bb, rfl, hbb, hv3⟩; have HBB := Lib.hid hbb; clear hbb; have hHeld3 : Frm [] w1 v3 := hHeld.trans hv3 (by simp) (by simp)
    go_wp2_with fail
    refine hK.out _ _ (by assumption) (fun hHeld => ?_)
    clear hK K
    try simp only [Act.put, List.setIfInBounds_toArray, List.set_cons_zero, List.set_cons_succ]
    refine wpAnyH_take (i := 13) (oi := ⟨some 18, _, _, _, _, _⟩) (v := ?_) rfl (by kernel_rfl) (by kernel_rfl) (by kernel_rfl) (fun _ _ _ h => h) (Or.inl ⟨by rfl, ?_⟩) (by assumption) ?_
    rotate_left 1
    · (intro w hSw; (try dsimp only at hSw); go_simp; all_goals with_reducible rfl)
    try simp only [Act.put, List.setIfInBounds_toArray, List.set_cons_zero, List.set_cons_succ]
    refine wpAnyH_take (i := 14) (oi := ⟨some 4, _, _, _, _, _⟩) (v := ?_) rfl (by kernel_rfl) (by kernel_rfl) (by kernel_rfl) (fun _ _ _ h => h) (Or.inl ⟨by rfl, ?_⟩) (by assumption) ?_
    rotate_left 1
    · (intro w hSw; (try dsimp only at hSw); go_simp; all_goals with_reducible rfl)
    try simp only [Act.put, List.setIfInBounds_toArray, List.set_cons_zero, List.set_cons_succ]
    refine wpAnyH_done (by kernel_rfl) ?_ _
    have FX : Hid (Frm [] w _) := Lib.hid (F1.out.trans hHeld (by simp) (by simp))
    clear r0 r1 r2 r3 r4
    go_wp2
    go_ret
    exact ⟨bb, rfl, HBB.out.trans ⟨fun h => .inr h, fun h => h.elim (fun h2 => absurd h2 NL.out) id⟩, FX.out⟩
end Go.Proofs.Ytghadpihmhaepaa
/- Contract of the document's All. -/
namespace Go.Proofs.Ytghadpihmhaepaa
open Go.RowKit
set_option maxRecDepth 100000

theorem infoPs : (Try.prog.info? 25).map (fun i => (i.zero, i.size, i.bytes)) = some (some (.agg #[.int .u64 0, .int .u64 0]), 2, 16) := by kernel_rfl
/-- While places are listed: of the first k ledgers all, of the next one j. -/
structure Al13 (w wr : World) (X : List Ld) (o k j m : Nat) (a : Option Addr) (cap : Nat) : Prop where
  own : PsOwn wr w.heap.size 25 [] a cap (allP (X.take k) o ++ (List.range j).map fun i => ⟨(X.getD k default).id, i⟩)
  len : m = tot (X.take k) o + j
  frm : Frm [] w wr
theorem Al13.next {w wr : World} {X : List Ld} {o k m : Nat} {a : Option Addr} {cap : Nat} (h : Al13 w wr X o k ((X.getD k default).size o) m a cap) (hk : k < X.length) : Al13 w wr X o (k + 1) 0 m a cap := by
  refine ⟨?_, by rw [h.len, tot_take o hk, Nat.add_zero], h.frm⟩
  have e : allP (X.take (k + 1)) o ++ (List.range 0).map (fun i => (⟨(X.getD (k + 1) default).id, i⟩ : Ps)) = allP (X.take k) o ++ (List.range ((X.getD k default).size o)).map fun i => ⟨(X.getD k default).id, i⟩ := by
    rw [allP_take o hk]; simp
  rw [e]
  exact h.own
theorem Al13.length {w wr : World} {X : List Ld} {o k j m : Nat} {a : Option Addr} {cap : Nat} (h : Al13 w wr X o k j m a cap) : (allP (X.take k) o ++ (List.range j).map fun i => (⟨(X.getD k default).id, i⟩ : Ps)).length = m := by
  rw [List.length_append, allP_length, List.length_map, List.length_range, h.len]
set_option maxHeartbeats 8000000 in
theorem rlall_any (a : Option Addr) (n cap : Nat) (X : List Ld) (o : Nat) (w : World) (h : LdL w [] a X) (hn : n = X.length) (hsz : n < 4611686018427387904) (ht : tot X o ≤ 100000) :
    Calls Try.prog 24 #[.slice a n cap, .int .u64 (o : Nat)] w fun e w' => ∃ a' c', e = .returned (.slice a' (tot X o : Nat) c') ∧ PsOwn w' w.heap.size 25 [] a' c' (allP X o) ∧ Frm [] w w' := by
  have SZ := Lib.hid (fun (x : Ld) z => rlsize_any x o z)
  have TT : Hid (∀ k, k < X.length → tot (X.take k) o + (X.getD k default).size o ≤ 100000) := Lib.hid (fun k hk => by
    have h1 := tot_take o hk
    have h2 := tot_take_le X o (k + 1)
    omega)
  obtain ⟨i0, hi, hz0, hz1, hz2⟩ := info_parts infoPs
  have HI := Lib.hid hi; clear hi
  have HZ0 := Lib.hid hz0; clear hz0
  have HZ1 := Lib.hid hz1; clear hz1
  have HZ2 := Lib.hid hz2; clear hz2
  have FITX := Lib.hid (fun i => ld_fits_at h.fits i)
  have H := Lib.hid h; clear h
  have HN := Lib.hid hn; clear hn ht
  obtain ⟨Q, hQ⟩ : ∃ Q : Ending → World → Prop, Q = fun e w' => ∃ a' c', e = .returned (.slice a' (tot X o : Nat) c') ∧ PsOwn w' w.heap.size 25 [] a' c' (allP X o) ∧ Frm [] w w' := ⟨_, rfl⟩
  rw [← hQ]
  have HQ := Lib.hid hQ; clear hQ
  go_enter Try.func24, Try.ntmps24
  go_wp2
  go_loopw [5, 6] (fun s5 s6 wr => ∃ (k m : Nat) (a : Option Addr) (cap : Nat), k ≤ n ∧ s6 = .int .i64 (k : Nat) ∧ s5 = .slice a m cap ∧ Hid (Al13 w wr X o k 0 m a cap)) (fun _ s6 _ => n - (intOf s6).toNat)
  case atStart => exact ⟨0, 0, none, 0, Nat.zero_le _, rfl, rfl, Lib.hid ⟨by simpa [allP] using PsOwn.nil _ _ _ _, by simp [tot], Frm.refl _ _⟩⟩
  case round =>
    obtain ⟨k, m, ar, capr, hk, rfl, rfl, HA⟩ := hrel
    by_cases hlt : k < n
    · have hlt' : (k : Int) < (n : Int) := by omega
      have hkX : k < X.length := by have := HN.out; omega
      obtain ⟨b, off, rfl, e0, e1, e2, _⟩ := H.out.at (i := k) hkX
      have XA : Hid (∀ z, Frm [] w z → z.cell? ⟨b, off + k * 3, none⟩ = some (.int .u64 ((X.getD k default).id : Nat))) := Lib.hid (fun z hz => (hz.cell (p := ⟨b, off + k * 3, none⟩) (block_lt_of_cell e0) (by simp)).trans e0)
      have d0 := XA.out _ HA.out.frm
      have d1 := (HA.out.frm.cell (p := ⟨b, off + k * 3 + 1, none⟩) (block_lt_of_cell e1) (by simp)).trans e1
      have d2 := (HA.out.frm.cell (p := ⟨b, off + k * 3 + 2, none⟩) (block_lt_of_cell e2) (by simp)).trans e2
      clear e0 e1 e2
      have NX := Lib.hid (fun wr m a cap (h : Al13 w wr X o k ((X.getD k default).size o) m a cap) => h.next hkX)
      have tk := TT.out k hkX
      obtain ⟨x, hx⟩ : ∃ x, x = X.getD k default := ⟨_, rfl⟩
      have EX := Lib.hid hx
      rw [← hx] at d0 d1 d2 NX tk XA
      have SX := Lib.hid (SZ.out x)
      obtain ⟨sz, hsz2⟩ : ∃ sz, sz = x.size o := ⟨_, rfl⟩
      rw [← hsz2] at SX NX tk
      have XI : Hid (x.id < 18446744073709551616) := Lib.hid (by rw [hx]; exact (FITX.out k).1)
      clear hx hkX hsz2
      obtain ⟨xi, xc, xn⟩ := x
      unfold Ld.val LRet at SX
      simp only at d0 d1 d2 SX XI XA
      have TK := Lib.hid tk
      clear tk
      go_wp2_with fail
      (with_reducible refine (SX.out _).mono ?_)
      rintro e w2 ⟨rfl, hf2⟩
      have A2 : Hid (Al13 w w2 X o k 0 m ar capr) := Lib.hid ⟨HA.out.own.keep hf2 (by simp) (by simp), HA.out.len, HA.out.frm.trans hf2 (by simp) (by simp)⟩
      have sz16 : sz ≤ 100000 := by have := TK.out; omega
      clear hf2 d0 d1 d2
      go_wp2
      go_loopw [5, 8] (fun s5 s8 wr => ∃ (j m : Nat) (a : Option Addr) (cap : Nat), j ≤ sz ∧ s8 = .int .u64 (j : Nat) ∧ s5 = .slice a m cap ∧ Hid (Al13 w wr X o k j m a cap)) (fun _ s8 _ => sz - (intOf s8).toNat)
      case atStart => exact ⟨0, m, ar, capr, Nat.zero_le _, rfl, rfl, A2⟩
      case round =>
        obtain ⟨j, mj, aj, cj, hj, rfl, rfl, HJ⟩ := hrel
        have c0 := XA.out _ HJ.out.frm
        by_cases hjl : j < sz
        · have hjl' : (j : Int) < (sz : Int) := by omega
          have HLEN := Lib.hid HJ.out.length
          have hmj : mj + 1 ≤ 1000000000 := by have := HJ.out.len; have := TK.out; omega
          have OWN : Hid ((wr.alloc (.cells #[.int .u64 (xi : Nat), .int .u64 (j : Nat)] 25)).ownsRow w.heap.size 25 2 (.slice aj mj cj) mj (psc (allP (X.take k) o ++ (List.range j).map fun i => ⟨(X.getD k default).id, i⟩))) := Lib.hid (by
            have := (HJ.out.own.keep (S := []) (F' := []) ((Frm.refl [] wr).alloc (.cells #[.int .u64 (xi : Nat), .int .u64 (j : Nat)] 25)) (by simp) (by simp)).own
            rwa [HLEN.out] at this)
          have ONE : Hid (ValsAt (wr.alloc (.cells #[.int .u64 (xi : Nat), .int .u64 (j : Nat)] 25)) (some ⟨wr.heap.size, 0, none⟩) (psc [⟨xi, j⟩])) := Lib.hid (pscvals_one wr ⟨xi, j⟩ 25)
          have hbz : w.heap.size ≤ (wr.alloc (.cells #[.int .u64 (xi : Nat), .int .u64 (j : Nat)] 25)).heap.size := by have := HJ.out.frm.size; simp; omega
          obtain ⟨j1, hj1⟩ : ∃ j1, j1 = j + 1 := ⟨_, rfl⟩
          have hv1 : IntKind.u64.wrap ((j : Int) + 1) = (j1 : Int) := by simp [IntKind.wrap, IntKind.bits, IntKind.signed]; omega
          have hv2 : (j : Int) + 1 = (j1 : Int) := by omega
          have hv3 : IntKind.u64.wrap (j1 : Int) = (j1 : Int) := by simp [IntKind.wrap, IntKind.bits, IntKind.signed]; omega
          have HJ1 := Lib.hid hj1; clear hj1
          go_wp2_with (at_builtin; refine wpList_appS (by rfl) (.tmp 26) (.tmp 34) 45 rfl w.heap.size 25 i0 (.agg #[.int .u64 0, .int .u64 0]) 2 16 Try.underlying45 HI.out HZ0.out rfl (by decide) HZ1.out HZ2.out (by decide) (.slice aj mj cj) mj _ rfl OWN.out _ 1 1 _ rfl ONE.out rfl (psc_one _) (fun h => by cases h) hmj hbz ?_)
          intro a3 c3 w3 happ
          have g3 := (HJ.out.own.keep (S := []) (F' := []) ((Frm.refl [] wr).alloc (.cells #[.int .u64 (xi : Nat), .int .u64 (j : Nat)] 25)) (by simp) (by simp)).app (Y := [⟨xi, j⟩]) HLEN.out.symm (by intro y hy; simp at hy; subst hy; exact ⟨XI.out, by show j < _; omega⟩) rfl (by simp) happ
          have A3 : Hid (Al13 w w3 X o k j1 (mj + 1) a3 c3) := Lib.hid ⟨by
            have h1 := g3.1
            rw [List.append_assoc] at h1
            rw [HJ1.out, List.range_succ, List.map_append, ← EX.out] at *
            exact h1, by rw [HJ.out.len, HJ1.out]; omega, (HJ.out.frm.alloc (.cells #[.int .u64 (xi : Nat), .int .u64 (j : Nat)] 25)).trans g3.2.1 (by simp) (fun x hx => .inr (HJ.out.own.blk_lt x hx).1)⟩
          clear happ g3 OWN ONE hbz
          go_wp2
          go_roundw
          case rel => exact ⟨j1, mj + 1, a3, c3, by have := HJ1.out; omega, by rfl, by rfl, A3⟩
          case measure => have := HJ1.out; simp [intOf]; omega
        · obtain rfl : j = sz := by omega
          have A4 := Lib.hid (NX.out _ _ _ _ HJ.out)
          go_wp2
          go_roundw
          case rel => exact ⟨k + 1, mj, aj, cj, by omega, by go_num, rfl, A4⟩
          case measure => simp [intOf]; omega
    · obtain rfl : k = n := by omega
      have E : Hid (Q (.returned (.slice ar (m : Nat) capr)) wr) := Lib.hid (by
        rw [HQ.out]
        have h1 := HA.out.own
        have h2 := HA.out.len
        rw [HN.out, List.take_length] at h1 h2
        simp only [List.range_zero, List.map_nil, List.append_nil, Nat.add_zero] at h1 h2
        exact ⟨ar, capr, by rw [h2], h1, HA.out.frm⟩)
      go_wp2
      exact E.out
end Go.Proofs.Ytghadpihmhaepaa
/- Contract of the document's hold. -/
namespace Go.Proofs.Ytghadpihmhaepaa
open Go.RowKit
set_option maxRecDepth 100000

theorem infoHe : (Try.prog.info? 55).map (fun i => (i.zero, i.size, i.bytes)) = some (some (.agg #[.int .u64 0, .slice none 0 0]), 2, 32) := by kernel_rfl
theorem hxvals_one (w : World) (x : Hx) (t : TypeId) : ValsAt (w.alloc (.cells #[.int .u64 (x.t.1 : Nat), .slice x.a x.t.2.length x.c] t)) (some ⟨w.heap.size, 0, none⟩) (hxc [x]) := by
  refine .inr ⟨_, _, rfl, fun i u hu => ?_⟩
  rw [(Whole.made w t _).cell, Nat.zero_add]
  simp only [hxc, List.flatMap_cons, List.flatMap_nil, List.append_nil, Hx.cells] at hu
  rw [← hu]
  simp
/-- One step of hold. -/
def hoS (led : Nat) (nw : Hx) (s : List Hx × Bool) (x : Hx) : List Hx × Bool :=
  ((if s.2 = false ∧ led ≤ x.t.1 then s.1 ++ [nw] else s.1) ++ (if x.t.1 = led then [] else [x]), s.2 || decide (led ≤ x.t.1))
def hoR (led : Nat) (nw : Hx) (d : Bool) (X : List Hx) : List Hx × Bool := X.foldl (hoS led nw) ([], d)
theorem hoR_succ (led : Nat) (nw : Hx) (d : Bool) {X : List Hx} {k : Nat} (hk : k < X.length) : hoR led nw d (X.take (k + 1)) = hoS led nw (hoR led nw d (X.take k)) (X.getD k default) := by
  unfold hoR
  rw [List.take_succ_eq_append_getElem hk, List.foldl_append]
  simp [hk]
theorem hoR_len_any (led : Nat) (nw : Hx) (X : List Hx) : ∀ s, (X.foldl (hoS led nw) s).1.length ≤ s.1.length + 2 * X.length := by
  induction X with
  | nil => intro s; simp
  | cons x X ih =>
    intro s
    rw [List.foldl_cons]
    refine Nat.le_trans (ih _) ?_
    have : (hoS led nw s x).1.length ≤ s.1.length + 2 := by
      unfold hoS
      simp only [List.length_append]
      split <;> split <;> simp
    simp only [List.length_cons]
    omega
theorem hoR_len (led : Nat) (nw : Hx) (d : Bool) (X : List Hx) (k : Nat) : (hoR led nw d (X.take k)).1.length ≤ 2 * X.length := by
  have := hoR_len_any led nw (X.take k) ([], d)
  unfold hoR
  rw [List.length_take] at this
  simp only [List.length_nil] at this
  omega
def hoX (led : Nat) (nw : Hx) (d : Bool) (X : List Hx) : List Hx := if (hoR led nw d X).2 = true then (hoR led nw d X).1 else (hoR led nw d X).1 ++ [nw]
/-- A cursor as a call answers it. -/
def CsEnd (w : World) (F : List Nat) (m : Ps) (X : List Hx) (e : Ending) (w' : World) : Prop := ∃ (a : Option Addr) (c : Nat), e = .returned (crsV m a X.length c) ∧ HxL w' F a X ∧ (X ≠ [] → ∀ q, a = some q → w.heap.size ≤ q.block) ∧ Frm [] w w'

structure Ho13 (w w1 wr : World) (F : List Nat) (g : Nat) (m : Ps) (S : List Hx) (a : Option Addr) (c : Nat) : Prop where
  own : HxOwn wr w1.heap.size 55 ((g + 1) :: (g + 1 + 1) :: F) a c S
  out : Whole wr (g + 1 + 1) 28 #[.int .u64 (m.l : Nat), .int .u64 (m.e : Nat), .slice a S.length c]
  frm : Frm [g + 1 + 1] w1 wr
theorem Ho13.alloc {w w1 wr : World} {F : List Nat} {g : Nat} {m : Ps} {S : List Hx} {a : Option Addr} {c : Nat} (h : Ho13 w w1 wr F g m S a c) (o : Obj) : Ho13 w w1 (wr.alloc o) F g m S a c :=
  ⟨h.own.keep (S := []) ((Frm.refl _ _).alloc _) (by simp) (fun x hx => .inl hx), h.out.alloc _, h.frm.alloc _⟩
/-- What holds all the way. -/
structure Ho13P (w w1 : World) (F : List Nat) (g : Nat) : Prop where
  frm : Frm [] w w1
  low : w.heap.size ≤ g
  lt : g + 1 + 1 < w1.heap.size
  fl : ∀ x ∈ F, x < w.heap.size
theorem Ho13.frw {w w1 W : World} {F : List Nat} {g : Nat} {m : Ps} {S : List Hx} {a : Option Addr} {c : Nat} (h : Ho13 w w1 W F g m S a c) (p : Ho13P w w1 F g) : Frm [] w W :=
  p.frm.trans h.frm (by simp) (fun x hx => by simp at hx; have := p.low; exact .inr (by omega))
theorem Ho13.app {w w1 W w3 : World} {F : List Nat} {g sl : Nat} {m : Ps} {S : List Hx} {z : Hx} {a a3 : Option Addr} {c c3 : Nat} (h : Ho13 w w1 W F g m S a c) (p : Ho13P w w1 F g) (hz : HxOk w F z) (hsl : S.length = sl)
    (ha : AppS W w3 w1.heap.size 55 2 (.slice a sl c) sl 1 (hxc S) (hxc [z]) a3 c3) :
    Ho13 w w1 (w3.setCell ⟨g + 1 + 1, 2, none⟩ (.slice a3 (sl + 1 : Nat) c3)) F g m (S ++ [z]) a3 c3 ∧ w3.frozen? ⟨g + 1 + 1, 2, none⟩ = false ∧ w3.cell? ⟨g + 1 + 1, 2, none⟩ = some (.slice a sl c) := by
  have hb := h.own.blk_lt
  have hW := h.frw p
  have hsz := h.frm.size
  have hsz1 := p.frm.size
  have hlt := p.lt
  have hlow := p.low
  have k : HxsOk W (blk a ++ ((g + 1) :: (g + 1 + 1) :: F)) [z] := by
    intro y hy
    simp only [List.mem_singleton] at hy
    subst hy
    refine hz.keep hW (by simp) (fun x hx => ?_)
    rcases List.mem_append.1 hx with h1 | h1
    · have := (hb x h1).1; exact .inr (by omega)
    · rcases List.mem_cons.1 h1 with h2 | h2
      · exact .inr (by omega)
      · rcases List.mem_cons.1 h2 with h3 | h3
        · exact .inr (by omega)
        · exact .inl h3
  have r := h.own.app (n := sl) (m := 1) (Y := [z]) hsl.symm k rfl (fun x hx => by
    rcases List.mem_cons.1 hx with h2 | h2
    · omega
    · rcases List.mem_cons.1 h2 with h3 | h3
      · omega
      · have := p.fl x h3; omega) ha
  obtain ⟨r1, r2, r3, r4⟩ := r
  have hn : g + 1 + 1 ∉ blk a := fun hm => by have := (hb _ hm).1; omega
  have o3 := r2.whole h.out hn
  refine ⟨⟨?_, ?_, ?_⟩, o3.free 2, ?_⟩
  · exact r1.keep (S := [g + 1 + 1]) ((Frm.refl [g + 1 + 1] w3).setCell (.inl (by simp)) _) (fun x hx => .inl (by simp at hx; simp [hx])) (fun x hx => .inl hx)
  · have := o3.put 2 (.slice a3 (sl + 1 : Nat) c3)
    simpa [hsl] using this
  · exact (h.frm.trans r2 (U := [g + 1 + 1]) (by simp) (fun x hx => .inr (hb x hx).1)).setCell (.inl (by simp)) _
  · have := o3.cell 2
    simpa [hsl] using this
set_option maxHeartbeats 16000000 in
theorem crhold_any (m : Ps) (a0 : Option Addr) (n cap : Nat) (F : List Nat) (X : List Hx) (led : Nat) (la : Option Addr) (ln lc : Nat) (l : List Rg) (w : World) (h : HxL w F a0 X) (hn : n = X.length) (hsz : n ≤ 100000) (hl : HxOk w F ⟨(led, l), la, lc⟩) (hln : ln = l.length) (hF : ∀ x ∈ F, x < w.heap.size) :
    Calls Try.prog 40 #[crsV m a0 n cap, .int .u64 (led : Nat), .slice la ln lc] w (CsEnd w F m (hoX led ⟨(led, l), la, lc⟩ (decide (l = [])) X)) := by
  obtain ⟨w1, hw1⟩ : ∃ w1, w1 = ((w.alloc (.cells #[.int .u64 (m.l : Nat), .int .u64 (m.e : Nat), .slice a0 n cap] 28)).alloc (.cells #[.int .u64 0, .int .u64 0, .slice none 0 0] 28)).alloc (.cells #[.int .u64 (m.l : Nat), .int .u64 (m.e : Nat), .slice none 0 0] 28) := ⟨_, rfl⟩
  obtain ⟨g, hg⟩ : ∃ g, g = w.heap.size := ⟨_, rfl⟩
  have PRE : Hid (Ho13P w w1 F g) := Lib.hid ⟨by rw [hw1]; exact (((Frm.refl _ _).alloc _).alloc _).alloc _, by omega, by rw [hw1, hg]; simp, hF⟩
  have B0 : Hid (Whole w1 g 28 #[.int .u64 (m.l : Nat), .int .u64 (m.e : Nat), .slice a0 n cap]) := Lib.hid (by rw [hw1, hg]; exact ((Whole.made _ _ _).alloc _).alloc _)
  have B1 : Hid (Whole w1 (g + 1) 28 #[.int .u64 0, .int .u64 0, .slice none 0 0]) := Lib.hid (by
    rw [hw1, hg]
    have := Whole.made (w.alloc (.cells #[.int .u64 (m.l : Nat), .int .u64 (m.e : Nat), .slice a0 n cap] 28)) 28 #[.int .u64 0, .int .u64 0, .slice none 0 0]
    rw [World.size_alloc] at this
    exact this.alloc _)
  have B2 : Hid (Whole w1 (g + 1 + 1) 28 #[.int .u64 (m.l : Nat), .int .u64 (m.e : Nat), .slice none 0 0]) := Lib.hid (by
    rw [hw1, hg]
    have := Whole.made ((w.alloc (.cells #[.int .u64 (m.l : Nat), .int .u64 (m.e : Nat), .slice a0 n cap] 28)).alloc (.cells #[.int .u64 0, .int .u64 0, .slice none 0 0] 28)) 28 #[.int .u64 (m.l : Nat), .int .u64 (m.e : Nat), .slice none 0 0]
    rwa [World.size_alloc, World.size_alloc] at this)
  obtain ⟨i0, hi, hz0, hz1, hz2⟩ := info_parts infoHe
  have HI := Lib.hid hi; clear hi
  have HZ0 := Lib.hid hz0; clear hz0
  have HZ1 := Lib.hid hz1; clear hz1
  have HZ2 := Lib.hid hz2; clear hz2
  have H := Lib.hid h; clear h
  have HN := Lib.hid hn; clear hn
  have HL := Lib.hid hl; clear hl
  have HLN := Lib.hid hln; clear hln hF
  obtain ⟨nw, hnw⟩ : ∃ nw : Hx, nw = ⟨(led, l), la, lc⟩ := ⟨_, rfl⟩
  rw [← hnw] at HL ⊢
  have NW : Hid (nw.t.1 = led ∧ nw.a = la ∧ nw.t.2.length = ln ∧ nw.c = lc) := Lib.hid (by rw [hnw]; exact ⟨rfl, rfl, HLN.out.symm, rfl⟩)
  obtain ⟨d0', hd0⟩ : ∃ d, d = decide (l = []) := ⟨_, rfl⟩
  rw [← hd0]
  have DL : Hid (((ln : Int) == 0) = d0') := Lib.hid (by
    rw [hd0, HLN.out]
    cases l with
    | nil => simp
    | cons a l => simp; omega)
  clear hnw hd0
  obtain ⟨Q, hQ⟩ : ∃ Q, Q = CsEnd w F m (hoX led nw d0' X) := ⟨_, rfl⟩
  rw [← hQ]
  have HQ := Lib.hid hQ; clear hQ
  have S0 : Hid (Ho13 w w1 w1 F g m [] none 0) := Lib.hid ⟨HxOwn.nil _ _ _ _, B2.out, Frm.refl _ _⟩
  unfold crsV
  obtain ⟨ml, me⟩ := m
  simp only at hw1 B0 S0 ⊢
  have HW1 := Lib.hid hw1; clear hw1
  have HG := Lib.hid hg; clear hg
  have dl := DL.out
  have RW : Hid (∀ wr S a c, Ho13 w w1 wr F g ⟨ml, me⟩ S a c → (wr.cell? ⟨g, 0, none⟩ = some (.int .u64 (ml : Nat)) ∧ wr.cell? ⟨g, 1, none⟩ = some (.int .u64 (me : Nat)) ∧ wr.cell? ⟨g, 2, none⟩ = some (.slice a0 n cap)) ∧ (wr.cell? ⟨g + 1 + 1, 0, none⟩ = some (.int .u64 (ml : Nat)) ∧ wr.cell? ⟨g + 1 + 1, 1, none⟩ = some (.int .u64 (me : Nat)) ∧ wr.cell? ⟨g + 1 + 1, 2, none⟩ = some (.slice a S.length c) ∧ wr.frozen? ⟨g + 1 + 1, 2, none⟩ = false)) := Lib.hid (fun wr S a c hh => by
    have b0 := hh.frm.whole B0.out (by simp only [List.mem_singleton]; omega)
    have c0 := b0.cell 0
    have c1 := b0.cell 1
    have c2 := b0.cell 2
    have e0 := hh.out.cell 0
    have e1 := hh.out.cell 1
    have e2 := hh.out.cell 2
    simp at c0 c1 c2 e0 e1 e2
    exact ⟨⟨c0, c1, c2⟩, e0, e1, e2, hh.out.free 2⟩)
  have FIN : Hid (∀ z a c sl, Ho13 w w1 z F g ⟨ml, me⟩ (hoX led nw d0' X) a c → (hoX led nw d0' X).length = sl → Whole (((z.setCell ⟨g + 1, 0, none⟩ (.int .u64 (ml : Nat))).setCell ⟨g + 1, 1, none⟩ (.int .u64 (me : Nat))).setCell ⟨g + 1, 2, none⟩ (.slice a sl c)) (g + 1) 28 #[.int .u64 (ml : Nat), .int .u64 (me : Nat), .slice a sl c] ∧ Q (.returned (.agg #[.int .u64 (ml : Nat), .int .u64 (me : Nat), .slice a sl c])) (((z.setCell ⟨g + 1, 0, none⟩ (.int .u64 (ml : Nat))).setCell ⟨g + 1, 1, none⟩ (.int .u64 (me : Nat))).setCell ⟨g + 1, 2, none⟩ (.slice a sl c))) := Lib.hid (fun z a c sl hh hsl => by
    have b1 := hh.frm.whole B1.out (by simp only [List.mem_singleton]; omega)
    have hlow := PRE.out.low
    have hlt := PRE.out.lt
    have hsz := hh.frm.size
    refine ⟨?_, ?_⟩
    · have := ((b1.put 0 (.int .u64 (ml : Nat))).put 1 (.int .u64 (me : Nat))).put 2 (.slice a sl c)
      simpa using this
    · rw [HQ.out]
      have f3 : Frm [g + 1] z (((z.setCell ⟨g + 1, 0, none⟩ (.int .u64 (ml : Nat))).setCell ⟨g + 1, 1, none⟩ (.int .u64 (me : Nat))).setCell ⟨g + 1, 2, none⟩ (.slice a sl c)) := (((Frm.refl _ _).setCell (.inl (by simp)) _).setCell (.inl (by simp)) _).setCell (.inl (by simp)) _
      refine ⟨a, c, by unfold crsV; rw [hsl], hh.own.hl.keep f3 (fun x hx => .inl (by simp at hx; simp [hx])) (fun x hx => .inl (by simp [hx])), fun _ q hq => ?_, (hh.frw PRE.out).trans f3 (by simp) (fun x hx => .inr (by simp at hx; omega))⟩
      have := (hh.own.blk_lt q.block (by rw [hq]; simp)).1
      omega)
  have V0 : Hid (∀ (z : World) (a : Option Addr) (sl c : Nat) (tm : Array Value), tm.getD 6 undef = .pointer (some ⟨g + 1, 0, none⟩) → Whole z (g + 1) 28 #[.int .u64 (ml : Nat), .int .u64 (me : Nat), .slice a sl c] → (results Try.f40 tm).run Try.prog z = .ok (.agg #[.int .u64 (ml : Nat), .int .u64 (me : Nat), .slice a sl c]) z) := Lib.hid (fun z a sl c tm h6 hw => by
    have c0 := hw.cell 0
    have c1 := hw.cell 1
    have c2 := hw.cell 2
    simp at c0 c1 c2
    have h6' : tm[6]?.getD undef = .pointer (some ⟨g + 1, 0, none⟩) := by simpa using h6
    simp [results, Try.results40, go_sem, c0, c1, c2, h6'])
  go_enter Try.func40, Try.ntmps40
  go_wp2
  rw [← HW1.out, ← HG.out]
  clear dl
  go_loopw [8, 9] (fun s8 s9 wr => ∃ (k : Nat) (aS : Option Addr) (cS : Nat) (d : Bool), k ≤ n ∧ s9 = .int .i64 (k : Nat) ∧ s8 = .bool d ∧ Hid ((hoR led nw d0' (X.take k)).2 = d ∧ Ho13 w w1 wr F g ⟨ml, me⟩ (hoR led nw d0' (X.take k)).1 aS cS)) (fun _ s9 _ => n - (intOf s9).toNat)
  case atStart => exact ⟨0, none, 0, d0', Nat.zero_le _, rfl, rfl, Lib.hid ⟨rfl, S0.out⟩⟩
  case round =>
    obtain ⟨k, aS, cS, d, hk, rfl, rfl, HS⟩ := hrel
    obtain ⟨⟨r0, r1, r2⟩, o0, o1, o2, o3⟩ := RW.out _ _ _ _ HS.out.2
    have LB0 := Lib.hid (hoR_len led nw d0' X k)
    by_cases hlt : k < n
    · have hlt' : (k : Int) < (n : Int) := by omega
      have hkX : k < X.length := by have := HN.out; omega
      have SU := Lib.hid (hoR_succ led nw d0' hkX)
      obtain ⟨b, off, rfl, e0, e1, hok⟩ := (H.out.sub (HS.out.2.frw PRE.out)).at (i := k) hkX
      have OKX : Hid (HxOk w F (X.getD k default)) := Lib.hid (H.out.ok _ (by simp [hkX]))
      obtain ⟨x0, hx0⟩ : ∃ x0, x0 = X.getD k default := ⟨_, rfl⟩
      rw [← hx0] at e0 e1 SU OKX
      obtain ⟨S, hS⟩ : ∃ S, S = (hoR led nw d0' (X.take k)).1 := ⟨_, rfl⟩
      have SE : Hid (hoR led nw d0' (X.take k) = (S, d)) := Lib.hid (by rw [hS, ← HS.out.1])
      have HO : Hid (Ho13 w w1 wr F g ⟨ml, me⟩ S aS cS) := Lib.hid (by rw [hS]; exact HS.out.2)
      have LB : Hid (S.length ≤ 2 * X.length) := Lib.hid (by rw [hS]; exact LB0.out)
      rw [← hS] at o2
      obtain ⟨xl, hxl⟩ : ∃ xl, xl = x0.t.1 := ⟨_, rfl⟩
      obtain ⟨xa, hxa⟩ : ∃ xa, xa = x0.a := ⟨_, rfl⟩
      obtain ⟨xn, hxn⟩ : ∃ xn, xn = x0.t.2.length := ⟨_, rfl⟩
      obtain ⟨xc, hxc⟩ : ∃ xc, xc = x0.c := ⟨_, rfl⟩
      have X0 : Hid (x0.t.1 = xl ∧ x0.a = xa ∧ x0.t.2.length = xn ∧ x0.c = xc) := Lib.hid ⟨hxl.symm, hxa.symm, hxn.symm, hxc.symm⟩
      rw [← hxl] at e0
      rw [← hxa, ← hxn, ← hxc] at e1
      have SU : Hid (hoR led nw d0' (X.take (k + 1)) = ((if d = false ∧ led ≤ xl then S ++ [nw] else S) ++ (if xl = led then [] else [x0]), d || decide (led ≤ xl))) := Lib.hid (by rw [SU.out, SE.out]; unfold hoS; rw [X0.out.1])
      obtain ⟨sl, hsl⟩ : ∃ sl, sl = S.length := ⟨_, rfl⟩
      rw [← hsl] at o2
      have LS : Hid (S.length = sl) := Lib.hid hsl.symm
      have lsb : sl ≤ 2 * n := by rw [hsl, HN.out]; exact LB.out
      clear hx0 hxl hxa hxn hxc hS hsl hok hkX HS LB0 SE
      obtain ⟨W, hW⟩ : ∃ W, W = wr.alloc (.cells #[.int .u64 (xl : Nat), .slice xa xn xc] 55) := ⟨_, rfl⟩
      obtain ⟨y, hy⟩ : ∃ y, y = wr.heap.size := ⟨_, rfl⟩
      have AW : Hid (Ho13 w w1 W F g ⟨ml, me⟩ S aS cS) := Lib.hid (by rw [hW]; exact HO.out.alloc _)
      have BW : Hid (Whole W y 55 #[.int .u64 (xl : Nat), .slice xa xn xc]) := Lib.hid (by rw [hW, hy]; exact Whole.made _ _ _)
      have YG : Hid (y ≠ g + 1 + 1 ∧ w1.heap.size ≤ y) := Lib.hid (by
        have h1 := HO.out.frm.size
        have h2 := PRE.out.lt
        rw [hy]; exact ⟨by omega, h1⟩)
      have YB : Hid (y ∉ blk aS) := Lib.hid (fun hm => by have := (HO.out.own.blk_lt _ hm).2; omega)
      have HWW := Lib.hid hW; clear hW
      have HY := Lib.hid hy; clear hy
      go_upto_region 7 with (fail)
      rw [← HWW.out, ← HY.out]
      clear r0 r1 r2 o0 o1 o2 o3 e0 e1
      obtain ⟨⟨r0, r1, r2⟩, o0, o1, o2, o3⟩ := RW.out _ _ _ _ AW.out
      rw [LS.out] at o2
      have v0 := BW.out.cell 0
      have v1 := BW.out.cell 1
      simp only [List.getElem?_toArray, List.getElem?_cons_zero, List.getElem?_cons_succ] at v0 v1
      by_cases hins : d = false ∧ led ≤ xl
      · obtain ⟨rfl, hge⟩ := hins
        have e6 : decide (led ≤ xl) = true := decide_eq_true hge
        have e6d : decide ((led : Int) ≤ (xl : Int)) = true := decide_eq_true (by omega)
        have HS1 : Hid (hoR led nw d0' (X.take (k + 1)) = ((S ++ [nw]) ++ (if xl = led then [] else [x0]), true)) := Lib.hid (by rw [SU.out, if_pos ⟨rfl, hge⟩, e6]; rfl)
        obtain ⟨U1, hU1⟩ : ∃ U1, U1 = W.alloc (.cells #[.int .u64 (led : Nat), .slice la ln lc] 55) := ⟨_, rfl⟩
        have AU1 : Hid (Ho13 w w1 U1 F g ⟨ml, me⟩ S aS cS) := Lib.hid (by rw [hU1]; exact AW.out.alloc _)
        have BU1 : Hid (Whole U1 y 55 #[.int .u64 (xl : Nat), .slice xa xn xc]) := Lib.hid (by rw [hU1]; exact BW.out.alloc _)
        have ONE1 : Hid (ValsAt U1 (some ⟨W.heap.size, 0, none⟩) (hxc [nw])) := Lib.hid (by rw [hU1]; have := hxvals_one W nw 55; rwa [NW.out.1, NW.out.2.1, NW.out.2.2.1, NW.out.2.2.2] at this)
        have OWN1 : Hid (U1.ownsRow w1.heap.size 55 2 (.slice aS sl cS) sl (hxc S)) := Lib.hid (by have := AU1.out.own.own; rwa [LS.out] at this)
        have hmj : sl + 1 ≤ 1000000000 := by omega
        have hbz : w1.heap.size ≤ U1.heap.size := AU1.out.frm.size
        have GO1 : Hid (∀ a3 c3 w3, AppS U1 w3 w1.heap.size 55 2 (.slice aS sl cS) sl 1 (hxc S) (hxc [nw]) a3 c3 → Ho13 w w1 (w3.setCell ⟨g + 1 + 1, 2, none⟩ (.slice a3 (sl + 1 : Nat) c3)) F g ⟨ml, me⟩ (S ++ [nw]) a3 c3 ∧ w3.frozen? ⟨g + 1 + 1, 2, none⟩ = false ∧ w3.cell? ⟨g + 1 + 1, 2, none⟩ = some (.slice aS sl cS) ∧ Whole (w3.setCell ⟨g + 1 + 1, 2, none⟩ (.slice a3 (sl + 1 : Nat) c3)) y 55 #[.int .u64 (xl : Nat), .slice xa xn xc]) := Lib.hid (fun a3 c3 w3 happ => by
          have h1 := AU1.out.app PRE.out HL.out LS.out happ
          have hf : Frm (blk aS) U1 w3 := (Frm.refl _ _).grown happ.grown (fun z hz => .inl (ownBlk.1 hz))
          exact ⟨h1.1, h1.2.1, h1.2.2, (hf.whole BU1.out YB.out).other (by exact YG.out.1) _⟩)
        clear hge r0 r1 r2
        go_wp2_with (at_builtin; rw [← hU1]; refine wpList_appS (by rfl) (.tmp 38) (.tmp 42) 26 rfl w1.heap.size 55 i0 (.agg #[.int .u64 0, .slice none 0 0]) 2 32 Try.underlying26 HI.out HZ0.out rfl (by decide) HZ1.out HZ2.out (by decide) (.slice aS sl cS) sl _ rfl OWN1.out _ 1 1 _ rfl ONE1.out rfl (hxc_one _) (fun h => by cases h) hmj hbz ?_)
        intro a3 c3 w3 happ
        rw [← hU1] at happ
        obtain ⟨A3, k3, q3, w3y⟩ := GO1.out a3 c3 w3 happ
        have L3 : Hid ((S ++ [nw]).length = sl + 1) := Lib.hid (by simp [LS.out])
        clear happ ONE1 OWN1 hbz o0 o1 o2 o3 v0 v1
        go_upto_region 9 with (fail)
        obtain ⟨V, hV⟩ : ∃ V, V = w3.setCell ⟨g + 1 + 1, 2, none⟩ (.slice a3 (sl + 1 : Nat) c3) := ⟨_, rfl⟩
        obtain ⟨sV, hsV⟩ : ∃ sV, sV = sl + 1 := ⟨_, rfl⟩
        rw [← hsV] at hV L3
        rw [← hsV, ← hV] at A3 w3y
        rw [← hsV, ← hV]
        have A3 := Lib.hid A3
        have w3y := Lib.hid w3y
        have lsb : sV ≤ 2 * n + 1 := by omega
        clear hV hsV k3 q3
        obtain ⟨⟨r0, r1, r2⟩, o0, o1, o2, o3⟩ := RW.out _ _ _ _ A3.out
        rw [L3.out] at o2
        have v0 := w3y.out.cell 0
        have v1 := w3y.out.cell 1
        simp only [List.getElem?_toArray, List.getElem?_cons_zero, List.getElem?_cons_succ] at v0 v1
        by_cases hle : xl = led
        · have e9 : ((xl : Int) != (led : Int)) = false := by simp; omega
          have GO : Hid ((hoR led nw d0' (X.take (k + 1))).2 = true ∧ Ho13 w w1 V F g ⟨ml, me⟩ (hoR led nw d0' (X.take (k + 1))).1 a3 c3) := Lib.hid (by
            rw [HS1.out, if_pos hle, List.append_nil]; exact ⟨rfl, A3.out⟩)
          clear hle
          go_wp2
          go_roundw
          case rel => exact ⟨k + 1, a3, c3, true, by omega, by go_num, rfl, GO⟩
          case measure => simp [intOf]; omega
        · have e9 : ((xl : Int) != (led : Int)) = true := by simp; omega
          obtain ⟨U, hU⟩ : ∃ U, U = V.alloc (.cells #[.int .u64 (xl : Nat), .slice xa xn xc] 55) := ⟨_, rfl⟩
          have AU : Hid (Ho13 w w1 U F g ⟨ml, me⟩ (S ++ [nw]) a3 c3) := Lib.hid (by rw [hU]; exact A3.out.alloc _)
          have ONE : Hid (ValsAt U (some ⟨V.heap.size, 0, none⟩) (hxc [x0])) := Lib.hid (by rw [hU]; have := hxvals_one V x0 55; rwa [X0.out.1, X0.out.2.1, X0.out.2.2.1, X0.out.2.2.2] at this)
          have OWN : Hid (U.ownsRow w1.heap.size 55 2 (.slice a3 sV c3) sV (hxc (S ++ [nw]))) := Lib.hid (by have := AU.out.own.own; rwa [L3.out] at this)
          have hmj : sV + 1 ≤ 1000000000 := by omega
          have hbz : w1.heap.size ≤ U.heap.size := AU.out.frm.size
          have GO : Hid (∀ a4 c4 w4, AppS U w4 w1.heap.size 55 2 (.slice a3 sV c3) sV 1 (hxc (S ++ [nw])) (hxc [x0]) a4 c4 → (hoR led nw d0' (X.take (k + 1))).2 = true ∧ Ho13 w w1 (w4.setCell ⟨g + 1 + 1, 2, none⟩ (.slice a4 (sV + 1 : Nat) c4)) F g ⟨ml, me⟩ (hoR led nw d0' (X.take (k + 1))).1 a4 c4 ∧ w4.frozen? ⟨g + 1 + 1, 2, none⟩ = false ∧ w4.cell? ⟨g + 1 + 1, 2, none⟩ = some (.slice a3 sV c3)) := Lib.hid (fun a4 c4 w4 happ => by
            rw [HS1.out, if_neg hle]
            have h1 := AU.out.app PRE.out OKX.out L3.out happ
            exact ⟨rfl, h1.1, h1.2.1, h1.2.2⟩)
          clear hle
          go_wp2_with (at_builtin; rw [← hU]; refine wpList_appS (by rfl) (.tmp 50) (.tmp 52) 26 rfl w1.heap.size 55 i0 (.agg #[.int .u64 0, .slice none 0 0]) 2 32 Try.underlying26 HI.out HZ0.out rfl (by decide) HZ1.out HZ2.out (by decide) (.slice a3 sV c3) sV _ rfl OWN.out _ 1 1 _ rfl ONE.out rfl (hxc_one _) (fun h => by cases h) hmj hbz ?_)
          intro a4 c4 w4 happ
          rw [← hU] at happ
          obtain ⟨G1, G2, k4, q4⟩ := GO.out a4 c4 w4 happ
          have G1 := Lib.hid G1
          have G2 := Lib.hid G2
          clear happ ONE OWN hbz
          go_wp2
          go_roundw
          case rel => exact ⟨k + 1, a4, c4, true, by omega, by go_num, rfl, Lib.hid ⟨G1.out, G2.out⟩⟩
          case measure => simp [intOf]; omega
      · have HS1 : Hid (hoR led nw d0' (X.take (k + 1)) = (S ++ (if xl = led then [] else [x0]), d)) := Lib.hid (by
          rw [SU.out, if_neg hins]
          congr 1
          cases d with
          | true => rfl
          | false => simp only [Bool.false_or, decide_eq_false_iff_not]; exact fun h => hins ⟨rfl, h⟩)
        cases d
        · have hge : ¬ led ≤ xl := fun h => hins ⟨rfl, h⟩
          have e6 : decide (led ≤ xl) = false := decide_eq_false hge
          have e6d : decide ((led : Int) ≤ (xl : Int)) = false := decide_eq_false (by omega)
          clear hins hge
          by_cases hle : xl = led
          · have e9 : ((xl : Int) != (led : Int)) = false := by simp; omega
            have GO : Hid ((hoR led nw d0' (X.take (k + 1))).2 = false ∧ Ho13 w w1 W F g ⟨ml, me⟩ (hoR led nw d0' (X.take (k + 1))).1 aS cS) := Lib.hid (by
              rw [HS1.out, if_pos hle, List.append_nil]; exact ⟨rfl, AW.out⟩)
            clear hle
            go_wp2
            go_roundw
            case rel => exact ⟨k + 1, aS, cS, false, by omega, by go_num, rfl, GO⟩
            case measure => simp [intOf]; omega
          · have e9 : ((xl : Int) != (led : Int)) = true := by simp; omega
            obtain ⟨U, hU⟩ : ∃ U, U = W.alloc (.cells #[.int .u64 (xl : Nat), .slice xa xn xc] 55) := ⟨_, rfl⟩
            have AU : Hid (Ho13 w w1 U F g ⟨ml, me⟩ S aS cS) := Lib.hid (by rw [hU]; exact AW.out.alloc _)
            have ONE : Hid (ValsAt U (some ⟨W.heap.size, 0, none⟩) (hxc [x0])) := Lib.hid (by rw [hU]; have := hxvals_one W x0 55; rwa [X0.out.1, X0.out.2.1, X0.out.2.2.1, X0.out.2.2.2] at this)
            have OWN : Hid (U.ownsRow w1.heap.size 55 2 (.slice aS sl cS) sl (hxc S)) := Lib.hid (by have := AU.out.own.own; rwa [LS.out] at this)
            have hmj : sl + 1 ≤ 1000000000 := by omega
            have hbz : w1.heap.size ≤ U.heap.size := AU.out.frm.size
            have GO : Hid (∀ a4 c4 w4, AppS U w4 w1.heap.size 55 2 (.slice aS sl cS) sl 1 (hxc S) (hxc [x0]) a4 c4 → (hoR led nw d0' (X.take (k + 1))).2 = false ∧ Ho13 w w1 (w4.setCell ⟨g + 1 + 1, 2, none⟩ (.slice a4 (sl + 1 : Nat) c4)) F g ⟨ml, me⟩ (hoR led nw d0' (X.take (k + 1))).1 a4 c4 ∧ w4.frozen? ⟨g + 1 + 1, 2, none⟩ = false ∧ w4.cell? ⟨g + 1 + 1, 2, none⟩ = some (.slice aS sl cS)) := Lib.hid (fun a4 c4 w4 happ => by
              rw [HS1.out, if_neg hle]
              have h1 := AU.out.app PRE.out OKX.out LS.out happ
              exact ⟨rfl, h1.1, h1.2.1, h1.2.2⟩)
            clear hle
            go_wp2_with (at_builtin; rw [← hU]; refine wpList_appS (by rfl) (.tmp 50) (.tmp 52) 26 rfl w1.heap.size 55 i0 (.agg #[.int .u64 0, .slice none 0 0]) 2 32 Try.underlying26 HI.out HZ0.out rfl (by decide) HZ1.out HZ2.out (by decide) (.slice aS sl cS) sl _ rfl OWN.out _ 1 1 _ rfl ONE.out rfl (hxc_one _) (fun h => by cases h) hmj hbz ?_)
            intro a4 c4 w4 happ
            rw [← hU] at happ
            obtain ⟨G1, G2, k4, q4⟩ := GO.out a4 c4 w4 happ
            have G1 := Lib.hid G1
            have G2 := Lib.hid G2
            clear happ ONE OWN hbz
            go_wp2
            go_roundw
            case rel => exact ⟨k + 1, a4, c4, false, by omega, by go_num, rfl, Lib.hid ⟨G1.out, G2.out⟩⟩
            case measure => simp [intOf]; omega
        · clear hins
          by_cases hle : xl = led
          · have e9 : ((xl : Int) != (led : Int)) = false := by simp; omega
            have GO : Hid ((hoR led nw d0' (X.take (k + 1))).2 = true ∧ Ho13 w w1 W F g ⟨ml, me⟩ (hoR led nw d0' (X.take (k + 1))).1 aS cS) := Lib.hid (by
              rw [HS1.out, if_pos hle, List.append_nil]; exact ⟨rfl, AW.out⟩)
            clear hle
            go_wp2
            go_roundw
            case rel => exact ⟨k + 1, aS, cS, true, by omega, by go_num, rfl, GO⟩
            case measure => simp [intOf]; omega
          · have e9 : ((xl : Int) != (led : Int)) = true := by simp; omega
            obtain ⟨U, hU⟩ : ∃ U, U = W.alloc (.cells #[.int .u64 (xl : Nat), .slice xa xn xc] 55) := ⟨_, rfl⟩
            have AU : Hid (Ho13 w w1 U F g ⟨ml, me⟩ S aS cS) := Lib.hid (by rw [hU]; exact AW.out.alloc _)
            have ONE : Hid (ValsAt U (some ⟨W.heap.size, 0, none⟩) (hxc [x0])) := Lib.hid (by rw [hU]; have := hxvals_one W x0 55; rwa [X0.out.1, X0.out.2.1, X0.out.2.2.1, X0.out.2.2.2] at this)
            have OWN : Hid (U.ownsRow w1.heap.size 55 2 (.slice aS sl cS) sl (hxc S)) := Lib.hid (by have := AU.out.own.own; rwa [LS.out] at this)
            have hmj : sl + 1 ≤ 1000000000 := by omega
            have hbz : w1.heap.size ≤ U.heap.size := AU.out.frm.size
            have GO : Hid (∀ a4 c4 w4, AppS U w4 w1.heap.size 55 2 (.slice aS sl cS) sl 1 (hxc S) (hxc [x0]) a4 c4 → (hoR led nw d0' (X.take (k + 1))).2 = true ∧ Ho13 w w1 (w4.setCell ⟨g + 1 + 1, 2, none⟩ (.slice a4 (sl + 1 : Nat) c4)) F g ⟨ml, me⟩ (hoR led nw d0' (X.take (k + 1))).1 a4 c4 ∧ w4.frozen? ⟨g + 1 + 1, 2, none⟩ = false ∧ w4.cell? ⟨g + 1 + 1, 2, none⟩ = some (.slice aS sl cS)) := Lib.hid (fun a4 c4 w4 happ => by
              rw [HS1.out, if_neg hle]
              have h1 := AU.out.app PRE.out OKX.out LS.out happ
              exact ⟨rfl, h1.1, h1.2.1, h1.2.2⟩)
            clear hle
            go_wp2_with (at_builtin; rw [← hU]; refine wpList_appS (by rfl) (.tmp 50) (.tmp 52) 26 rfl w1.heap.size 55 i0 (.agg #[.int .u64 0, .slice none 0 0]) 2 32 Try.underlying26 HI.out HZ0.out rfl (by decide) HZ1.out HZ2.out (by decide) (.slice aS sl cS) sl _ rfl OWN.out _ 1 1 _ rfl ONE.out rfl (hxc_one _) (fun h => by cases h) hmj hbz ?_)
            intro a4 c4 w4 happ
            rw [← hU] at happ
            obtain ⟨G1, G2, k4, q4⟩ := GO.out a4 c4 w4 happ
            have G1 := Lib.hid G1
            have G2 := Lib.hid G2
            clear happ ONE OWN hbz
            go_wp2
            go_roundw
            case rel => exact ⟨k + 1, a4, c4, true, by omega, by go_num, rfl, Lib.hid ⟨G1.out, G2.out⟩⟩
            case measure => simp [intOf]; omega
    · obtain rfl : k = n := by omega
      have HE : Hid ((hoR led nw d0' X).2 = d ∧ Ho13 w w1 wr F g ⟨ml, me⟩ (hoR led nw d0' X).1 aS cS) := Lib.hid (by have := HS.out; rwa [HN.out, List.take_length] at this)
      have LB1 : Hid ((hoR led nw d0' X).1.length ≤ 2 * k) := Lib.hid (by have := LB0.out; rw [HN.out, List.take_length] at this; rw [HN.out]; exact this)
      have o2' : wr.cell? ⟨g + 1 + 1, 2, none⟩ = some (.slice aS (hoR led nw d0' X).1.length cS) := (RW.out _ _ _ _ HE.out.2).2.2.2.1
      obtain ⟨S, hS⟩ : ∃ S, S = (hoR led nw d0' X).1 := ⟨_, rfl⟩
      obtain ⟨sl, hsl⟩ : ∃ sl, sl = S.length := ⟨_, rfl⟩
      rw [← hS] at o2' LB1
      rw [← hsl] at o2' LB1
      have LS : Hid (S.length = sl) := Lib.hid hsl.symm
      have HO : Hid (Ho13 w w1 wr F g ⟨ml, me⟩ S aS cS) := Lib.hid (by rw [hS]; exact HE.out.2)
      have lsb : sl ≤ 2 * k := LB1.out
      have XE : Hid (hoX led nw d0' X = if d = true then S else S ++ [nw]) := Lib.hid (by unfold hoX; rw [HE.out.1, ← hS])
      clear hS hsl o2 HS LB0 HE
      have b1 := HO.out.frm.whole B1.out (by simp only [List.mem_singleton]; omega)
      cases d
      · obtain ⟨U1, hU1⟩ : ∃ U1, U1 = wr.alloc (.cells #[.int .u64 (led : Nat), .slice la ln lc] 55) := ⟨_, rfl⟩
        have AU1 : Hid (Ho13 w w1 U1 F g ⟨ml, me⟩ S aS cS) := Lib.hid (by rw [hU1]; exact HO.out.alloc _)
        have ONE1 : Hid (ValsAt U1 (some ⟨wr.heap.size, 0, none⟩) (hxc [nw])) := Lib.hid (by rw [hU1]; have := hxvals_one wr nw 55; rwa [NW.out.1, NW.out.2.1, NW.out.2.2.1, NW.out.2.2.2] at this)
        have OWN1 : Hid (U1.ownsRow w1.heap.size 55 2 (.slice aS sl cS) sl (hxc S)) := Lib.hid (by have := AU1.out.own.own; rwa [LS.out] at this)
        have hmj : sl + 1 ≤ 1000000000 := by omega
        have hbz : w1.heap.size ≤ U1.heap.size := AU1.out.frm.size
        have GO1 : Hid (∀ a3 c3 w3, AppS U1 w3 w1.heap.size 55 2 (.slice aS sl cS) sl 1 (hxc S) (hxc [nw]) a3 c3 → Ho13 w w1 (w3.setCell ⟨g + 1 + 1, 2, none⟩ (.slice a3 (sl + 1 : Nat) c3)) F g ⟨ml, me⟩ (S ++ [nw]) a3 c3 ∧ w3.frozen? ⟨g + 1 + 1, 2, none⟩ = false ∧ w3.cell? ⟨g + 1 + 1, 2, none⟩ = some (.slice aS sl cS)) := Lib.hid (fun a3 c3 w3 happ => AU1.out.app PRE.out HL.out LS.out happ)
        clear r0 r1 b1
        go_wp2_with (at_builtin; rw [← hU1]; refine wpList_appS (by rfl) (.tmp 58) (.tmp 62) 26 rfl w1.heap.size 55 i0 (.agg #[.int .u64 0, .slice none 0 0]) 2 32 Try.underlying26 HI.out HZ0.out rfl (by decide) HZ1.out HZ2.out (by decide) (.slice aS sl cS) sl _ rfl OWN1.out _ 1 1 _ rfl ONE1.out rfl (hxc_one _) (fun h => by cases h) hmj hbz ?_)
        intro a3 c3 w3 happ
        rw [← hU1] at happ
        obtain ⟨A3, k3, q3⟩ := GO1.out a3 c3 w3 happ
        have L3 : Hid ((S ++ [nw]).length = sl + 1) := Lib.hid (by simp [LS.out])
        clear happ ONE1 OWN1 hbz o0 o1 o2' o3
        go_upto_region 14 with (fail)
        obtain ⟨V, hV⟩ : ∃ V, V = w3.setCell ⟨g + 1 + 1, 2, none⟩ (.slice a3 (sl + 1 : Nat) c3) := ⟨_, rfl⟩
        obtain ⟨sV, hsV⟩ : ∃ sV, sV = sl + 1 := ⟨_, rfl⟩
        rw [← hsV] at hV L3
        rw [← hsV, ← hV] at A3
        rw [← hsV, ← hV]
        have A3 := Lib.hid A3
        clear hV hsV k3 q3
        obtain ⟨_, o0, o1, o2, _⟩ := RW.out _ _ _ _ A3.out
        rw [L3.out] at o2
        have b1 := A3.out.frm.whole B1.out (by simp only [List.mem_singleton]; omega)
        have q0 := b1.cell 0
        have q1 := b1.cell 1
        have q2 := b1.cell 2
        have k0 := b1.free 0
        have k1 := b1.free 1
        have k2 := b1.free 2
        simp only [List.getElem?_toArray, List.getElem?_cons_zero, List.getElem?_cons_succ] at q0 q1 q2
        obtain ⟨FW1, FW2⟩ := FIN.out V a3 c3 sV (by rw [XE.out]; exact A3.out) (by rw [XE.out]; exact L3.out)
        have FW1 := Lib.hid FW1
        have FW2 := Lib.hid FW2
        clear b1
        go_wp2
        refine bodyPost_ret (V0.out _ a3 sV c3 _ rfl FW1.out) rfl ?_
        exact FW2.out
      · have q0 := b1.cell 0
        have q1 := b1.cell 1
        have q2 := b1.cell 2
        have k0 := b1.free 0
        have k1 := b1.free 1
        have k2 := b1.free 2
        simp only [List.getElem?_toArray, List.getElem?_cons_zero, List.getElem?_cons_succ] at q0 q1 q2
        obtain ⟨FW1, FW2⟩ := FIN.out wr aS cS sl (by rw [XE.out]; exact HO.out) (by rw [XE.out]; exact LS.out)
        have FW1 := Lib.hid FW1
        have FW2 := Lib.hid FW2
        clear b1
        go_wp2
        refine bodyPost_ret (V0.out _ aS sl cS _ rfl FW1.out) rfl ?_
        exact FW2.out
end Go.Proofs.Ytghadpihmhaepaa
/- What hold comes to: of rising ledgers. -/
namespace Go.Proofs.Ytghadpihmhaepaa
open Go.RowKit

/-- Rising. -/
def Srt (H : List Hel) : Prop := H.Pairwise (fun a b => a.1 < b.1)
def holdH (led : Nat) (l : List Rg) (H : List Hel) : List Hel := H.filter (fun h => decide (h.1 < led)) ++ (if l = [] then [] else [(led, l)]) ++ H.filter (fun h => decide (led < h.1))
theorem hels_append (X Y : List Hx) : hels (X ++ Y) = hels X ++ hels Y := by simp [hels]
theorem hels_filter (X : List Hx) (p : Hel → Bool) : hels (X.filter (fun x => p x.t)) = (hels X).filter p := by
  unfold hels
  rw [List.filter_map]
  rfl
theorem srt_cons {h : Hel} {H : List Hel} : Srt (h :: H) ↔ (∀ x ∈ H, h.1 < x.1) ∧ Srt H := List.pairwise_cons
theorem srt_filter {H : List Hel} (h : Srt H) (p : Hel → Bool) : Srt (H.filter p) := List.Pairwise.sublist List.filter_sublist h
theorem srt_tail_lt {led : Nat} {h : Hel} {H : List Hel} (hs : Srt (h :: H)) (hl : led ≤ h.1) : ∀ x ∈ H, led < x.1 := fun x hx => Nat.lt_of_le_of_lt hl ((srt_cons.1 hs).1 x hx)
theorem filter_all {α : Type} {p : α → Bool} {L : List α} (h : ∀ x ∈ L, p x = true) : L.filter p = L := List.filter_eq_self.2 h
theorem filter_nil {α : Type} {p : α → Bool} {L : List α} (h : ∀ x ∈ L, p x = false) : L.filter p = [] := List.filter_eq_nil_iff.2 (fun x hx => by rw [h x hx]; decide)
theorem hoS_true (led : Nat) (nw : Hx) (X : List Hx) : ∀ acc, X.foldl (hoS led nw) (acc, true) = (acc ++ X.filter (fun x => decide (x.t.1 ≠ led)), true) := by
  induction X with
  | nil => intro acc; simp
  | cons x X ih =>
    intro acc
    rw [List.foldl_cons]
    have e : hoS led nw (acc, true) x = (acc ++ (if x.t.1 = led then [] else [x]), true) := by unfold hoS; simp
    rw [e, ih]
    by_cases h : x.t.1 = led
    · simp [h]
    · simp [h]
theorem hoS_false (led : Nat) (nw : Hx) (X : List Hx) : ∀ acc, Srt (hels X) → (if (X.foldl (hoS led nw) (acc, false)).2 = true then (X.foldl (hoS led nw) (acc, false)).1 else (X.foldl (hoS led nw) (acc, false)).1 ++ [nw]) = acc ++ X.filter (fun x => decide (x.t.1 < led)) ++ [nw] ++ X.filter (fun x => decide (led < x.t.1)) := by
  induction X with
  | nil => intro acc _; simp
  | cons x X ih =>
    intro acc hs
    have hs' : Srt (x.t :: hels X) := hs
    rw [List.foldl_cons]
    by_cases h : led ≤ x.t.1
    · have e : hoS led nw (acc, false) x = (acc ++ [nw] ++ (if x.t.1 = led then [] else [x]), true) := by unfold hoS; simp [h]
      rw [e, hoS_true, if_pos rfl]
      have g : ∀ z ∈ X, led < z.t.1 := fun z hz => srt_tail_lt hs' h z.t (List.mem_map.2 ⟨z, hz, rfl⟩)
      have f1 : X.filter (fun z => decide (z.t.1 ≠ led)) = X := filter_all (fun z hz => by have := g z hz; simp; omega)
      have f2 : X.filter (fun z => decide (led < z.t.1)) = X := filter_all (fun z hz => by have := g z hz; simp; omega)
      have f3 : X.filter (fun z => decide (z.t.1 < led)) = [] := filter_nil (fun z hz => by have := g z hz; simp; omega)
      rw [f1, List.filter_cons_of_neg (by simp; omega), f3]
      by_cases h2 : x.t.1 = led
      · rw [if_pos h2, List.filter_cons_of_neg (by simp; omega), f2]; simp
      · rw [if_neg h2, List.filter_cons_of_pos (by simp; omega), f2]; simp
    · have e : hoS led nw (acc, false) x = (acc ++ [x], false) := by
        unfold hoS
        simp [h, show ¬ x.t.1 = led by omega]
      rw [e, ih _ (srt_cons.1 hs').2, List.filter_cons_of_pos (by simp; omega), List.filter_cons_of_neg (by simp; omega)]
      simp
theorem hoX_rows {led : Nat} {nw : Hx} {d : Bool} {X : List Hx} (hs : Srt (hels X)) : hoX led nw d X = X.filter (fun x => decide (x.t.1 < led)) ++ (if d = true then [] else [nw]) ++ X.filter (fun x => decide (led < x.t.1)) := by
  unfold hoX hoR
  cases d with
  | false => rw [hoS_false _ _ _ _ hs]; simp
  | true =>
    rw [hoS_true, if_pos rfl, if_pos rfl, List.nil_append, List.append_nil]
    show X.filter (fun x => decide (x.t.1 ≠ led)) = _
    induction X with
    | nil => rfl
    | cons x X ih =>
      have hs' : Srt (x.t :: hels X) := hs
      have ih := ih (srt_cons.1 hs').2
      rcases Nat.lt_trichotomy x.t.1 led with h | h | h
      · rw [List.filter_cons_of_pos (by simp; omega), List.filter_cons_of_pos (by simp; omega), List.filter_cons_of_neg (by simp; omega), ih]; rfl
      · rw [List.filter_cons_of_neg (by simp; omega), List.filter_cons_of_neg (by simp; omega), List.filter_cons_of_neg (by simp; omega), ih]
      · have g : ∀ z ∈ X, led < z.t.1 := fun z hz => srt_tail_lt hs' (Nat.le_of_lt h) z.t (List.mem_map.2 ⟨z, hz, rfl⟩)
        rw [List.filter_cons_of_pos (by simp; omega), List.filter_cons_of_neg (by simp; omega), List.filter_cons_of_pos (by simp; omega), ih, filter_nil (p := fun z : Hx => decide (z.t.1 < led)) (fun z hz => by have := g z hz; simp; omega)]; rfl
theorem hels_hoX {led : Nat} {l : List Rg} {la : Option Addr} {lc : Nat} {X : List Hx} (hs : Srt (hels X)) : hels (hoX led ⟨(led, l), la, lc⟩ (decide (l = [])) X) = holdH led l (hels X) := by
  rw [hoX_rows hs, hels_append, hels_append]
  unfold holdH
  rw [← hels_filter X (fun h => decide (h.1 < led)), ← hels_filter X (fun h => decide (led < h.1))]
  congr 2
  by_cases h : l = []
  · simp [h, hels]
  · simp [h, hels]
theorem srt_holdH {led : Nat} {l : List Rg} {H : List Hel} (hs : Srt H) : Srt (holdH led l H) := by
  unfold holdH
  refine List.pairwise_append.2 ⟨List.pairwise_append.2 ⟨srt_filter hs _, ?_, ?_⟩, srt_filter hs _, ?_⟩
  · split <;> simp
  · intro a ha b hb
    have := (List.mem_filter.1 ha).2
    split at hb
    · cases hb
    · simp at hb this
      rw [hb]; exact this
  · intro a ha b hb
    have h2 := (List.mem_filter.1 hb).2
    rcases List.mem_append.1 ha with h | h
    · have := (List.mem_filter.1 h).2
      simp at this h2
      omega
    · split at h
      · cases h
      · simp at h h2
        rw [h]; exact h2
theorem ofH_eq (H : List Hel) (q : Nat) : ofH H q = ((H.find? (fun h => decide (h.1 = q))).map (·.2)).getD [] := by
  unfold ofH
  cases H.find? (fun h => decide (h.1 = q)) <;> rfl
theorem ofH_holdH {led : Nat} {l : List Rg} {H : List Hel} (q : Nat) : ofH (holdH led l H) q = if q = led then l else ofH H q := by
  unfold holdH
  rw [ofH_eq, List.find?_append, List.find?_append, List.find?_filter, List.find?_filter]
  by_cases h : q = led
  · subst h
    rw [if_pos rfl]
    have e1 : H.find? (fun a => decide (decide (a.1 < q) = true ∧ decide (a.1 = q) = true)) = none := by
      rw [List.find?_eq_none]; intro a _; simp; omega
    have e2 : H.find? (fun a => decide (decide (q < a.1) = true ∧ decide (a.1 = q) = true)) = none := by
      rw [List.find?_eq_none]; intro a _; simp; omega
    rw [e1, e2]
    by_cases h2 : l = []
    · simp [h2]
    · simp [h2]
  · rw [if_neg h, ofH_eq]
    have e0 : (if l = [] then ([] : List Hel) else [(led, l)]).find? (fun h => decide (h.1 = q)) = none := by
      split
      · rfl
      · simp; omega
    rw [e0]
    rcases Nat.lt_or_gt_of_ne h with h2 | h2
    · have e1 : (fun a : Hel => decide (decide (a.1 < led) = true ∧ decide (a.1 = q) = true)) = fun a => decide (a.1 = q) := by
        funext a; simp; omega
      have e2 : H.find? (fun a => decide (decide (led < a.1) = true ∧ decide (a.1 = q) = true)) = none := by
        rw [List.find?_eq_none]; intro a _; simp; omega
      rw [e1, e2]
      simp
    · have e1 : (fun a : Hel => decide (decide (led < a.1) = true ∧ decide (a.1 = q) = true)) = fun a => decide (a.1 = q) := by
        funext a; simp; omega
      have e2 : H.find? (fun a => decide (decide (a.1 < led) = true ∧ decide (a.1 = q) = true)) = none := by
        rw [List.find?_eq_none]; intro a _; simp; omega
      rw [e1, e2]
      simp
end Go.Proofs.Ytghadpihmhaepaa
/- Contracts of the program's find, of, Acked (cursors). -/
namespace Go.Proofs.Ytghadpihmhaepaa
open Go.RowKit
set_option maxRecDepth 100000

theorem ldcmp_lt (a b : Nat) : decide (ldcmp a b < 0) = decide (a < b) := by
  unfold ldcmp
  by_cases h : a < b
  · simp [h]
  · rw [if_neg h]; split <;> simp [h]
theorem ldcmp_eq (a b : Nat) : (ldcmp a b == 0) = decide (a = b) := by
  unfold ldcmp
  by_cases h : a < b
  · rw [if_pos h, decide_eq_false (by omega)]; rfl
  · rw [if_neg h]
    by_cases h2 : b < a
    · rw [if_pos h2, decide_eq_false (by omega)]; rfl
    · rw [if_neg h2, decide_eq_true (by omega)]; rfl
set_option maxHeartbeats 1000000 in
theorem cqcmp_any (led : Nat) (ra : Option Addr) (rn rc id : Nat) (w : World) : Calls Try.prog 93 #[.agg #[.int .u64 (led : Nat), .slice ra rn rc], .int .u64 (id : Nat)] w fun e w' => e = .returned (.int .i64 (ldcmp led id)) ∧ Frm [] w w' := by
  have h1 := Lib.hid (fun w => ldcmp_any (w := w) led id)
  generalize ldcmp led id = c at h1 ⊢
  go_enter Try.func93, Try.ntmps93
  go_wp2_with ((with_reducible refine (h1.out _).mono ?_); rintro e w' ⟨rfl, rfl⟩)
  go_ret
  exact ⟨rfl, (Frm.refl [] w).alloc _⟩
def keyX (X : List Hx) (i : Nat) : Nat := (X.getD i default).t.1
theorem srt_lt {X : List Hx} (h : Srt (hels X)) {i j : Nat} (hij : i < j) (hj : j < X.length) : keyX X i < keyX X j := by
  have h1 := List.pairwise_iff_getElem.1 h i j (by rw [hels_length]; omega) (by rw [hels_length]; omega) hij
  unfold keyX
  have hi : i < X.length := by omega
  simpa [hels, hi, hj] using h1
/-- Where a ledger is, or would be. -/
structure AtH (X : List Hx) (led i : Nat) (b : Bool) : Prop where
  le : i ≤ X.length
  low : ∀ t, t < i → keyX X t < led
  high : ∀ t, i ≤ t → t < X.length → led ≤ keyX X t
  is : b = true ↔ i < X.length ∧ keyX X i = led
def FindsH (w : World) (X : List Hx) (led : Nat) (e : Ending) (w' : World) : Prop := ∃ (i : Nat) (b : Bool), e = .returned (.tuple #[.int .i64 (i : Nat), .bool b]) ∧ AtH X led i b ∧ Frm [] w w'
set_option maxHeartbeats 4000000 in
theorem cqsearch_any {w : World} {n cap : Nat} {a : Option Addr} {F : List Nat} {X : List Hx} (id : Nat) (h : HxL w F a X) (hs : Srt (hels X)) (hn : n = X.length) (hsz : n < 4611686018427387904) :
    Calls Try.prog 92 #[.slice a n cap, .int .u64 (id : Nat), .func (.func 93) #[] #[]] w (FindsH w X id) := by
  have HH := Lib.hid h; clear h
  have HS := Lib.hid (fun i j (hij : i < j) (hj : j < X.length) => srt_lt hs hij hj); clear hs
  have HN := Lib.hid hn; clear hn
  go_enter Try.func92, Try.ntmps92
  go_wp2
  go_loopw [9, 10] (fun s5 s6 wr => ∃ lo hi : Nat, s5 = .int .i64 lo ∧ s6 = .int .i64 hi ∧ lo ≤ hi ∧ hi ≤ n ∧ Hid (∀ t, t < lo → keyX X t < id) ∧ Hid (∀ t, hi ≤ t → t < n → id ≤ keyX X t) ∧ Hid (Frm [] w wr)) (fun s5 s6 _ => ((intOf s6).toNat - (intOf s5).toNat))
  case atStart => exact ⟨0, n, rfl, rfl, Nat.zero_le _, Nat.le_refl _, Lib.hid (fun t ht => absurd ht (Nat.not_lt_zero _)), Lib.hid (fun t h1 h2 => by omega), Lib.hid (Frm.refl _ _)⟩
  case round =>
    obtain ⟨lo, hi, rfl, rfl, hlh, hin, HA, HB, HF⟩ := hrel
    by_cases hlt : lo < hi
    · obtain ⟨m, hm⟩ : ∃ m, m = (lo + hi) / 2 := ⟨_, rfl⟩
      have hm1 : lo ≤ m := by omega
      have hm2 : m < hi := by omega
      have hmi : ((lo : Int) + (hi : Int)) / 2 = (m : Int) := by omega
      have hmi2 : (IntKind.u64.wrap ((lo : Int) + (hi : Int))) = (lo : Int) + (hi : Int) := by simp [IntKind.wrap, IntKind.bits, IntKind.signed]; omega
      have hsl := HH.out.sub HF.out
      obtain ⟨b, off, rfl, p0, p1, _⟩ := hsl.at (i := m) (by have := HN.out; omega)
      have HX : Hid (keyX X m = (X.getD m default).t.1) := Lib.hid rfl
      obtain ⟨xl, hxl⟩ : ∃ xl, xl = (X.getD m default).t.1 := ⟨_, rfl⟩
      obtain ⟨xa, hxa⟩ : ∃ xa, xa = (X.getD m default).a := ⟨_, rfl⟩
      obtain ⟨xn, hxn⟩ : ∃ xn, xn = (X.getD m default).t.2.length := ⟨_, rfl⟩
      obtain ⟨xc, hxc⟩ : ∃ xc, xc = (X.getD m default).c := ⟨_, rfl⟩
      rw [← hxl] at p0 HX
      rw [← hxa, ← hxn, ← hxc] at p1
      clear hxl hxa hxn hxc hsl
      have hC := Lib.hid (fun w => cqcmp_any xl xa xn xc id w)
      have hc2 : decide (ldcmp xl id < 0) = decide (xl < id) := ldcmp_lt _ _
      obtain ⟨c, hc⟩ : ∃ c, c = ldcmp xl id := ⟨_, rfl⟩
      rw [← hc] at hC hc2
      clear hc
      by_cases hkl : xl < id
      · rw [decide_eq_true hkl] at hc2
        have HKL := Lib.hid hkl
        clear hkl hm
        go_wp2_with ((with_reducible refine (hC.out _).mono ?_); rintro e w' ⟨rfl, hf'⟩; have HF2 := Lib.hid (HF.out.trans hf' (U := []) (by simp) (by simp)); clear hf')
        go_roundw
        case rel => exact ⟨m + 1, hi, by go_num, rfl, by omega, hin, Lib.hid (fun t h1 => by
            have h4 := HKL.out
            rw [← HX.out] at h4
            rcases Nat.lt_or_ge t m with h3 | h3
            · have := HS.out t m h3 (by rw [← HN.out]; omega)
              omega
            · have : t = m := by omega
              subst this; exact h4), HB, HF2⟩
        case measure => simp [intOf]; omega
      · rw [decide_eq_false hkl] at hc2
        have HKL := Lib.hid hkl
        clear hkl hm
        go_wp2_with ((with_reducible refine (hC.out _).mono ?_); rintro e w' ⟨rfl, hf'⟩; have HF2 := Lib.hid (HF.out.trans hf' (U := []) (by simp) (by simp)); clear hf')
        go_roundw
        case rel => exact ⟨lo, m, rfl, rfl, by omega, by omega, HA, Lib.hid (fun t h1 h2 => by
            have h4 := HKL.out
            rw [← HX.out] at h4
            rcases Nat.lt_or_ge m t with h3 | h3
            · have := HS.out m t h3 (by rw [← HN.out]; exact h2)
              omega
            · have : t = m := by omega
              subst this; omega), HF2⟩
        case measure => simp [intOf]; omega
    · obtain rfl : hi = lo := by omega
      by_cases hlt2 : hi < n
      · have hsl := HH.out.sub HF.out
        obtain ⟨b, off, rfl, p0, p1, _⟩ := hsl.at (i := hi) (by have := HN.out; omega)
        have HX : Hid (keyX X hi = (X.getD hi default).t.1) := Lib.hid rfl
        obtain ⟨xl, hxl⟩ : ∃ xl, xl = (X.getD hi default).t.1 := ⟨_, rfl⟩
        obtain ⟨xa, hxa⟩ : ∃ xa, xa = (X.getD hi default).a := ⟨_, rfl⟩
        obtain ⟨xn, hxn⟩ : ∃ xn, xn = (X.getD hi default).t.2.length := ⟨_, rfl⟩
        obtain ⟨xc, hxc⟩ : ∃ xc, xc = (X.getD hi default).c := ⟨_, rfl⟩
        rw [← hxl] at p0 HX
        rw [← hxa, ← hxn, ← hxc] at p1
        clear hxl hxa hxn hxc hsl
        have HFIN : Hid (AtH X id hi (decide (xl = id))) := Lib.hid ⟨by rw [← HN.out]; omega, HA.out, fun t h1 h2 => HB.out t h1 (by rw [HN.out]; exact h2), by
          rw [decide_eq_true_iff, HX.out, ← HN.out]; exact ⟨fun h => ⟨hlt2, h⟩, fun h => h.2⟩⟩
        have hC := Lib.hid (fun w => cqcmp_any xl xa xn xc id w)
        have hc2 : (ldcmp xl id == 0) = decide (xl = id) := ldcmp_eq _ _
        obtain ⟨c, hc⟩ : ∃ c, c = ldcmp xl id := ⟨_, rfl⟩
        obtain ⟨d, hd⟩ : ∃ d, d = decide (xl = id) := ⟨_, rfl⟩
        rw [← hc] at hC hc2
        rw [← hd] at hc2 HFIN
        clear hc hd HA HB
        have hlt3 : (hi : Int) < (n : Int) := by omega
        go_wp2_with ((with_reducible refine (hC.out _).mono ?_); rintro e w' ⟨rfl, hf'⟩; have HF2 := Lib.hid (HF.out.trans hf' (U := []) (by simp) (by simp)); clear hf')
        go_ret2
        exact ⟨_, _, rfl, HFIN.out, HF2.out⟩
      · have HFIN : Hid (AtH X id hi false) := Lib.hid ⟨by rw [← HN.out]; omega, HA.out, fun t h1 h2 => HB.out t h1 (by rw [HN.out]; exact h2), by
          have := HN.out
          simp; intro h; omega⟩
        clear HA HB
        go_wp2
        go_ret2
        exact ⟨_, _, rfl, HFIN.out, HF.out⟩
set_option maxHeartbeats 1000000 in
theorem cqfind_any {w : World} {n cap : Nat} {a : Option Addr} {F : List Nat} {X : List Hx} (id : Nat) (h : HxL w F a X) (hs : Srt (hels X)) (hn : n = X.length) (hsz : n < 4611686018427387904) :
    Calls Try.prog 68 #[.slice a n cap, .int .u64 (id : Nat)] w (FindsH w X id) := by
  have HB := Lib.hid (cqsearch_any (cap := cap) id h hs hn hsz)
  clear h hs hn
  go_enter Try.func68, Try.ntmps68
  go_wp2_with fail
  (with_reducible refine HB.out.mono ?_)
  rintro e w2 ⟨i, b, rfl, hv, hf2⟩
  have HV := Lib.hid hv
  have HF2 := Lib.hid hf2
  clear hv hf2
  go_wp2
  go_ret2
  exact ⟨_, _, rfl, HV.out, HF2.out⟩
theorem atH_some {X : List Hx} {led i : Nat} (h : AtH X led i true) : i < X.length ∧ ofH (hels X) led = (X.getD i default).t.2 := by
  obtain ⟨h1, h2⟩ := h.is.1 rfl
  refine ⟨h1, ?_⟩
  rw [ofH_at (k := i) (by rw [hels_length]; exact h1) (fun j hj => by have := h.low j hj; unfold keyX at this; rw [hels_getD]; omega) (by rw [hels_getD]; exact h2), hels_getD]
theorem atH_none {X : List Hx} {led i : Nat} (h : AtH X led i false) (hs : Srt (hels X)) : ofH (hels X) led = [] := ofH_none (fun j hj => by
  rw [hels_length] at hj
  rw [hels_getD]
  rcases Nat.lt_or_ge j i with h1 | h1
  · have := h.low j h1; unfold keyX at this; omega
  · rcases Nat.lt_or_eq_of_le h1 with h2 | rfl
    · have h3 := srt_lt hs h2 hj
      have h4 := h.high i (Nat.le_refl _) (by omega)
      unfold keyX at h3 h4
      omega
    · intro h3
      exact absurd (h.is.2 ⟨hj, h3⟩) (by simp))
set_option maxHeartbeats 2000000 in
theorem cqof_any {w : World} {n cap : Nat} {a : Option Addr} {F : List Nat} {X : List Hx} (led : Nat) (h : HxL w F a X) (hs : Srt (hels X)) (hn : n = X.length) (hsz : n < 4611686018427387904) :
    Calls Try.prog 46 #[.slice a n cap, .int .u64 (led : Nat)] w (RsEnd w F (ofH (hels X) led)) := by
  have HB := Lib.hid (cqfind_any (cap := cap) led h hs hn hsz)
  have H := Lib.hid h; clear h
  have HN := Lib.hid hn; clear hn
  have HS := Lib.hid hs; clear hs
  obtain ⟨Q, hQ⟩ : ∃ Q, Q = RsEnd w F (ofH (hels X) led) := ⟨_, rfl⟩
  rw [← hQ]
  have HQ := Lib.hid hQ; clear hQ
  go_enter Try.func46, Try.ntmps46
  go_wp2_with fail
  (with_reducible refine HB.out.mono ?_)
  rintro e w2 ⟨i, b, rfl, hv, hf2⟩
  have HF2 := Lib.hid hf2
  cases b
  · have FIN : Hid (Q (.returned (.slice none 0 0)) w2) := Lib.hid (by
      rw [HQ.out, atH_none hv HS.out]
      exact ⟨none, 0, rfl, Rr.nil _ _, fun _ => rfl, Nat.le_refl _, Nat.zero_le _, fun h => absurd rfl h, HF2.out⟩)
    clear hv hf2
    go_wp2
    exact FIN.out
  · obtain ⟨hi, he⟩ := atH_some hv
    obtain ⟨b, off, rfl, d0, d1, hok⟩ := (H.out.sub hf2).at hi
    have OK := Lib.hid hok
    obtain ⟨x, hx⟩ : ∃ x, x = X.getD i default := ⟨_, rfl⟩
    rw [← hx] at d0 d1 OK he
    have FIN : Hid (Q (.returned (.slice x.a x.t.2.length x.c)) w2) := Lib.hid (by
      rw [HQ.out, he]
      exact ⟨x.a, x.c, rfl, OK.out.rs, OK.out.nil, OK.out.room.1, OK.out.room.2, OK.out.away, HF2.out⟩)
    have hin : i < n := by rw [HN.out]; exact hi
    have hin' : (i : Int) < (n : Int) := by omega
    clear hv hf2 hi he hx hok
    go_wp2
    exact FIN.out
end Go.Proofs.Ytghadpihmhaepaa
/- Contracts of slices.Grow (of nil) and slices.Concat over what is held. Written by a program out of XLdConcat. -/
namespace Go.Proofs.Ytghadpihmhaepaa
open Go.RowKit
set_option maxRecDepth 100000

set_option maxHeartbeats 1000000 in
theorem cqgrow_any (F : List Nat) (n : Nat) (w : World) (hF : ∀ x ∈ F, x < w.heap.size) (hn : n ≤ 100000) : Calls Try.prog 99 #[.slice none 0 0, .int .i64 n] w fun e w' => ∃ a' cap', e = .returned (.slice a' 0 cap') ∧ HxOwn w' w.heap.size 55 F a' cap' [] ∧ Frm [] w w' := by
  by_cases h0 : n = 0
  · subst h0
    go_enter Try.func99, Try.ntmps99
    go_wp2
    go_ret
    exact ⟨none, 0, rfl, HxOwn.nil _ _ _ _, Frm.refl _ _⟩
  · obtain ⟨i0, hi, hz0, hz1, hz2⟩ := info_parts infoHe
    have h1 : ¬ ((n : Int) < 0) := by omega
    have h4 : 0 < (n : Int) := by omega
    have hold : (Builtin.firstCells i0.size 0 (.slice none 0 0)).run Try.prog w.drew = .ok ([] : List Value).toArray w.drew := run_firstCells_none w.drew i0.size 0 0 0
    have hrz : ∀ ty, (Builtin.append_ #[26, 3] ty #[.slice none 0 0, .int .i64 (n : Int)]).run Try.prog w =
        .ok (.slice (some ⟨w.heap.size, 0, none⟩) n (grownCap w n 0 55)) (w.drew.alloc (.cells (#[] ++ Builtin.zeroCells #[.int .u64 0, .slice none 0 0] n ++ Builtin.zeroCells #[.int .u64 0, .slice none 0 0] (grownCap w n 0 55 - n)) 55)) := fun ty => by
      have h := Lib.run_append_grow_zeros w 26 3 ty 55 i0 (.agg #[.int .u64 0, .slice none 0 0]) .i64 .i64 Try.underlying26 Try.underlying3 hi hz0 none 0 0 [] hold n (by omega) (by omega) (by omega) (by omega)
        (by rw [hz2]; omega)
        (by rw [hz2, Nat.zero_add]; exact growslice_fits (by omega) (by omega))
      rw [Nat.zero_add] at h
      exact h
    have hGn : n ≤ grownCap w n 0 55 := grownCap_ge w _ _ _
    have hGm := grownCap_le_maxLen w n 0 55 (by unfold maxLen; omega)
    obtain ⟨G, hG⟩ : ∃ G, G = grownCap w n 0 55 := ⟨_, rfl⟩
    rw [← hG] at hrz hGn hGm
    have hG63 : G ≤ 9223372036854775807 := by unfold maxLen at hGm; omega
    have hsz : (Builtin.zeroCells #[.int .u64 0, .slice none 0 0] n ++ Builtin.zeroCells #[.int .u64 0, .slice none 0 0] (G - n)).size = G * 2 := by
      rw [Array.size_append, size_zeroCells, size_zeroCells]
      show n * 2 + (G - n) * 2 = G * 2
      omega
    have HO : Hid (HxOwn (w.alloc (.cells (Builtin.zeroCells #[.int .u64 0, .slice none 0 0] n ++ Builtin.zeroCells #[.int .u64 0, .slice none 0 0] (G - n)) 55)).drew w.heap.size 55 F (some ⟨w.heap.size, 0, none⟩) G []) := Lib.hid ⟨by
      have := World.ownsRow_made (base := w.heap.size) (e := 55) (size := 2) w.drew (Builtin.zeroCells #[.int .u64 0, .slice none 0 0] n ++ Builtin.zeroCells #[.int .u64 0, .slice none 0 0] (G - n)) G (Nat.le_refl _) hGm hsz
      exact this, HxsOk.nil _ _, fun x hx hm => by simp at hx; have := hF x hm; omega⟩
    have HF : Hid (Frm [] w (w.alloc (.cells (Builtin.zeroCells #[.int .u64 0, .slice none 0 0] n ++ Builtin.zeroCells #[.int .u64 0, .slice none 0 0] (G - n)) 55)).drew) := ((Frm.refl _ _).alloc _).drew
    simp only [Array.empty_append] at hrz
    clear hold hG hsz hi hz0 hz1 hz2 h0 hGm
    go_enter Try.func99, Try.ntmps99
    go_wp2_with (at_builtin; refine Lib.wpList_append_run _ rfl _ _ _ _ rfl _ _ rfl rfl _ _ (hrz _) ?_)
    all_goals
      go_ret
      exact ⟨_, _, rfl, HO.out, HF.out⟩

/-- One of the slices that are joined. -/
structure HxSl where
  a : Option Addr
  cap : Nat
  l : List Hx
instance : Inhabited HxSl := ⟨⟨none, 0, []⟩⟩
def HxSlIn (w : World) (F : List Nat) (s : HxSl) : Prop := HxL w F s.a s.l ∧ (s.a = none → s.cap = 0) ∧ s.l.length ≤ s.cap ∧ s.cap ≤ 9223372036854775807
theorem HxSlIn.keep {w w' : World} {F : List Nat} {s : HxSl} (h : HxSlIn w F s) (hf : Frm [] w w') : HxSlIn w' F s := ⟨h.1.sub hf, h.2⟩
def hxall (ss : List HxSl) : List Hx := ss.flatMap HxSl.l
theorem hxall_take {ss : List HxSl} {k : Nat} (h : k < ss.length) : hxall (ss.take (k + 1)) = hxall (ss.take k) ++ (ss.getD k default).l := by
  have e : ss.getD k default = ss[k] := by simp [h]
  unfold hxall
  rw [e, List.take_succ_eq_append_getElem h, List.flatMap_append, List.flatMap_singleton]
theorem hxall_take_le (ss : List HxSl) (k : Nat) : (hxall (ss.take k)).length ≤ (hxall ss).length := by
  have h : hxall (ss.take k) ++ hxall (ss.drop k) = hxall ss := by unfold hxall; rw [← List.flatMap_append, List.take_append_drop]
  have := congrArg List.length h
  rw [List.length_append] at this
  omega
/-- Slices that lie side by side. -/
def HxSlsIn (w : World) (F : List Nat) (g : Nat) (ss : List HxSl) : Prop := ∀ k, k < ss.length → w.cell? ⟨g, k, none⟩ = some (.slice (ss.getD k default).a (ss.getD k default).l.length (ss.getD k default).cap) ∧ HxSlIn w F (ss.getD k default)
theorem HxSlsIn.keep {w w' : World} {F : List Nat} {g : Nat} {ss : List HxSl} (h : HxSlsIn w F g ss) (hf : Frm [] w w') : HxSlsIn w' F g ss := fun k hk =>
  ⟨(hf.cell (p := ⟨g, k, none⟩) (block_lt_of_cell (h k hk).1) (by simp)).trans (h k hk).1, (h k hk).2.keep hf⟩
theorem cqint_eq {k : IntKind} {a b : Int} (h : a = b) : Value.int k a = Value.int k b := by rw [h]
def CatHx (w0 : World) (F : List Nat) (base : Nat) (ss : List HxSl) (n : Nat) (v i : Value) (wr : World) : Prop :=
  ∃ (k : Nat) (a : Option Addr) (cap : Nat), k ≤ n ∧ i = .int .i64 k ∧ v = .slice a (hxall (ss.take k)).length cap ∧ HxOwn wr base 55 F a cap (hxall (ss.take k)) ∧ Frm [] w0 wr

/-- A row of the call's own. -/
def RetHx (w : World) (F : List Nat) (l : List Hx) (e : Ending) (w' : World) : Prop := ∃ a' cap', e = .returned (.slice a' l.length cap') ∧ HxOwn w' w.heap.size 55 F a' cap' l ∧ Frm [] w w'
set_option maxHeartbeats 2000000 in
theorem cqconcat_any {w : World} {F : List Nat} {g : Nat} {ss : List HxSl} (h : HxSlsIn w F g ss) (hF : ∀ x ∈ F, x < w.heap.size) {n : Nat} (hn : n = ss.length) (hn3 : n ≤ 10) (hsz : (hxall ss).length ≤ 100000) :
    Calls Try.prog 70 #[.slice (some ⟨g, 0, none⟩) n n] w (RetHx w F (hxall ss)) := by
  have H := Lib.hid h; clear h
  have HN := Lib.hid hn; clear hn
  have HS := Lib.hid hsz; clear hsz
  have HF0 := Lib.hid hF; clear hF
  go_enter Try.func70, Try.ntmps70
  go_wp2
  go_loop [3, 11] (fun s i => ∃ k : Nat, k ≤ n ∧ i = .int .i64 k ∧ s = .int .i64 ((hxall (ss.take k)).length : Nat)) (fun _ i => n - (intOf i).toNat)
  case atStart => exact ⟨0, Nat.zero_le _, rfl, rfl⟩
  case round =>
    obtain ⟨k, hk, rfl, rfl⟩ := hrel
    by_cases hlt : k < n
    · obtain ⟨c0, s1, s2, s3, s4⟩ := H.out k (by have := HN.out; omega)
      have st := hxall_take (ss := ss) (k := k) (by have := HN.out; omega)
      have le1 := hxall_take_le ss (k + 1)
      have le2 := HS.out
      rw [st, List.length_append] at le1
      have st2 : (hxall (ss.take (k + 1))).length = (hxall (ss.take k)).length + (ss.getD k default).l.length := by rw [st, List.length_append]
      obtain ⟨m, hm⟩ : ∃ m, m = (hxall (ss.take k)).length := ⟨_, rfl⟩
      obtain ⟨s, hs⟩ : ∃ s, s = ss.getD k default := ⟨_, rfl⟩
      rw [← hs] at c0 s1 s2 s3 s4 le1 st2
      rw [← hm] at le1 st2 ⊢
      have ST := Lib.hid st2
      have hmb : m + s.l.length ≤ 100000 := by omega
      clear s1 s2 st st2 hm hs le1 le2
      obtain ⟨sa, sc, sl⟩ := s
      simp only at c0 s3 s4 ST hmb
      have hlt' : (k : Int) < (n : Int) := by omega
      have hneg : ¬ ((m : Int) + (sl.length : Int) < 0) := by omega
      go_wp2
      go_round
      case rel => exact ⟨k + 1, by omega, by go_num, cqint_eq (by rw [ST.out]; omega)⟩
      case measure => simp [intOf]; omega
    · obtain rfl : k = n := by omega
      have eall : hxall (ss.take k) = hxall ss := by rw [List.take_of_length_le (by have := HN.out; omega)]
      rw [eall]
      obtain ⟨m, hm⟩ : ∃ m, m = (hxall ss).length := ⟨_, rfl⟩
      rw [← hm]
      have hm1 : m ≤ 100000 := by have := HS.out; omega
      have HM := Lib.hid hm; clear hm eall
      go_wp2_with fail
      refine (cqgrow_any F m w HF0.out hm1).mono ?_
      rintro e w1 ⟨a1, c1, rfl, ho, hf⟩
      have HO := Lib.hid ho; clear ho
      have HF := Lib.hid hf; clear hf
      clear hlt hk
      go_wp2
      go_loopw [6, 27] (fun v i wr => CatHx w F w.heap.size ss k v i wr) (fun _ i _ => k - (intOf i).toNat)
      case atStart => exact ⟨0, a1, c1, Nat.zero_le _, rfl, rfl, HO.out, HF.out⟩
      case round =>
        obtain ⟨j, aj, cj, hj, rfl, rfl, hown, hf⟩ := hrel
        have HFJ := Lib.hid hf; clear hf
        have HOJ := Lib.hid hown; clear hown
        by_cases hlt : j < k
        · obtain ⟨c0, s1, s2, s3, s4⟩ := (H.out.keep HFJ.out) j (by have := HN.out; omega)
          have st := hxall_take (ss := ss) (k := j) (by have := HN.out; omega)
          have le1 := hxall_take_le ss (j + 1)
          have le2 := HS.out
          rw [st, List.length_append] at le1
          obtain ⟨s, hs⟩ : ∃ s, s = ss.getD j default := ⟨_, rfl⟩
          rw [← hs] at c0 s1 s2 s3 s4 le1 st
          have OKS : Hid (HxsOk w F s.l) := Lib.hid (by rw [hs]; exact (H.out j (by have := HN.out; omega)).2.1.ok)
          obtain ⟨lj, hlj⟩ : ∃ lj, lj = hxall (ss.take j) := ⟨_, rfl⟩
          rw [← hlj] at le1 st HOJ ⊢
          obtain ⟨sa, sc, sl⟩ := s
          simp only at c0 s1 s2 s3 s4 le1 st OKS
          have ST := Lib.hid st
          have S1 := Lib.hid s1
          have S2 := Lib.hid s2
          clear st hlj hs s1 s2
          have hlt' : (j : Int) < (k : Int) := by omega
          obtain ⟨i0, hi, hz0, hz1, hz2⟩ := info_parts infoHe
          have HI := Lib.hid hi; clear hi
          have HZ0 := Lib.hid hz0; clear hz0
          have HZ1 := Lib.hid hz1; clear hz1
          have HZ2 := Lib.hid hz2; clear hz2
          have hbz : w.heap.size ≤ wr.heap.size := HFJ.out.size
          obtain ⟨nj, hnj⟩ : ∃ nj, nj = lj.length := ⟨_, rfl⟩
          obtain ⟨ns, hns⟩ : ∃ ns, ns = sl.length := ⟨_, rfl⟩
          rw [← hns] at c0 s3 le1
          rw [← hnj] at le1 ⊢
          have HLX : Hid ((hxc sl).length = ns * 2) := Lib.hid (by rw [hxc_length, hns])
          have HNJ := Lib.hid hnj; clear hnj
          have HNS := Lib.hid hns; clear hns
          have hfit : nj + ns ≤ 1000000000 := by omega
          have OWN : Hid (wr.ownsRow w.heap.size 55 2 (.slice aj nj cj) nj (hxc lj)) := Lib.hid (by rw [HNJ.out]; exact HOJ.out.own)
          go_wp2_with (at_builtin; refine wpList_appS (by rfl) (.tmp 31) (.tmp 32) 26 rfl w.heap.size 55 i0 (.agg #[.int .u64 0, .slice none 0 0]) 2 32 Try.underlying26 HI.out HZ0.out rfl (by decide) HZ1.out HZ2.out (by decide) (.slice aj nj cj) nj _ rfl OWN.out _ ns sc _ rfl S1.out.vals HLX.out (hxc_one _) S2.out hfit hbz ?_)
          intro a2 c2 w2 happ
          have g3 := HOJ.out.app HNJ.out (OKS.out.keep HFJ.out (by simp) (fun x hx => (List.mem_append.1 hx).elim (fun h1 => .inr (HOJ.out.blk_lt x h1).1) .inl)) HNS.out (fun x hx => Nat.lt_of_lt_of_le (HF0.out x hx) HFJ.out.size) happ
          have HF2 : Hid (Frm [] w w2) := Lib.hid (HFJ.out.trans g3.2.1 (by simp) (fun x hx => .inr (HOJ.out.blk_lt x hx).1))
          have HO2 := Lib.hid g3.1
          have E2 := Lib.hid g3.2.2.2
          clear happ g3 hbz OWN
          go_wp2
          go_roundw
          case rel => exact ⟨j + 1, a2, c2, by omega, by go_num, by rw [ST.out, ← E2.out], by rw [ST.out]; exact HO2.out, HF2.out⟩
          case measure => simp [intOf]; omega
        · obtain rfl : j = k := by omega
          have eall : hxall (ss.take j) = hxall ss := by rw [List.take_of_length_le (by have := HN.out; omega)]
          rw [eall] at HOJ ⊢
          have FIN : Hid (RetHx w F (hxall ss) (.returned (.slice aj (hxall ss).length cj)) wr) := ⟨aj, cj, rfl, HOJ.out, HFJ.out⟩
          clear eall
          go_wp2
          go_ret
          exact FIN.out
end Go.Proofs.Ytghadpihmhaepaa
/- Contract of the program's Acked. -/
namespace Go.Proofs.Ytghadpihmhaepaa
open Go.RowKit
set_option maxRecDepth 100000

/-- Ranges of a right cursor's. -/
def RgsOk (X : List Hx) : Prop := ∀ x ∈ X, x.t.2.length ≤ 400 ∧ Rt x.t.2
theorem ofH_ok {X : List Hx} (h : RgsOk X) (q : Nat) : (ofH (hels X) q).length ≤ 400 ∧ Rt (ofH (hels X) q) := by
  unfold ofH
  split
  · rename_i hh hf
    have := List.mem_of_find?_eq_some hf
    unfold hels at this
    obtain ⟨x, hx, rfl⟩ := List.mem_map.1 this
    exact h x hx
  · exact ⟨by decide, Rt.nil⟩
set_option maxHeartbeats 4000000 in
theorem cqacked_any (m : Ps) (a : Option Addr) (n cap : Nat) (F : List Nat) (X : List Hx) (p : Ps) (w : World) (h : HxL w F a X) (hs : Srt (hels X)) (hn : n = X.length) (hsz : n < 4611686018427387904) (hr : RgsOk X) :
    Calls Try.prog 18 #[crsV m a n cap, p.val] w (BoolOf (ackedC ⟨m, hels X⟩ p) w) := by
  have OF := Lib.hid (fun z (hz : Frm [] w z) => cqof_any (cap := cap) p.l (h.sub hz) hs hn hsz)
  have IN : Hid (∀ (z : World) (ar : Option Addr) (cr : Nat), Rr z ar (ofH (hels X) p.l) → Calls Try.prog 45 #[.slice ar (ofH (hels X) p.l).length cr, .int .u64 (p.e : Nat)] z (BoolOf (Mem (ofH (hels X) p.l) p.e) z)) := Lib.hid (fun z ar cr hz => has_any hz (ofH_ok hr _).2 rfl (by have := (ofH_ok hr p.l).1; omega))
  have ORD := Lib.hid (fun z => ldorder_any p m z)
  obtain ⟨c, hc⟩ : ∃ c, c = ordP p m := ⟨_, rfl⟩
  rw [← hc] at ORD
  have I1 : (c < 0 ↔ p.lt m) := by rw [hc]; exact ordP_neg
  have II := Lib.hid I1
  unfold ackedC
  simp only
  generalize ofH (hels X) p.l = R at OF IN ⊢
  obtain ⟨w1, hw1⟩ : ∃ w1, w1 = (w.alloc (.cells #[.int .u64 (m.l : Nat), .int .u64 (m.e : Nat), .slice a n cap] 28)).alloc (.cells #[.int .u64 (p.l : Nat), .int .u64 (p.e : Nat)] 25) := ⟨_, rfl⟩
  have F1 : Hid (Frm [] w w1) := Lib.hid (by rw [hw1]; exact ((Frm.refl _ _).alloc _).alloc _)
  obtain ⟨g, hg⟩ : ∃ g, g = w.heap.size := ⟨_, rfl⟩
  have B1 : Hid (Whole w1 g 28 #[.int .u64 (m.l : Nat), .int .u64 (m.e : Nat), .slice a n cap]) := Lib.hid (by rw [hw1, hg]; exact (Whole.made _ _ _).alloc _)
  have B2 : Hid (Whole w1 (g + 1) 25 #[.int .u64 (p.l : Nat), .int .u64 (p.e : Nat)]) := Lib.hid (by
    rw [hw1, hg]
    have := Whole.made (w.alloc (.cells #[.int .u64 (m.l : Nat), .int .u64 (m.e : Nat), .slice a n cap] 28)) 25 #[.int .u64 (p.l : Nat), .int .u64 (p.e : Nat)]
    rwa [World.size_alloc] at this)
  have r0 : ∀ z, Frm [] w1 z → z.cell? ⟨g, 0, none⟩ = some (.int .u64 (m.l : Nat)) := fun z hz => (hz.whole B1.out (by simp)).cell 0
  have r1 : ∀ z, Frm [] w1 z → z.cell? ⟨g, 1, none⟩ = some (.int .u64 (m.e : Nat)) := fun z hz => (hz.whole B1.out (by simp)).cell 1
  have r2 : ∀ z, Frm [] w1 z → z.cell? ⟨g, 2, none⟩ = some (.slice a n cap) := fun z hz => (hz.whole B1.out (by simp)).cell 2
  have r3 : ∀ z, Frm [] w1 z → z.cell? ⟨g + 1, 0, none⟩ = some (.int .u64 (p.l : Nat)) := fun z hz => (hz.whole B2.out (by simp)).cell 0
  have r4 : ∀ z, Frm [] w1 z → z.cell? ⟨g + 1, 1, none⟩ = some (.int .u64 (p.e : Nat)) := fun z hz => (hz.whole B2.out (by simp)).cell 1
  clear h hn hr hc I1 hs
  obtain ⟨pl, pe⟩ := p
  obtain ⟨ml, me⟩ := m
  unfold LRet Ps.val at ORD
  unfold RsEnd at OF
  unfold crsV Ps.val
  simp only at ORD OF IN r0 r1 r2 r3 r4 hw1 II ⊢
  by_cases h1 : c < 0
  · have d1 : decide (c < 0) = true := decide_eq_true h1
    have YES : Hid (Ps.lt ⟨pl, pe⟩ ⟨ml, me⟩ ∨ Mem R pe) := Lib.hid (.inl (II.out.1 h1))
    clear h1
    go_enter Try.func18, Try.ntmps18
    go_wp2
    rw [← hw1, ← hg]
    clear hw1 hg
    refine wp_region_held_drew (S := fun w' => Frm [] w1 w') (by kernel_rfl) (Frm.drew (Frm.refl _ _)) (fun hHeld => ?_)
    refine wpAnyH_take (i := 0) (oi := ⟨some 5, _, _, _, _, _⟩) (v := ?_) rfl (by kernel_rfl) (by kernel_rfl) (by kernel_rfl) (fun _ _ _ h => h) (Or.inl ⟨by rfl, ?_⟩) (by assumption) ?_
    rotate_left 1
    · (intro w hSw; (try dsimp only at hSw); go_simp; all_goals with_reducible rfl)
    try simp only [Act.put, List.setIfInBounds_toArray, List.set_cons_zero, List.set_cons_succ]
    refine wpAnyH_take (i := 1) (oi := ⟨some 6, _, _, _, _, _⟩) (v := ?_) rfl (by kernel_rfl) (by kernel_rfl) (by kernel_rfl) (fun _ _ _ h => h) (Or.inl ⟨by rfl, ?_⟩) (by assumption) ?_
    rotate_left 1
    · (intro w hSw; (try dsimp only at hSw); go_simp; all_goals with_reducible rfl)
    try simp only [Act.put, List.setIfInBounds_toArray, List.set_cons_zero, List.set_cons_succ]
    refine wpAnyH_take (i := 2) (oi := ⟨some 7, _, _, _, _, _⟩) (v := ?_) rfl (by kernel_rfl) (by kernel_rfl) (by kernel_rfl) (fun _ _ _ h => h) (Or.inl ⟨by rfl, ?_⟩) (by assumption) ?_
    rotate_left 1
    · (intro w hSw; (try dsimp only at hSw); go_simp; all_goals with_reducible rfl)
    try simp only [Act.put, List.setIfInBounds_toArray, List.set_cons_zero, List.set_cons_succ]
    refine wpAnyH_ready (rs := [3]) (by kernel_rfl) (by simp) ?_
    refine AllReadyH.cons (o := ⟨some 8, _, _, _, _, _⟩) rfl (fun K hK => ?_) AllReadyH.nil
    go_simp
    go_at_call 26; (with_reducible refine (ORD.out _).mono ?_); rintro e v1 ⟨rfl, hv1⟩; have hHeld1 : Frm [] w1 v1 := hHeld.trans hv1 (by simp) (by simp)
    go_wp2_with fail
    refine hK.out _ _ (by assumption) (fun hHeld => ?_)
    clear hK K
    try simp only [Act.put, List.setIfInBounds_toArray, List.set_cons_zero, List.set_cons_succ]
    refine wpAnyH_take (i := 4) (oi := ⟨some 9, _, _, _, _, _⟩) (v := ?_) rfl (by kernel_rfl) (by kernel_rfl) (by kernel_rfl) (fun _ _ _ h => h) (Or.inl ⟨by rfl, ?_⟩) (by assumption) ?_
    rotate_left 1
    · (intro w hSw; (try dsimp only at hSw); go_simp; all_goals with_reducible rfl)
    try simp only [Act.put, List.setIfInBounds_toArray, List.set_cons_zero, List.set_cons_succ]
    refine wpAnyH_take (i := 5) (oi := ⟨some 10, _, _, _, _, _⟩) (v := ?_) rfl (by kernel_rfl) (by kernel_rfl) (by kernel_rfl) (fun _ _ _ h => h) (Or.inl ⟨by rfl, ?_⟩) (by assumption) ?_
    rotate_left 1
    · (intro w hSw; (try dsimp only at hSw); go_simp; all_goals with_reducible rfl)
    try simp only [Act.put, List.setIfInBounds_toArray, List.set_cons_zero, List.set_cons_succ]
    refine wpAnyH_take (i := 6) (oi := ⟨some 11, _, _, _, _, _⟩) (v := undef) rfl (by kernel_rfl) (by kernel_rfl) (by kernel_rfl) (fun _ _ _ h => h) (Or.inr ⟨by rfl, rfl⟩) (by assumption) ?_
    try simp only [Act.put, List.setIfInBounds_toArray, List.set_cons_zero, List.set_cons_succ]
    refine wpAnyH_take (i := 7) (oi := ⟨some 12, _, _, _, _, _⟩) (v := undef) rfl (by kernel_rfl) (by kernel_rfl) (by kernel_rfl) (fun _ _ _ h => h) (Or.inr ⟨by rfl, rfl⟩) (by assumption) ?_
    try simp only [Act.put, List.setIfInBounds_toArray, List.set_cons_zero, List.set_cons_succ]
    refine wpAnyH_take (i := 8) (oi := ⟨some 13, _, _, _, _, _⟩) (v := undef) rfl (by kernel_rfl) (by kernel_rfl) (by kernel_rfl) (fun _ _ _ h => h) (Or.inr ⟨by rfl, rfl⟩) (by assumption) ?_
    try simp only [Act.put, List.setIfInBounds_toArray, List.set_cons_zero, List.set_cons_succ]
    refine wpAnyH_take (i := 9) (oi := ⟨some 14, _, _, _, _, _⟩) (v := undef) rfl (by kernel_rfl) (by kernel_rfl) (by kernel_rfl) (fun _ _ _ h => h) (Or.inr ⟨by rfl, rfl⟩) (by assumption) ?_
    try simp only [Act.put, List.setIfInBounds_toArray, List.set_cons_zero, List.set_cons_succ]
    refine wpAnyH_take (i := 10) (oi := ⟨some 15, _, _, _, _, _⟩) (v := undef) rfl (by kernel_rfl) (by kernel_rfl) (by kernel_rfl) (fun _ _ _ h => h) (Or.inr ⟨by rfl, rfl⟩) (by assumption) ?_
    try simp only [Act.put, List.setIfInBounds_toArray, List.set_cons_zero, List.set_cons_succ]
    refine wpAnyH_take (i := 11) (oi := ⟨some 16, _, _, _, _, _⟩) (v := undef) rfl (by kernel_rfl) (by kernel_rfl) (by kernel_rfl) (fun _ _ _ h => h) (Or.inr ⟨by rfl, rfl⟩) (by assumption) ?_
    try simp only [Act.put, List.setIfInBounds_toArray, List.set_cons_zero, List.set_cons_succ]
    refine wpAnyH_take (i := 12) (oi := ⟨some 17, _, _, _, _, _⟩) (v := undef) rfl (by kernel_rfl) (by kernel_rfl) (by kernel_rfl) (fun _ _ _ h => h) (Or.inr ⟨by rfl, rfl⟩) (by assumption) ?_
    try simp only [Act.put, List.setIfInBounds_toArray, List.set_cons_zero, List.set_cons_succ]
    refine wpAnyH_take (i := 13) (oi := ⟨some 18, _, _, _, _, _⟩) (v := undef) rfl (by kernel_rfl) (by kernel_rfl) (by kernel_rfl) (fun _ _ _ h => h) (Or.inr ⟨by rfl, rfl⟩) (by assumption) ?_
    try simp only [Act.put, List.setIfInBounds_toArray, List.set_cons_zero, List.set_cons_succ]
    refine wpAnyH_take (i := 14) (oi := ⟨some 19, _, _, _, _, _⟩) (v := ?_) rfl (by kernel_rfl) (by kernel_rfl) (by kernel_rfl) (fun _ _ _ h => h) (Or.inl ⟨by rfl, ?_⟩) (by assumption) ?_
    rotate_left 1
    · (intro w hSw; (try dsimp only at hSw); go_simp; all_goals with_reducible rfl)
    try simp only [Act.put, List.setIfInBounds_toArray, List.set_cons_zero, List.set_cons_succ]
    refine wpAnyH_take (i := 15) (oi := ⟨some 4, _, _, _, _, _⟩) (v := ?_) rfl (by kernel_rfl) (by kernel_rfl) (by kernel_rfl) (fun _ _ _ h => h) (Or.inl ⟨by rfl, ?_⟩) (by assumption) ?_
    rotate_left 1
    · (intro w hSw; (try dsimp only at hSw); go_simp; all_goals with_reducible rfl)
    try simp only [Act.put, List.setIfInBounds_toArray, List.set_cons_zero, List.set_cons_succ]
    refine wpAnyH_done (by kernel_rfl) ?_ _
    have FX : Hid (Frm [] w _) := Lib.hid (F1.out.trans hHeld (by simp) (by simp))
    clear r0 r1 r2 r3 r4
    go_wp2
    go_ret
    exact boolOf_t YES.out FX.out
  · have d1 : decide (c < 0) = false := decide_eq_false h1
    have NL : Hid (¬ Ps.lt ⟨pl, pe⟩ ⟨ml, me⟩) := Lib.hid (fun h => h1 (II.out.2 h))
    clear h1
    go_enter Try.func18, Try.ntmps18
    go_wp2
    rw [← hw1, ← hg]
    clear hw1 hg
    refine wp_region_held_drew (S := fun w' => Frm [] w1 w') (by kernel_rfl) (Frm.drew (Frm.refl _ _)) (fun hHeld => ?_)
    refine wpAnyH_take (i := 0) (oi := ⟨some 5, _, _, _, _, _⟩) (v := ?_) rfl (by kernel_rfl) (by kernel_rfl) (by kernel_rfl) (fun _ _ _ h => h) (Or.inl ⟨by rfl, ?_⟩) (by assumption) ?_
    rotate_left 1
    · (intro w hSw; (try dsimp only at hSw); go_simp; all_goals with_reducible rfl)
    try simp only [Act.put, List.setIfInBounds_toArray, List.set_cons_zero, List.set_cons_succ]
    refine wpAnyH_take (i := 1) (oi := ⟨some 6, _, _, _, _, _⟩) (v := ?_) rfl (by kernel_rfl) (by kernel_rfl) (by kernel_rfl) (fun _ _ _ h => h) (Or.inl ⟨by rfl, ?_⟩) (by assumption) ?_
    rotate_left 1
    · (intro w hSw; (try dsimp only at hSw); go_simp; all_goals with_reducible rfl)
    try simp only [Act.put, List.setIfInBounds_toArray, List.set_cons_zero, List.set_cons_succ]
    refine wpAnyH_take (i := 2) (oi := ⟨some 7, _, _, _, _, _⟩) (v := ?_) rfl (by kernel_rfl) (by kernel_rfl) (by kernel_rfl) (fun _ _ _ h => h) (Or.inl ⟨by rfl, ?_⟩) (by assumption) ?_
    rotate_left 1
    · (intro w hSw; (try dsimp only at hSw); go_simp; all_goals with_reducible rfl)
    try simp only [Act.put, List.setIfInBounds_toArray, List.set_cons_zero, List.set_cons_succ]
    refine wpAnyH_ready (rs := [3]) (by kernel_rfl) (by simp) ?_
    refine AllReadyH.cons (o := ⟨some 8, _, _, _, _, _⟩) rfl (fun K hK => ?_) AllReadyH.nil
    go_simp
    go_at_call 26; (with_reducible refine (ORD.out _).mono ?_); rintro e v1 ⟨rfl, hv1⟩; have hHeld1 : Frm [] w1 v1 := hHeld.trans hv1 (by simp) (by simp)
    go_wp2_with fail
    refine hK.out _ _ (by assumption) (fun hHeld => ?_)
    clear hK K
    try simp only [Act.put, List.setIfInBounds_toArray, List.set_cons_zero, List.set_cons_succ]
    refine wpAnyH_take (i := 4) (oi := ⟨some 9, _, _, _, _, _⟩) (v := ?_) rfl (by kernel_rfl) (by kernel_rfl) (by kernel_rfl) (fun _ _ _ h => h) (Or.inl ⟨by rfl, ?_⟩) (by assumption) ?_
    rotate_left 1
    · (intro w hSw; (try dsimp only at hSw); go_simp; all_goals with_reducible rfl)
    try simp only [Act.put, List.setIfInBounds_toArray, List.set_cons_zero, List.set_cons_succ]
    refine wpAnyH_take (i := 5) (oi := ⟨some 10, _, _, _, _, _⟩) (v := ?_) rfl (by kernel_rfl) (by kernel_rfl) (by kernel_rfl) (fun _ _ _ h => h) (Or.inl ⟨by rfl, ?_⟩) (by assumption) ?_
    rotate_left 1
    · (intro w hSw; (try dsimp only at hSw); go_simp; all_goals with_reducible rfl)
    try simp only [Act.put, List.setIfInBounds_toArray, List.set_cons_zero, List.set_cons_succ]
    refine wpAnyH_take (i := 6) (oi := ⟨some 11, _, _, _, _, _⟩) (v := ?_) rfl (by kernel_rfl) (by kernel_rfl) (by kernel_rfl) (fun _ _ _ h => h) (Or.inl ⟨by rfl, ?_⟩) (by assumption) ?_
    rotate_left 1
    · (intro w hSw; (try dsimp only at hSw); go_simp; all_goals with_reducible rfl)
    try simp only [Act.put, List.setIfInBounds_toArray, List.set_cons_zero, List.set_cons_succ]
    refine wpAnyH_take (i := 7) (oi := ⟨some 12, _, _, _, _, _⟩) (v := ?_) rfl (by kernel_rfl) (by kernel_rfl) (by kernel_rfl) (fun _ _ _ h => h) (Or.inl ⟨by rfl, ?_⟩) (by assumption) ?_
    rotate_left 1
    · (intro w hSw; (try dsimp only at hSw); go_simp; all_goals with_reducible rfl)
    try simp only [Act.put, List.setIfInBounds_toArray, List.set_cons_zero, List.set_cons_succ]
    refine wpAnyH_take (i := 8) (oi := ⟨some 13, _, _, _, _, _⟩) (v := ?_) rfl (by kernel_rfl) (by kernel_rfl) (by kernel_rfl) (fun _ _ _ h => h) (Or.inl ⟨by rfl, ?_⟩) (by assumption) ?_
    rotate_left 1
    · (intro w hSw; (try dsimp only at hSw); go_simp; all_goals with_reducible rfl)
    try simp only [Act.put, List.setIfInBounds_toArray, List.set_cons_zero, List.set_cons_succ]
    refine wpAnyH_take (i := 9) (oi := ⟨some 14, _, _, _, _, _⟩) (v := ?_) rfl (by kernel_rfl) (by kernel_rfl) (by kernel_rfl) (fun _ _ _ h => h) (Or.inl ⟨by rfl, ?_⟩) (by assumption) ?_
    rotate_left 1
    · (intro w hSw; (try dsimp only at hSw); go_simp; all_goals with_reducible rfl)
    try simp only [Act.put, List.setIfInBounds_toArray, List.set_cons_zero, List.set_cons_succ]
    refine wpAnyH_take (i := 11) (oi := ⟨some 16, _, _, _, _, _⟩) (v := ?_) rfl (by kernel_rfl) (by kernel_rfl) (by kernel_rfl) (fun _ _ _ h => h) (Or.inl ⟨by rfl, ?_⟩) (by assumption) ?_
    rotate_left 1
    · (intro w hSw; (try dsimp only at hSw); go_simp; all_goals with_reducible rfl)
    try simp only [Act.put, List.setIfInBounds_toArray, List.set_cons_zero, List.set_cons_succ]
    refine wpAnyH_take (i := 12) (oi := ⟨some 17, _, _, _, _, _⟩) (v := ?_) rfl (by kernel_rfl) (by kernel_rfl) (by kernel_rfl) (fun _ _ _ h => h) (Or.inl ⟨by rfl, ?_⟩) (by assumption) ?_
    rotate_left 1
    · (intro w hSw; (try dsimp only at hSw); go_simp; all_goals with_reducible rfl)
    try simp only [Act.put, List.setIfInBounds_toArray, List.set_cons_zero, List.set_cons_succ]
    refine wpAnyH_ready (rs := [10]) (by kernel_rfl) (by simp) ?_
    refine AllReadyH.cons (o := ⟨some 15, _, _, _, _, _⟩) rfl (fun K hK => ?_) AllReadyH.nil
    go_simp
    go_at_call 46; (with_reducible refine (OF.out _ (F1.out.trans hHeld (by simp) (by simp))).mono ?_); rintro e v2 ⟨ar, cr, rfl, hrr, _, _, _, _, hv2⟩; have RR := Lib.hid hrr; clear hrr; have hHeld2 : Frm [] w1 v2 := hHeld.trans hv2 (by simp) (by simp)
    go_wp2_with fail
    refine hK.out _ _ (by assumption) (fun hHeld => ?_)
    clear hK K
    try simp only [Act.put, List.setIfInBounds_toArray, List.set_cons_zero, List.set_cons_succ]
    refine wpAnyH_ready (rs := [13]) (by kernel_rfl) (by simp) ?_
    refine AllReadyH.cons (o := ⟨some 18, _, _, _, _, _⟩) rfl (fun K hK => ?_) AllReadyH.nil
    go_simp
    go_at_call 45; (with_reducible refine (IN.out _ _ _ RR.out).mono ?_); rintro e v3 ⟨bb, rfl, hbb, hv3⟩; have HBB := Lib.hid hbb; clear hbb; have hHeld3 : Frm [] w1 v3 := hHeld.trans hv3 (by simp) (by simp)
    go_wp2_with fail
    refine hK.out _ _ (by assumption) (fun hHeld => ?_)
    clear hK K
    try simp only [Act.put, List.setIfInBounds_toArray, List.set_cons_zero, List.set_cons_succ]
    refine wpAnyH_take (i := 14) (oi := ⟨some 19, _, _, _, _, _⟩) (v := ?_) rfl (by kernel_rfl) (by kernel_rfl) (by kernel_rfl) (fun _ _ _ h => h) (Or.inl ⟨by rfl, ?_⟩) (by assumption) ?_
    rotate_left 1
    · (intro w hSw; (try dsimp only at hSw); go_simp; all_goals with_reducible rfl)
    try simp only [Act.put, List.setIfInBounds_toArray, List.set_cons_zero, List.set_cons_succ]
    refine wpAnyH_take (i := 15) (oi := ⟨some 4, _, _, _, _, _⟩) (v := ?_) rfl (by kernel_rfl) (by kernel_rfl) (by kernel_rfl) (fun _ _ _ h => h) (Or.inl ⟨by rfl, ?_⟩) (by assumption) ?_
    rotate_left 1
    · (intro w hSw; (try dsimp only at hSw); go_simp; all_goals with_reducible rfl)
    try simp only [Act.put, List.setIfInBounds_toArray, List.set_cons_zero, List.set_cons_succ]
    refine wpAnyH_done (by kernel_rfl) ?_ _
    have FX : Hid (Frm [] w _) := Lib.hid (F1.out.trans hHeld (by simp) (by simp))
    clear r0 r1 r2 r3 r4
    go_wp2
    go_ret
    exact ⟨bb, rfl, HBB.out.trans ⟨fun h => .inr h, fun h => h.elim (fun h2 => absurd h2 NL.out) id⟩, FX.out⟩
end Go.Proofs.Ytghadpihmhaepaa
/- Package ledgers: contracts of Next, Has. -/
namespace Go.Proofs.Ytghadpihmhaepaa
open Go.RowKit
set_option maxRecDepth 100000

/-- What Next answers, as a value. -/
def nextR (X : List Ld) (o : Nat) (p : Ps) : Value := .tuple #[(nextV X o p).1.val, .bool (nextV X o p).2]
theorem endP_last {X : List Ld} (o : Nat) (h : X ≠ []) : endP X o = ⟨(lastL X).id, (lastL X).size o⟩ := by
  unfold endP lastL
  have e : X.getLast? = some (X.getLast h) := List.getLast?_eq_some_getLast h
  have e2 : X.getD (X.length - 1) default = X.getLast h := by
    have : X.length - 1 < X.length := by have := List.length_pos_iff.2 h; omega
    rw [List.getLast_eq_getElem]
    simp [this]
  rw [e, e2]
theorem nextR_some {X : List Ld} {o : Nat} {p q : Ps} (h : nextP X o p = some q) : nextR X o p = .tuple #[q.val, .bool true] := by unfold nextR nextV; rw [h]
theorem nextR_none {X : List Ld} {o : Nat} {p : Ps} (h : nextP X o p = none) : nextR X o p = .tuple #[(endP X o).val, .bool false] := by unfold nextR nextV; rw [h]
set_option maxHeartbeats 4000000 in
theorem ldnext_any (a : Option Addr) (n cap : Nat) (X : List Ld) (o : Nat) (p : Ps) (w : World) (h : LdL w [] a X) (hn : n = X.length) (hsz : n < 4611686018427387904) :
    Calls Try.prog 56 #[.slice a n cap, .int .u64 (o : Nat), p.val] w (LRet w (nextR X o p)) := by
  have HLS := Lib.hid (fun z (hz : Frm [] w z) => ldlast_any a n cap X z (h.sub hz) hn hsz)
  have HAH := Lib.hid (fun (x : Ld) z => ldahead_any x o p z)
  have HSZ := Lib.hid (fun (x : Ld) z => ldsize_any x o z)
  obtain ⟨w1, hw1⟩ : ∃ w1, w1 = (w.alloc (.cells #[.int .u64 (p.l : Nat), .int .u64 (p.e : Nat)] 25)).alloc (.cells #[.int .u64 0, .int .u64 0] 25) := ⟨_, rfl⟩
  have F1 : Hid (Frm [] w w1) := Lib.hid (by rw [hw1]; exact ((Frm.refl _ _).alloc _).alloc _)
  obtain ⟨g, hg⟩ : ∃ g, g = w.heap.size := ⟨_, rfl⟩
  have B1 : Hid (Whole w1 g 25 #[.int .u64 (p.l : Nat), .int .u64 (p.e : Nat)]) := Lib.hid (by rw [hw1, hg]; exact (Whole.made _ _ _).alloc _)
  have B2 : Hid (Whole w1 (g + 1) 25 #[.int .u64 0, .int .u64 0]) := Lib.hid (by
    rw [hw1, hg]
    have := Whole.made (w.alloc (.cells #[.int .u64 (p.l : Nat), .int .u64 (p.e : Nat)] 25)) 25 #[.int .u64 0, .int .u64 0]
    rwa [World.size_alloc] at this)
  have GS : Hid (w.heap.size ≤ g) := Lib.hid (by omega)
  have H := Lib.hid h; clear h
  have HN := Lib.hid hn; clear hn
  obtain ⟨R, hR⟩ : ∃ R, R = LRet w (nextR X o p) := ⟨_, rfl⟩
  rw [← hR]
  have HR := Lib.hid hR; clear hR
  -- what a store to the result leaves
  have FIN : Hid (∀ (z : World) (q : Ps), Frm [] w1 z → Whole ((z.setCell ⟨g + 1, 0, none⟩ (.int .u64 (q.l : Nat))).setCell ⟨g + 1, 1, none⟩ (.int .u64 (q.e : Nat))) (g + 1) 25 #[.int .u64 (q.l : Nat), .int .u64 (q.e : Nat)] ∧ Frm [] w ((z.setCell ⟨g + 1, 0, none⟩ (.int .u64 (q.l : Nat))).setCell ⟨g + 1, 1, none⟩ (.int .u64 (q.e : Nat)))) := Lib.hid (fun z q hz => by
    have hw := hz.whole B2.out (by simp)
    refine ⟨?_, ?_⟩
    · have := (hw.put 0 (.int .u64 (q.l : Nat))).put 1 (.int .u64 (q.e : Nat))
      simpa using this
    · have h1 := F1.out.trans hz (U := []) (by simp) (by simp)
      exact (h1.setCell (.inr (by have := GS.out; simp; omega)) _).setCell (.inr (by have := GS.out; simp; omega)) _)
  have V0 : Hid (∀ (z : World) (q : Ps) (b : Bool) (tm : Array Value), tm.getD 6 undef = .pointer (some ⟨g + 1, 0, none⟩) → tm.getD 7 undef = .bool b → Whole z (g + 1) 25 #[.int .u64 (q.l : Nat), .int .u64 (q.e : Nat)] → (results Try.f56 tm).run Try.prog z = .ok (.tuple #[q.val, .bool b]) z) := Lib.hid (fun z q b tm h6 h7 hw => by
    have c0 := hw.cell 0
    have c1 := hw.cell 1
    simp at c0 c1
    have h6' : tm[6]?.getD undef = .pointer (some ⟨g + 1, 0, none⟩) := by simpa using h6
    have h7' : tm[7]?.getD undef = .bool b := by simpa using h7
    unfold Ps.val
    simp [results, Try.results56, go_sem, c0, c1, h6', h7'])
  obtain ⟨pl, pe⟩ := p
  unfold Ps.val at HAH
  unfold Ps.val
  simp only at hw1 B1 HAH ⊢
  have HW1 := Lib.hid hw1; clear hw1
  go_enter Try.func56, Try.ntmps56
  go_wp2
  rw [← HW1.out, ← hg]
  have HG := Lib.hid hg; clear hg
  go_loopw [13] (fun s13 wr => ∃ k : Nat, k ≤ n ∧ s13 = .int .i64 k ∧ Hid (∀ i, i < k → ¬ (X.getD i default).ahead o ⟨pl, pe⟩ < (X.getD i default).size o) ∧ Hid (Frm [] w1 wr)) (fun s13 _ => n - (intOf s13).toNat)
  case atStart => exact ⟨0, Nat.zero_le _, rfl, Lib.hid (fun i hi => by omega), Lib.hid (Frm.refl _ _)⟩
  case round =>
    obtain ⟨k, hk, rfl, HI, HF⟩ := hrel
    by_cases hlt : k < n
    · have hlt' : (k : Int) < (n : Int) := by omega
      have hll := H.out.sub (F1.out.trans HF.out (U := []) (by simp) (by simp))
      obtain ⟨b, off, rfl, d0, d1, d2, _⟩ := hll.at (i := k) (by have := HN.out; omega)
      obtain ⟨x, hx⟩ : ∃ x, x = X.getD k default := ⟨_, rfl⟩
      rw [← hx] at d0 d1 d2
      have AH := Lib.hid (HAH.out x)
      have SZ := Lib.hid (HSZ.out x)
      have NXT : Hid (x.ahead o ⟨pl, pe⟩ < x.size o → nextP X o ⟨pl, pe⟩ = some ⟨x.id, x.ahead o ⟨pl, pe⟩⟩) := Lib.hid (fun hc => by
        rw [hx] at hc ⊢
        exact nextP_at (by have := HN.out; omega) HI.out hc)
      have STEP : Hid (¬ x.ahead o ⟨pl, pe⟩ < x.size o → ∀ i, i < k + 1 → ¬ (X.getD i default).ahead o ⟨pl, pe⟩ < (X.getD i default).size o) := Lib.hid (fun hc i hi => by
        rcases Nat.lt_or_eq_of_le (Nat.le_of_lt_succ hi) with h1 | rfl
        · exact HI.out i h1
        · rw [← hx]; exact hc)
      clear hx hll
      generalize x.ahead o ⟨pl, pe⟩ = ah at AH NXT STEP
      generalize x.size o = sz at SZ NXT STEP
      obtain ⟨xi, xc, xn⟩ := x
      unfold Ld.val at AH SZ
      unfold LRet at AH SZ
      simp only at d0 d1 d2 AH SZ NXT
      obtain ⟨W, hW⟩ : ∃ W, W = wr.alloc (.cells #[.int .u64 (xi : Nat), .bool xc, .int .u64 (xn : Nat)] 69) := ⟨_, rfl⟩
      have FW : Hid (Frm [] w1 W) := Lib.hid (by rw [hW]; exact HF.out.alloc _)
      obtain ⟨q, hq⟩ : ∃ q, q = wr.heap.size := ⟨_, rfl⟩
      have BW : Hid (Whole W q 69 #[.int .u64 (xi : Nat), .bool xc, .int .u64 (xn : Nat)]) := Lib.hid (by rw [hW, hq]; exact Whole.made _ _ _)
      have p0 := (FW.out.whole B1.out (by simp)).cell 0
      have p1 := (FW.out.whole B1.out (by simp)).cell 1
      have y0 := BW.out.cell 0
      have y1 := BW.out.cell 1
      have y2 := BW.out.cell 2
      simp at p0 p1 y0 y1 y2
      have HWW := Lib.hid hW; clear hW
      have HQ := Lib.hid hq; clear hq
      go_upto_region 4 with (fail)
      rw [← HWW.out, ← HQ.out]
      go_wp2_with fail
      (with_reducible refine (AH.out _).mono ?_)
      rintro e w2 ⟨rfl, hf2⟩
      have F2 : Hid (Frm [] w1 w2) := Lib.hid (FW.out.trans hf2 (by simp) (by simp))
      have BW2 := Lib.hid (hf2.whole BW.out (by simp))
      have z0 := BW2.out.cell 0
      have z1 := BW2.out.cell 1
      have z2 := BW2.out.cell 2
      simp at z0 z1 z2
      clear p0 p1 y0 y1 y2 d0 d1 d2 hf2
      go_wp2_with fail
      (with_reducible refine (SZ.out _).mono ?_)
      rintro e w3 ⟨rfl, hf3⟩
      have F3 : Hid (Frm [] w1 w3) := Lib.hid (F2.out.trans hf3 (by simp) (by simp))
      have BW3 := Lib.hid (hf3.whole BW2.out (by simp))
      clear hf3 z0 z1 z2
      by_cases hc : ah < sz
      · have e1 : (ah : Int) < (sz : Int) := by omega
        have e2 : decide (ah < sz) = true := decide_eq_true hc
        have NX := Lib.hid (NXT.out hc)
        have z0 := BW3.out.cell 0
        have r0 := (F3.out.whole B2.out (by simp)).cell 0
        have r1 := (F3.out.whole B2.out (by simp)).cell 1
        have k0 := (F3.out.whole B2.out (by simp)).free 0
        have k1 := (F3.out.whole B2.out (by simp)).free 1
        simp at z0 r0 r1
        obtain ⟨FW1, FW2⟩ := FIN.out w3 ⟨xi, ah⟩ F3.out
        have FW1 := Lib.hid FW1
        have FW2 := Lib.hid FW2
        clear hc
        go_wp2
        refine bodyPost_ret (V0.out _ ⟨xi, ah⟩ true _ rfl rfl FW1.out) rfl ?_
        rw [HR.out, nextR_some NX.out]
        exact ⟨rfl, FW2.out⟩
      · have e1 : ¬ (ah : Int) < (sz : Int) := by omega
        have e2 : decide (ah < sz) = false := decide_eq_false hc
        have ST := Lib.hid (STEP.out hc)
        clear hc
        go_wp2
        go_roundw
        case rel => exact ⟨k + 1, by omega, by go_num, ST, F3⟩
        case measure => simp [intOf]; omega
    · obtain rfl : k = n := by omega
      have NO : Hid (nextP X o ⟨pl, pe⟩ = none) := Lib.hid (nextP_none (by rw [← HN.out]; exact HI.out))
      have FWR : Hid (Frm [] w wr) := Lib.hid (F1.out.trans HF.out (by simp) (by simp))
      rcases Nat.eq_zero_or_pos k with h0 | h0
      · subst h0
        have hX : X = [] := List.eq_nil_of_length_eq_zero (by have := HN.out; omega)
        subst hX
        have r0 := (HF.out.whole B2.out (by simp)).cell 0
        have r1 := (HF.out.whole B2.out (by simp)).cell 1
        have k0 := (HF.out.whole B2.out (by simp)).free 0
        have k1 := (HF.out.whole B2.out (by simp)).free 1
        simp at r0 r1
        obtain ⟨FW1, FW2⟩ := FIN.out wr ⟨0, 0⟩ HF.out
        have FW1 := Lib.hid FW1
        have FW2 := Lib.hid FW2
        go_wp2
        refine bodyPost_ret (V0.out _ ⟨0, 0⟩ false _ rfl rfl FW1.out) rfl ?_
        rw [HR.out, nextR_none NO.out]
        exact ⟨rfl, FW2.out⟩
      · have d1 : ((k : Int) == 0) = false := by rw [beq_eq_false_iff_ne]; omega
        have hX : X ≠ [] := by rintro rfl; have := HN.out; simp at this; omega
        have EN := Lib.hid (endP_last o hX)
        clear hX h0
        have SL := Lib.hid (HSZ.out (lastL X))
        generalize lastL X = x at HLS EN SL
        obtain ⟨xi, xc, xn⟩ := x
        unfold Ld.val at SL
        unfold LRet at SL HLS
        simp only at EN SL
        generalize Ld.size ⟨xi, xc, xn⟩ o = sz at EN SL
        unfold Ld.val at HLS
        simp only at HLS
        have LL := Lib.hid (fun z (hz : Frm [] w z) => HLS.out z hz)
        have fl0 := fun a b c w => ldfld0 a b c w
        go_wp2_with fail
        (with_reducible refine (LL.out _ FWR.out).mono ?_)
        rintro e w2 ⟨rfl, hf2⟩
        have F2 : Hid (Frm [] w1 w2) := Lib.hid (HF.out.trans hf2 (by simp) (by simp))
        have G2 : Hid (Frm [] w w2) := Lib.hid (FWR.out.trans hf2 (by simp) (by simp))
        clear hf2
        go_wp2_with fail
        (with_reducible refine (LL.out _ G2.out).mono ?_)
        rintro e w3 ⟨rfl, hf3⟩
        have F3 : Hid (Frm [] w1 w3) := Lib.hid (F2.out.trans hf3 (by simp) (by simp))
        clear hf3
        go_wp2_with fail
        (with_reducible refine (SL.out _).mono ?_)
        rintro e w4 ⟨rfl, hf4⟩
        have F4 : Hid (Frm [] w1 w4) := Lib.hid (F3.out.trans hf4 (by simp) (by simp))
        clear hf4
        have r0 := (F4.out.whole B2.out (by simp)).cell 0
        have r1 := (F4.out.whole B2.out (by simp)).cell 1
        have k0 := (F4.out.whole B2.out (by simp)).free 0
        have k1 := (F4.out.whole B2.out (by simp)).free 1
        simp at r0 r1
        obtain ⟨FW1, FW2⟩ := FIN.out w4 ⟨xi, sz⟩ F4.out
        have FW1 := Lib.hid FW1
        have FW2 := Lib.hid FW2
        go_wp2
        refine bodyPost_ret (V0.out _ ⟨xi, sz⟩ false _ rfl rfl FW1.out) rfl ?_
        rw [HR.out, nextR_none NO.out, EN.out]
        exact ⟨rfl, FW2.out⟩
end Go.Proofs.Ytghadpihmhaepaa
