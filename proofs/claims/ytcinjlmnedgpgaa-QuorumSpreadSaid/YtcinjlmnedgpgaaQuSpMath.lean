/- How often each place stands in the places of as many entries as there are places. -/
import Derived.Test.YtcinjlmnedgpgaaQuBits
namespace Go.Proofs.Ytcinjlmnedgpgaa
open Go.RowKit

theorem one_place {P x p : Nat} (hp : p < P) : (List.range P).countP (fun i => (x + i) % P == p) = 1 := by
  have hP : 0 < P := by omega
  have hx : (x + (p + P - x % P) % P) % P = p := by
    rw [Nat.add_mod_mod]
    have h1 : x % P < P := Nat.mod_lt _ hP
    have h2 := Nat.div_add_mod x P
    have h3 : x + (p + P - x % P) = p + P * (x / P) + P * 1 := by omega
    rw [h3, Nat.add_mul_mod_self_left, Nat.add_mul_mod_self_left, Nat.mod_eq_of_lt hp]
  have hlt : (p + P - x % P) % P < P := Nat.mod_lt _ hP
  generalize (p + P - x % P) % P = i0 at hx hlt
  have h : ∀ i ∈ List.range P, ((x + i) % P == p) = (true && i == i0) := by
    intro i hi
    have hi' := List.mem_range.1 hi
    by_cases he : i = i0
    · subst he; simp [hx]
    · have h1 : ¬ (x + i) % P = p := fun h => he (mod_inj (h.trans hx.symm) hi' hlt)
      have h2 : ((x + i) % P == p) = false := by simpa using h1
      have h3 : (i == i0) = false := by simpa using he
      rw [h2, h3]; rfl
  rw [List.countP_congr (fun i hi => by rw [h i hi])]
  have := countP_one (fun _ => true) P i0
  simpa [hlt] using this

/-- How often p stands in the places of the first i entries from f on. -/
def spS (P W f p : Nat) : Nat → Nat
  | 0 => 0
  | i + 1 => spS P W f p i + (setN P W (f + i)).count p
theorem spS_zero (P f p i : Nat) : spS P 0 f p i = 0 := by
  induction i with
  | zero => rfl
  | succ i ih => simp [spS, ih, setN]
theorem spS_wide (P W f p i : Nat) : spS P (W + 1) f p i = spS P W f p i + (List.range i).countP (fun k => plN P (f + k) W == p) := by
  induction i with
  | zero => rfl
  | succ i ih =>
    simp only [spS, ih, List.range_succ, List.countP_append, setN_succ, List.count_append]
    have : List.count p [plN P (f + i) W] = List.countP (fun k => plN P (f + k) W == p) [i] := by simp [List.count_cons, List.countP_cons]
    omega
theorem spS_all {P f p : Nat} (W : Nat) (hp : p < P) : spS P W f p P = W := by
  induction W with
  | zero => exact spS_zero P f p P
  | succ W ih =>
    rw [spS_wide, ih]
    have : (List.range P).countP (fun k => plN P (f + k) W == p) = (List.range P).countP (fun k => (f + W + k) % P == p) :=
      List.countP_congr (fun k _ => by
        unfold plN
        rw [Nat.mod_add_mod, show f + k + W = f + W + k by omega])
    rw [this, one_place hp]
theorem spS_le (P W f p i : Nat) : spS P W f p i ≤ W * i := by
  induction i with
  | zero => simp [spS]
  | succ i ih =>
    have h := List.count_le_length (a := p) (l := setN P W (f + i))
    rw [setN_len] at h
    simp only [spS, Nat.mul_succ]
    omega

/-- What has been counted: i entries, and j places of the next one. -/
def cntL (P W f i j : Nat) : List Nat := (List.range P).map (fun p => spS P W f p i + (setN P j (f + i)).count p)
def seenL (P e j : Nat) : List Bool := (List.range P).map (fun p => (setN P j e).contains p)
theorem cntL_len (P W f i j : Nat) : (cntL P W f i j).length = P := by simp [cntL]
theorem seenL_len (P e j : Nat) : (seenL P e j).length = P := by simp [seenL]
theorem cntL_start (P W f : Nat) : cntL P W f 0 0 = List.replicate P 0 := by
  apply List.ext_getElem
  · simp [cntL]
  · intro k h1 h2
    simp [cntL, spS, setN]
theorem seenL_start (P e : Nat) : seenL P e 0 = List.replicate P false := by
  apply List.ext_getElem
  · simp [seenL]
  · intro k h1 h2
    simp [seenL, setN]
theorem cntL_next (P W f i : Nat) : cntL P W f i W = cntL P W f (i + 1) 0 := by
  unfold cntL
  refine List.map_congr_left fun p _ => ?_
  simp [spS, setN]
theorem cntL_at {P W f i j q : Nat} (hq : q < P) : (cntL P W f i j).getD q 0 = spS P W f q i + (setN P j (f + i)).count q := by simp [cntL, List.getD, hq]
theorem seenL_at {P e j q : Nat} (hq : q < P) : (seenL P e j).getD q false = (setN P j e).contains q := by
  unfold seenL
  rw [List.getD_eq_getElem?_getD, List.getElem?_map, List.getElem?_range hq]
  rfl
theorem not_seen {P e j : Nat} (hj : j < P) : (setN P j e).contains (plN P e j) = false := by
  refine Bool.eq_false_iff.2 fun h => ?_
  obtain ⟨i, hi, he⟩ := (mem_setN P j e _).1 h
  have := plN_inj he (by omega) hj
  omega
theorem cntL_step {P W f i j q v : Nat} (hq : q = plN P (f + i) j) (hv : v = (cntL P W f i j).getD q 0 + 1) (hP : 0 < P) : (cntL P W f i j).set q v = cntL P W f i (j + 1) := by
  have hqP : q < P := by rw [hq]; exact plN_lt hP _ _
  rw [cntL_at hqP] at hv
  apply List.ext_getElem
  · simp [cntL]
  · intro k h1 h2
    rw [List.getElem_set]
    by_cases hk : q = k
    · subst hk
      rw [if_pos rfl, hv]
      simp [cntL, setN_succ, List.count_append, ← hq]
      omega
    · rw [if_neg hk]
      have : plN P (f + i) j ≠ k := by rw [← hq]; exact hk
      simp [cntL, setN_succ, List.count_append, List.count_cons, this]
theorem seenL_step {P e j q : Nat} (hq : q = plN P e j) : (seenL P e j).set q true = seenL P e (j + 1) := by
  apply List.ext_getElem
  · simp [seenL]
  · intro k h1 h2
    rw [List.getElem_set]
    by_cases hk : q = k
    · subst hk
      simp [seenL, setN_succ, ← hq]
    · rw [if_neg hk]
      have : ¬ k = plN P e j := by rw [← hq]; exact fun h => hk h.symm
      simp [seenL, setN_succ, this]
end Go.Proofs.Ytcinjlmnedgpgaa
