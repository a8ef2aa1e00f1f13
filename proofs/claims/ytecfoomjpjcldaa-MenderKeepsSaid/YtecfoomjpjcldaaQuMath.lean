/- Quorums, as plain numbers and lists: the places of an entry, how many of them say so, what covers. They speak of no program. -/
import Derived.Test.YtecfoomjpjcldaaVals
namespace Go.Proofs.Ytecfoomjpjcldaa
open Go.RowKit

/-- Is it a quorum? -/
def okQ (p w a : Int) : Bool := decide (1 ≤ a) && (decide (a ≤ w) && (decide (w ≤ p) && decide (p ≤ 7)))
/-- The place with the number i of an entry's. -/
def plN (P e i : Nat) : Nat := (e % P + i) % P
def setN (P W e : Nat) : List Nat := (List.range W).map (plN P e)
/-- How many of an entry's places say so. -/
def toldN (P W e : Nat) (bs : List Bool) : Nat := (List.range W).countP (fun i => bs.getD (plN P e i) false)
/-- Do these cover? -/
def covN (P W A : Nat) (bs : List Bool) : Bool := (List.range P).all (fun e => decide (W - A < toldN P W e bs))

theorem okQ_iff (p w a : Int) : okQ p w a = true ↔ 1 ≤ a ∧ a ≤ w ∧ w ≤ p ∧ p ≤ 7 := by simp [okQ]
theorem plN_lt {P : Nat} (h : 0 < P) (e i : Nat) : plN P e i < P := Nat.mod_lt _ h
theorem plN_mod (P e i : Nat) : plN P (e % P) i = plN P e i := by unfold plN; rw [Nat.mod_mod]
theorem toldN_mod (P W e : Nat) (bs : List Bool) : toldN P W (e % P) bs = toldN P W e bs := by unfold toldN; simp only [plN_mod]
theorem mod_inj {P x i j : Nat} (h : (x + i) % P = (x + j) % P) (hi : i < P) (hj : j < P) : i = j := by
  rcases Nat.lt_trichotomy i j with hl | he | hl
  · have h1 : (x + j - (x + i)) % P = 0 := Nat.sub_mod_eq_zero_of_mod_eq h.symm
    rw [show x + j - (x + i) = j - i by omega, Nat.mod_eq_of_lt (by omega)] at h1
    omega
  · exact he
  · have h1 : (x + i - (x + j)) % P = 0 := Nat.sub_mod_eq_zero_of_mod_eq h
    rw [show x + i - (x + j) = i - j by omega, Nat.mod_eq_of_lt (by omega)] at h1
    omega
theorem plN_inj {P e i j : Nat} (h : plN P e i = plN P e j) (hi : i < P) (hj : j < P) : i = j := mod_inj h hi hj

theorem countP_or' {α : Type} (a b : α → Bool) (l : List α) (h : ∀ x ∈ l, ¬ (a x = true ∧ b x = true)) : l.countP (fun x => a x || b x) = l.countP a + l.countP b := by
  induction l with
  | nil => rfl
  | cons x l ih =>
    have h0 := h x (by simp)
    have hr := ih fun y hy => h y (by simp [hy])
    simp only [List.countP_cons, hr]
    cases ha : a x <;> cases hb : b x <;> simp_all <;> omega
theorem countP_both {α : Type} (a b : α → Bool) (l : List α) (h : ∀ x ∈ l, ¬ (a x = true ∧ b x = true)) : l.countP a + l.countP b ≤ l.length := by
  rw [← countP_or' a b l h]
  exact List.countP_le_length
theorem countP_not {α : Type} (a : α → Bool) (l : List α) : l.countP a + l.countP (fun x => !a x) = l.length := by
  induction l with
  | nil => rfl
  | cons x l ih => simp only [List.countP_cons, List.length_cons]; cases a x <;> simp <;> omega
theorem countP_one (g : Nat → Bool) (m y : Nat) : (List.range m).countP (fun p => g p && p == y) = if y < m ∧ g y = true then 1 else 0 := by
  induction m with
  | zero => simp
  | succ m ih =>
    rw [List.range_succ, List.countP_append, ih]
    by_cases hy : m = y
    · subst hy
      simp [List.countP_cons]
    · have : (m == y) = false := by simpa using hy
      by_cases hl : y < m
      · simp [this, hl, Nat.lt_succ_of_lt hl]
      · have h2 : ¬ y < m + 1 := by omega
        rw [if_neg (fun h => hl h.1), if_neg (fun h => h2 h.1)]
        simp [this]
theorem countP_cut (g : Nat → Bool) (m k : Nat) (h : ∀ p, k ≤ p → g p = false) (hk : k ≤ m) : (List.range m).countP g = (List.range k).countP g := by
  obtain ⟨d, rfl⟩ : ∃ d, m = k + d := ⟨m - k, by omega⟩
  clear hk
  induction d with
  | zero => rfl
  | succ d ih =>
    rw [show k + (d + 1) = k + d + 1 by omega, List.range_succ, List.countP_append, ih]
    simp [h (k + d) (by omega)]
theorem mem_setN (P W e p : Nat) : (setN P W e).contains p = true ↔ ∃ i, i < W ∧ plN P e i = p := by simp [setN]
/-- What the document counts, place by place. -/
theorem cnt_all (P W e : Nat) (bs : List Bool) (h : W ≤ P) : (List.range P).countP (fun p => bs.getD p false && (setN P W e).contains p) = toldN P W e bs := by
  induction W with
  | zero => simp [setN, toldN]
  | succ W ih =>
    have hs : ∀ p, (bs.getD p false && (setN P (W + 1) e).contains p) = ((bs.getD p false && (setN P W e).contains p) || (bs.getD p false && p == plN P e W)) := by
      intro p
      have : (setN P (W + 1) e).contains p = ((setN P W e).contains p || p == plN P e W) := by
        unfold setN
        rw [List.range_succ, List.map_append, List.contains_append]
        exact congrArg _ (by cases hq : p == plN P e W <;> simp_all)
      rw [this]
      cases bs.getD p false <;> simp
    rw [show (fun p => bs.getD p false && (setN P (W + 1) e).contains p) = _ from funext hs, countP_or', ih (by omega), countP_one]
    · unfold toldN
      rw [List.range_succ, List.countP_append]
      simp [List.countP_cons, plN_lt (show 0 < P by omega) e W]
    · rintro p hp ⟨h1, h2⟩
      rw [Bool.and_eq_true] at h1 h2
      obtain ⟨i, hi, hp1⟩ := (mem_setN P W e p).1 h1.2
      have : p = plN P e W := by simpa using h2.2
      have := plN_inj (hp1.trans this) (by omega) (by omega)
      omega
theorem toldN_le (P W e : Nat) (bs : List Bool) : toldN P W e bs ≤ W := by
  have := List.countP_le_length (p := fun i => bs.getD (plN P e i) false) (l := List.range W)
  simpa [toldN] using this
theorem covN_iff {P W A : Nat} (hP : 0 < P) {bs : List Bool} : covN P W A bs = true ↔ ∀ e, W - A < toldN P W e bs := by
  unfold covN
  rw [List.all_eq_true]
  constructor
  · intro h e
    have := h (e % P) (List.mem_range.2 (Nat.mod_lt _ hP))
    rw [toldN_mod] at this
    simpa using this
  · intro h e _
    simpa using h e

/-- P10.3: of places that are enough, and places that cover, one is among both. -/
theorem meets {P W A e : Nat} {said heard : List Bool} (hP : 0 < P) (hA : A ≤ W) (h1 : A ≤ toldN P W e said) (h2 : covN P W A heard = true) : ∃ p, p < P ∧ said.getD p false = true ∧ heard.getD p false = true := by
  have h3 := (covN_iff hP).1 h2 e
  refine Classical.byContradiction fun hn => ?_
  have := countP_both (fun i => said.getD (plN P e i) false) (fun i => heard.getD (plN P e i) false) (List.range W) (fun i _ hb => hn ⟨_, plN_lt hP e i, hb.1, hb.2⟩)
  unfold toldN at h1 h3
  rw [List.length_range] at this
  omega
theorem told_others {P W e : Nat} {heard others : List Bool} (hP : 0 < P) (h : ∀ p, p < P → others.getD p false = !heard.getD p false) : toldN P W e heard + toldN P W e others = W := by
  have := countP_not (fun i => heard.getD (plN P e i) false) (List.range W)
  unfold toldN
  simp only [h _ (plN_lt hP e _)]
  rw [List.length_range] at this
  exact this
theorem told_more {P W e : Nat} {x y : List Bool} (hP : 0 < P) (h : ∀ p, p < P → x.getD p false = true → y.getD p false = true) : toldN P W e x ≤ toldN P W e y :=
  List.countP_mono_left fun _ _ hx => h _ (plN_lt hP e _) hx
theorem cov_more {P W A : Nat} {x y : List Bool} (hP : 0 < P) (h : ∀ p, p < P → x.getD p false = true → y.getD p false = true) (hx : covN P W A x = true) : covN P W A y = true := by
  rw [covN_iff hP] at hx ⊢
  exact fun e => Nat.lt_of_lt_of_le (hx e) (told_more hP h)
end Go.Proofs.Ytecfoomjpjcldaa
