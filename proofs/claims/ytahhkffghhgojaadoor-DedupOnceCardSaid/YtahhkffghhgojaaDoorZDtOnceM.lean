/- One sender's line through DedupOnce. It speaks of no program. -/
import Derived.Test.YtahhkffghhgojaaDoorZDdMath
namespace Go.Proofs.YtahhkffghhgojaaDoor
open Go.RowKit
set_option maxRecDepth 100000

/-- "p". -/
def sP : ByteArray := ⟨#[112]⟩
/-- The table: no line yet, or one: begun up to t, done up to d. -/
def OnS (X : List Ln) (t d : Nat) : Prop := (X = [] ∧ t = 0 ∧ d = 0) ∨ ∃ l e, X = [⟨sP, t, d, l, e⟩] ∧ 0 < t ∧ d ≤ t
theorem look_one (x : Ln) (h : x.nm = sP) : lookL [x] sP = some x := by
  unfold lookL
  simp [h]
theorem on_beg {X : List Ln} {t d n : Nat} (h : OnS X t d) (hn : 1 ≤ n) : begC X sP n = (if n ≤ d then 40 else if n ≤ t then 41 else 0) ∧ OnS (begX X sP n) (max t n) d := by
  have hs : ¬ (sP.size < 1 ∨ 64 < sP.size) := by decide
  have hn0 : n ≠ 0 := by omega
  rcases h with ⟨rfl, rfl, rfl⟩ | ⟨l, e, rfl, ht, hd⟩
  · have hh : hasL [] sP = false := rfl
    have h0 : begC [] sP n = 0 := by
      rw [begC_ln, if_neg hs, if_neg hn0, lnOf_not hh, if_neg (by simp only; omega), if_neg (by simp only; omega), if_neg (by simp)]
    refine ⟨by rw [h0, if_neg (by omega), if_neg (by omega)], ?_⟩
    rw [begX_not h0 hh]
    exact .inr ⟨0, 0, by rw [Nat.max_eq_right (by omega)]; rfl, by omega, by omega⟩
  · have hlk := look_one ⟨sP, t, d, l, e⟩ rfl
    have hln : lnOf [⟨sP, t, d, l, e⟩] sP = ⟨sP, t, d, l, e⟩ := by unfold lnOf; rw [hlk]; rfl
    have hh : hasL [⟨sP, t, d, l, e⟩] sP = true := by unfold hasL; rw [hlk]; rfl
    have dist : Dist [(⟨sP, t, d, l, e⟩ : Ln)] := by unfold Dist; simp
    have hc : begC [⟨sP, t, d, l, e⟩] sP n = if n ≤ d then 40 else if n ≤ t then 41 else 0 := by
      rw [begC_ln, if_neg hs, if_neg hn0, hln, hh]
      simp
    refine ⟨hc, ?_⟩
    by_cases h1 : n ≤ d
    · rw [begX_err (by rw [hc, if_pos h1]; decide), Nat.max_eq_left (by omega)]
      exact .inr ⟨l, e, rfl, ht, hd⟩
    · by_cases h2 : n ≤ t
      · rw [begX_err (by rw [hc, if_neg h1, if_pos h2]; decide), Nat.max_eq_left h2]
        exact .inr ⟨l, e, rfl, ht, hd⟩
      · have h0 : begC [⟨sP, t, d, l, e⟩] sP n = 0 := by rw [hc, if_neg h1, if_neg h2]
        rw [begX_has dist h0 hh, hln, Nat.max_eq_right (by omega)]
        refine .inr ⟨l, e, ?_, by omega, by omega⟩
        unfold putL updL
        rw [if_pos (by show (lookL _ sP).isSome = true; rw [hlk]; rfl)]
        simp [Ln.wtop]
theorem on_don {X : List Ln} {t d n : Nat} (h : OnS X t d) (hn : 1 ≤ n) (hnt : n ≤ t) : donC X sP n = (if n ≤ d then 40 else 0) ∧ OnS (donX X sP n 0 n) t (max d n) := by
  rcases h with ⟨rfl, rfl, rfl⟩ | ⟨l, e, rfl, ht, hd⟩
  · omega
  · have hlk := look_one ⟨sP, t, d, l, e⟩ rfl
    have hln : lnOf [⟨sP, t, d, l, e⟩] sP = ⟨sP, t, d, l, e⟩ := by unfold lnOf; rw [hlk]; rfl
    have hh : hasL [⟨sP, t, d, l, e⟩] sP = true := by unfold hasL; rw [hlk]; rfl
    have dist : Dist [(⟨sP, t, d, l, e⟩ : Ln)] := by unfold Dist; simp
    have hc : donC [⟨sP, t, d, l, e⟩] sP n = if n ≤ d then 40 else 0 := by
      rw [donC_ln, hln, hh, if_neg (by simp; omega)]
    refine ⟨hc, ?_⟩
    by_cases h1 : n ≤ d
    · rw [donX_err (by rw [hc, if_pos h1]; decide), Nat.max_eq_left h1]
      exact .inr ⟨l, e, rfl, ht, hd⟩
    · have h0 : donC [⟨sP, t, d, l, e⟩] sP n = 0 := by rw [hc, if_neg h1]
      rw [donX_zero dist h0, hln, Nat.max_eq_right (by omega)]
      refine .inr ⟨0, n, ?_, ht, hnt⟩
      unfold putL updL
      rw [if_pos (by show (lookL _ sP).isSome = true; rw [hlk]; rfl)]
      simp [Ln.wdone]
theorem on_for {X : List Ln} {t d : Nat} (h : OnS X t d) : OnS (forX X) d d := by
  rcases h with ⟨rfl, rfl, rfl⟩ | ⟨l, e, rfl, ht, hd⟩
  · exact .inl ⟨rfl, rfl, rfl⟩
  · by_cases h0 : d = 0
    · subst h0
      exact .inl ⟨by simp [forX], rfl, rfl⟩
    · exact .inr ⟨l, e, by simp [forX, Nat.pos_of_ne_zero h0, Ln.wtop], Nat.pos_of_ne_zero h0, Nat.le_refl _⟩
theorem on_all {X : List Ln} {t d : Nat} (h : OnS X t d) : allX X = X := by
  rcases h with ⟨rfl, _, _⟩ | ⟨l, e, rfl, _, _⟩
  · rfl
  · rfl
theorem on_last {X : List Ln} {t d : Nat} (h : OnS X t d) : hasL X sP = decide (0 < t) ∧ (0 < t → ∃ l e, lnOf X sP = ⟨sP, t, d, l, e⟩) ∧ (t = 0 → lnOf X sP = ⟨⟨#[]⟩, 0, 0, 0, 0⟩ ∧ d = 0) := by
  rcases h with ⟨rfl, rfl, rfl⟩ | ⟨l, e, rfl, ht, hd⟩
  · exact ⟨rfl, fun h => by omega, fun _ => ⟨rfl, rfl⟩⟩
  · have hlk := look_one ⟨sP, t, d, l, e⟩ rfl
    refine ⟨by unfold hasL; rw [hlk, decide_eq_true ht]; rfl, fun _ => ⟨l, e, by unfold lnOf; rw [hlk]; rfl⟩, fun h => by omega⟩
end Go.Proofs.YtahhkffghhgojaaDoor
