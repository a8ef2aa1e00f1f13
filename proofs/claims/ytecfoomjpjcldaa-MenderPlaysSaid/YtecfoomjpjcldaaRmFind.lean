/- The document's mender in memory; contract of its find. -/
import Derived.Test.YtecfoomjpjcldaaMdRes
import Derived.Test.YtecfoomjpjcldaaQuRef2
namespace Go.Proofs.Ytecfoomjpjcldaa
open Go.RowKit
set_option maxRecDepth 100000
/-- What a list has of an entry: the first that stands there. -/
def lookN : List (Nat × List Nat) → Nat → Option (List Nat)
  | [], _ => none
  | (k, d) :: l, j => if k = j then some d else lookN l j
theorem lookN_none {l : List (Nat × List Nat)} {j : Nat} (h : ∀ i, i < l.length → (l.getD i (0, [])).1 ≠ j) : lookN l j = none := by
  induction l with
  | nil => rfl
  | cons x l ih =>
    obtain ⟨k, d⟩ := x
    have h0 := h 0 (by simp)
    simp only [lookN]
    rw [if_neg (by simpa using h0)]
    exact ih fun i hi => by simpa using h (i + 1) (by simpa using hi)
theorem lookN_at {l : List (Nat × List Nat)} {j t : Nat} (ht : t < l.length) (he : (l.getD t (0, [])).1 = j) (h : ∀ i, i < t → (l.getD i (0, [])).1 ≠ j) : lookN l j = some (l.getD t (0, [])).2 := by
  induction l generalizing t with
  | nil => simp at ht
  | cons x l ih =>
    obtain ⟨k, d⟩ := x
    simp only [lookN]
    cases t with
    | zero => rw [if_pos (by simpa using he)]; rfl
    | succ t =>
      rw [if_neg (by simpa using h 0 (by omega))]
      have := ih (t := t) (by simpa using ht) (by simpa using he) (fun i hi => by simpa using h (i + 1) (by omega))
      simpa using this
theorem lookN_snoc {l : List (Nat × List Nat)} {k : Nat} {d : List Nat} (h : lookN l k = none) : lookN (l ++ [(k, d)]) = fun i => if i = k then some d else lookN l i := by
  funext i
  induction l with
  | nil =>
    show (if k = i then some d else none) = _
    by_cases hi : i = k
    · rw [if_pos hi.symm, if_pos hi]
    · rw [if_neg (Ne.symm hi), if_neg hi]; rfl
  | cons x l ih =>
    obtain ⟨e, y⟩ := x
    simp only [lookN] at h
    by_cases he : e = k
    · rw [if_pos he] at h; cases h
    · rw [if_neg he] at h
      simp only [List.cons_append, lookN]
      by_cases hei : e = i
      · rw [if_pos hei, if_pos hei]
        rw [if_neg (by omega)]
      · rw [if_neg hei, if_neg hei]; exact ih h
theorem covN_congr {P W A : Nat} {x y : List Bool} (hP : 0 < P) (h : ∀ j, j < P → x.getD j false = y.getD j false) : covN P W A x = covN P W A y := by
  rw [Bool.eq_iff_iff]
  exact ⟨fun hx => cov_more hP (fun p hp h1 => by rw [← h p hp]; exact h1) hx, fun hx => cov_more hP (fun p hp h1 => by rw [h p hp]; exact h1) hx⟩
def FdRel (l : List (Nat × List Nat)) (j : Nat) (s5 : Value) (w wr : World) : Prop := ∃ k : Nat, s5 = .int .i64 (k : Nat) ∧ k ≤ l.length ∧ (∀ i, i < k → (l.getD i (0, [])).1 ≠ j) ∧ wr = w
/-- What find answers. -/
def FdEnd (w : World) (l : List (Nat × List Nat)) (j : Nat) (e : Ending) (w' : World) : Prop :=
  w' = w ∧ ((lookN l j = none ∧ e = .returned (.int .i64 (-1))) ∨ ∃ t : Nat, t < l.length ∧ (l.getD t (0, [])).1 = j ∧ lookN l j = some (l.getD t (0, [])).2 ∧ e = .returned (.int .i64 (t : Nat)))
theorem its_getD {X : List Ix} {i : Nat} (h : i < X.length) : (its X).getD i (0, []) = (X.getD i default).t := by
  unfold its
  rw [List.getD_eq_getElem?_getD, List.getElem?_map, List.getD_eq_getElem?_getD, List.getElem?_eq_getElem h]; rfl
set_option maxHeartbeats 4000000 in
theorem rmfind_any {w : World} {F : List Nat} (a : Option Addr) (n c : Nat) (X : List Ix) (j : Nat) (h : IL w F a X) (hn : n = X.length) (hn63 : n ≤ 140737488355328) :
    Calls Try.prog 50 #[.slice a n c, .int .u64 (j : Nat)] w (FdEnd w (its X) j) := by
  obtain ⟨Q, hQ⟩ : ∃ Q, Q = FdEnd w (its X) j := ⟨_, rfl⟩
  rw [← hQ]
  have HQ := Lib.hid hQ
  have H := Lib.hid h
  have HN := Lib.hid hn
  have HR0 : Hid (FdRel (its X) j (.int .i64 (0 : Nat)) w w) := Lib.hid ⟨0, rfl, Nat.zero_le _, fun i hi => absurd hi (by omega), rfl⟩
  have hlen : (its X).length = n := by rw [its_length, hn]
  have HLE := Lib.hid hlen
  clear hQ h hn hlen
  go_enter Try.func50, Try.ntmps50
  go_wp2
  go_loopw [5] (fun s5 wr => FdRel (its X) j s5 w wr) (fun s5 _ => n - (intOf s5).toNat)
  case atStart => exact HR0.out
  case round =>
    clear HR0
    obtain ⟨k, rfl, hk, hall, rfl⟩ := hrel
    have HALL := Lib.hid hall
    clear hall
    by_cases hlt : k < n
    · have hkX : k < X.length := by rw [← HN.out]; exact hlt
      obtain ⟨b, off, rfl, c0, c1, hix⟩ := H.out.at hkX
      have hg := its_getD hkX
      obtain ⟨e, he⟩ : ∃ e, e = (X.getD k default).t.1 := ⟨_, rfl⟩
      rw [← he] at c0
      have HG : Hid (((its X).getD k (0, [])).1 = e) := Lib.hid (by rw [hg, he])
      clear hg he hix hkX c1
      by_cases hej : e = j
      · subst hej
        have hd : ((e : Int) == (e : Int)) = true := by simp
        have HE : Hid (Q (.returned (.int .i64 (k : Nat))) wr) := Lib.hid (by
          rw [HQ.out]
          have hl : k < (its X).length := by rw [HLE.out]; exact hlt
          exact ⟨rfl, .inr ⟨k, hl, HG.out, lookN_at hl HG.out HALL.out, rfl⟩⟩)
        go_wp2
        exact HE.out
      · have hd : ((e : Int) == (j : Int)) = false := by simp; omega
        have HREL : Hid (FdRel (its X) j (.int .i64 ((k + 1 : Nat) : Nat)) wr wr) := Lib.hid ⟨k + 1, rfl, by rw [HLE.out]; exact hlt, fun i hi => by
          by_cases hik : i = k
          · rw [hik, HG.out]; exact hej
          · exact HALL.out i (by omega), rfl⟩
        have hwm : IntKind.i64.wrap ((k : Int) + 1) = ((k + 1 : Nat) : Int) := by rw [IntWalk.i64_in _ (by omega)]; rfl
        go_wp2
        go_roundw
        case rel => exact HREL.out
        case measure => simp [intOf]; omega
    · have HE : Hid (Q (.returned (.int .i64 (-1))) wr) := Lib.hid (by
        rw [HQ.out]
        exact ⟨rfl, .inl ⟨lookN_none fun i hi => HALL.out i (by rw [HLE.out] at hi; omega), rfl⟩⟩)
      go_wp2
      exact HE.out
end Go.Proofs.Ytecfoomjpjcldaa
