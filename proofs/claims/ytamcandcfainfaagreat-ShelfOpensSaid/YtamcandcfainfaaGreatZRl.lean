/- The document's ledgers: rows of them, of the call's own, each with a row of its own of entries. -/
import Derived.Test.YtamcandcfainfaaGreatMX
namespace Go.Proofs.YtamcandcfainfaaGreat
open Go.RowKit

/-- A ledger of the document's, and where its entries lie. -/
structure Rl where
  id : Nat := 0
  fen : Bool := false
  gone : Bool := false
  sure : Nat := 0
  a : Option Addr := none
  c : Nat := 0
  X : List Ix := []
instance : Inhabited Rl := ⟨{}⟩
def Rl.cells (r : Rl) : List Value := [.int .u64 (r.id : Nat), .bool r.fen, .bool r.gone, .int .u64 (r.sure : Nat), .slice r.a r.X.length r.c]
/-- What there is of it. -/
def Rl.lg (r : Rl) : Lg := ⟨its r.X, r.sure, r.fen, r.gone⟩
def rc (R : List Rl) : List Value := R.flatMap Rl.cells
theorem rc_append (X Y : List Rl) : rc (X ++ Y) = rc X ++ rc Y := by simp [rc]
theorem rc_cons (x : Rl) (X : List Rl) : rc (x :: X) = x.cells ++ rc X := rfl
theorem rc_one (X : List Rl) : ∀ u ∈ rc X, u.oneCell' = true := by
  intro u hu
  unfold rc at hu
  simp only [List.mem_flatMap, Rl.cells] at hu
  obtain ⟨x, _, h⟩ := hu
  simp at h
  rcases h with h | h | h | h | h <;> subst h <;> rfl
theorem rc_at (X : List Rl) : ∀ i, i < X.length → (rc X)[i * 5]? = some (.int .u64 ((X.getD i default).id : Nat)) ∧ (rc X)[i * 5 + 1]? = some (.bool (X.getD i default).fen) ∧ (rc X)[i * 5 + 2]? = some (.bool (X.getD i default).gone) ∧
    (rc X)[i * 5 + 3]? = some (.int .u64 ((X.getD i default).sure : Nat)) ∧ (rc X)[i * 5 + 4]? = some (.slice (X.getD i default).a (X.getD i default).X.length (X.getD i default).c) := by
  induction X with
  | nil => intro i hi; simp at hi
  | cons x X ih =>
    intro i hi
    have e : rc (x :: X) = .int .u64 (x.id : Nat) :: .bool x.fen :: .bool x.gone :: .int .u64 (x.sure : Nat) :: .slice x.a x.X.length x.c :: rc X := rfl
    rw [e]
    rcases i with _ | i
    · exact ⟨rfl, rfl, rfl, rfl, rfl⟩
    · have := ih i (by simpa using hi)
      have h1 : (i + 1) * 5 = i * 5 + 1 + 1 + 1 + 1 + 1 := by omega
      rw [h1]
      simpa using this
/-- Another ledger in one's place. -/
theorem rc_set (X : List Rl) (y : Rl) : ∀ q, q < X.length →
    rc (X.set q y) = (((((rc X).set (q * 5) (.int .u64 (y.id : Nat))).set (q * 5 + 1) (.bool y.fen)).set (q * 5 + 2) (.bool y.gone)).set (q * 5 + 3) (.int .u64 (y.sure : Nat))).set (q * 5 + 4) (.slice y.a y.X.length y.c) := by
  induction X with
  | nil => intro q h; simp at h
  | cons x X ih =>
    intro q hq
    have e : rc (x :: X) = .int .u64 (x.id : Nat) :: .bool x.fen :: .bool x.gone :: .int .u64 (x.sure : Nat) :: .slice x.a x.X.length x.c :: rc X := rfl
    rcases q with _ | q
    · rw [e]
      simp [rc, Rl.cells]
    · have h := ih q (by simpa using hq)
      rw [List.set_cons_succ, rc_cons, h, e, show (q + 1) * 5 = q * 5 + 1 + 1 + 1 + 1 + 1 by omega]
      rfl

/-- The node that ledgers make: of each what there is of it. -/
def nodeOf (R : List Rl) : Nd9 := fun i => match R.find? (fun r => r.id == i) with | some r => r.lg | none => {}
theorem nodeOf_nil : nodeOf [] = fun _ => {} := rfl
theorem nodeOf_at {R : List Rl} (hn : (R.map (·.id)).Nodup) {q : Nat} (hq : q < R.length) : nodeOf R (R.getD q default).id = (R.getD q default).lg := by
  unfold nodeOf
  have hm : R.getD q default ∈ R := by simp [hq]
  cases hf : R.find? (fun r => r.id == (R.getD q default).id) with
  | none =>
    have := List.find?_eq_none.1 hf _ hm
    simp at this
  | some r =>
    have h1 := List.find?_some hf
    have h2 := List.mem_of_find?_eq_some hf
    simp only [beq_iff_eq] at h1
    have h3 : r = R.getD q default := by
      by_cases he : r = R.getD q default
      · exact he
      · exfalso
        obtain ⟨i, hi, hri⟩ := List.mem_iff_getElem.1 h2
        have h4 : (R.map (·.id))[i]'(by simpa using hi) = (R.map (·.id))[q]'(by simpa using hq) := by
          simp only [List.getElem_map]
          rw [hri, h1]
          simp [hq]
        have h5 : i = q := by
          have hp := List.pairwise_iff_getElem.1 hn
          rcases Nat.lt_trichotomy i q with h6 | h6 | h6
          · exact absurd h4 (hp i q (by simpa using hi) (by simpa using hq) h6)
          · exact h6
          · exact absurd h4.symm (hp q i (by simpa using hq) (by simpa using hi) h6)
        subst h5
        apply he
        rw [← hri]
        simp [hq]
    rw [h3]
theorem nodeOf_made {R : List Rl} {i : Nat} : nodeOf (R ++ [{ id := i }]) = nodeOf R := by
  funext j
  unfold nodeOf
  rw [List.find?_append]
  cases hf : R.find? (fun r => r.id == j) with
  | some r => rfl
  | none =>
    by_cases hj : i = j
    · subst hj
      simp [Rl.lg, its]
    · simp [hj]
theorem nodeOf_set {R : List Rl} (hn : (R.map (·.id)).Nodup) {q : Nat} (hq : q < R.length) {y : Rl} (hy : y.id = (R.getD q default).id) : nodeOf (R.set q y) = updS (nodeOf R) y.id y.lg := by
  have hids : ((R.set q y).map (·.id)) = R.map (·.id) := by
    rw [List.map_set, hy]
    apply List.ext_getElem (by simp)
    intro i h1 h2
    rw [List.getElem_set]
    split
    · rename_i h; subst h; simp [hq]
    · rfl
  funext j
  unfold updS
  by_cases hj : j = y.id
  · rw [if_pos hj]
    have hq2 : q < (R.set q y).length := by simpa using hq
    have := nodeOf_at (R := R.set q y) (by rw [hids]; exact hn) hq2
    rw [show (R.set q y).getD q default = y by simp [hq]] at this
    rw [hj]; exact this
  · rw [if_neg hj]
    have key : ∀ (R : List Rl) (q : Nat), q < R.length → (R.getD q default).id = y.id → nodeOf (R.set q y) j = nodeOf R j := by
      intro R
      induction R with
      | nil => intro q hq; simp at hq
      | cons r R ih =>
        intro q hq he
        rcases q with _ | q
        · simp only [List.getD_cons_zero] at he
          unfold nodeOf
          rw [List.set_cons_zero, List.find?_cons_of_neg (by simp; exact fun h => hj h.symm), List.find?_cons_of_neg (by simp; rw [he]; exact fun h => hj h.symm)]
        · have h1 := ih q (by simpa using hq) (by simpa using he)
          unfold nodeOf at h1 ⊢
          rw [List.set_cons_succ]
          by_cases hr : r.id = j
          · rw [List.find?_cons_of_pos (by simpa using hr), List.find?_cons_of_pos (by simpa using hr)]
          · rw [List.find?_cons_of_neg (by simpa using hr), List.find?_cons_of_neg (by simpa using hr)]
            exact h1
    exact key R q hq hy.symm
end Go.Proofs.YtamcandcfainfaaGreat
