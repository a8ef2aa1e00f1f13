/- An entry put among rising ones: mathematics; a ledger with other entries in the row of ledgers. -/
import Derived.Test.YtamcandcfainfaaGreatMX
import Derived.Test.YtamcandcfainfaaGreatZRlOf
namespace Go.Proofs.YtamcandcfainfaaGreat
open Go.RowKit
set_option maxRecDepth 100000

theorem putE_old {k : Nat} {d : List Nat} : ∀ {l : List (Nat × List Nat)}, RiseE l → ∀ {j : Nat}, j < l.length → (l.getD j (0, [])).1 = k → putE l k d = l.set j (k, d) := by
  intro l
  induction l with
  | nil => intro _ j hj; simp at hj
  | cons x l ih =>
    intro hr j hj hk
    obtain ⟨x1, x2⟩ := x
    have hr' := List.pairwise_cons.1 hr
    unfold putE
    rcases j with _ | j
    · simp at hk
      rw [if_neg (by omega), if_pos hk.symm]
      rfl
    · have hj' : j < l.length := by simpa using hj
      have hk' : (l.getD j (0, [])).1 = k := by simpa using hk
      have hlt := hr'.1 (l.getD j (0, [])) (by simp [hj'])
      simp only at hlt
      rw [if_neg (by omega), if_neg (by omega), ih hr'.2 hj' hk']
      rfl
theorem putE_new {k : Nat} {d : List Nat} : ∀ {l : List (Nat × List Nat)} {j : Nat}, j ≤ l.length → (∀ t, t < j → (l.getD t (0, [])).1 < k) → (j < l.length → k < (l.getD j (0, [])).1) → putE l k d = l.take j ++ ((k, d) :: l.drop j) := by
  intro l
  induction l with
  | nil => intro j hj _ _; simp at hj; subst hj; rfl
  | cons x l ih =>
    intro j hj h1 h2
    obtain ⟨x1, x2⟩ := x
    unfold putE
    rcases j with _ | j
    · have := h2 (by simp)
      simp at this
      rw [if_pos this]
      rfl
    · have h0 := h1 0 (by omega)
      simp at h0
      rw [if_neg (by omega), if_neg (by omega), ih (by simpa using hj) (fun t ht => by simpa using h1 (t + 1) (by omega)) (fun ht => by simpa using h2 (by simpa using ht))]
      rfl
theorem its_getD (X : List Ix) (i : Nat) : ((its X).getD i (0, [])) = (X.getD i default).t := by
  unfold its
  by_cases h : i < X.length
  · simp [h]
  · simp [h]; rfl
theorem its_set (X : List Ix) (y : Ix) (j : Nat) : its (X.set j y) = (its X).set j y.t := by simp [its, List.map_set]
theorem its_take (X : List Ix) (j : Nat) : its (X.take j) = (its X).take j := by simp [its, List.map_take]
theorem its_drop (X : List Ix) (j : Nat) : its (X.drop j) = (its X).drop j := by simp [its, List.map_drop]
theorem its_append (X Y : List Ix) : its (X ++ Y) = its X ++ its Y := by simp [its]
/-- Where an entry would go. -/
def posX (X : List Ix) (k : Nat) : Nat := X.findIdx (fun x => decide (k ≤ x.t.1))
theorem posX_le (X : List Ix) (k : Nat) : posX X k ≤ X.length := List.findIdx_le_length
theorem posX_at {X : List Ix} {k : Nat} (h : posX X k < X.length) : k ≤ (X.getD (posX X k) default).t.1 := by
  have h1 := List.findIdx_getElem (p := fun x : Ix => decide (k ≤ x.t.1)) (w := h)
  rw [show X.getD (posX X k) default = X[posX X k]'h by simp [h]]
  exact of_decide_eq_true h1
theorem posX_before {X : List Ix} {k j : Nat} (h : j < posX X k) : (X.getD j default).t.1 < k := by
  have hj : j < X.length := Nat.lt_of_lt_of_le h (posX_le X k)
  have := List.not_of_lt_findIdx h
  rw [show X.getD j default = X[j] by simp [hj]]
  simpa using this
theorem ixN_out {X : List Ix} {k : Nat} (h : ¬ ixN X k < X.length) : ∀ j, j < X.length → (X.getD j default).t.1 ≠ k := fun j hj => ixN_before (by omega)
/-- An old entry. -/
theorem its_old {X : List Ix} {k : Nat} {d : List Nat} {a : Option Addr} {c : Nat} (hr : RiseE (its X)) (h : ixN X k < X.length) : its (X.set (ixN X k) ⟨(k, d), a, c⟩) = putE (its X) k d := by
  rw [its_set, putE_old hr (by rw [its_length]; exact h) (by rw [its_getD]; exact ixN_key h)]
/-- A new entry. -/
theorem its_new {X : List Ix} {k : Nat} {d : List Nat} {a : Option Addr} {c : Nat} (h : ¬ ixN X k < X.length) : its (X.take (posX X k) ++ ([⟨(k, d), a, c⟩] ++ X.drop (posX X k))) = putE (its X) k d := by
  rw [putE_new (j := posX X k) (by rw [its_length]; exact posX_le X k) (fun t ht => by rw [its_getD]; exact posX_before ht) (fun ht => by
    rw [its_length] at ht
    rw [its_getD]
    have h1 := posX_at ht
    have h2 := ixN_out h _ ht
    omega), its_append, its_append, its_take, its_drop]
  rfl
theorem riseE_put {l : List (Nat × List Nat)} (h : RiseE l) (k : Nat) (d : List Nat) : RiseE (putE l k d) := by
  induction l with
  | nil => exact List.pairwise_singleton _ _
  | cons x l ih =>
    obtain ⟨j, e⟩ := x
    have h' := List.pairwise_cons.1 h
    unfold putE
    by_cases h1 : k < j
    · rw [if_pos h1]
      refine List.pairwise_cons.2 ⟨fun y hy => ?_, h⟩
      rcases List.mem_cons.1 hy with rfl | hy
      · exact h1
      · have := h'.1 y hy; simp only at this ⊢; omega
    · rw [if_neg h1]
      by_cases h2 : k = j
      · rw [if_pos h2]
        refine List.pairwise_cons.2 ⟨fun y hy => ?_, h'.2⟩
        have := h'.1 y hy; simp only at this ⊢; omega
      · rw [if_neg h2]
        refine List.pairwise_cons.2 ⟨fun y hy => ?_, ih h'.2⟩
        have hm : y.1 = k ∨ y ∈ l := by
          clear ih h h' h1 h2
          induction l with
          | nil => simp [putE] at hy; exact .inl (by rw [hy])
          | cons z l ih2 =>
            obtain ⟨z1, z2⟩ := z
            unfold putE at hy
            split at hy
            · rcases List.mem_cons.1 hy with h | h
              · exact .inl (by rw [h])
              · exact .inr h
            · split at hy
              · rcases List.mem_cons.1 hy with h | h
                · exact .inl (by rw [h])
                · exact .inr (List.mem_cons_of_mem _ h)
              · rcases List.mem_cons.1 hy with h | h
                · exact .inr (by rw [h]; simp)
                · rcases ih2 h with h3 | h3
                  · exact .inl h3
                  · exact .inr (List.mem_cons_of_mem _ h3)
        rcases hm with hm | hm
        · show j < y.1; omega
        · exact h'.1 y hm
/-- Other entries of one alone. -/
theorem rc_items (X : List Rl) (y : Rl) (q : Nat) (hq : q < X.length) (h0 : y.id = (X.getD q default).id) (h1 : y.fen = (X.getD q default).fen) (h2 : y.gone = (X.getD q default).gone) (h3 : y.sure = (X.getD q default).sure) : rc (X.set q y) = (rc X).set (q * 5 + 4) (.slice y.a y.X.length y.c) := by
  obtain ⟨n0, n1, n2, n3, n4⟩ := rc_at X q hq
  rw [rc_set X y q hq, h0, h1, h2, h3]
  have e : ∀ (l : List Value) (i : Nat) (v : Value), l[i]? = some v → l.set i v = l := fun l i v h => by
    apply List.ext_getElem?
    intro j
    rw [List.getElem?_set]
    split
    · rename_i hij; subst hij
      split
      · exact h.symm
      · rename_i hlt; rw [List.getElem?_eq_none (by omega)] at h; cases h
    · rfl
  rw [e _ _ _ n0, e _ _ _ n1, e _ _ _ n2, e _ _ _ n3]
theorem ic_set (X : List Ix) (y : Ix) : ∀ q, q < X.length → y.t.1 = (X.getD q default).t.1 → ic (X.set q y) = (ic X).set (q * 2 + 1) (.slice y.a y.t.2.length y.c) := by
  induction X with
  | nil => intro q h; simp at h
  | cons x X ih =>
    intro q hq hk
    have e : ic (x :: X) = .int .u64 (x.t.1 : Nat) :: .slice x.a x.t.2.length x.c :: ic X := rfl
    rcases q with _ | q
    · simp only [List.getD_cons_zero] at hk
      rw [e]
      simp [ic, Ix.cells, hk]
    · have h := ih q (by simpa using hq) (by simpa using hk)
      rw [List.set_cons_succ, ic_cons, h, e, show (q + 1) * 2 + 1 = q * 2 + 1 + 1 + 1 by omega]
      rfl
end Go.Proofs.YtamcandcfainfaaGreat
