/- The mender in memory; contracts of New, Hear. -/
import Derived.Test.YtecfoomjpjcldaaMdRow
import Derived.Test.YtecfoomjpjcldaaQuProg
namespace Go.Proofs.Ytecfoomjpjcldaa
open Go.RowKit
set_option maxRecDepth 100000

/-- Cells of a mender: its quorum, who was heard, the greatest sure, its entries. -/
def mdC (P W A : Nat) (h : Nat → Bool) (su : Nat) (v : Value) : Array Value := #[.int .i64 (P : Nat), .int .i64 (W : Nat), .int .i64 (A : Nat), .bool (h 0), .bool (h 1), .bool (h 2), .bool (h 3), .bool (h 4), .bool (h 5), .bool (h 6), .int .u64 (su : Nat), v]
def hrd (h : Nat → Bool) (p : Nat) : Nat → Bool := fun j => if j = p then true else h j
theorem mdC_hrd (P W A : Nat) (h : Nat → Bool) (su : Nat) (v : Value) (p : Nat) (hp : p < 7) : (mdC P W A h su v).setIfInBounds (3 + p) (.bool true) = mdC P W A (hrd h p) su v := by
  unfold mdC hrd
  match p, hp with
  | 0, _ => simp
  | 1, _ => simp
  | 2, _ => simp
  | 3, _ => simp
  | 4, _ => simp
  | 5, _ => simp
  | 6, _ => simp
theorem mdC_su (P W A : Nat) (h : Nat → Bool) (su n : Nat) (v : Value) : (mdC P W A h su v).setIfInBounds 10 (.int .u64 (n : Nat)) = mdC P W A h n v := by simp [mdC]
theorem mdC_tree (P W A : Nat) (h : Nat → Bool) (su : Nat) (v u : Value) : (mdC P W A h su v).setIfInBounds 11 u = mdC P W A h su u := by simp [mdC]
def hrdL (h : Nat → Bool) : List Bool := (List.range 7).map h
theorem hrdL_len (h : Nat → Bool) : (hrdL h).length = 7 := by simp [hrdL]
theorem hrdL_at (h : Nat → Bool) (j : Nat) (hj : j < 7) : (hrdL h).getD j false = h j := by simp [hrdL, List.getD, hj]
theorem mdC_has (P W A : Nat) (h : Nat → Bool) (su : Nat) (v : Value) (j : Nat) (hj : j < 7) : (mdC P W A h su v)[3 + j]? = some (.bool (h j)) := by
  unfold mdC
  match j, hj with
  | 0, _ => rfl
  | 1, _ => rfl
  | 2, _ => rfl
  | 3, _ => rfl
  | 4, _ => rfl
  | 5, _ => rfl
  | 6, _ => rfl

/-- The mender at p; nothing of it lies in the blocks F. -/
structure Md (w : World) (p : Nat) (F : List Nat) (P W A : Nat) (h : Nat → Bool) (su : Nat) (t : Tn) : Prop where
  box : ∃ v, Whole w p 117 (mdC P W A h su v) ∧ TnAt w (p :: F) v t
  quo : 1 ≤ A ∧ A ≤ W ∧ W ≤ P ∧ P ≤ 7
  small : su ≤ 1048576
  fit : ∀ k d, atT t k = some d → d.length ≤ 140737488355328
  out : p ∉ F
section
variable {w w' : World} {p : Nat} {F F' T : List Nat} {P W A : Nat} {h : Nat → Bool} {su : Nat} {t : Tn}
theorem Md.lt (m : Md w p F P W A h su t) : p < w.heap.size := by obtain ⟨v, hv, _⟩ := m.box; exact hv.lt
theorem Md.keep (m : Md w p F P W A h su t) (hf : Frm T w w') (hT : ∀ x ∈ T, x ∈ F ∨ w.heap.size ≤ x) (hF : ∀ x ∈ F', x ∈ F ∨ w.heap.size ≤ x) : Md w' p F' P W A h su t := by
  have hlt := m.lt
  obtain ⟨v, hv, ht⟩ := m.box
  have hpT : p ∉ T := fun hm => by
    rcases hT p hm with h1 | h1
    · exact m.out h1
    · omega
  refine ⟨⟨v, hf.whole hv hpT, ht.keep hf (fun x hx => (hT x hx).imp (List.mem_cons_of_mem _) id) (fun x hx => ?_)⟩, m.quo, m.small, m.fit, fun hm => ?_⟩
  · rcases List.mem_cons.1 hx with rfl | hx
    · exact .inl (by simp)
    · exact (hF x hx).imp (List.mem_cons_of_mem _) id
  · rcases hF p hm with h1 | h1
    · exact m.out h1
    · omega
theorem Md.here (m : Md w p F P W A h su t) (hf : Frm [] w w') : Md w' p F P W A h su t := m.keep hf (by simp) (fun x hx => .inl hx)
end
theorem fit_join {l : List (Nat × List Nat)} : ∀ {t t' : Tn}, joinT t l = some t' → (∀ k d, atT t k = some d → d.length ≤ 140737488355328) → (∀ x ∈ l, x.2.length ≤ 140737488355328) → ∀ k d, atT t' k = some d → d.length ≤ 140737488355328 := by
  induction l with
  | nil => intro t t' h1 h2 _ k d; simp only [joinT, Option.some.injEq] at h1; subst h1; exact h2 k d
  | cons x l ih =>
    intro t t' h1 h2 h3
    obtain ⟨k, d⟩ := x
    cases hk : atT t k with
    | none =>
      rw [join_new hk] at h1
      refine ih h1 (fun k' d' h' => ?_) (fun x hx => h3 x (by simp [hx]))
      rw [at_with hk] at h'
      split at h'
      · injection h' with h'; subst h'; exact h3 (k, d) (by simp)
      · exact h2 _ _ h'
    | some y =>
      by_cases hy : y = d
      · subst hy
        rw [join_same hk] at h1
        exact ih h1 h2 (fun x hx => h3 x (by simp [hx]))
      · rw [join_other hk hy] at h1; cases h1
theorem keys_join {l : List (Nat × List Nat)} : ∀ {t t' : Tn}, joinT t l = some t' → (keysT t').length ≤ (keysT t).length + l.length := by
  induction l with
  | nil => intro t t' h1; simp only [joinT, Option.some.injEq] at h1; subst h1; exact Nat.le_add_right _ _
  | cons x l ih =>
    intro t t' h1
    obtain ⟨k, d⟩ := x
    rw [List.length_cons]
    cases hk : atT t k with
    | none =>
      rw [join_new hk] at h1
      have := ih h1
      rw [keys_with] at this
      omega
    | some y =>
      by_cases hy : y = d
      · subst hy
        rw [join_same hk] at h1
        have := ih h1
        omega
      · rw [join_other hk hy] at h1; cases h1

theorem mdnew_bad (p q a : Int) (w : World) (h : okQ p q a = false) :
    Calls Try.prog 24 #[quV p q a] w fun e w' => e = .returned (.tuple #[.pointer none, .int .i64 22]) ∧ Frm [] w w' := by
  have HC := Lib.hid (fun w1 => check_any p q a w1)
  unfold quV at HC ⊢
  rw [h] at HC
  go_enter Try.func24, Try.ntmps24
  go_wp2_with fail
  (refine (HC.out _).mono ?_)
  rintro e w1 ⟨rfl, hf1⟩
  have HF := Lib.hid hf1
  clear hf1
  go_wp2
  go_ret2
  exact ⟨rfl, ((Frm.refl [] w).alloc _).trans HF.out (by simp) (by simp)⟩
theorem mdnew_ok (P W A : Nat) (w : World) (h : okQ (P : Int) (W : Int) (A : Int) = true) (F : List Nat) (hF : ∀ x ∈ F, x < w.heap.size) :
    Calls Try.prog 24 #[quV P W A] w fun e w' => ∃ b, e = .returned (.tuple #[.pointer (some ⟨b, 0, none⟩), .int .i64 0]) ∧ Frm [] w w' ∧ w.heap.size ≤ b ∧ Md w' b F P W A (fun _ => false) 0 .nil := by
  have HC := Lib.hid (fun w1 => check_any P W A w1)
  have hok := h
  rw [okQ_iff] at hok
  unfold quV at HC ⊢
  rw [h] at HC
  go_enter Try.func24, Try.ntmps24
  go_wp2_with fail
  (refine (HC.out _).mono ?_)
  rintro e w1 ⟨rfl, hf1⟩
  have HF := Lib.hid hf1
  have hW := hf1.whole (Whole.made w 23 #[.int .i64 P, .int .i64 W, .int .i64 A]) (by simp)
  have c0 := hW.cell 0
  have c1 := hW.cell 1
  have c2 := hW.cell 2
  simp at c0 c1 c2
  clear hf1 hW
  go_wp2
  have hf : Frm [] w w1 := ((Frm.refl [] w).alloc _).trans HF.out (U := []) (by simp) (by simp)
  go_ret2
  refine ⟨w1.heap.size, rfl, hf.alloc _, hf.size, ⟨_, Whole.made _ _ _, rfl⟩, by omega, by omega, fun k d hk => (by cases hk), fun hm => by have := hF _ hm; have := hf.size; omega⟩
end Go.Proofs.Ytecfoomjpjcldaa
