/- The walk of WriterReplaces. -/
import Derived.Test.YtecfoomjpjcldaaWrWait
import Derived.Test.YtecfoomjpjcldaaWrAwake
import Derived.Test.YtecfoomjpjcldaaWrQuo
import Derived.Test.YtecfoomjpjcldaaQuRef2
namespace Go.Proofs.Ytecfoomjpjcldaa
open Go.RowKit
set_option maxRecDepth 100000
/-- Where only one place has said so, at most one has. -/
theorem told_one {P W e pn : Nat} {bs : List Bool} (hW : W ≤ P) (h : ∀ j, bs.getD j false = true → j = pn) : toldN P W e bs ≤ 1 := by
  have h1 : toldN P W e bs ≤ (List.range P).countP (fun p => decide (p = pn)) := by
    rw [← cnt_all P W e bs hW]
    refine List.countP_mono_left (fun x _ hx => ?_)
    simp only [Bool.and_eq_true] at hx
    exact decide_eq_true (h x hx.1)
  refine Nat.le_trans h1 ?_
  clear h h1
  have : ∀ P, (List.range P).countP (fun p => decide (p = pn)) = if pn < P then 1 else 0 := by
    intro P
    induction P with
    | zero => simp
    | succ P ih =>
      rw [List.range_succ, List.countP_append, ih]
      by_cases h1 : pn < P
      · rw [if_pos h1, if_pos (by omega)]; simp; omega
      · by_cases h2 : pn = P
        · rw [if_neg h1, if_pos (by omega)]; simp [h2]
        · rw [if_neg h1, if_neg (by omega)]; simp; omega
  rw [this]; split <;> omega
theorem okN_one {P W A pn i : Nat} {H : Nat → Nat → Bool} (hW : W ≤ P) (hA : 1 < A) (h : ∀ a b, H a b = true → b = pn) : okN P W A H i = false := by
  unfold okN enN
  have := told_one (P := P) (W := W) (e := i) (pn := pn) (bs := hasL (H i)) hW (fun j hj => by
    by_cases h1 : j < 7
    · rw [hasL_at _ _ h1] at hj; exact h _ _ hj
    · rw [List.getD_eq_getElem?_getD, List.getElem?_eq_none (by rw [hasL_len]; omega)] at hj; cases hj)
  exact decide_eq_false (by omega)
theorem keepI_none {f : Nat → Bool} {l : List Nat} (h : ∀ q ∈ l, f q = false) : keepI f l = l := by
  unfold keepI
  rw [List.filter_eq_self]
  intro q hq; rw [h q hq]; rfl
/-- A writer of the call's own, its quorum in a block of its own. -/
def WrOn (w : World) (B p g : Nat) (P W A : Nat) (D : List (List Nat)) (H : Nat → Nat → Bool) (su : Nat) (z : World) : Prop :=
  Wq z B p [] P W A D H su false ∧ Whole z g 23 #[.int .i64 P, .int .i64 W, .int .i64 A] ∧ g < p ∧ w.heap.size ≤ p ∧ Frm [] w z
theorem WrOn.step {w z z' : World} {B p g P W A : Nat} {D D' : List (List Nat)} {H H' : Nat → Nat → Bool} {su su' : Nat} (h : WrOn w B p g P W A D H su z) (hf : Frm [p] z z') (hq : Wq z' B p [] P W A D' H' su' false) : WrOn w B p g P W A D' H' su' z' :=
  ⟨hq, hf.whole h.2.1 (by simp; have := h.2.2.1; omega), h.2.2.1, h.2.2.2.1, h.2.2.2.2.trans hf (by simp) (fun x hx => .inr (by simp at hx; subst hx; exact h.2.2.2.1))⟩
theorem WrOn.here {w z z' : World} {B p g P W A : Nat} {D : List (List Nat)} {H : Nat → Nat → Bool} {su : Nat} (h : WrOn w B p g P W A D H su z) (hf : Frm [] z z') : WrOn w B p g P W A D H su z' := h.step (hf.weak (by simp)) (h.1.here hf)
def Rp1 (w : World) (B p g P W A c : Nat) (s41 : Value) (z : World) : Prop :=
  ∃ (i : Nat) (D : List (List Nat)) (H : Nat → Nat → Bool), s41 = .int .i64 (i : Nat) ∧ i ≤ c ∧ D.length = i ∧ Hid (∀ a b, H a b = false) ∧ Hid (WrOn w B p g P W A D H 0 z)
def Rp2 (w : World) (B p g P W A c pn : Nat) (D : List (List Nat)) (s49 s12 : Value) (z : World) : Prop :=
  ∃ (i su : Nat) (H : Nat → Nat → Bool), s49 = .int .i64 (i : Nat) ∧ s12 = .int .i64 (su : Nat) ∧ i ≤ c ∧ Hid (∀ a b, H a b = true → b = pn) ∧ Hid (1 < A → su = 0) ∧ Hid (WrOn w B p g P W A D H su z)
def Rp3 (wb : World) (k : Nat) (s71 : Value) (z : World) : Prop := ∃ i : Nat, s71 = .int .i64 (i : Nat) ∧ i ≤ k ∧ Hid (Frm [] wb z)
def Rp4 (wb : World) (P W su c pn : Nat) (s21 s20 : Value) (z : World) : Prop := ∃ i v : Nat, s21 = .int .i64 (i : Nat) ∧ s20 = .int .i64 (v : Nat) ∧ su ≤ i ∧ i ≤ c ∧ v ≤ i ∧ Hid (v = (mustN P W su i (pn : Int)).length) ∧ Hid (Frm [] wb z)
end Go.Proofs.Ytecfoomjpjcldaa
