/- Texts: in order, as Go compares them; what begins them. It speaks of no program. -/
import Derived.Test.YtahhkffghhgojaaElems
import Derived.Lib.Strings
import Derived.Lib.Bytealg
namespace Go.Proofs.Ytahhkffghhgojaa
open Go.RowKit
set_option maxRecDepth 100000

/-- Texts as the walk compares them. -/
theorem txt_ne {s t : ByteArray} (h : ¬ s = t) : (s.toList == t.toList) = false := by
  rw [beq_eq_false_iff_ne, ByteArray.toList_eq, ByteArray.toList_eq]
  intro e
  exact h (ByteArray.ext (Array.toList_inj.1 e))
theorem txt_eq {s t : ByteArray} : (s.toList == t.toList) = decide (s = t) := by
  by_cases h : s = t
  · subst h; simp
  · rw [txt_ne h]; simp [h]
/-- Texts in order, as Go compares them. -/
def kl (a b : ByteArray) : Bool := Op.bytesLess a.toList b.toList
theorem less_irr : ∀ a : List UInt8, Op.bytesLess a a = false
  | [] => rfl
  | x :: a => by simp [Op.bytesLess, less_irr a]
theorem less_cons (x y : UInt8) (a b : List UInt8) : Op.bytesLess (x :: a) (y :: b) = true ↔ x < y ∨ (x = y ∧ Op.bytesLess a b = true) := by simp [Op.bytesLess]
theorem less_trans : ∀ a b c : List UInt8, Op.bytesLess a b = true → Op.bytesLess b c = true → Op.bytesLess a c = true
  | [], [], c, h, _ => by simp [Op.bytesLess] at h
  | _ :: _, [], c, h, _ => by simp [Op.bytesLess] at h
  | _, _ :: _, [], _, h => by simp [Op.bytesLess] at h
  | [], _ :: _, _ :: _, _, _ => rfl
  | x :: a, y :: b, z :: c, h, k => by
    rw [less_cons] at h k ⊢
    rcases h with h | ⟨rfl, h⟩
    · rcases k with k | ⟨rfl, k⟩
      · exact .inl (UInt8.lt_trans h k)
      · exact .inl h
    · rcases k with k | ⟨rfl, k⟩
      · exact .inl k
      · exact .inr ⟨rfl, less_trans a b c h k⟩
theorem less_tot : ∀ a b : List UInt8, Op.bytesLess a b = false → Op.bytesLess b a = false → a = b
  | [], [], _, _ => rfl
  | [], _ :: _, h, _ => by simp [Op.bytesLess] at h
  | _ :: _, [], _, h => by simp [Op.bytesLess] at h
  | x :: a, y :: b, h, k => by
    have h' : ¬ (x < y ∨ (x = y ∧ Op.bytesLess a b = true)) := by rw [← less_cons, h]; simp
    have k' : ¬ (y < x ∨ (y = x ∧ Op.bytesLess b a = true)) := by rw [← less_cons, k]; simp
    have e : x = y := by
      rcases UInt8.lt_or_eq_of_le (UInt8.not_lt.1 (fun h => h' (.inl h))) with h1 | h1
      · exact absurd (.inl h1) k'
      · exact h1.symm
    subst e
    rw [less_tot a b (by simpa using fun h => h' (.inr ⟨rfl, h⟩)) (by simpa using fun h => k' (.inr ⟨rfl, h⟩))]
theorem cmp_lt : ∀ a b : List UInt8, decide (Lib.compareBytes a b < 0) = Op.bytesLess a b
  | [], [] => rfl
  | [], _ :: _ => rfl
  | _ :: _, [] => rfl
  | x :: a, y :: b => by
    unfold Lib.compareBytes Op.bytesLess
    by_cases h : x < y
    · simp [h]
    · by_cases k : y < x
      · have : ¬ x = y := by rintro rfl; exact absurd k (UInt8.lt_irrefl _)
        simp [h, k, this]
      · have e : x = y := UInt8.le_antisymm (UInt8.not_lt.1 k) (UInt8.not_lt.1 h)
        subst e
        simp [UInt8.lt_irrefl, cmp_lt a b]
theorem cmp_eq0 : ∀ a b : List UInt8, (Lib.compareBytes a b == 0) = (a == b)
  | [], [] => rfl
  | [], _ :: _ => rfl
  | _ :: _, [] => rfl
  | x :: a, y :: b => by
    unfold Lib.compareBytes
    by_cases h : x < y
    · have : ¬ x = y := by rintro rfl; exact absurd h (UInt8.lt_irrefl _)
      simp [h, this]
    · by_cases k : y < x
      · have : ¬ x = y := by rintro rfl; exact absurd k (UInt8.lt_irrefl _)
        simp [h, k, this]
      · have e : x = y := UInt8.le_antisymm (UInt8.not_lt.1 k) (UInt8.not_lt.1 h)
        subst e
        have := cmp_eq0 a b
        simp [UInt8.lt_irrefl] at this ⊢
        exact this
theorem kl_irr (a : ByteArray) : kl a a = false := less_irr _
theorem kl_trans {a b c : ByteArray} (h : kl a b = true) (k : kl b c = true) : kl a c = true := less_trans _ _ _ h k
theorem ba_eq {a b : ByteArray} (h : a.toList = b.toList) : a = b := by
  rw [ByteArray.toList_eq, ByteArray.toList_eq] at h
  exact ByteArray.ext (Array.toList_inj.1 h)
theorem kl_tot {a b : ByteArray} (h : kl a b = false) (k : kl b a = false) : a = b := ba_eq (less_tot _ _ h k)
theorem kl_ne {a b : ByteArray} (h : kl a b = true) : a ≠ b := by rintro rfl; rw [kl_irr] at h; cases h
theorem kl_asym {a b : ByteArray} (h : kl a b = true) : kl b a = false := by
  cases e : kl b a with
  | false => rfl
  | true => have := kl_trans h e; rw [kl_irr] at this; cases this
/-- What is not below s, is below or is t; and so on. -/
theorem kl_le {a b c : ByteArray} (h : kl a c = false) (k : kl a b = true) : kl b c = false := by
  cases e : kl b c with
  | false => rfl
  | true => have := kl_trans k e; rw [h] at this; cases this

/-- Does a text begin so? -/
def pfx (P K : ByteArray) : Bool := Lib.hasPrefix K.data.toList P.data.toList
theorem pfx_less : ∀ p k : List UInt8, p.isPrefixOf k = true → Op.bytesLess k p = false
  | [], k, _ => by cases k <;> rfl
  | x :: p, [], h => by simp at h
  | x :: p, y :: k, h => by
    simp only [List.isPrefixOf_cons_cons, Bool.and_eq_true, beq_iff_eq] at h
    obtain ⟨rfl, h⟩ := h
    simp [Op.bytesLess, pfx_less p k h]
theorem pfx_mid : ∀ p k k' : List UInt8, p.isPrefixOf k' = true → Op.bytesLess k p = false → Op.bytesLess k k' = true → p.isPrefixOf k = true
  | [], k, _, _, _, _ => by simp
  | x :: p, [], k', h, h1, _ => by simp [Op.bytesLess] at h1
  | x :: p, y :: k, [], h, _, _ => by simp at h
  | x :: p, y :: k, z :: k', h, h1, h2 => by
    simp only [List.isPrefixOf_cons_cons, Bool.and_eq_true, beq_iff_eq] at h ⊢
    obtain ⟨rfl, h⟩ := h
    have h1' : ¬ (y < x ∨ (y = x ∧ Op.bytesLess k p = true)) := by rw [← less_cons, h1]; simp
    rw [less_cons] at h2
    rcases h2 with h2 | ⟨rfl, h2⟩
    · exact absurd (.inl h2) h1'
    · exact ⟨rfl, pfx_mid p k k' h (by simpa using fun h => h1' (.inr ⟨rfl, h⟩)) h2⟩
theorem kl_data (a b : ByteArray) : kl a b = Op.bytesLess a.data.toList b.data.toList := by unfold kl; rw [Lib.toList_data, Lib.toList_data]
theorem pfx_ge {P K : ByteArray} (h : pfx P K = true) : kl K P = false := by rw [kl_data]; exact pfx_less _ _ h
theorem pfx_between {P K K' : ByteArray} (h : pfx P K' = true) (h1 : kl K P = false) (h2 : kl K K' = true) : pfx P K = true := by rw [kl_data] at h1 h2; exact pfx_mid _ _ _ h h1 h2
end Go.Proofs.Ytahhkffghhgojaa
