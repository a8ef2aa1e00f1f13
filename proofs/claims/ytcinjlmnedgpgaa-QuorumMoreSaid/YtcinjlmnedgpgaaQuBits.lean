/- Rows of bits in the making, as the laws of layer 10 make them. -/
import Derived.Test.YtcinjlmnedgpgaaQuAwake
import Derived.Laws.BitsAllLaws
namespace Go.Proofs.Ytcinjlmnedgpgaa
open Go.RowKit
set_option maxRecDepth 100000

theorem bit8 {a k : Nat} (ha : a < 256) : (bits .and .u8 ((a : Int) / 2 ^ k) 1 == 1) = a.testBit k ∧ (bits .and .u8 ((a : Int) / 2 ^ k) 1 == 0) = !a.testBit k := by
  have e : ((a : Int) / 2 ^ k) = ((a / 2 ^ k : Nat) : Int) := by simp
  have h : bits .and .u8 ((a / 2 ^ k : Nat) : Int) 1 = ((a / 2 ^ k % 2 : Nat) : Int) := by
    rw [show (1 : Int) = ((1 : Nat) : Int) from rfl, u8_and_nat _ 1 (Nat.lt_of_le_of_lt (Nat.div_le_self _ _) ha) (by omega), nat_mask1]
  rw [e, h, Nat.testBit_eq_decide_div_mod_eq]
  have h2 := Nat.mod_two_eq_zero_or_one (a / 2 ^ k)
  rcases h2 with h2 | h2 <;> rw [h2] <;> decide

/-- The row in the making: k places are filled. -/
def fill (P : Nat) (f : Nat → Bool) (k : Nat) : List Bool := (List.range P).map (fun j => decide (j < k) && f j)
theorem fill_len (P : Nat) (f : Nat → Bool) (k : Nat) : (fill P f k).length = P := by simp [fill]
theorem fill_zero (P : Nat) (f : Nat → Bool) : fill P f 0 = List.replicate P false := by
  apply List.ext_getElem
  · simp [fill]
  · intro i h1 h2
    simp [fill]
theorem fill_set (P : Nat) (f : Nat → Bool) (k : Nat) : (fill P f k).set k (f k) = fill P f (k + 1) := by
  apply List.ext_getElem
  · simp [fill]
  · intro i h1 h2
    rw [List.getElem_set]
    by_cases hk : k = i
    · subst hk; simp [fill]
    · rw [if_neg hk]
      simp only [fill, List.getElem_map, List.getElem_range]
      congr 1
      exact decide_eq_decide.2 (by omega)
theorem fill_at (P : Nat) (f : Nat → Bool) (k j : Nat) (hj : j < k) (hP : j < P) : (fill P f k).getD j false = f j := by simp [fill, List.getD, hP, hj]

end Go.Proofs.Ytcinjlmnedgpgaa
