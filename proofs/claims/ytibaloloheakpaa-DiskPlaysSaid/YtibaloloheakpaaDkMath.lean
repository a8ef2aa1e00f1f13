/- What a crash leaves, as lists. Plain mathematics. -/
import Derived.Test.YtibaloloheakpaaDkAwake
import Derived.Test.YtibaloloheakpaaBytesCut
namespace Go.Proofs.Ytibaloloheakpaa
open Go.RowKit

theorem flipLast_take (l : List Nat) (bit : Nat) : (flipLast l bit).take (l.length - 1) = l.take (l.length - 1) := by
  unfold flipLast
  rw [List.take_append_of_le_length (by simp), List.take_take, Nat.min_self]
theorem flipLast_last {l : List Nat} (bit : Nat) (h : l ≠ []) : (flipLast l bit).getD (l.length - 1) 0 = l.getD (l.length - 1) 0 ^^^ 2 ^ bit := by
  have := List.length_pos_iff.2 h
  unfold flipLast
  have e : (l.take (l.length - 1)).length = l.length - 1 := by simp
  simp only [List.getD]
  rw [List.getElem?_append_right (by omega), e]
  simp
theorem getD_take {l : List Nat} {n i : Nat} (h : i < n) : (l.take n).getD i 0 = l.getD i 0 := by simp [List.getD, h]

/-- What is left: all but the last byte is as it was. -/
theorem crashed_take (l : List Nat) (s : Nat) (keep bit : Int) (hs : s ≤ l.length) : (crashed l s keep bit).take (s + keptN l s keep - 1) = l.take (s + keptN l s keep - 1) := by
  have h1 : s + keptN l s keep ≤ l.length := by unfold keptN; omega
  have h2 : (l.take (s + keptN l s keep)).length = s + keptN l s keep := by simp; omega
  unfold crashed
  split
  · have := flipLast_take (l.take (s + keptN l s keep)) bit.toNat
    rw [h2] at this
    rw [this, List.take_take]
    congr 1; omega
  · rw [List.take_take]; congr 1; omega
theorem crashed_sure (l : List Nat) (s : Nat) (keep bit : Int) (hs : s ≤ l.length) : (crashed l s keep bit).take s = l.take s := by
  by_cases h0 : keptN l s keep = 0
  · rw [crashed_plain (by omega), h0, Nat.add_zero, List.take_take, Nat.min_self]
  · have := congrArg (List.take s) (crashed_take l s keep bit hs)
    rw [List.take_take, List.take_take] at this
    rw [show min s (s + keptN l s keep - 1) = s by omega] at this
    exact this
theorem crashed_last (l : List Nat) (s : Nat) (keep : Int) (bit : Nat) (hs : s ≤ l.length) (h0 : 0 < keptN l s keep) (hb : bit < 8) :
    (crashed l s keep bit).getD (s + keptN l s keep - 1) 0 = l.getD (s + keptN l s keep - 1) 0 ^^^ 2 ^ bit := by
  have h1 : s + keptN l s keep ≤ l.length := by unfold keptN; omega
  have h2 : (l.take (s + keptN l s keep)).length = s + keptN l s keep := by simp; omega
  rw [crashed_turn ⟨h0, by omega, by omega⟩]
  have h3 : l.take (s + keptN l s keep) ≠ [] := by intro h; rw [h] at h2; simp at h2; omega
  have := flipLast_last bit h3
  rw [h2] at this
  rw [Int.toNat_natCast, this, getD_take (by omega)]
theorem crashed_last' (l : List Nat) (s : Nat) (keep bit : Int) (h0 : 0 < keptN l s keep) (hb : bit < 0 ∨ 7 < bit) :
    (crashed l s keep bit).getD (s + keptN l s keep - 1) 0 = l.getD (s + keptN l s keep - 1) 0 := by
  rw [crashed_plain (by omega), getD_take (by omega)]
/-- A crash behind a crash takes nothing more. -/
theorem crashed_again (l : List Nat) (keep bit : Int) : crashed l l.length keep bit = l := by
  have h0 : keptN l l.length keep = 0 := by unfold keptN; omega
  rw [crashed_plain (by omega), h0]; simp

/-- The turned bit, seen. -/
theorem turned_one (y t : Nat) (hy : y < 256) (ht : t < 8) : bits .xor .u8 ((y ^^^ 2 ^ t : Nat) : Int) (y : Int) = ((2 ^ t : Nat) : Int) := by
  have h2 : 2 ^ t < 256 := Nat.pow_lt_pow_right (by omega) (by omega : t < 8)
  rw [u8_xor_nat _ _ (Nat.xor_lt_two_pow (n := 8) hy h2) hy]
  rw [Nat.xor_assoc, Nat.xor_comm (2 ^ t), ← Nat.xor_assoc, Nat.xor_self, Nat.zero_xor]
theorem turned_none (y : Nat) (hy : y < 256) : bits .xor .u8 (y : Int) (y : Int) = 0 := by
  rw [u8_xor_nat _ _ hy hy, Nat.xor_self]; rfl
theorem one_bit (t : Nat) (ht : t < 8) : bits .and .u8 ((2 ^ t : Nat) : Int) (((2 ^ t : Nat) : Int) - 1) = 0 := by
  have : t = 0 ∨ t = 1 ∨ t = 2 ∨ t = 3 ∨ t = 4 ∨ t = 5 ∨ t = 6 ∨ t = 7 := by omega
  rcases this with rfl | rfl | rfl | rfl | rfl | rfl | rfl | rfl <;> decide
end Go.Proofs.Ytibaloloheakpaa
