/- Digits in base sixteen. Of no program. -/
import Derived.Test.YtbdgmpfdcmmfhaaDoorStr
import Derived.Laws.Bits64b
namespace Go.Proofs.YtbdgmpfdcmmfhaaDoor
open Go.RowKit
set_option maxRecDepth 100000

def hexC (d : Nat) : Nat := if d < 10 then 48 + d else 87 + d
def digS : ByteArray := ⟨#[48, 49, 50, 51, 52, 53, 54, 55, 56, 57, 97, 98, 99, 100, 101, 102, 103, 104, 105, 106, 107, 108, 109, 110, 111, 112, 113, 114, 115, 116, 117, 118, 119, 120, 121, 122]⟩
theorem hexC_at : ∀ d, d < 16 → (digS.data[d]?).map UInt8.toNat = some (hexC d) := by decide
theorem hexC_lt (d : Nat) (h : d < 16) : hexC d < 256 := by unfold hexC; split <;> omega
theorem hexC_inj {a b : Nat} (ha : a < 16) (hb : b < 16) (h : hexC a = hexC b) : a = b := by
  unfold hexC at h
  split at h <;> split at h <;> omega
theorem and15 (u : Nat) (h : u < 18446744073709551616) : bits BinOp.and IntKind.u64 (u : Int) 15 = ((u % 16 : Nat) : Int) := by
  have := bits_and_u64_nat u 15 h (by decide)
  rw [show ((15 : Nat) : Int) = 15 by rfl] at this
  rw [this]
  congr 1
  exact Nat.and_two_pow_sub_one_eq_mod u 4
/-- The k + 1 last digits of a number. -/
def digL (n k : Nat) : List Nat := (List.range (k + 1)).map (fun j => hexC (n / 16 ^ (k - j) % 16))
theorem digL_len (n k : Nat) : (digL n k).length = k + 1 := by simp [digL]
theorem digL_lt (n k : Nat) : ∀ c ∈ digL n k, c < 256 := by
  intro c hc
  unfold digL at hc
  obtain ⟨j, _, rfl⟩ := List.mem_map.1 hc
  exact hexC_lt _ (Nat.mod_lt _ (by decide))
/-- How many digits a number has, but one. -/
def digN (n : Nat) : Nat := if n < 16 then 0 else if n < 256 then 1 else if n < 4096 then 2 else if n < 65536 then 3 else 4
theorem digN_is {n k : Nat} (hn : n ≤ 65536) (hk : k ≤ 4) (h1 : n / 16 ^ k < 16) (h2 : 0 < k → 16 ≤ n / 16 ^ (k - 1)) : digN n = k := by
  have hc : k = 0 ∨ k = 1 ∨ k = 2 ∨ k = 3 ∨ k = 4 := by omega
  unfold digN
  rcases hc with rfl | rfl | rfl | rfl | rfl
  · simp at h1; rw [if_pos h1]
  · simp at h1 h2; rw [if_neg (by omega), if_pos (by omega)]
  · simp at h1 h2; rw [if_neg (by omega), if_neg (by omega), if_pos (by omega)]
  · simp at h1 h2; rw [if_neg (by omega), if_neg (by omega), if_neg (by omega), if_pos (by omega)]
  · simp at h1 h2; rw [if_neg (by omega), if_neg (by omega), if_neg (by omega), if_neg (by omega)]
/-- A number as it stands in a name. -/
def numL (n : Nat) : List Nat := digL n (if n < 65536 then 3 else 4)
theorem numL_pad {n : Nat} (hn : n ≤ 65536) : numL n = List.replicate (3 - digN n) 48 ++ digL n (digN n) := by
  have e0 : ∀ m, m = 0 → hexC (m % 16) = 48 := by rintro m rfl; rfl
  unfold numL digN
  by_cases h1 : n < 16
  · rw [if_pos (by omega), if_pos h1]
    simp only [digL, List.range, List.range.loop, List.map, List.replicate, List.cons_append, List.nil_append]
    rw [e0 (n / 16 ^ (3 - 0)) (by simp; omega), e0 (n / 16 ^ (3 - 1)) (by simp; omega), e0 (n / 16 ^ (3 - 2)) (by simp; omega)]
  · rw [if_neg h1]
    by_cases h2 : n < 256
    · rw [if_pos (by omega), if_pos h2]
      simp only [digL, List.range, List.range.loop, List.map, List.replicate, List.cons_append, List.nil_append]
      rw [e0 (n / 16 ^ (3 - 0)) (by simp; omega), e0 (n / 16 ^ (3 - 1)) (by simp; omega)]
    · rw [if_neg h2]
      by_cases h3 : n < 4096
      · rw [if_pos (by omega), if_pos h3]
        simp only [digL, List.range, List.range.loop, List.map, List.replicate, List.cons_append, List.nil_append]
        rw [e0 (n / 16 ^ (3 - 0)) (by simp; omega)]
      · rw [if_neg h3]
        by_cases h4 : n < 65536
        · simp [h4]
        · simp [h4]
theorem numL_lt (n : Nat) : ∀ c ∈ numL n, c < 256 := digL_lt _ _
theorem numL_four {n : Nat} (h : n < 65536) : numL n = [hexC (n / 4096 % 16), hexC (n / 256 % 16), hexC (n / 16 % 16), hexC (n % 16)] := by
  unfold numL
  rw [if_pos h]
  simp [digL, List.range, List.range.loop]
theorem numL_top : numL 65536 = [49, 48, 48, 48, 48] := by decide
theorem numL_inj4 {a b : Nat} (ha : a < 65536) (hb : b < 65536) (h : numL a = numL b) : a = b := by
  rw [numL_four ha, numL_four hb] at h
  simp only [List.cons.injEq, and_true] at h
  have m : ∀ x : Nat, x % 16 < 16 := fun x => Nat.mod_lt _ (by decide)
  have h1 := hexC_inj (m _) (m _) h.1
  have h2 := hexC_inj (m _) (m _) h.2.1
  have h3 := hexC_inj (m _) (m _) h.2.2.1
  have h4 := hexC_inj (m _) (m _) h.2.2.2
  omega
theorem numL_inj {a b : Nat} (ha : a ≤ 65536) (hb : b ≤ 65536) (h : numL a = numL b) : a = b := by
  have l4 : ∀ {x}, x < 65536 → (numL x).length = 4 := fun hx => by rw [numL_four hx]; rfl
  by_cases h1 : a < 65536
  · by_cases h2 : b < 65536
    · exact numL_inj4 h1 h2 h
    · obtain rfl : b = 65536 := by omega
      have := congrArg List.length h
      rw [l4 h1, numL_top] at this
      simp at this
  · obtain rfl : a = 65536 := by omega
    by_cases h2 : b < 65536
    · have := congrArg List.length h
      rw [l4 h2, numL_top] at this
      simp at this
    · omega
/-- A bundle's name. -/
def nameL (lo hi : Nat) : List Nat := numL lo ++ [45] ++ numL hi
theorem nameL_lt (lo hi : Nat) : ∀ c ∈ nameL lo hi, c < 256 := by
  intro c hc
  unfold nameL at hc
  rcases List.mem_append.1 hc with h | h
  · rcases List.mem_append.1 h with h | h
    · exact numL_lt _ _ h
    · rw [List.mem_singleton] at h; omega
  · exact numL_lt _ _ h
theorem nameL_inj {a b c d : Nat} (ha : a < 65536) (hb : b ≤ 65536) (hc : c < 65536) (hd : d ≤ 65536) (h : nameL a b = nameL c d) : a = c ∧ b = d := by
  unfold nameL at h
  rw [numL_four ha, numL_four hc] at h
  simp only [List.cons_append, List.nil_append, List.cons.injEq, true_and] at h
  obtain ⟨h1, h2, h3, h4, h5⟩ := h
  exact ⟨numL_inj4 ha hc (by rw [numL_four ha, numL_four hc, h1, h2, h3, h4]), numL_inj hb hd h5⟩
end Go.Proofs.YtbdgmpfdcmmfhaaDoor
