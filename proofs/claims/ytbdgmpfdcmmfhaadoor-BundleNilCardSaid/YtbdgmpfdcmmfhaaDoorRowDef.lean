/- A slice of bytes that reads as a list, and small words: plain, of this seat's program alone by its import. -/
import Derived.Test.YtbdgmpfdcmmfhaaDoorProg
import Derived.WalkKit
import Derived.Lib.Hide
namespace Go.Proofs.YtbdgmpfdcmmfhaaDoor
open Go.RowKit

theorem same_int {k : IntKind} {a b : Int} (h : a = b) : Value.int k a = Value.int k b := by rw [h]
theorem ret_same {k : IntKind} {a b : Int} (h : a = b) : Ending.returned (.int k a) = .returned (.int k b) := by rw [h]
/-- A slice value at address 'a' reads as the bytes 'l'. -/
def Bytes (w : World) (a : Option Addr) (l : List Nat) : Prop :=
  (∀ c ∈ l, c < 256) ∧ l.length ≤ 9223372036854775807 ∧
  (l = [] ∨ ∃ b off, a = some ⟨b, off, none⟩ ∧ ∀ i, i < l.length → w.cell? ⟨b, off + i, none⟩ = some (.int .u8 (l.getD i 0 : Nat)))

theorem getD_lt {l : List Nat} (h : ∀ c ∈ l, c < 256) (i : Nat) : l.getD i 0 < 256 := by
  by_cases hi : i < l.length
  · have e : l.getD i 0 = l[i] := by simp [hi]
    rw [e]; exact h _ (List.getElem_mem hi)
  · have e : l.getD i 0 = 0 := by simp [Nat.le_of_not_lt hi]
    omega
theorem take_snoc_getD {l : List Nat} {i : Nat} (h : i < l.length) : l.take (i + 1) = l.take i ++ [l.getD i 0] := by
  rw [List.take_succ_eq_append_getElem h]; simp [h]
theorem take_lt {l : List Nat} (h : ∀ c ∈ l, c < 256) (i : Nat) : ∀ c ∈ l.take i, c < 256 := fun c hc => h c (List.mem_of_mem_take hc)
end Go.Proofs.YtbdgmpfdcmmfhaaDoor
