/- A string's bytes as a list. They speak of no program. -/
import Derived.Test.YtbdgmpfdcmmfhaaDoorFrm
namespace Go.Proofs.YtbdgmpfdcmmfhaaDoor
open Go.RowKit

/-- A string's bytes. -/
def strL (s : ByteArray) : List Nat := s.data.toList.map UInt8.toNat
theorem strL_length (s : ByteArray) : (strL s).length = s.size := by simp [strL]
theorem strL_lt (s : ByteArray) : ∀ c ∈ strL s, c < 256 := by
  intro c hc
  simp only [strL, List.mem_map] at hc
  obtain ⟨x, _, rfl⟩ := hc
  exact x.toNat_lt
theorem strL_inj {s t : ByteArray} (h : strL s = strL t) : s = t := by
  have h1 := List.map_inj_right (f := UInt8.toNat) (fun _ _ h => UInt8.toNat_inj.1 h) |>.1 h
  exact ByteArray.ext (Array.toList_inj.1 h1)
end Go.Proofs.YtbdgmpfdcmmfhaaDoor
