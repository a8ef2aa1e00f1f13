/- Pieces of slices of bytes. They speak of no program. -/
import Derived.Test.YtibaloloheakpaaBytes
namespace Go.Proofs.Ytibaloloheakpaa
open Go.RowKit

theorem Bytes.nil {w : World} (a : Option Addr) : Bytes w a [] := ⟨by simp, by simp, .inl rfl⟩
theorem Bytes.take {w : World} {a : Option Addr} {l : List Nat} (h : Bytes w a l) (k : Nat) : Bytes w a (l.take k) := by
  obtain ⟨h8, hm, hc⟩ := h
  refine ⟨fun c hc => h8 c (List.mem_of_mem_take hc), by have := List.length_take_le k l; simp; omega, ?_⟩
  rcases hc with h | ⟨b, off, ha, hc⟩
  · left; rw [h]; simp
  · refine .inr ⟨b, off, ha, fun i hi => ?_⟩
    rw [List.length_take] at hi
    have e : (l.take k).getD i 0 = l.getD i 0 := by simp [List.getD, show i < k by omega]
    rw [e]; exact hc i (by omega)
theorem Bytes.drop {w : World} {a : Option Addr} {l : List Nat} (h : Bytes w a l) (k : Nat) : Bytes w (a.map (fun x => x.add k)) (l.drop k) := by
  obtain ⟨h8, hm, hc⟩ := h
  refine ⟨fun c hc => h8 c (List.mem_of_mem_drop hc), by simp; omega, ?_⟩
  rcases hc with h | ⟨b, off, ha, hc⟩
  · left; rw [h]; simp
  · refine .inr ⟨b, off + k, by rw [ha]; simp [addr_add], fun i hi => ?_⟩
    rw [List.length_drop] at hi
    have e : (l.drop k).getD i 0 = l.getD (k + i) 0 := by simp [List.getD, List.getElem?_drop]
    rw [e, Nat.add_assoc]; exact hc (k + i) (by omega)
end Go.Proofs.Ytibaloloheakpaa
