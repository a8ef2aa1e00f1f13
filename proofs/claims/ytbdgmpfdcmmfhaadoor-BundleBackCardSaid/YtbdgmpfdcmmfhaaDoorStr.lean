/- 'string(b)' of whatever slice of bytes; strings of lists of bytes. They speak of no program. -/
import Derived.Test.YtbdgmpfdcmmfhaaDoorStrL
import Derived.Laws.BytesArg
namespace Go.Proofs.YtbdgmpfdcmmfhaaDoor
open Go.RowKit

/-- The string of these bytes. -/
def strOf (l : List Nat) : ByteArray := ⟨(l.map fun c => UInt8.ofNat c).toArray⟩
theorem strOf_nums (l : List Nat) : strOfNums (l.map fun c : Nat => (c : Int)) = strOf l := by
  apply ByteArray.ext
  apply Array.toList_inj.1
  rw [strOfNums_data]
  simp [strOf]
theorem strL_strOf (l : List Nat) (h : ∀ c ∈ l, c < 256) : strL (strOf l) = l := by
  simp only [strL, strOf, List.map_map]
  conv => rhs; rw [← List.map_id l]
  apply List.map_congr_left
  intro c hc
  have := h c hc
  simp; omega
theorem strOf_inj {l m : List Nat} (hl : ∀ c ∈ l, c < 256) (hm : ∀ c ∈ m, c < 256) (h : strOf l = strOf m) : l = m := by
  rw [← strL_strOf l hl, h, strL_strOf m hm]
theorem strOf_strL (s : ByteArray) : strOf (strL s) = s := strL_inj (strL_strOf _ (strL_lt s))
theorem strOf_size (l : List Nat) : (strOf l).size = l.length := by simp [strOf, ByteArray.size]

theorem run_to_string {P : Program} {w : World} {src dst e : TypeId} (hs : P.underlying src = some (.slice e)) (he : P.underlying e = some (.int .u8)) (hd : P.underlying dst = some .string)
    {a : Option Addr} {n c : Nat} {l : List Nat} (hl : Bytes w a l) (hn : n = l.length) : (convert src dst (.slice a n c)).run P w = .ok (.string (strOf l)) w := by
  subst hn
  cases a with
  | none =>
    have h0 : l = [] := by
      rcases hl.2.2 with h | ⟨b, off, h, _⟩
      · exact h
      · cases h
    subst h0
    rw [run_convert_bytes_nil w src e hs he _ _ dst hd]
    rfl
  | some x =>
    rcases hl.2.2 with h | ⟨b, off, h, hc⟩
    · subst h
      rw [run_convert_bytes_string w src dst e _ _ _ hs he hd, run_bytesToString w x _ _ [] (by simp [loadCells, loadCellsFrom])]
      rfl
    · cases h
      rw [run_convert_bytes_arg w src e hs he b off l.length c (l.map fun c : Nat => (c : Int)) (by simp) (fun i hi => by rw [hc i hi]; simp [hi]) dst hd, strOf_nums]
end Go.Proofs.YtbdgmpfdcmmfhaaDoor
