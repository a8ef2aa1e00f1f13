/- Contracts of isPowerOfTwo, TrailingZeros at 16; what is known of the table that it reads. -/
import Derived.Test.YtbdgmpfdcmmfhaaDoorBmSplit
namespace Go.Proofs.YtbdgmpfdcmmfhaaDoor
open Go.RowKit
set_option maxRecDepth 100000

/-- The one place of math/bits.deBruijn64tab that is read for 16. -/
def Bt (w : World) : Prop := w.cell? ⟨3, 15, none⟩ = some (.int .u8 4)
theorem Bt.keep {w w' : World} {S : List Nat} (h : Bt w) (hf : Frm S w w') (hS : 3 ∉ S) : Bt w' := (hf.cell (p := ⟨3, 15, none⟩) (block_lt_of_cell h) hS).trans h
theorem Bt.lt {w : World} (h : Bt w) : 3 < w.heap.size := block_lt_of_cell (a := ⟨3, 15, none⟩) h
set_option maxHeartbeats 1000000 in
theorem ispow_any (w : World) : Calls Tryd.prog 56 #[.int .i64 16] w fun e w' => e = .returned (.bool true) ∧ w' = w := by
  have hb : bits BinOp.and IntKind.i64 16 15 = 0 := by decide
  go_enter Tryd.func56, Tryd.ntmps56
  go_wp2
  go_ret
  exact ⟨rfl, rfl⟩
set_option maxHeartbeats 1000000 in
theorem tz64_any {w : World} (h : Bt w) : Calls Tryd.prog 61 #[.int .u64 16] w fun e w' => e = .returned (.int .i64 4) ∧ w' = w := by
  have c0 : w.cell? ⟨3, 15, none⟩ = some (.int .u8 4) := h
  have key : IntKind.u64.wrap (bits BinOp.and IntKind.u64 16 (IntKind.u64.wrap (-16)) * 285870213051353865) / 288230376151711744 = 15 := by decide
  have key2 : bits BinOp.and IntKind.u64 16 18446744073709551600 = 16 := by decide
  go_enter Tryd.func61, Tryd.ntmps61
  go_wp2_with (simp only [key])
  go_ret
  exact ⟨rfl, rfl⟩
set_option maxHeartbeats 1000000 in
theorem tz_any {w : World} (h : Bt w) : Calls Tryd.prog 57 #[.int .u64 16] w fun e w' => e = .returned (.int .i64 4) ∧ w' = w := by
  have H := Lib.hid (tz64_any h)
  go_enter Tryd.func57, Tryd.ntmps57
  go_wp2_with fail
  (with_reducible refine H.out.mono ?_)
  rintro e z ⟨rfl, hz⟩
  obtain rfl : w = z := hz.symm
  go_wp2
  go_ret
  exact ⟨rfl, rfl⟩
end Go.Proofs.YtbdgmpfdcmmfhaaDoor
