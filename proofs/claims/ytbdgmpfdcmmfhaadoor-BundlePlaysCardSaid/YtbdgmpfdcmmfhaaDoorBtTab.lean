/- (For a door seat.) From the row's listed table to what the walks ask of it. -/
import Derived.Test.YtbdgmpfdcmmfhaaDoorRows
import Derived.Test.YtbdgmpfdcmmfhaaDoorBnTz
import Derived.Lib.LaidU8
import Derived.Lib.LaidTab
namespace Go.Proofs.YtbdgmpfdcmmfhaaDoor
open Go.RowKit Go.Lib
set_option maxRecDepth 100000
def tab64 : List Int := [0, 1, 56, 2, 57, 49, 28, 3, 61, 58, 42, 50, 38, 29, 17, 4, 62, 47, 59, 36, 45, 43, 51, 22, 53, 39, 33, 30, 24, 18, 12, 5, 63, 55, 48, 27, 60, 41, 37, 16, 46, 35, 44, 21, 52, 32, 23, 11, 54, 26, 40, 15, 34, 20, 31, 10, 25, 14, 19, 9, 13, 8, 7, 6]
theorem tab64_eq : (Rows.laid_math_bits_deBruijn64tab : DataW Unit) = tabData .u8 tab64 := by kernel_rfl
theorem bt_of_reads {w : World} (h : VarReads Tryd.prog w "math/bits.deBruijn64tab" Rows.laid_math_bits_deBruijn64tab) : Bt w := by
  rw [tab64_eq] at h
  obtain ⟨g, t, cs, fuel, p, hg, hty, hvar, hd⟩ := h
  have n3 : Tryd.prog.globalNamed "math/bits.deBruijn64tab" = some 3 := by kernel_rfl
  obtain rfl := Option.some.inj (n3.symm.trans hg)
  have y3 : (Tryd.prog.globals[(3 : Nat)]?).map (·.type) = some 100 := by kernel_rfl
  obtain rfl := Option.some.inj (y3.symm.trans hty)
  have hcs := cells_of_tab Tryd.underlying100 Tryd.underlying5 (by kernel_rfl) (by kernel_rfl) hd
  have := World.var?_cell hg hvar 15
  unfold Bt
  rw [this, ← Array.getElem?_toList, hcs]
  rfl
end Go.Proofs.YtbdgmpfdcmmfhaaDoor
