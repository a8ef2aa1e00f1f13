/- DiskNil: the walk. -/
import Derived.Test.YtibaloloheakpaaDkAwake
import Derived.Test.YtibaloloheakpaaInAc
namespace Go.Proofs.Ytibaloloheakpaa
open Go.RowKit

theorem diskNil_cells (k : Int) (ba : Option Addr) (bl bc : Nat) (n keep bit : Int) (w : World) (_hb : bl ≤ 9223372036854775807) :
    Calls Try.prog 5 #[.agg #[.int .u8 k, .slice ba bl bc, .int .i64 n, .int .i64 keep, .int .i64 bit]] w fun e w' => e = .returned (.bool true) ∧ Below w.heap.size w w' := by
  go_enter Try.func5, Try.ntmps5
  go_wp2_with fail
  refine (awake4_any _).mono ?_
  rintro e w1 ⟨rfl, hb⟩
  have hw := Whole.made w 33 #[.int .u8 k, .slice ba bl bc, .int .i64 n, .int .i64 keep, .int .i64 bit]
  have hw1 : Whole w1 w.heap.size 33 #[.int .u8 k, .slice ba bl bc, .int .i64 n, .int .i64 keep, .int .i64 bit] := (Frm.ofBelow hb).whole hw (by simp)
  have c1 := hw1.cell 1
  have c2 := hw1.cell 2
  have c3 := hw1.cell 3
  have c4 := hw1.cell 4
  simp at c1 c2 c3 c4
  clear hw hw1
  have HB := Lib.hid (((Frm.refl [] w).alloc _).trans (Frm.ofBelow hb) (U := []) (by simp) (by simp))
  clear hb
  go_wp2_with fail
  refine (nil_sync _).mono ?_
  rintro e w' ⟨rfl, rfl⟩
  go_wp2_with fail
  refine (nil_crash _ _ _).mono ?_
  rintro e w' ⟨rfl, rfl⟩
  go_wp2_with fail
  refine (nil_append _ _).mono ?_
  rintro e w' ⟨rfl, rfl⟩
  go_wp2_with fail
  refine (nil_cut _ _).mono ?_
  rintro e w' ⟨rfl, rfl⟩
  go_wp2_with fail
  refine (nil_bytes _).mono ?_
  rintro e w' ⟨rfl, rfl⟩
  go_wp2_with fail
  refine (nil_sure _).mono ?_
  rintro e w' ⟨rfl, rfl⟩
  go_wp2
  go_ret
  exact ⟨rfl, HB.out.new⟩

theorem diskNil_walk (t : Ac) (w : World) (h : AcOk w t) :
    Calls Try.prog 5 #[t.value] w fun e w' => e = .returned (.bool true) ∧ Below w.heap.size w w' :=
  diskNil_cells _ _ _ _ _ _ _ _ h.bs_b.2.1
end Go.Proofs.Ytibaloloheakpaa
