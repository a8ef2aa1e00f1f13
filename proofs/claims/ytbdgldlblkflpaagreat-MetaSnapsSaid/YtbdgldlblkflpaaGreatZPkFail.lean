/- Contract of the reader's Fail. -/
import Derived.Test.YtbdgldlblkflpaaGreatMA
namespace Go.Proofs.YtbdgldlblkflpaaGreat
open Go.RowKit
set_option maxRecDepth 100000
theorem fail0_any {w : World} {rb : Nat} :
    Calls Tryz.prog 101 #[.pointer (some ⟨rb, 0, none⟩), .int .i64 0] w (fun e w' => e = .returned (.tuple #[]) ∧ w' = w) := by
  go_enter Tryz.func101, Tryz.ntmps101
  go_wp2
  go_end0
  exact ⟨rfl, rfl⟩
theorem fail1_any {w : World} {rb cb db : Nat} {l : List Nat} (c : Nat) (h : Rdr w rb cb db l) (hc : c ≠ 0) :
    Calls Tryz.prog 101 #[.pointer (some ⟨rb, 0, none⟩), .int .i64 c] w (Thrown w rb cb c) := by
  have H := Lib.hid h
  have hne : ((c : Int) == 0) = false := by simp; omega
  have hne2 : ((c : Int) != 0) = true := by simp; omega
  clear h hc
  go_enter Tryz.func101, Tryz.ntmps101
  go_wp2_with fail
  refine (reads_any H.out).mono ?_
  rintro e w' ⟨rfl, rfl⟩
  go_wp2_with fail
  refine (throw_any c H.out).mono ?_
  rintro e w3 ⟨rfl, h1, h2⟩
  exact ⟨rfl, rfl, h1, h2⟩
end Go.Proofs.YtbdgldlblkflpaaGreat
