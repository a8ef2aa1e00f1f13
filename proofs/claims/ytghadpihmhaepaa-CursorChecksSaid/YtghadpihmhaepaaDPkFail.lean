/- Contract of the reader's Fail. -/
import Derived.Test.YtghadpihmhaepaaCC
namespace Go.Proofs.Ytghadpihmhaepaa
open Go.RowKit
set_option maxRecDepth 100000
theorem fail1_any {w : World} {rb cb db : Nat} {l : List Nat} (c : Nat) (h : Rdr w rb cb db l) (hc : c ≠ 0) :
    Calls Try.prog 89 #[.pointer (some ⟨rb, 0, none⟩), .int .i64 c] w (Thrown w rb cb c) := by
  have H := Lib.hid h
  have hne : ((c : Int) == 0) = false := by simp; omega
  have hne2 : ((c : Int) != 0) = true := by simp; omega
  clear h hc
  go_enter Try.func89, Try.ntmps89
  go_wp2_with fail
  refine (reads_any H.out).mono ?_
  rintro e w' ⟨rfl, rfl⟩
  go_wp2_with fail
  refine (throw_any c H.out).mono ?_
  rintro e w3 ⟨rfl, h1, h2⟩
  exact ⟨rfl, rfl, h1, h2⟩
end Go.Proofs.Ytghadpihmhaepaa
