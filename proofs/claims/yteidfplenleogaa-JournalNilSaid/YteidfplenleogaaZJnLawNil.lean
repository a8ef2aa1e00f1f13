/- JournalNil: the walk. -/
import Derived.Test.YteidfplenleogaaMC
namespace Go.Proofs.Yteidfplenleogaa
open Go.RowKit

set_option maxRecDepth 100000 in
theorem journalNil_walk (a : Option Addr) (n cap : Nat) (l : List Nat) (w : World) (_hn : n = l.length) (_hl : Bytes w a l) (_hc : n ≤ cap) (_hnil : a = none → cap = 0) :
    Calls Try.prog 6 #[.slice a n cap] w fun e w' => e = .returned (.bool true) ∧ Below w.heap.size w w' := by
  clear _hn _hl _hc _hnil
  go_enter Try.func6, Try.ntmps6
  go_wp2_with fail
  refine (awake5_any w).mono ?_
  rintro e w1 ⟨rfl, hb⟩
  have HB := Lib.hid hb; clear hb
  go_wp2_with fail
  refine (open_nil w1).mono ?_
  rintro e w' ⟨rfl, rfl⟩
  go_wp2_with fail
  refine (write_nil _ w1).mono ?_
  rintro e w' ⟨rfl, rfl⟩
  go_wp2_with fail
  refine (lay_nil _ w1).mono ?_
  rintro e w' ⟨rfl, rfl⟩
  go_wp2
  go_ret
  exact ⟨rfl, HB.out⟩
end Go.Proofs.Yteidfplenleogaa
