/- Contracts of pack.digits and pack.value: a number's eight bytes, the greatest first, and back. -/
import Derived.Test.YtahhkffghhgojaaPkClone
import Derived.Test.YtahhkffghhgojaaPkMath
import Derived.Handy
namespace Go.Proofs.Ytahhkffghhgojaa
open Go.RowKit

/-- What digits hands back: the eight bytes, each by a name. -/
def Eight (n : Nat) (w w' : World) (e : Ending) : Prop :=
  ∃ d0 d1 d2 d3 d4 d5 d6 d7 : Nat, be 8 n = [d0, d1, d2, d3, d4, d5, d6, d7] ∧
    e = .returned (.agg #[.int .u8 d0, .int .u8 d1, .int .u8 d2, .int .u8 d3, .int .u8 d4, .int .u8 d5, .int .u8 d6, .int .u8 d7]) ∧ Below w.heap.size w w'

set_option maxHeartbeats 4000000 in
theorem digits_any (n : Nat) (w : World) (hn : n < 18446744073709551616) :
    Calls Try.prog 64 #[.int .u64 n] w fun e w' => Eight n w w' e := by
  have H8 := Lib.hid (be8 n hn)
  go_enter Try.func64, Try.ntmps64
  go_wp2
  refine wp_loop_rounds 9 ?_
  iterate 9 (rw [rounds_succ]; go_wp2)
  refine bodyPost_ret (results_cell_row (P := Try.prog) rfl _ _ w.heap.size _ _ _ _ rfl (heap_alloc2_old w _ _) Try.underlying106 rfl (by kernel_rfl)) rfl ?_
  exact ⟨_, _, _, _, _, _, _, _, H8.out, rfl, ((Below.refl _ _).alloc (Nat.le_refl _) _).alloc (by simp) _⟩
end Go.Proofs.Ytahhkffghhgojaa
