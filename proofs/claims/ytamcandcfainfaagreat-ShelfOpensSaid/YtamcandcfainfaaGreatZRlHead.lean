/- Contract of the document's head: of a record. -/
import Derived.Test.YtamcandcfainfaaGreatMX
import Derived.Test.YtamcandcfainfaaGreatZRwPut
namespace Go.Proofs.YtamcandcfainfaaGreat
open Go.RowKit
set_option maxRecDepth 100000
set_option maxHeartbeats 1000000 in
theorem rhead_any (w : World) (k id : Nat) (hk : k < 256) (hid : id < N64) :
    Calls Tryz.prog 35 #[.int .i64 (k : Nat), .int .u64 (id : Nat)] w (RwEnd w (recW k id)) := by
  have H1 := Lib.hid (rw_put k 1 (Rw.start w) (by omega) (by omega) (by simp))
  rw [List.nil_append, show ([] : List Nat).length = 0 from rfl, show ((1 : Nat) : Int) = 1 from rfl] at H1
  have hwr : IntKind.u64.wrap (k : Int) = (k : Int) := by simp [IntKind.wrap, IntKind.bits, IntKind.signed]; omega
  go_enter Tryz.func35, Tryz.ntmps35
  go_wp2_with fail
  (with_reducible refine H1.out.mono ?_)
  rintro e w1 ⟨a1, c1, rfl, h1⟩
  have hl : (be 1 k).length = 1 := be_length _ _
  have H2 := rw_put id 8 h1 hid (by omega) (by rw [hl]; omega)
  rw [show ((8 : Nat) : Int) = 8 from rfl, show be 1 k ++ be 8 id = recW k id from rfl] at H2
  rw [hl] at H2 ⊢
  have H2 := Lib.hid H2
  clear h1 H1 hl
  go_wp2_with fail
  (with_reducible refine H2.out.mono ?_)
  rintro e w2 ⟨a2, c2, rfl, h2⟩
  have hl2 : (recW k id).length = 9 := by unfold recW; simp [be_length]
  have HE : Hid (RwEnd w (recW k id) (.returned (.slice a2 9 c2)) w2) := Lib.hid ⟨a2, c2, by rw [hl2], h2⟩
  rw [hl2]
  clear h2 H2
  go_wp2
  go_ret
  exact HE.out
end Go.Proofs.YtamcandcfainfaaGreat
