/- CrcSums: for every slice of bytes the law answers true and writes nothing that was there. No condition. -/
import Derived.Test.YtmbhmjhjfekcfaaRowIn
import Derived.Test.YtmbhmjhjfekcfaaCrcRef
import Derived.Test.YtmbhmjhjfekcfaaCrcAwake
namespace Go.Proofs.Ytmbhmjhjfekcfaa
open Go.RowKit

theorem crcSums_walk (a : Option Addr) (len cap : Nat) (z : List Int) (w : World) (w0 : RowIn .u8 w a len cap z) :
    Calls Try.prog 3 #[.slice a len cap] w fun e w' => e = .returned (.bool true) ∧ Below w.heap.size w w' := by
  obtain ⟨l, hn, hl⟩ := bytes_of_row w0
  have hnm : len ≤ 9223372036854775807 := by have := hl.2.1; omega
  clear w0
  have HN := Lib.hid hn; clear hn
  have HL := Lib.hid hl; clear hl
  by_cases h5 : 5000 < len
  · go_enter Try.func3, Try.ntmps3
    go_wp2_with fail
    refine (awake_any w).mono ?_
    rintro e w1 ⟨rfl, hb⟩
    go_wp2_with fail
    go_ret
    exact ⟨rfl, hb⟩
  · go_enter Try.func3, Try.ntmps3
    go_wp2_with fail
    refine (awake_any w).mono ?_
    rintro e w1 ⟨rfl, hb⟩
    go_wp2_with fail
    refine (sum_any _ _ _ l _ (HL.out.later hb) HN.out).mono ?_
    rintro e w' ⟨rfl, rfl⟩
    go_wp2_with fail
    refine (ref_sum_any _ _ _ l _ (HL.out.later hb) HN.out).mono ?_
    rintro e w' ⟨rfl, rfl⟩
    go_wp2_with fail
    go_ret
    exact ⟨rfl, hb⟩
end Go.Proofs.Ytmbhmjhjfekcfaa
