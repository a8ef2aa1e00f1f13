/- Contract of crc.feed: for every register and byte it answers the register behind one byte more, and writes nothing. No condition but that the two are numbers of their kinds. -/
import Derived.Test.YtbdgmpfdcmmfhaaDoorRowDef
import Derived.Test.YtbdgmpfdcmmfhaaDoorCrcMath
import Derived.WalkKit
import Derived.Lib.Hide
import Derived.Laws.BitsAllLaws
namespace Go.Proofs.YtbdgmpfdcmmfhaaDoor
open Go.RowKit

theorem odd_test {y : Nat} (hy : y < 4294967296) (h : y % 2 = 1) : (bits .and .u32 (y : Int) 1 == 1) = true := by
  have e := u32_and_nat y 1 hy (by omega)
  have : bits .and .u32 (y : Int) 1 = 1 := by rw [show (1 : Int) = ((1 : Nat) : Int) from rfl, e, nat_mask1, h]
  simp [this]
theorem even_test {y : Nat} (hy : y < 4294967296) (h : y % 2 = 0) : (bits .and .u32 (y : Int) 1 == 1) = false := by
  have e := u32_and_nat y 1 hy (by omega)
  have : bits .and .u32 (y : Int) 1 = 0 := by rw [show (1 : Int) = ((1 : Nat) : Int) from rfl, e, nat_mask1, h]; rfl
  simp [this]
theorem half (y : Nat) : (y : Int) / 2 = ((y / 2 : Nat) : Int) := by omega
theorem half_pol {y : Nat} (hy : y < 4294967296) : bits .xor .u32 ((y : Int) / 2) 2197175160 = ((y / 2 ^^^ 2197175160 : Nat) : Int) := by
  rw [half, show (2197175160 : Int) = ((2197175160 : Nat) : Int) from rfl]
  exact u32_xor_nat _ _ (by omega) (by omega)
theorem stp_even {y : Nat} (h : y % 2 = 0) : stp y = y / 2 := by unfold stp; rw [if_neg (by omega)]
theorem stp_odd {y : Nat} (h : y % 2 = 1) : stp y = y / 2 ^^^ 2197175160 := by unfold stp; rw [if_pos h]

theorem feed_any (x c : Nat) (w : World) (hx : x < 4294967296) (hc : c < 256) :
    Calls Tryd.prog 36 #[.int .u32 x, .int .u8 c] w fun e w' => e = .returned (.int .u32 (fed x c : Nat)) ∧ w = w' := by
  have h0 := u32_xor_nat x c hx (by omega)
  have hlt : x ^^^ c < 4294967296 := xor_lt hx (by omega)
  go_enter Tryd.func36, Tryd.ntmps36
  go_wp2
  go_loop [0, 9] (fun r i => ∃ k : Nat, k ≤ 8 ∧ i = .int .i64 k ∧ r = .int .u32 (stps k (x ^^^ c) : Nat)) (fun _ i => 8 - (intOf i).toNat)
  case atStart => exact ⟨0, Nat.zero_le _, rfl, rfl⟩
  case round =>
    obtain ⟨k, hk, rfl, rfl⟩ := hrel
    have hs := stps_succ k (x ^^^ c)
    have hl := stps_lt k hlt
    clear h0 hlt
    obtain ⟨y, hy⟩ : ∃ y, y = stps k (x ^^^ c) := ⟨_, rfl⟩
    rw [← hy] at hs hl
    rw [← hy]
    have HY := Lib.hid hy; clear hy
    have HS := Lib.hid hs; clear hs
    rcases Nat.mod_two_eq_zero_or_one y with hp | hp
    · have ht := even_test hl hp
      have HE := Lib.hid (stp_even hp); clear hp
      go_wp2
      · go_round
        case rel => exact ⟨k + 1, by omega, by go_num, same_int (by rw [HS.out, HE.out, half])⟩
        case measure => simp [intOf]; omega
      · go_ret
        obtain rfl : k = 8 := by omega
        exact ⟨ret_same (by rw [HY.out]; rfl), rfl⟩
    · have ht := odd_test hl hp
      have HE := Lib.hid (stp_odd hp); clear hp
      go_wp2
      · go_round
        case rel => exact ⟨k + 1, by omega, by go_num, same_int (by rw [HS.out, HE.out, half_pol hl])⟩
        case measure => simp [intOf]; omega
      · go_ret
        obtain rfl : k = 8 := by omega
        exact ⟨ret_same (by rw [HY.out]; rfl), rfl⟩
end Go.Proofs.YtbdgmpfdcmmfhaaDoor
