/- Contract of the reference's Sum (package mailcoachref01): for every slice of bytes, nil or not, it answers the register's sum by its definition, and writes nothing. Conditions: what the slice reads as. -/
import Derived.Test.YtbdgmpfdcmmfhaaDoorCrcMore
namespace Go.Proofs.YtbdgmpfdcmmfhaaDoor
open Go.RowKit

theorem xor_max {x : Nat} (h : x < 4294967296) : bits .xor .u32 (x : Int) 4294967295 = ((inv32 x : Nat) : Int) := by
  have := u32_xor_nat x 4294967295 h (by omega)
  rw [show (4294967295 : Int) = ((4294967295 : Nat) : Int) from rfl, this]
  rfl

theorem ref_sum_any (a : Option Addr) (n cap : Nat) (l : List Nat) (w : World) (hl : Bytes w a l) (hn : n = l.length) :
    Calls Tryd.prog 21 #[.slice a n cap] w fun e w' => e = .returned (.int .u32 (sumN l : Nat)) ∧ w = w' := by
  obtain ⟨h8, hm, hcell⟩ := hl
  have hnm : n ≤ 9223372036854775807 := by omega
  have H8 := Lib.hid h8
  have hil : (4294967295 : Nat) < 4294967296 := by omega
  have hend : fedAll 4294967295 (l.take n) = fedAll 4294967295 l := by rw [hn, List.take_length]
  have HE := Lib.hid hend; clear hend
  have HN := Lib.hid hn; clear hn
  have HC := Lib.hid hcell; clear hcell
  clear h8 hm
  go_enter Tryd.func21, Tryd.ntmps21
  go_wp2
  go_loop [3, 4, 5] (fun r i _ => ∃ k : Nat, k ≤ n ∧ i = .int .i64 k ∧ r = .int .u32 (fedAll 4294967295 (l.take k) : Nat)) (fun _ i _ => n - (intOf i).toNat)
  case atStart => exact ⟨0, Nat.zero_le _, rfl, rfl⟩
  case round =>
    obtain ⟨k, hk, rfl, rfl⟩ := hrel
    have hx := fedAll_lt (l.take k) hil (take_lt H8.out k)
    have hc := getD_lt H8.out k
    by_cases hlt : k < n
    · have hst := fedAll_take 4294967295 (l := l) (i := k) (by rw [← HN.out]; exact hlt)
      obtain ⟨b, off, rfl, hcl⟩ : ∃ b off, a = some ⟨b, off, none⟩ ∧ w.cell? ⟨b, off + k, none⟩ = some (.int .u8 (l.getD k 0 : Nat)) := by
        rcases HC.out with h | ⟨b, off, h, hh⟩
        · have := HN.out; rw [h] at this; simp at this; omega
        · exact ⟨b, off, h, hh k (by rw [← HN.out]; exact hlt)⟩
      obtain ⟨x, hx'⟩ : ∃ x, x = fedAll 4294967295 (l.take k) := ⟨_, rfl⟩
      obtain ⟨c, hc'⟩ : ∃ c, c = l.getD k 0 := ⟨_, rfl⟩
      rw [← hx', ← hc'] at hst
      rw [← hx'] at hx ⊢
      rw [← hc'] at hc hcl
      have HX := Lib.hid hx'; clear hx'
      have HC' := Lib.hid hc'; clear hc'
      have HS := Lib.hid hst; clear hst
      have h0 := u32_xor_nat x c hx (by omega)
      have hxc : x ^^^ c < 4294967296 := xor_lt hx (by omega)
      go_wp2
      go_loop [3, 5] (fun r j => ∃ m : Nat, m ≤ 8 ∧ j = .int .i64 m ∧ r = .int .u32 (stps m (x ^^^ c) : Nat)) (fun _ j => 8 - (intOf j).toNat)
      case atStart => exact ⟨0, Nat.zero_le _, rfl, rfl⟩
      case round =>
        obtain ⟨m, hm, rfl, rfl⟩ := hrel
        have hs := stps_succ m (x ^^^ c)
        have hl := stps_lt m hxc
        clear h0 hxc
        obtain ⟨y, hy⟩ : ∃ y, y = stps m (x ^^^ c) := ⟨_, rfl⟩
        rw [← hy] at hs hl
        rw [← hy]
        have HY := Lib.hid hy; clear hy
        have HT := Lib.hid hs; clear hs
        go_wp2
        · have ho : (((y : Int) % 2 == 1) = true) := by assumption
          have hp : y % 2 = 1 := by have := WalkArith.int_eq ho; omega
          go_round
          case rel => exact ⟨m + 1, by omega, by go_num, same_int (by rw [HT.out, stp_odd hp, half_pol hl])⟩
          case measure => simp [intOf]; omega
        · have ho : (((y : Int) % 2 == 1) = false) := by assumption
          have hp : y % 2 = 0 := by have := WalkArith.int_ne ho; omega
          go_round
          case rel => exact ⟨m + 1, by omega, by go_num, same_int (by rw [HT.out, stp_even hp, half])⟩
          case measure => simp [intOf]; omega
        · obtain rfl : m = 8 := by omega
          go_round
          case rel => exact ⟨k + 1, by omega, by go_num, same_int (by rw [HS.out, HY.out]; rfl)⟩
          case measure => simp [intOf]; omega
    · obtain rfl : k = n := by omega
      have hi1 := xor_max hx
      go_wp2
      go_ret
      exact ⟨ret_same (by rw [HE.out]; rfl), rfl⟩
/-- The three contracts, their answer under another name. -/
theorem sum_eq (a : Option Addr) (n cap : Nat) (l : List Nat) (w : World) (r : Nat) (hr : sumN l = r) (hl : Bytes w a l) (hn : n = l.length) :
    Calls Tryd.prog 27 #[.slice a n cap] w fun e w' => e = .returned (.int .u32 (r : Nat)) ∧ w = w' := by
  subst hr; exact sum_any a n cap l w hl hn
theorem more_eq (s : Nat) (a : Option Addr) (n cap : Nat) (l : List Nat) (w : World) (r : Nat) (hr : moreN s l = r) (hs : s < 4294967296) (hl : Bytes w a l) (hn : n = l.length) :
    Calls Tryd.prog 32 #[.int .u32 s, .slice a n cap] w fun e w' => e = .returned (.int .u32 (r : Nat)) ∧ w = w' := by
  subst hr; exact more_any s a n cap l w hs hl hn
theorem ref_sum_eq (a : Option Addr) (n cap : Nat) (l : List Nat) (w : World) (r : Nat) (hr : sumN l = r) (hl : Bytes w a l) (hn : n = l.length) :
    Calls Tryd.prog 21 #[.slice a n cap] w fun e w' => e = .returned (.int .u32 (r : Nat)) ∧ w = w' := by
  subst hr; exact ref_sum_any a n cap l w hl hn
end Go.Proofs.YtbdgmpfdcmmfhaaDoor
