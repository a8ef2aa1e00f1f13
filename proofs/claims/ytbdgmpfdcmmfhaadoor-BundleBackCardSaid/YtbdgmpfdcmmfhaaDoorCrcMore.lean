/- Contracts of crc.More and crc.Sum: for every slice of bytes, nil or not, they answer the register's sum by its definition, and write nothing. Conditions: what the slice reads as. -/
import Derived.Test.YtbdgmpfdcmmfhaaDoorCrcFeed
namespace Go.Proofs.YtbdgmpfdcmmfhaaDoor
open Go.RowKit

theorem fedAll_take (x : Nat) {l : List Nat} {i : Nat} (h : i < l.length) : fedAll x (l.take (i + 1)) = fed (fedAll x (l.take i)) (l.getD i 0) := by
  rw [take_snoc_getD h, fedAll_snoc]
theorem not_u32 {x : Nat} (h : x < 4294967296) : bits .xor .u32 IntKind.u32.max (x : Int) = ((inv32 x : Nat) : Int) := by
  have := u32_xor_nat 4294967295 x (by omega) h
  rw [show IntKind.u32.max = ((4294967295 : Nat) : Int) from rfl, this]
  unfold inv32; rw [Nat.xor_comm]

theorem more_any (s : Nat) (a : Option Addr) (n cap : Nat) (l : List Nat) (w : World) (hs : s < 4294967296) (hl : Bytes w a l) (hn : n = l.length) :
    Calls Tryd.prog 32 #[.int .u32 s, .slice a n cap] w fun e w' => e = .returned (.int .u32 (moreN s l : Nat)) ∧ w = w' := by
  obtain ⟨h8, hm, hcell⟩ := hl
  have hnm : n ≤ 9223372036854775807 := by omega
  have H8 := Lib.hid h8
  have hi0 := not_u32 hs
  have hil := inv32_lt hs
  have hend : fedAll (inv32 s) (l.take n) = fedAll (inv32 s) l := by rw [hn, List.take_length]
  have HE := Lib.hid hend; clear hend
  have HN := Lib.hid hn; clear hn
  have HC := Lib.hid hcell; clear hcell
  clear h8 hm
  go_enter Tryd.func32, Tryd.ntmps32
  go_wp2
  go_loop [5, 12] (fun r i => ∃ k : Nat, k ≤ n ∧ i = .int .i64 k ∧ r = .int .u32 (fedAll (inv32 s) (l.take k) : Nat)) (fun _ i => n - (intOf i).toNat)
  case atStart => exact ⟨0, Nat.zero_le _, rfl, rfl⟩
  case round =>
    obtain ⟨k, hk, rfl, rfl⟩ := hrel
    clear hi0
    have hx := fedAll_lt (l.take k) hil (take_lt H8.out k)
    have hc := getD_lt H8.out k
    by_cases hlt : k < n
    · have hst := fedAll_take (inv32 s) (l := l) (i := k) (by rw [← HN.out]; exact hlt)
      obtain ⟨b, off, rfl, hcl⟩ : ∃ b off, a = some ⟨b, off, none⟩ ∧ w.cell? ⟨b, off + k, none⟩ = some (.int .u8 (l.getD k 0 : Nat)) := by
        rcases HC.out with h | ⟨b, off, h, hh⟩
        · have := HN.out; rw [h] at this; simp at this; omega
        · exact ⟨b, off, h, hh k (by rw [← HN.out]; exact hlt)⟩
      obtain ⟨x, hx'⟩ : ∃ x, x = fedAll (inv32 s) (l.take k) := ⟨_, rfl⟩
      obtain ⟨c, hc'⟩ : ∃ c, c = l.getD k 0 := ⟨_, rfl⟩
      rw [← hx', ← hc'] at hst
      rw [← hx'] at hx ⊢
      rw [← hc'] at hc hcl
      have HX := Lib.hid hx'; clear hx'
      have HC' := Lib.hid hc'; clear hc'
      have HS := Lib.hid hst; clear hst
      go_wp2_with (go_at_call 36; refine (feed_any _ _ _ hx hc).mono ?_; rintro e w' ⟨rfl, rfl⟩)
      go_round
      case rel => exact ⟨k + 1, by omega, by go_num, same_int (by rw [HS.out])⟩
      case measure => simp [intOf]; omega
    · obtain rfl : k = n := by omega
      have hi1 := not_u32 hx
      go_wp2
      go_ret
      exact ⟨ret_same (by rw [HE.out]; rfl), rfl⟩

theorem sum_any (a : Option Addr) (n cap : Nat) (l : List Nat) (w : World) (hl : Bytes w a l) (hn : n = l.length) :
    Calls Tryd.prog 27 #[.slice a n cap] w fun e w' => e = .returned (.int .u32 (sumN l : Nat)) ∧ w = w' := by
  have HN := Lib.hid hn; clear hn
  have HL := Lib.hid hl; clear hl
  go_enter Tryd.func27, Tryd.ntmps27
  go_wp2_with (go_at_call 32; refine (more_any 0 _ _ _ l _ (by omega) HL.out HN.out).mono ?_; rintro e w' ⟨rfl, rfl⟩)
  go_ret
  exact ⟨rfl, rfl⟩
end Go.Proofs.YtbdgmpfdcmmfhaaDoor
