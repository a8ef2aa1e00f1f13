/- (For PackReads' own seat.) Contract of unicode/utf8.word over bytes: the number that the first eight bytes spell. -/
import Derived.Test.YtpamiglinmfgkaaDoorPdRef
import Derived.Shelf.Unicode.DecodeSlow
import Derived.Lib.Endian
import Derived.Lib.EndianBits
import Derived.Laws.BitsAllLaws
namespace Go.Proofs.YtpamiglinmfgkaaDoor
open Go.RowKit

/-- The number that the first eight bytes spell, the least first. -/
def W8 (l : List Nat) : Nat := l.getD 0 0 + l.getD 1 0 * 256 + l.getD 2 0 * 65536 + l.getD 3 0 * 16777216 + l.getD 4 0 * 4294967296 + l.getD 5 0 * 1099511627776 + l.getD 6 0 * 281474976710656 + l.getD 7 0 * 72057594037927936
theorem W8_lt {l : List Nat} (h : ∀ c ∈ l, c < 256) : W8 l < 18446744073709551616 := by
  have h0 := getD_lt h 0; have h1 := getD_lt h 1; have h2 := getD_lt h 2; have h3 := getD_lt h 3
  have h4 := getD_lt h 4; have h5 := getD_lt h 5; have h6 := getD_lt h 6; have h7 := getD_lt h 7
  unfold W8; omega

set_option maxHeartbeats 8000000 in
set_option maxRecDepth 100000 in
theorem word_any {w : World} {a : Option Addr} {l : List Nat} {n cap : Nat} (h : Bytes w a l) (hn : n = l.length) (h8 : 8 ≤ n) :
    Calls Tryd.prog 40 #[.slice a n cap] w fun e w' => e = .returned (.int .u64 (W8 l : Nat)) ∧ ∃ q, w' = w.drewN q := by
  obtain ⟨b, off, rfl, hc⟩ : ∃ b off, a = some ⟨b, off, none⟩ ∧ ∀ i, i < l.length → w.cell? ⟨b, off + i, none⟩ = some (.int .u8 (l.getD i 0 : Nat)) := by
    rcases h.2.2 with h0 | h0
    · rw [h0] at hn; simp at hn; omega
    · exact h0
  have k0 := hc 0 (by omega); have k1 := hc 1 (by omega); have k2 := hc 2 (by omega); have k3 := hc 3 (by omega)
  have k4 := hc 4 (by omega); have k5 := hc 5 (by omega); have k6 := hc 6 (by omega); have k7 := hc 7 (by omega)
  rw [Nat.add_zero] at k0
  have e0 := getD_lt h.1 0; have e1 := getD_lt h.1 1; have e2 := getD_lt h.1 2; have e3 := getD_lt h.1 3
  have e4 := getD_lt h.1 4; have e5 := getD_lt h.1 5; have e6 := getD_lt h.1 6; have e7 := getD_lt h.1 7
  unfold W8
  obtain ⟨x0, hx0⟩ : ∃ x, x = l.getD 0 0 := ⟨_, rfl⟩
  obtain ⟨x1, hx1⟩ : ∃ x, x = l.getD 1 0 := ⟨_, rfl⟩
  obtain ⟨x2, hx2⟩ : ∃ x, x = l.getD 2 0 := ⟨_, rfl⟩
  obtain ⟨x3, hx3⟩ : ∃ x, x = l.getD 3 0 := ⟨_, rfl⟩
  obtain ⟨x4, hx4⟩ : ∃ x, x = l.getD 4 0 := ⟨_, rfl⟩
  obtain ⟨x5, hx5⟩ : ∃ x, x = l.getD 5 0 := ⟨_, rfl⟩
  obtain ⟨x6, hx6⟩ : ∃ x, x = l.getD 6 0 := ⟨_, rfl⟩
  obtain ⟨x7, hx7⟩ : ∃ x, x = l.getD 7 0 := ⟨_, rfl⟩
  rw [← hx0] at k0 e0; rw [← hx1] at k1 e1; rw [← hx2] at k2 e2; rw [← hx3] at k3 e3
  rw [← hx4] at k4 e4; rw [← hx5] at k5 e5; rw [← hx6] at k6 e6; rw [← hx7] at k7 e7
  rw [← hx0, ← hx1, ← hx2, ← hx3, ← hx4, ← hx5, ← hx6, ← hx7]
  clear hx0 hx1 hx2 hx3 hx4 hx5 hx6 hx7 hc h
  have q0 : (0 : Int) < (n : Int) := by omega
  have q1 : (1 : Int) < (n : Int) := by omega
  have q2 : (2 : Int) < (n : Int) := by omega
  have q3 : (3 : Int) < (n : Int) := by omega
  have q4 : (4 : Int) < (n : Int) := by omega
  have q5 : (5 : Int) < (n : Int) := by omega
  have q6 : (6 : Int) < (n : Int) := by omega
  have q7 : (7 : Int) < (n : Int) := by omega
  have hv : ((x0 + x1 * 256 + x2 * 65536 + x3 * 16777216 + x4 * 4294967296 + x5 * 1099511627776 + x6 * 281474976710656 + x7 * 72057594037927936 : Nat) : Int) = (x0 : Int) + (x1 : Int) * 256 + (x2 : Int) * 65536 + (x3 : Int) * 16777216 + (x4 : Int) * 4294967296 + (x5 : Int) * 1099511627776 + (x6 : Int) * 281474976710656 + (x7 : Int) * 72057594037927936 := by omega
  have HV := Lib.hid hv
  have HN := Lib.hid hn
  clear hv hn h8
  go_enter Tryd.func40, Tryd.ntmps40
  go_wp2
  go_quiet (fail)
  go_wp2
  go_ret
  refine ⟨?_, _, rfl⟩
  rw [HV.out]
  simp (disch := omega) only [u64_or8, u64_or16, u64_or24, u64_or32, u64_or40, u64_or48, u64_or56]
  rfl
end Go.Proofs.YtpamiglinmfgkaaDoor
