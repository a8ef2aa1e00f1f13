/- (For PackReads' own seat.) Contracts of the reference's Reader, with faults. -/
import Derived.Test.YtpamiglinmfgkaaDoorPdAwake
import Derived.Test.YtpamiglinmfgkaaDoorCut
namespace Go.Proofs.YtpamiglinmfgkaaDoor
open Go.RowKit

theorem size_byte (w : World) : (Go.sizeOf 5).run Tryd.prog w = .ok 1 w := by kernel_rfl
/-- The reference's reader at block rb has the bytes l left, and no fault. -/
structure RR (w : World) (rb : Nat) (l : List Nat) (a : Option Addr) (cap : Nat) : Prop where
  whole : Whole w rb 26 #[.slice a l.length cap, .int .i64 0]
  bytes : Bytes w a l
  le : l.length ≤ cap
  nil : a = none → cap = 0
  apart : l ≠ [] → ∀ x, a = some x → x.block ≠ rb

theorem val_take_succ (l : List Nat) (i : Nat) (h : i < l.length) : val (l.take (i + 1)) = val (l.take i) * 256 + l.getD i 0 := by
  rw [take_snoc_getD h, val_snoc]
theorem val_take_lt8 {l : List Nat} (h8 : ∀ c ∈ l, c < 256) (i : Nat) (h : i < 8) : val (l.take i) < 72057594037927936 := by
  have h1 := val_lt (l.take i) (fun c hc => h8 c (List.mem_of_mem_take hc))
  have h2 : (l.take i).length ≤ 7 := by rw [List.length_take]; omega
  exact Nat.lt_of_lt_of_le h1 (Nat.le_trans (Nat.pow_le_pow_right (by omega) h2) (by decide))

/-- Behind Number: the reader is further on. -/
theorem RR.next {w : World} {rb : Nat} {l : List Nat} {a : Option Addr} {cap : Nat} (h : RR w rb l a cap) (k : Nat) :
    RR (w.setCell ⟨rb, 0, none⟩ (.slice (cutAt a cap k) (l.length - k) (cap - k))) rb (l.drop k) (cutAt a cap k) (cap - k) := by
  have hf : Frm [rb] w (w.setCell ⟨rb, 0, none⟩ (.slice (cutAt a cap k) (l.length - k) (cap - k))) := (Frm.refl _ _).setCell (.inl (by simp)) _
  have hap : l.drop k ≠ [] → ∀ x, cutAt a cap k = some x → x.block ≠ rb := fun hne x hx => by
    obtain ⟨y, hy, hb⟩ := cut_block hx
    rw [hb]; exact h.apart (fun h0 => hne (by rw [h0]; simp)) y hy
  refine ⟨?_, hf.bytes' (cut_bytes h.bytes h.le k) (fun hne x hx => by simpa using hap hne x hx), by simp; have := h.le; omega, fun hn => cut_none h.nil hn, hap⟩
  simpa using h.whole.put 0 (.slice (cutAt a cap k) (l.length - k) (cap - k))

/-- What Number hands back. -/
def Numbered (w : World) (rb : Nat) (l : List Nat) (a : Option Addr) (cap k : Nat) (e : Ending) (w' : World) : Prop :=
  e = .returned (.int .u64 (val (l.take k) : Nat)) ∧ w' = w.setCell ⟨rb, 0, none⟩ (.slice (cutAt a cap k) (l.length - k) (cap - k))

set_option maxHeartbeats 1000000 in
theorem ref_number_ok {w : World} {rb : Nat} {l : List Nat} {a : Option Addr} {cap : Nat} (k : Nat) (h : RR w rb l a cap) (hk : k ≤ l.length) (hk8 : k ≤ 8) :
    Calls Tryd.prog 22 #[.pointer (some ⟨rb, 0, none⟩), .int .i64 k] w (Numbered w rb l a cap k) := by
  have c0 := h.whole.cell 0
  have c1 := h.whole.cell 1
  have f0 := h.whole.free 0
  simp at c0 c1
  have hll := h.bytes.2.1
  have hcut := fun (w : World) => run_cut_l (P := Tryd.prog) Tryd.underlying22 size_byte w a l.length cap k (k : Int) rfl hk
  obtain ⟨a2, ha2⟩ : ∃ a2, a2 = cutAt a cap k := ⟨_, rfl⟩
  obtain ⟨n2, hn2⟩ : ∃ n2, n2 = l.length - k := ⟨_, rfl⟩
  obtain ⟨c2, hc2⟩ : ∃ c2, c2 = cap - k := ⟨_, rfl⟩
  rw [← ha2, ← hn2, ← hc2] at hcut
  have E1 := Lib.hid ha2; clear ha2
  have E2 := Lib.hid hn2; clear hn2
  have E3 := Lib.hid hc2; clear hc2
  have HB := Lib.hid h.bytes
  have HLE := h.le
  clear h
  go_enter Tryd.func22, Tryd.ntmps22
  go_wp2
  go_loop [5, 6] (fun n i => ∃ j : Nat, j ≤ k ∧ i = .int .i64 j ∧ n = .int .u64 (val (l.take j) : Nat)) (fun _ i => k - (intOf i).toNat)
  case atStart => exact ⟨0, Nat.zero_le _, rfl, rfl⟩
  case round =>
    obtain ⟨j, hj, rfl, rfl⟩ := hrel
    by_cases hlt : j < k
    · have hx := val_take_lt8 HB.out.1 j (by omega)
      have hs := val_take_succ l j (by omega)
      have hc8 := getD_lt HB.out.1 j
      obtain ⟨b, off, rfl, hcl⟩ : ∃ b off, a = some ⟨b, off, none⟩ ∧ w.cell? ⟨b, off + j, none⟩ = some (.int .u8 (l.getD j 0 : Nat)) := by
        rcases HB.out.2.2 with h | ⟨b, off, h, hh⟩
        · rw [h] at hk; simp at hk; omega
        · exact ⟨b, off, h, hh j (by omega)⟩
      obtain ⟨x, hx'⟩ : ∃ x, x = val (l.take j) := ⟨_, rfl⟩
      obtain ⟨c, hc'⟩ : ∃ c, c = l.getD j 0 := ⟨_, rfl⟩
      rw [← hx', ← hc'] at hs
      rw [← hx'] at hx ⊢
      rw [← hc'] at hc8 hcl
      have HX := Lib.hid hx'; clear hx'
      have HC := Lib.hid hc'; clear hc'
      have HS := Lib.hid hs; clear hs
      have hlj : (j : Int) < (l.length : Int) := by omega
      go_wp2
      go_round
      case rel => exact ⟨j + 1, by omega, by go_num, same_int (by rw [HS.out]; omega)⟩
      case measure => simp [intOf]; omega
    · obtain rfl : j = k := by omega
      go_wp2
      go_ret
      exact ⟨rfl, by rw [E1.out, E2.out, E3.out]⟩
end Go.Proofs.YtpamiglinmfgkaaDoor
