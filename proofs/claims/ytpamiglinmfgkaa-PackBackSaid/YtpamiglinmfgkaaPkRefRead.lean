/- Contracts of the reference's Reader: Number; and of its Unframe. -/
import Derived.Test.YtpamiglinmfgkaaPkUnframe
namespace Go.Proofs.Ytpamiglinmfgkaa
open Go.RowKit

/-- The reference's reader at block rb has the bytes l left, and no fault. -/
structure RR (w : World) (rb : Nat) (l : List Nat) (a : Option Addr) (cap : Nat) : Prop where
  whole : Whole w rb 86 #[.slice a l.length cap, .int .i64 0]
  bytes : Bytes w a l
  le : l.length ≤ cap
  nil : a = none → cap = 0
  apart : l ≠ [] → ∀ x, a = some x → x.block ≠ rb

theorem val_take_succ (l : List Nat) (i : Nat) (h : i < l.length) : val (l.take (i + 1)) = val (l.take i) * 256 + l.getD i 0 := by
  rw [take_snoc_getD h, val_snoc]
theorem val_take_lt8 {l : List Nat} (h8 : ∀ c ∈ l, c < 256) (i : Nat) (h : i < 8) : val (l.take i) < 72057594037927936 := by
  have h1 := val_lt (l.take i) (fun c hc => h8 c (List.mem_of_mem_take hc))
  have h2 : (l.take i).length ≤ 7 := by rw [List.length_take]; omega
  exact Nat.lt_of_lt_of_le h1 (Nat.le_trans (Nat.pow_le_pow_right (by omega) h2) (by decide))

/-- Behind Number: the reader is further on. -/
theorem RR.next {w : World} {rb : Nat} {l : List Nat} {a : Option Addr} {cap : Nat} (h : RR w rb l a cap) (k : Nat) :
    RR (w.setCell ⟨rb, 0, none⟩ (.slice (cutAt a cap k) (l.length - k) (cap - k))) rb (l.drop k) (cutAt a cap k) (cap - k) := by
  have hf : Frm [rb] w (w.setCell ⟨rb, 0, none⟩ (.slice (cutAt a cap k) (l.length - k) (cap - k))) := (Frm.refl _ _).setCell (.inl (by simp)) _
  have hap : l.drop k ≠ [] → ∀ x, cutAt a cap k = some x → x.block ≠ rb := fun hne x hx => by
    obtain ⟨y, hy, hb⟩ := cut_block hx
    rw [hb]; exact h.apart (fun h0 => hne (by rw [h0]; simp)) y hy
  refine ⟨?_, hf.bytes' (cut_bytes h.bytes h.le k) (fun hne x hx => by simpa using hap hne x hx), by simp; have := h.le; omega, fun hn => cut_none h.nil hn, hap⟩
  simpa using h.whole.put 0 (.slice (cutAt a cap k) (l.length - k) (cap - k))

/-- What Number hands back. -/
def Numbered (w : World) (rb : Nat) (l : List Nat) (a : Option Addr) (cap k : Nat) (e : Ending) (w' : World) : Prop :=
  e = .returned (.int .u64 (val (l.take k) : Nat)) ∧ w' = w.setCell ⟨rb, 0, none⟩ (.slice (cutAt a cap k) (l.length - k) (cap - k))

set_option maxHeartbeats 1000000 in
theorem ref_number_ok {w : World} {rb : Nat} {l : List Nat} {a : Option Addr} {cap : Nat} (k : Nat) (h : RR w rb l a cap) (hk : k ≤ l.length) (hk8 : k ≤ 8) :
    Calls Try.prog 47 #[.pointer (some ⟨rb, 0, none⟩), .int .i64 k] w (Numbered w rb l a cap k) := by
  have c0 := h.whole.cell 0
  have c1 := h.whole.cell 1
  have f0 := h.whole.free 0
  simp at c0 c1
  have hll := h.bytes.2.1
  have hcut := fun (w : World) => run_cut_l (P := Try.prog) Try.underlying26 size_byte w a l.length cap k (k : Int) rfl hk
  obtain ⟨a2, ha2⟩ : ∃ a2, a2 = cutAt a cap k := ⟨_, rfl⟩
  obtain ⟨n2, hn2⟩ : ∃ n2, n2 = l.length - k := ⟨_, rfl⟩
  obtain ⟨c2, hc2⟩ : ∃ c2, c2 = cap - k := ⟨_, rfl⟩
  rw [← ha2, ← hn2, ← hc2] at hcut
  have E1 := Lib.hid ha2; clear ha2
  have E2 := Lib.hid hn2; clear hn2
  have E3 := Lib.hid hc2; clear hc2
  have HB := Lib.hid h.bytes
  have HLE := h.le
  clear h
  go_enter Try.func47, Try.ntmps47
  go_wp2
  go_loop [5, 6] (fun n i => ∃ j : Nat, j ≤ k ∧ i = .int .i64 j ∧ n = .int .u64 (val (l.take j) : Nat)) (fun _ i => k - (intOf i).toNat)
  case atStart => exact ⟨0, Nat.zero_le _, rfl, rfl⟩
  case round =>
    obtain ⟨j, hj, rfl, rfl⟩ := hrel
    by_cases hlt : j < k
    · have hx := val_take_lt8 HB.out.1 j (by omega)
      have hs := val_take_succ l j (by omega)
      have hc8 := getD_lt HB.out.1 j
      obtain ⟨b, off, rfl, hcl⟩ : ∃ b off, a = some ⟨b, off, none⟩ ∧ w.cell? ⟨b, off + j, none⟩ = some (.int .u8 (l.getD j 0 : Nat)) := by
        rcases HB.out.2.2 with h | ⟨b, off, h, hh⟩
        · rw [h] at hk; simp at hk; omega
        · exact ⟨b, off, h, hh j (by omega)⟩
      obtain ⟨x, hx'⟩ : ∃ x, x = val (l.take j) := ⟨_, rfl⟩
      obtain ⟨c, hc'⟩ : ∃ c, c = l.getD j 0 := ⟨_, rfl⟩
      rw [← hx', ← hc'] at hs
      rw [← hx'] at hx ⊢
      rw [← hc'] at hc8 hcl
      have HX := Lib.hid hx'; clear hx'
      have HC := Lib.hid hc'; clear hc'
      have HS := Lib.hid hs; clear hs
      have hlj : (j : Int) < (l.length : Int) := by omega
      go_wp2
      go_round
      case rel => exact ⟨j + 1, by omega, by go_num, same_int (by rw [HS.out]; omega)⟩
      case measure => simp [intOf]; omega
    · obtain rfl : j = k := by omega
      go_wp2
      go_ret
      exact ⟨rfl, by rw [E1.out, E2.out, E3.out]⟩
/- == ref unframe -/
/-- The reference's Unframe answers a body and the rest. -/
def RUOk (w : World) (l : List Nat) (z : Nat) (e : Ending) (w' : World) : Prop :=
  ∃ a1 cap1 a2 cap2, e = .returned (.tuple #[.slice a1 z cap1, .slice a2 (l.length - (8 + z)) cap2, .int .i64 0]) ∧ Bytes w' a1 ((l.drop 8).take z) ∧ Bytes w' a2 (l.drop (8 + z)) ∧ Frm [] w w'

theorem ref_unframe_short (a : Option Addr) (n cap : Nat) (w : World) (h8 : n < 8) :
    Calls Try.prog 25 #[.slice a n cap] w (UnfErr w 4) := by
  go_enter Try.func25, Try.ntmps25
  go_wp2
  go_ret3
  exact ⟨rfl, Frm.refl _ _⟩

set_option maxHeartbeats 1000000 in
theorem ref_unframe_long (a : Option Addr) (n cap : Nat) (l : List Nat) (w : World) (hl : Bytes w a l) (hn : n = l.length) (hnc : n ≤ cap) (hnil : a = none → cap = 0) (z s : Nat) (hz : val (l.take 4) = z) (hs : val ((l.drop 4).take 4) = s) (h8 : 8 ≤ n) (hz4 : 4096 < z) :
    Calls Try.prog 25 #[.slice a n cap] w (UnfErr w 3) := by
  subst hn
  have hz32 : z < 4294967296 := by
    have := val_lt (l.take 4) (fun c hc => hl.1 c (List.mem_of_mem_take hc))
    rw [List.length_take, Nat.min_eq_left (by omega), hz] at this
    simpa using this
  have hs32 : s < 4294967296 := by
    have := val_lt ((l.drop 4).take 4) (fun c hc => hl.1 c (List.mem_of_mem_drop (List.mem_of_mem_take hc)))
    rw [List.length_take, Nat.min_eq_left (by simp; omega), hs] at this
    simpa using this
  have hll := hl.2.1
  have hf0 : Frm [] w (w.alloc (.cells #[.slice a l.length cap, .int .i64 0] 86)) := (Frm.refl _ _).alloc _
  have h0 : RR (w.alloc (.cells #[.slice a l.length cap, .int .i64 0] 86)) w.heap.size l a cap :=
    ⟨Whole.made _ _ _, hf0.bytes hl (by simp), hnc, hnil, fun hne x hx => by have := bytes_lt hl hne x hx; omega⟩
  have h1 := h0.next 4
  have h2 := h1.next 4
  rw [List.drop_drop] at h2
  have hf2 : Frm [] w (((w.alloc (.cells #[.slice a l.length cap, .int .i64 0] 86)).setCell ⟨w.heap.size, 0, none⟩ (.slice (cutAt a cap 4) (l.length - 4) (cap - 4))).setCell ⟨w.heap.size, 0, none⟩ (.slice (cutAt (cutAt a cap 4) (cap - 4) 4) ((l.drop 4).length - 4) (cap - 4 - 4))) :=
    (hf0.setCell (.inr (by simp)) _).setCell (.inr (by simp)) _
  have H0 := Lib.hid (ref_number_ok 4 h0 (by omega) (by omega))
  have H1 := Lib.hid (ref_number_ok 4 h1 (by simp; omega) (by omega))
  unfold Numbered at H0 H1
  rw [hz] at H0
  rw [hs] at H1
  have H2 := Lib.hid h2
  have HF2 := Lib.hid hf2
  have H8 := Lib.hid hl.1
  clear h0 h1 h2 hf0 hf2 hl hz hs hnil
  go_enter Try.func25, Try.ntmps25
  go_wp2_with fail
  refine H0.out.mono ?_
  rintro e w1 ⟨rfl, hw1⟩
  rw [← hw1] at H1 H2 HF2
  clear hw1
  go_wp2_with fail
  refine H1.out.mono ?_
  rintro e w2 ⟨rfl, hw2⟩
  rw [← hw2] at H2 HF2
  clear hw2
  have k0 := H2.out.whole.cell 0
  simp only [List.length_drop] at k0
  obtain ⟨a2, ha2⟩ : ∃ a2, a2 = cutAt (cutAt a cap 4) (cap - 4) 4 := ⟨_, rfl⟩
  obtain ⟨m, hm⟩ : ∃ m, m = l.length - (4 + 4) := ⟨_, rfl⟩
  obtain ⟨c2, hc2⟩ : ∃ c2, c2 = cap - 4 - 4 := ⟨_, rfl⟩
  have hb2 := H2.out.bytes
  have hle2 := H2.out.le
  have hnil2 := H2.out.nil
  rw [← ha2] at hb2 hnil2
  rw [← hc2] at hle2 hnil2
  rw [← ha2, ← hc2, ← hm] at k0
  simp at k0
  have HB2 := Lib.hid hb2; clear hb2
  have HM : Hid (m = (l.drop 8).length) := by show m = _; simp [hm]
  have HLE := Lib.hid hle2; clear hle2
  have hmle : m ≤ c2 := by have h := HLE.out; have h2 := HM.out; simp only [List.length_drop] at h h2; omega
  have hme : m = l.length - 8 := by omega
  have hm63 : m ≤ 9223372036854775807 := by omega
  have HNIL := Lib.hid hnil2; clear hnil2
  clear H0 H1 ha2 hc2 hm H2
  clear hme
  go_wp2
  go_ret3
  exact ⟨rfl, HF2.out⟩

set_option maxHeartbeats 1000000 in
theorem ref_unframe_less (a : Option Addr) (n cap : Nat) (l : List Nat) (w : World) (hl : Bytes w a l) (hn : n = l.length) (hnc : n ≤ cap) (hnil : a = none → cap = 0) (z s : Nat) (hz : val (l.take 4) = z) (hs : val ((l.drop 4).take 4) = s) (h8 : 8 ≤ n) (hz4 : z ≤ 4096) (hzn : n < 8 + z) :
    Calls Try.prog 25 #[.slice a n cap] w (UnfErr w 4) := by
  subst hn
  have hz32 : z < 4294967296 := by
    have := val_lt (l.take 4) (fun c hc => hl.1 c (List.mem_of_mem_take hc))
    rw [List.length_take, Nat.min_eq_left (by omega), hz] at this
    simpa using this
  have hs32 : s < 4294967296 := by
    have := val_lt ((l.drop 4).take 4) (fun c hc => hl.1 c (List.mem_of_mem_drop (List.mem_of_mem_take hc)))
    rw [List.length_take, Nat.min_eq_left (by simp; omega), hs] at this
    simpa using this
  have hll := hl.2.1
  have hf0 : Frm [] w (w.alloc (.cells #[.slice a l.length cap, .int .i64 0] 86)) := (Frm.refl _ _).alloc _
  have h0 : RR (w.alloc (.cells #[.slice a l.length cap, .int .i64 0] 86)) w.heap.size l a cap :=
    ⟨Whole.made _ _ _, hf0.bytes hl (by simp), hnc, hnil, fun hne x hx => by have := bytes_lt hl hne x hx; omega⟩
  have h1 := h0.next 4
  have h2 := h1.next 4
  rw [List.drop_drop] at h2
  have hf2 : Frm [] w (((w.alloc (.cells #[.slice a l.length cap, .int .i64 0] 86)).setCell ⟨w.heap.size, 0, none⟩ (.slice (cutAt a cap 4) (l.length - 4) (cap - 4))).setCell ⟨w.heap.size, 0, none⟩ (.slice (cutAt (cutAt a cap 4) (cap - 4) 4) ((l.drop 4).length - 4) (cap - 4 - 4))) :=
    (hf0.setCell (.inr (by simp)) _).setCell (.inr (by simp)) _
  have H0 := Lib.hid (ref_number_ok 4 h0 (by omega) (by omega))
  have H1 := Lib.hid (ref_number_ok 4 h1 (by simp; omega) (by omega))
  unfold Numbered at H0 H1
  rw [hz] at H0
  rw [hs] at H1
  have H2 := Lib.hid h2
  have HF2 := Lib.hid hf2
  have H8 := Lib.hid hl.1
  clear h0 h1 h2 hf0 hf2 hl hz hs hnil
  go_enter Try.func25, Try.ntmps25
  go_wp2_with fail
  refine H0.out.mono ?_
  rintro e w1 ⟨rfl, hw1⟩
  rw [← hw1] at H1 H2 HF2
  clear hw1
  go_wp2_with fail
  refine H1.out.mono ?_
  rintro e w2 ⟨rfl, hw2⟩
  rw [← hw2] at H2 HF2
  clear hw2
  have k0 := H2.out.whole.cell 0
  simp only [List.length_drop] at k0
  obtain ⟨a2, ha2⟩ : ∃ a2, a2 = cutAt (cutAt a cap 4) (cap - 4) 4 := ⟨_, rfl⟩
  obtain ⟨m, hm⟩ : ∃ m, m = l.length - (4 + 4) := ⟨_, rfl⟩
  obtain ⟨c2, hc2⟩ : ∃ c2, c2 = cap - 4 - 4 := ⟨_, rfl⟩
  have hb2 := H2.out.bytes
  have hle2 := H2.out.le
  have hnil2 := H2.out.nil
  rw [← ha2] at hb2 hnil2
  rw [← hc2] at hle2 hnil2
  rw [← ha2, ← hc2, ← hm] at k0
  simp at k0
  have HB2 := Lib.hid hb2; clear hb2
  have HM : Hid (m = (l.drop 8).length) := by show m = _; simp [hm]
  have HLE := Lib.hid hle2; clear hle2
  have hmle : m ≤ c2 := by have h := HLE.out; have h2 := HM.out; simp only [List.length_drop] at h h2; omega
  have hme : m = l.length - 8 := by omega
  have hm63 : m ≤ 9223372036854775807 := by omega
  have HNIL := Lib.hid hnil2; clear hnil2
  clear H0 H1 ha2 hc2 hm H2
  have hmz : m < z := by omega
  clear hme
  go_wp2
  go_ret3
  exact ⟨rfl, HF2.out⟩

set_option maxHeartbeats 1000000 in
theorem ref_unframe_sum (a : Option Addr) (n cap : Nat) (l : List Nat) (w : World) (hl : Bytes w a l) (hn : n = l.length) (hnc : n ≤ cap) (hnil : a = none → cap = 0) (z s : Nat) (hz : val (l.take 4) = z) (hs : val ((l.drop 4).take 4) = s) (h8 : 8 ≤ n) (hz4 : z ≤ 4096) (hzn : 8 + z ≤ n) (q : Nat) (hq : sumN ((l.drop 8).take z) = q) (hne : q ≠ s) :
    Calls Try.prog 25 #[.slice a n cap] w (UnfErr w 7) := by
  have HSUM := Lib.hid hq
  have hq32 : q < 4294967296 := by rw [← hq]; exact sumN_lt (fun c hc => hl.1 c (List.mem_of_mem_drop (List.mem_of_mem_take hc)))
  clear hq
  subst hn
  have hz32 : z < 4294967296 := by
    have := val_lt (l.take 4) (fun c hc => hl.1 c (List.mem_of_mem_take hc))
    rw [List.length_take, Nat.min_eq_left (by omega), hz] at this
    simpa using this
  have hs32 : s < 4294967296 := by
    have := val_lt ((l.drop 4).take 4) (fun c hc => hl.1 c (List.mem_of_mem_drop (List.mem_of_mem_take hc)))
    rw [List.length_take, Nat.min_eq_left (by simp; omega), hs] at this
    simpa using this
  have hll := hl.2.1
  have hf0 : Frm [] w (w.alloc (.cells #[.slice a l.length cap, .int .i64 0] 86)) := (Frm.refl _ _).alloc _
  have h0 : RR (w.alloc (.cells #[.slice a l.length cap, .int .i64 0] 86)) w.heap.size l a cap :=
    ⟨Whole.made _ _ _, hf0.bytes hl (by simp), hnc, hnil, fun hne x hx => by have := bytes_lt hl hne x hx; omega⟩
  have h1 := h0.next 4
  have h2 := h1.next 4
  rw [List.drop_drop] at h2
  have hf2 : Frm [] w (((w.alloc (.cells #[.slice a l.length cap, .int .i64 0] 86)).setCell ⟨w.heap.size, 0, none⟩ (.slice (cutAt a cap 4) (l.length - 4) (cap - 4))).setCell ⟨w.heap.size, 0, none⟩ (.slice (cutAt (cutAt a cap 4) (cap - 4) 4) ((l.drop 4).length - 4) (cap - 4 - 4))) :=
    (hf0.setCell (.inr (by simp)) _).setCell (.inr (by simp)) _
  have H0 := Lib.hid (ref_number_ok 4 h0 (by omega) (by omega))
  have H1 := Lib.hid (ref_number_ok 4 h1 (by simp; omega) (by omega))
  unfold Numbered at H0 H1
  rw [hz] at H0
  rw [hs] at H1
  have H2 := Lib.hid h2
  have HF2 := Lib.hid hf2
  have H8 := Lib.hid hl.1
  clear h0 h1 h2 hf0 hf2 hl hz hs hnil
  go_enter Try.func25, Try.ntmps25
  go_wp2_with fail
  refine H0.out.mono ?_
  rintro e w1 ⟨rfl, hw1⟩
  rw [← hw1] at H1 H2 HF2
  clear hw1
  go_wp2_with fail
  refine H1.out.mono ?_
  rintro e w2 ⟨rfl, hw2⟩
  rw [← hw2] at H2 HF2
  clear hw2
  have k0 := H2.out.whole.cell 0
  simp only [List.length_drop] at k0
  obtain ⟨a2, ha2⟩ : ∃ a2, a2 = cutAt (cutAt a cap 4) (cap - 4) 4 := ⟨_, rfl⟩
  obtain ⟨m, hm⟩ : ∃ m, m = l.length - (4 + 4) := ⟨_, rfl⟩
  obtain ⟨c2, hc2⟩ : ∃ c2, c2 = cap - 4 - 4 := ⟨_, rfl⟩
  have hb2 := H2.out.bytes
  have hle2 := H2.out.le
  have hnil2 := H2.out.nil
  rw [← ha2] at hb2 hnil2
  rw [← hc2] at hle2 hnil2
  rw [← ha2, ← hc2, ← hm] at k0
  simp at k0
  have HB2 := Lib.hid hb2; clear hb2
  have HM : Hid (m = (l.drop 8).length) := by show m = _; simp [hm]
  have HLE := Lib.hid hle2; clear hle2
  have hmle : m ≤ c2 := by have h := HLE.out; have h2 := HM.out; simp only [List.length_drop] at h h2; omega
  have hme : m = l.length - 8 := by omega
  have hm63 : m ≤ 9223372036854775807 := by omega
  have HNIL := Lib.hid hnil2; clear hnil2
  clear H0 H1 ha2 hc2 hm H2
  have hmz : z ≤ m := by omega
  clear hme
  have HZL : Hid (z = ((l.drop 8).take z).length) := by show z = _; have h2 := HM.out; simp only [List.length_drop] at h2; simp; omega
  go_wp2_with fail
  refine (ref_sum_eq _ _ _ ((l.drop 8).take z) _ q HSUM.out (HB2.out.take z) HZL.out).mono ?_
  rintro e w' ⟨rfl, rfl⟩
  have hnb : ((q : Int) == (s : Int)) = false := by simp; omega
  have hnb2 : ((q : Int) != (s : Int)) = true := by simp; omega
  clear hne
  go_wp2
  go_ret3
  exact ⟨rfl, HF2.out⟩

set_option maxHeartbeats 1000000 in
theorem ref_unframe_ok (a : Option Addr) (n cap : Nat) (l : List Nat) (w : World) (hl : Bytes w a l) (hn : n = l.length) (hnc : n ≤ cap) (hnil : a = none → cap = 0) (z s : Nat) (hz : val (l.take 4) = z) (hs : val ((l.drop 4).take 4) = s) (h8 : 8 ≤ n) (hz4 : z ≤ 4096) (hzn : 8 + z ≤ n) (hq : sumN ((l.drop 8).take z) = s) :
    Calls Try.prog 25 #[.slice a n cap] w (RUOk w l z) := by
  have HSUM := Lib.hid hq
  clear hq
  subst hn
  have hz32 : z < 4294967296 := by
    have := val_lt (l.take 4) (fun c hc => hl.1 c (List.mem_of_mem_take hc))
    rw [List.length_take, Nat.min_eq_left (by omega), hz] at this
    simpa using this
  have hs32 : s < 4294967296 := by
    have := val_lt ((l.drop 4).take 4) (fun c hc => hl.1 c (List.mem_of_mem_drop (List.mem_of_mem_take hc)))
    rw [List.length_take, Nat.min_eq_left (by simp; omega), hs] at this
    simpa using this
  have hll := hl.2.1
  have hf0 : Frm [] w (w.alloc (.cells #[.slice a l.length cap, .int .i64 0] 86)) := (Frm.refl _ _).alloc _
  have h0 : RR (w.alloc (.cells #[.slice a l.length cap, .int .i64 0] 86)) w.heap.size l a cap :=
    ⟨Whole.made _ _ _, hf0.bytes hl (by simp), hnc, hnil, fun hne x hx => by have := bytes_lt hl hne x hx; omega⟩
  have h1 := h0.next 4
  have h2 := h1.next 4
  rw [List.drop_drop] at h2
  have hf2 : Frm [] w (((w.alloc (.cells #[.slice a l.length cap, .int .i64 0] 86)).setCell ⟨w.heap.size, 0, none⟩ (.slice (cutAt a cap 4) (l.length - 4) (cap - 4))).setCell ⟨w.heap.size, 0, none⟩ (.slice (cutAt (cutAt a cap 4) (cap - 4) 4) ((l.drop 4).length - 4) (cap - 4 - 4))) :=
    (hf0.setCell (.inr (by simp)) _).setCell (.inr (by simp)) _
  have H0 := Lib.hid (ref_number_ok 4 h0 (by omega) (by omega))
  have H1 := Lib.hid (ref_number_ok 4 h1 (by simp; omega) (by omega))
  unfold Numbered at H0 H1
  rw [hz] at H0
  rw [hs] at H1
  have H2 := Lib.hid h2
  have HF2 := Lib.hid hf2
  have H8 := Lib.hid hl.1
  clear h0 h1 h2 hf0 hf2 hl hz hs hnil
  go_enter Try.func25, Try.ntmps25
  go_wp2_with fail
  refine H0.out.mono ?_
  rintro e w1 ⟨rfl, hw1⟩
  rw [← hw1] at H1 H2 HF2
  clear hw1
  go_wp2_with fail
  refine H1.out.mono ?_
  rintro e w2 ⟨rfl, hw2⟩
  rw [← hw2] at H2 HF2
  clear hw2
  have k0 := H2.out.whole.cell 0
  simp only [List.length_drop] at k0
  obtain ⟨a2, ha2⟩ : ∃ a2, a2 = cutAt (cutAt a cap 4) (cap - 4) 4 := ⟨_, rfl⟩
  obtain ⟨m, hm⟩ : ∃ m, m = l.length - (4 + 4) := ⟨_, rfl⟩
  obtain ⟨c2, hc2⟩ : ∃ c2, c2 = cap - 4 - 4 := ⟨_, rfl⟩
  have hb2 := H2.out.bytes
  have hle2 := H2.out.le
  have hnil2 := H2.out.nil
  rw [← ha2] at hb2 hnil2
  rw [← hc2] at hle2 hnil2
  rw [← ha2, ← hc2, ← hm] at k0
  simp at k0
  have HB2 := Lib.hid hb2; clear hb2
  have HM : Hid (m = (l.drop 8).length) := by show m = _; simp [hm]
  have HLE := Lib.hid hle2; clear hle2
  have hmle : m ≤ c2 := by have h := HLE.out; have h2 := HM.out; simp only [List.length_drop] at h h2; omega
  have hme : m = l.length - 8 := by omega
  have hm63 : m ≤ 9223372036854775807 := by omega
  have HNIL := Lib.hid hnil2; clear hnil2
  clear H0 H1 ha2 hc2 hm H2
  have hmz : z ≤ m := by omega
  clear hme
  have HZL : Hid (z = ((l.drop 8).take z).length) := by show z = _; have h2 := HM.out; simp only [List.length_drop] at h2; simp; omega
  go_wp2_with fail
  refine (ref_sum_eq _ _ _ ((l.drop 8).take z) _ s HSUM.out (HB2.out.take z) HZL.out).mono ?_
  rintro e w' ⟨rfl, rfl⟩
  have hnb2 : ((s : Int) != (s : Int)) = false := by simp
  have hcut := fun (w : World) => run_cut_l (P := Try.prog) Try.underlying26 size_byte w a2 m c2 z (z : Int) rfl hmz .u64
  have hb3 := cut_bytes HB2.out HLE.out z
  rw [List.drop_drop] at hb3
  obtain ⟨a3, ha3⟩ : ∃ a3, a3 = cutAt a2 c2 z := ⟨_, rfl⟩
  obtain ⟨n3, hn3⟩ : ∃ n3, n3 = m - z := ⟨_, rfl⟩
  obtain ⟨c3, hc3⟩ : ∃ c3, c3 = c2 - z := ⟨_, rfl⟩
  rw [← ha3, ← hn3, ← hc3] at hcut
  rw [← ha3] at hb3
  have HB3 := Lib.hid hb3; clear hb3
  have HN3 : Hid (n3 = l.length - (8 + z)) := by show n3 = _; have h2 := HM.out; simp only [List.length_drop] at h2; omega
  clear ha3 hn3 hc3
  go_wp2
  go_quiet (fail)
  go_wp2
  go_ret3
  exact ⟨a2, c2, a3, c3, by rw [← HN3.out]; rfl, (HB2.out.take z), HB3.out, HF2.out.drewN _⟩
end Go.Proofs.Ytpamiglinmfgkaa
