/- Contracts of formatBits, FormatUint at base 16. -/
import Derived.Test.YtbdgmpfdcmmfhaaDoorBnTz
import Derived.Test.YtbdgmpfdcmmfhaaDoorBnHex
import Derived.Laws.Slices
namespace Go.Proofs.YtbdgmpfdcmmfhaaDoor
open Go.RowKit
set_option maxRecDepth 100000

/-- The last k digits of n stand at the end of a block of 65 bytes. -/
structure DgAt (w : World) (g n k : Nat) : Prop where
  whole : ∃ cs : Array Value, cs.size = 65 ∧ Whole w g 93 cs ∧ ∀ j, j < k → cs[64 - j]? = some (.int .u8 ((hexC (n / 16 ^ j % 16) : Nat) : Nat))
theorem DgAt.cell {w : World} {g n k : Nat} (h : DgAt w g n k) (i : Nat) (hi : i < 65) : ∃ v, w.cell? ⟨g, i, none⟩ = some v ∧ w.frozen? ⟨g, i, none⟩ = false := by
  obtain ⟨cs, h1, h2, _⟩ := h.whole
  exact ⟨cs[i], by rw [h2.cell]; simp [h1, hi], h2.free i⟩
theorem DgAt.put {w : World} {g n k : Nat} (h : DgAt w g n k) (hk : k ≤ 4) {d : Nat} (hd : d = hexC (n / 16 ^ k % 16)) : DgAt (w.setCell ⟨g, 64 - k, none⟩ (.int .u8 (d : Nat))) g n (k + 1) := by
  obtain ⟨cs, h1, h2, h3⟩ := h.whole
  refine ⟨⟨cs.setIfInBounds (64 - k) (.int .u8 (d : Nat)), by simp [h1], h2.put _ _, fun j hj => ?_⟩⟩
  by_cases e : j = k
  · subst e
    rw [Array.getElem?_setIfInBounds_self_of_lt (by omega), hd]
  · rw [Array.getElem?_setIfInBounds_ne (by omega)]
    exact h3 j (by omega)
theorem DgAt.bytes {w : World} {g n k : Nat} (h : DgAt w g n (k + 1)) (hk : k ≤ 4) : Bytes w (some ⟨g, 64 - k, none⟩) (digL n k) := by
  obtain ⟨cs, h1, h2, h3⟩ := h.whole
  refine ⟨digL_lt n k, by rw [digL_len]; omega, .inr ⟨g, 64 - k, rfl, fun i hi => ?_⟩⟩
  rw [digL_len] at hi
  rw [h2.cell]
  have := h3 (k - i) (by omega)
  rw [show 64 - (k - i) = 64 - k + i by omega] at this
  rw [this]
  simp [digL, hi]

theorem run_tail65 (w : World) (g t : Nat) (ht : t < 65) : (Instr.sliceAt 93 (.pointer (some ⟨g, 0, none⟩)) (some (.int .i64 (t : Nat))) none none).run Tryd.prog w = .ok (.slice (some ⟨g, t, none⟩) (65 - t) (65 - t)) w := by
  have ht' : Tryd.prog.underlying 93 = some (.array (Tryd.prog.arrayLen 93) (Tryd.prog.elem 93)) := by simp [Program.elem, Program.arrayLen, Tryd.underlying93]
  have he : Tryd.prog.elem 93 = 5 := by simp [Program.elem, Tryd.underlying93]
  have hl : Tryd.prog.arrayLen 93 = 65 := by simp [Program.arrayLen, Tryd.underlying93]
  have hz : (Go.sizeOf 5).run Tryd.prog w = .ok 1 w := by kernel_rfl
  rw [run_sliceAt_array_l w _ _ ht' .i64 _ (by omega) (by omega), he, hz, hl]
  have : ¬ 65 = t := by omega
  simp [Result.andThen, slicedAt, Addr.add, this]
  omega

set_option maxHeartbeats 4000000 in
theorem fbits_any {w : World} (n : Nat) (hn : n ≤ 65536) (h : Bt w) :
    Calls Tryd.prog 47 #[.slice none 0 0, .int .u64 (n : Nat), .int .i64 16, .bool false, .bool false] w fun e w' => e = .returned (.tuple #[.slice none 0 0, .string (strOf (digL n (digN n)))]) ∧ Frm [] w w' := by
  have HP := Lib.hid (fun z => ispow_any z)
  have HT := Lib.hid (fun z (hz : Frm [] w z) => tz_any (h.keep hz (by simp)))
  clear h
  obtain ⟨g, hg⟩ : ∃ g, g = w.heap.size := ⟨_, rfl⟩
  have F1 : Hid (Frm [] w (w.alloc (.cells Tryd.zeroCells93 93))) := Lib.hid ((Frm.refl _ _).alloc _)
  have D0 : Hid (DgAt (w.alloc (.cells Tryd.zeroCells93 93)) g n 0) := Lib.hid (by rw [hg]; exact ⟨⟨_, by kernel_rfl, Whole.made _ _ _, fun j hj => by omega⟩⟩)
  have HG := Lib.hid hg
  obtain ⟨S, hS⟩ : ∃ S, S = strOf (digL n (digN n)) := ⟨_, rfl⟩
  rw [← hS]
  have HS := Lib.hid hS
  clear hS
  have b15 : IntKind.u64.wrap (16 - 1) = 15 := by decide
  go_enter Tryd.func47, Tryd.ntmps47
  go_wp2_with fail
  rw [← hg]
  clear hg
  obtain ⟨W1, hW1⟩ : ∃ W1, W1 = w.alloc (.cells Tryd.zeroCells93 93) := ⟨_, rfl⟩
  rw [← hW1] at F1 D0 ⊢
  clear hW1
  (with_reducible refine (HP.out _).mono ?_)
  rintro e z ⟨rfl, hz⟩
  obtain rfl : W1 = z := hz.symm
  go_wp2_with fail
  (with_reducible refine (HT.out _ F1.out).mono ?_)
  rintro e z ⟨rfl, hz⟩
  obtain rfl : W1 = z := hz.symm
  go_wp2
  go_loopw [1, 13] (fun u1 u13 wr => ∃ k t u : Nat, k ≤ 4 ∧ t + k = 65 ∧ u1 = .int .u64 (u : Nat) ∧ u13 = .int .i64 (t : Nat) ∧ Hid (u = n / 16 ^ k) ∧ Hid (0 < k → 16 ≤ n / 16 ^ (k - 1)) ∧ Hid (DgAt wr g n k) ∧ Hid (Frm [] w wr)) (fun u1 _ _ => (intOf u1).toNat)
  case atStart => exact ⟨0, 65, n, by omega, by omega, rfl, rfl, Lib.hid (by simp), Lib.hid (by omega), D0, F1⟩
  case round =>
    obtain ⟨k, t, u, hk4, htk, rfl, rfl, HU, HU1, HD, HF⟩ := hrel
    have hu6 : u ≤ 65536 := by rw [HU.out]; exact Nat.le_trans (Nat.div_le_self _ _) hn
    obtain ⟨t1, ht1⟩ : ∃ t1, t1 = 64 - k := ⟨_, rfl⟩
    have a1 : (t : Int) - 1 = (t1 : Int) := by omega
    have a2 : IntKind.i64.wrap (t1 : Int) = (t1 : Int) := IntWalk.i64_in _ (by omega)
    have a3 : IntKind.i64.wrap ((t : Int) - 1) = (t1 : Int) := by rw [a1]; exact a2
    have a4 : (t1 : Int) < 65 := by omega
    obtain ⟨v0, c0, f0⟩ := HD.out.cell t1 (by omega)
    by_cases hge : 16 ≤ u
    · have hge' : (16 : Int) ≤ (u : Int) := by omega
      have hx := and15 u (by omega)
      obtain ⟨r, hr⟩ : ∃ r, r = u % 16 := ⟨_, rfl⟩
      have hr16 : r < 16 := by omega
      rw [← hr] at hx
      obtain ⟨d, hd⟩ : ∃ d, d = hexC r := ⟨_, rfl⟩
      have e1 : ∀ h, ((⟨#[48, 49, 50, 51, 52, 53, 54, 55, 56, 57, 97, 98, 99, 100, 101, 102, 103, 104, 105, 106, 107, 108, 109, 110, 111, 112, 113, 114, 115, 116, 117, 118, 119, 120, 121, 122]⟩ : ByteArray)[r]'h).toNat = d := fun h => by
        have e := hexC_at r hr16
        rw [hd]
        have h2 : r < digS.data.size := h
        rw [Array.getElem?_eq_getElem h2] at e
        exact Option.some.inj e
      obtain ⟨u2, hu2⟩ : ∃ u2, u2 = u / 16 := ⟨_, rfl⟩
      have d1 : (u : Int) / 16 = (u2 : Int) := by omega
      have HR := Lib.hid hr
      have HDD := Lib.hid hd
      have HU2 := Lib.hid hu2
      have HT1 := Lib.hid ht1
      clear hr hd hu2 ht1
      have hk3 : k ≤ 3 := by
        rcases Nat.lt_or_ge k 4 with h | h
        · omega
        · exfalso
          obtain rfl : k = 4 := by omega
          have := HU.out
          simp at this
          omega
      have NU : Hid (u2 = n / 16 ^ (k + 1)) := Lib.hid (by rw [HU2.out, HU.out, Nat.pow_succ, Nat.div_div_eq_div_mul])
      have NL : Hid (0 < k + 1 → 16 ≤ n / 16 ^ (k + 1 - 1)) := Lib.hid (fun _ => by rw [Nat.add_sub_cancel, ← HU.out]; exact hge)
      have ND : Hid (DgAt (wr.setCell ⟨g, t1, none⟩ (.int .u8 (d : Nat))) g n (k + 1)) := Lib.hid (by
        rw [HT1.out]
        exact HD.out.put hk4 (by rw [HDD.out, HR.out, HU.out]))
      have NF : Hid (Frm [] w (wr.setCell ⟨g, t1, none⟩ (.int .u8 (d : Nat)))) := Lib.hid (HF.out.setCell (.inr (by show w.heap.size ≤ g; have := HG.out; omega)) _)
      go_wp2
      go_roundw
      case rel => exact ⟨k + 1, t1, u2, by omega, by have := HT1.out; omega, rfl, rfl, NU, NL, ND, NF⟩
      case measure => have := HU2.out; simp [intOf]; omega
    · have hge' : ¬ ((16 : Int) ≤ (u : Int)) := by omega
      have hu16 : (u : Int) < 16 := by omega
      have hu15 : u < 16 := by omega
      obtain ⟨d, hd⟩ : ∃ d, d = hexC u := ⟨_, rfl⟩
      have e1 : ∀ h, ((⟨#[48, 49, 50, 51, 52, 53, 54, 55, 56, 57, 97, 98, 99, 100, 101, 102, 103, 104, 105, 106, 107, 108, 109, 110, 111, 112, 113, 114, 115, 116, 117, 118, 119, 120, 121, 122]⟩ : ByteArray)[u]'h).toNat = d := fun h => by
        have e := hexC_at u hu15
        rw [hd]
        have h2 : u < digS.data.size := h
        rw [Array.getElem?_eq_getElem h2] at e
        exact Option.some.inj e
      have KN : Hid (digN n = k) := Lib.hid (digN_is hn hk4 (by rw [← HU.out]; omega) HU1.out)
      have ND : Hid (DgAt (wr.setCell ⟨g, t1, none⟩ (.int .u8 (d : Nat))) g n (k + 1)) := Lib.hid (by
        rw [ht1]
        exact HD.out.put hk4 (by rw [hd, HU.out, Nat.mod_eq_of_lt (by rw [← HU.out]; omega)]))
      have NF : Hid (Frm [] w (wr.setCell ⟨g, t1, none⟩ (.int .u8 (d : Nat)))) := Lib.hid (HF.out.setCell (.inr (by show w.heap.size ≤ g; have := HG.out; omega)) _)
      have HT1 := Lib.hid ht1
      clear hd ht1 hge
      have SL : ∀ z, (Instr.sliceAt 93 (.pointer (some ⟨g, 0, none⟩)) (some (.int .i64 (t1 : Nat))) none none).run Tryd.prog z = .ok (.slice (some ⟨g, t1, none⟩) (65 - t1) (65 - t1)) z := fun z => run_tail65 z g t1 (by omega)
      have CV : (convert 46 9 (.slice (some ⟨g, t1, none⟩) (65 - t1) (65 - t1))).run Tryd.prog (wr.setCell ⟨g, t1, none⟩ (.int .u8 (d : Nat))) = .ok (.string (strOf (digL n k))) (wr.setCell ⟨g, t1, none⟩ (.int .u8 (d : Nat))) :=
        run_to_string Tryd.underlying46 Tryd.underlying5 Tryd.underlying9 (by have := ND.out.bytes hk4; rwa [← HT1.out] at this) (by rw [digL_len]; have := HT1.out; omega)
      rw [show strOf (digL n k) = S by rw [HS.out, KN.out]] at CV
      obtain ⟨m, hm⟩ : ∃ m, m = 65 - t1 := ⟨_, rfl⟩
      rw [← hm] at SL CV
      clear hm
      go_wp2
      go_ret2
      exact ⟨rfl, NF.out⟩

set_option maxHeartbeats 1000000 in
theorem ifmt_any {w : World} (n : Nat) (hn : n ≤ 65536) (h : Bt w) :
    Calls Tryd.prog 37 #[.int .u64 (n : Nat), .int .i64 16] w fun e w' => e = .returned (.string (strOf (digL n (digN n)))) ∧ Frm [] w w' := by
  have H := Lib.hid (fbits_any n hn h)
  obtain ⟨S, hS⟩ : ∃ S, S = strOf (digL n (digN n)) := ⟨_, rfl⟩
  rw [← hS] at H ⊢
  clear hS
  go_enter Tryd.func37, Tryd.ntmps37
  go_wp2_with fail
  (with_reducible refine H.out.mono ?_)
  rintro e z ⟨rfl, hz⟩
  have HZ := Lib.hid hz
  clear hz
  go_wp2
  go_ret
  exact ⟨rfl, HZ.out⟩
set_option maxHeartbeats 1000000 in
theorem fmt_any {w : World} (n : Nat) (hn : n ≤ 65536) (h : Bt w) :
    Calls Tryd.prog 33 #[.int .u64 (n : Nat), .int .i64 16] w fun e w' => e = .returned (.string (strOf (digL n (digN n)))) ∧ Frm [] w w' := by
  have H := Lib.hid (ifmt_any n hn h)
  obtain ⟨S, hS⟩ : ∃ S, S = strOf (digL n (digN n)) := ⟨_, rfl⟩
  rw [← hS] at H ⊢
  clear hS
  go_enter Tryd.func33, Tryd.ntmps33
  go_wp2_with fail
  (with_reducible refine H.out.mono ?_)
  rintro e z ⟨rfl, hz⟩
  have HZ := Lib.hid hz
  clear hz
  go_wp2
  go_ret
  exact ⟨rfl, HZ.out⟩
end Go.Proofs.YtbdgmpfdcmmfhaaDoor
