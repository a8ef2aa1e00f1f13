/- LeaseMany: the walk. -/
import Derived.Test.YtefplgligmkbiaaLsLv
namespace Go.Proofs.Ytefplgligmkbiaa
open Go.RowKit

def MyRel (w : World) (p n : Nat) (s7 s28 : Value) (wr : World) : Prop :=
  ∃ (k : Nat) (X : List Sn), k ≤ 16 ∧ s28 = .int .i64 (k : Nat) ∧ s7 = .int .u64 ((n + k : Nat) : Nat) ∧ Hid (X.length = k) ∧ Hid (Lv w wr p (n + k) X)
def MzRel (w : World) (p n m : Nat) (s7 s47 : Value) (wr : World) : Prop :=
  ∃ (k : Nat) (X : List Sn), k ≤ m ∧ k ≤ 41 ∧ s47 = .int .i64 (k : Nat) ∧ s7 = .int .u64 ((n + 16 + k : Nat) : Nat) ∧ Hid (X.length = 16) ∧ Hid (Lv w wr p (n + 16 + k) X)
theorem open_fits {last n : Nat} (hn : n < 16) (hl : last < 18446744073709551615) : openC last n 5 = 0 ∧ openR last n 5 = last + 1 ∧ openT last n 5 = last + 1 := by
  have hc : openC last n 5 = 0 := by unfold openC; rw [if_pos (by omega), if_neg (by omega)]
  exact ⟨hc, by unfold openR; rw [hc]; rfl, by unfold openT; rw [hc]; rfl⟩
theorem open_full {last : Nat} : openC last 16 5 = 14 ∧ openR last 16 5 = 0 ∧ openT last 16 5 = last := by
  have hc : openC last 16 5 = 14 := by unfold openC; rw [if_pos (by omega), if_pos (.inl rfl)]
  exact ⟨hc, by unfold openR; rw [hc]; rfl, by unfold openT; rw [hc]; rfl⟩
theorem openS_len {X : List Sn} {last now life : Nat} (hc : openC last X.length life = 0) : (openS X last now life).length = X.length + 1 := by
  unfold openS; rw [if_pos hc]; simp
theorem openS_no {X : List Sn} {last now life : Nat} (hc : openC last X.length life ≠ 0) : openS X last now life = X := by
  unfold openS; rw [if_neg hc]
theorem closeS_len {X : List Sn} {i : Nat} (hi : i < X.length) : (closeS X i).length + 1 = X.length := by
  unfold closeS; simp; omega

set_option maxRecDepth 100000 in
set_option maxHeartbeats 8000000 in
theorem leaseMany_walk (n : Nat) (a : Option Addr) (m cap : Nat) (l : List Nat) (w : World) (hn : n < 256) (hm : m = l.length) (hb : Bytes w a l) (_ : m ≤ cap) (_ : a = none → cap = 0) :
    Calls Try.prog 5 #[.int .u8 (n : Nat), .slice a m cap] w fun e w' => e = .returned (.bool true) ∧ Below w.heap.size w w' := by
  have HAW := Lib.hid (awake7_any w)
  have HM := Lib.hid hm; clear hm
  have HB := Lib.hid hb; clear hb
  have hmm : m ≤ 9223372036854775807 := by rw [HM.out]; exact HB.out.2.1
  have hwn : IntKind.u64.wrap (n : Int) = (n : Int) := by simp [IntKind.wrap, IntKind.bits, IntKind.signed]; omega
  have hwn2 : (n : Int) % 18446744073709551616 = (n : Int) := by omega
  go_enter Try.func5, Try.ntmps5
  go_wp2_with fail
  (with_reducible refine HAW.out.mono ?_)
  rintro e w1 ⟨rfl, hf1⟩
  have HF1 := Lib.hid hf1; clear hf1 HAW
  go_wp2_with fail
  refine (lv_new w w1 n (by omega) HF1.out).mono ?_
  rintro e w2 ⟨p, rfl, hlv, _, _⟩
  have HR0 : Hid (MyRel w p n (.int .u64 (n : Nat)) (.int .i64 0) w2) := Lib.hid ⟨0, [], Nat.zero_le _, rfl, rfl, Lib.hid rfl, Lib.hid hlv⟩
  clear hlv HF1
  go_wp2
  go_loopw [7, 28] (fun s7 s28 wr => MyRel w p n s7 s28 wr) (fun _ s28 _ => 16 - (intOf s28).toNat)
  case atStart => exact HR0.out
  case round =>
    clear HR0
    obtain ⟨k, X, hk, rfl, rfl, HXL, HLV⟩ := hrel
    by_cases hlt : k < 16
    · obtain ⟨hc, hr, ht⟩ := open_fits (last := n + k) (n := k) hlt (by omega)
      have HO := Lib.hid (lv_open 0 5 HLV.out (by omega))
      have hlen := openS_len (X := X) (last := n + k) (now := 0) (life := 5) (by rw [HXL.out]; exact hc)
      rw [HXL.out, hc, hr, ht] at HO
      obtain ⟨q, hq⟩ : ∃ q, q = n + k := ⟨_, rfl⟩
      rw [← hq] at HO hlen ⊢
      have hq1 : q + 1 < 18446744073709551616 := by omega
      have hw0 : ((q : Int) + 1) % 18446744073709551616 = (q : Int) + 1 := by omega
      have hw : IntKind.u64.wrap ((q : Int) + 1) = (q : Int) + 1 := by simp [IntKind.wrap, IntKind.bits, IntKind.signed]; omega
      have hne : (((q + 1 : Nat) : Int) != (q : Int) + 1) = false := by simp
      have HQ := Lib.hid hq
      have HLEN := Lib.hid hlen
      clear hc hr ht hq hlen HLV
      go_wp2_with fail
      refine HO.out.mono ?_
      rintro e w5 ⟨rfl, hl5, _⟩
      have HL5 := Lib.hid hl5
      clear hl5 HO
      go_wp2
      go_roundw
      case rel => exact ⟨k + 1, openS X q 0 5, by omega, by go_num, by rw [HQ.out]; go_num, Lib.hid (by rw [HLEN.out, HXL.out]), Lib.hid (by rw [show n + (k + 1) = q + 1 by have := HQ.out; omega]; exact HL5.out)⟩
      case measure => simp [intOf]; omega
    · have hk16 : k = 16 := by omega
      have HR1 : Hid (MzRel w p n m (.int .u64 ((n + k : Nat) : Nat)) (.int .i64 0) wr) := Lib.hid ⟨0, X, Nat.zero_le _, by omega, rfl, by rw [hk16], Lib.hid (by rw [← hk16]; exact HXL.out), Lib.hid (by have h := HLV.out; rw [hk16] at h; exact h)⟩
      clear HXL HLV hk hk16
      go_wp2
      go_loopw [7, 47] (fun s7 s47 wr => MzRel w p n m s7 s47 wr) (fun _ s47 _ => m - (intOf s47).toNat)
      case atStart => exact HR1.out
      case round =>
        clear HR1
        obtain ⟨k, X, hk, hk41, rfl, rfl, HXL, HLV⟩ := hrel
        have HFE := Lib.hid HLV.out.2
        by_cases hlt : k < m
        · obtain ⟨x, hx⟩ : ∃ x, x = l.getD k 0 := ⟨_, rfl⟩
          have hbt := (HFE.out.bytes HB.out (by simp))
          have hx256 : x < 256 := by
            rw [hx]
            have hkl : k < l.length := by rw [← HM.out]; exact hlt
            have := HB.out.1 (l.getD k 0) (by simp [hkl])
            exact this
          obtain ⟨b, off, rfl, hc0⟩ : ∃ b off, a = some ⟨b, off, none⟩ ∧ wr.cell? ⟨b, off + k, none⟩ = some (.int .u8 (x : Nat)) := by
            rcases hbt.2.2 with h | ⟨b, off, rfl, hc⟩
            · rw [h] at HM; have := HM.out; simp at this; omega
            · exact ⟨b, off, rfl, by rw [hx]; exact hc k (by rw [← HM.out]; exact hlt)⟩
          clear hbt hx
          by_cases h40 : 40 < k
          · go_wp2
            go_ret
            exact ⟨rfl, HFE.out.below (by simp) (Nat.le_refl _)⟩
          · obtain ⟨r, hr⟩ : ∃ r, r = x % 16 := ⟨_, rfl⟩
            have hr16 : r < 16 := by omega
            have e1 : IntKind.i64.wrap (x : Int) = (x : Int) := IntWalk.i64_in _ (by omega)
            have e2 : ((x : Int)).tmod 16 = (r : Int) := by rw [Int.tmod_eq_emod_of_nonneg (by omega), hr]; omega
            have e3 : (x : Int) % 16 = (r : Int) := by rw [hr]; omega
            obtain ⟨q, hq⟩ : ∃ q, q = n + 16 + k := ⟨_, rfl⟩
            rw [← hq] at HLV ⊢
            have hq64 : q < 18446744073709551615 := by omega
            have HQ := Lib.hid hq
            obtain ⟨o1, o2, o3⟩ := open_full (last := q)
            have HO := Lib.hid (lv_open 0 5 HLV.out (by omega))
            rw [openS_no (by rw [HXL.out, o1]; omega), HXL.out, o1, o2, o3] at HO
            clear o1 o2 o3 hr hq
            go_wp2_with fail
            refine HO.out.mono ?_
            rintro e w5 ⟨rfl, hl5, _⟩
            have HAL := Lib.hid (lv_all (n := 16) hl5 HXL.out.symm)
            clear hl5 HO HLV hc0
            go_wp2_with fail
            (with_reducible refine HAL.out.mono ?_)
            rintro e w6 ⟨a2, c2, rfl, hsl, hl6, _⟩
            obtain ⟨b2, off2, rfl, p0, _, _, _⟩ := hsl.at (i := r) (by rw [HXL.out]; exact hr16)
            obtain ⟨y, hy⟩ : ∃ y, y = (X.getD r default).id := ⟨_, rfl⟩
            rw [← hy] at p0
            have hin : atS X y < X.length := by rw [hy]; exact atS_in (by rw [HXL.out]; exact hr16)
            have HCL := Lib.hid (lv_close y hl6)
            rw [show closeC X y = 0 by unfold closeC; rw [if_pos hin], show closeL X y = closeS X (atS X y) by unfold closeL; rw [if_pos hin]] at HCL
            have hlen := closeS_len hin
            rw [HXL.out] at hlen
            have HLEN := Lib.hid hlen
            clear hsl hl6 hy hin hlen HAL
            go_wp2_with fail
            (with_reducible refine HCL.out.mono ?_)
            rintro e w7 ⟨rfl, hl7, _⟩
            have h15 : (closeS X (atS X y)).length = 15 := by have := HLEN.out; omega
            obtain ⟨o1, o2, o3⟩ := open_fits (last := q) (n := 15) (by omega) (by omega)
            have HO := Lib.hid (lv_open 1 5 hl7 (by omega))
            have hlen2 := openS_len (X := closeS X (atS X y)) (last := q) (now := 1) (life := 5) (by rw [h15]; exact o1)
            rw [h15, o1, o2, o3] at HO
            rw [h15] at hlen2
            have HLEN2 := Lib.hid hlen2
            have hw0 : ((q : Int) + 1) % 18446744073709551616 = (q : Int) + 1 := by omega
            have hw : IntKind.u64.wrap ((q : Int) + 1) = (q : Int) + 1 := by simp [IntKind.wrap, IntKind.bits, IntKind.signed]; omega
            have hne : (((q + 1 : Nat) : Int) != (q : Int) + 1) = false := by simp
            clear hl7 o1 o2 o3 h15 hlen2 HCL p0
            go_wp2_with fail
            refine HO.out.mono ?_
            rintro e w8 ⟨rfl, hl8, _⟩
            have HL8 := Lib.hid hl8
            clear hl8 HO
            go_wp2
            go_roundw
            case rel => exact ⟨k + 1, _, by omega, by omega, by go_num, by rw [HQ.out]; go_num, HLEN2, Lib.hid (by rw [show n + 16 + (k + 1) = q + 1 by have := HQ.out; omega]; exact HL8.out)⟩
            case measure => simp [intOf]; omega
        · obtain rfl : k = m := by omega
          go_wp2
          go_ret
          exact ⟨rfl, HFE.out.below (by simp) (Nat.le_refl _)⟩
end Go.Proofs.Ytefplgligmkbiaa
