/- The walk of DedupMany. -/
import Derived.Test.YtahhkffghhgojaaDdAwake
import Derived.Test.YtahhkffghhgojaaDdManyM
namespace Go.Proofs.Ytahhkffghhgojaa
open Go.RowKit
set_option maxRecDepth 100000
theorem bits_one (d i : Nat) (hd : d < 65536) : bits .and .u16 ((d : Int) / 2 ^ i) 1 = ((bitI d i : Nat) : Int) := by
  have e : (d : Int) / 2 ^ i = ((d / 2 ^ i : Nat) : Int) := by
    rw [Int.natCast_ediv]; simp
  have hle : d / 2 ^ i ≤ d := Nat.div_le_self _ _
  rw [e]
  unfold bitI
  generalize d / 2 ^ i = x at *
  have e2 : bits .and .u16 ((x : Nat) : Int) 1 = ((x &&& 1 : Nat) : Int) := by
    have hx : x &&& 1 < 2 ^ 16 := Nat.and_lt_two_pow _ (by omega)
    have h1 : (BitVec.ofInt 16 (x : Int)).toNat = x := by
      rw [BitVec.ofInt_natCast, BitVec.toNat_ofNat]; exact Nat.mod_eq_of_lt (by omega)
    have h2 : (BitVec.ofInt 16 ((1 : Nat) : Int)).toNat = 1 := by decide
    show IntKind.u16.wrap ((BitVec.ofInt 16 (x : Int) &&& BitVec.ofInt 16 ((1 : Nat) : Int)).toNat : Int) = _
    rw [BitVec.toNat_and, h1, h2]
    simp [IntKind.wrap, IntKind.bits, IntKind.signed]
    omega
  rw [e2, Nat.and_one_is_mod]
set_option maxHeartbeats 8000000 in
theorem dedupMany_walk (d : Nat) (s : ByteArray) (w : World) (hd : d < 65536) (hs : s.size ≤ 9223372036854775807) :
    Calls Try.prog 4 #[.int .u16 (d : Nat), .string s] w fun e w' => e = .returned (.bool true) ∧ Below w.heap.size w w' := by
  by_cases h1 : s.size < 2
  · go_enter Try.func4, Try.ntmps4
    go_wp2_with ((with_reducible refine (awake15_any _).mono ?_); rintro e w' ⟨rfl, hf1⟩; have F1 := Lib.hid hf1; clear hf1)
    go_ret
    exact ⟨rfl, F1.out.below (by simp) (Nat.le_refl _)⟩
  · by_cases h2 : 64 < s.size
    · go_enter Try.func4, Try.ntmps4
      go_wp2_with ((with_reducible refine (awake15_any _).mono ?_); rintro e w' ⟨rfl, hf1⟩; have F1 := Lib.hid hf1; clear hf1)
      go_ret
      exact ⟨rfl, F1.out.below (by simp) (Nat.le_refl _)⟩
    · have HS := Lib.hid (⟨by omega, by omega⟩ : 2 ≤ s.size ∧ s.size ≤ 64)
      go_enter Try.func4, Try.ntmps4
      go_wp2_with (first
        | ((with_reducible refine (awake15_any _).mono ?_); rintro e w1 ⟨rfl, hf1⟩; have F1 := Lib.hid hf1; clear hf1)
        | ((with_reducible refine (dnew_any _).mono ?_); rintro e w' ⟨rfl, rfl⟩))
      have HNEW := Lib.hid (DdB.new w1)
      have F2 : Hid (Frm [] w (w1.alloc (.cells #[.map none] 62))) := Lib.hid (F1.out.alloc _)
      obtain ⟨g, hg⟩ : ∃ g, g = w1.heap.size := ⟨_, rfl⟩
      obtain ⟨w2, hw2⟩ : ∃ w2, w2 = w1.alloc (.cells #[.map none] 62) := ⟨_, rfl⟩
      rw [← hg, ← hw2] at HNEW
      rw [← hw2] at F2
      rw [← hg, ← hw2]
      have HG : Hid (w.heap.size ≤ g ∧ g < w2.heap.size) := Lib.hid ⟨by rw [hg]; exact F1.out.size, by rw [hg, hw2]; simp⟩
      clear hg hw2 h1 h2
      go_loopw [6, 22] (fun u6 u22 wr => ∃ i : Nat, i ≤ 16 ∧ u22 = .int .i64 (i : Nat) ∧ u6 = .bool true ∧ Hid (DdB g wr g (lnsI d i)) ∧ Hid (Frm [] w wr)) (fun _ u22 _ => 16 - (intOf u22).toNat)
      case atStart => exact ⟨0, by omega, rfl, rfl, HNEW, F2⟩
      case round =>
        obtain ⟨i, hi, rfl, rfl, HD, HF⟩ := hrel
        by_cases hlt : i < 16
        · have hlt' : (i : Int) < 16 := by omega
          obtain ⟨c, hc⟩ : ∃ c, c = 97 + i := ⟨_, rfl⟩
          have wc1 : (97 : Int) + (i : Int) = (c : Int) := by omega
          have wc2 : IntKind.i64.wrap (c : Int) = (c : Int) := by simp [IntKind.wrap, IntKind.bits, IntKind.signed]; omega
          have wc3 : IntKind.u8.wrap (c : Int) = (c : Int) := by simp [IntKind.wrap, IntKind.bits, IntKind.signed]; omega
          have C256 : Hid (c < 256) := Lib.hid (by omega)
          have HC := Lib.hid hc
          have hcv : (convert 47 9 (.slice (some ⟨wr.heap.size, 0, none⟩) 1 1)).run Try.prog (wr.alloc (.cells #[.int .u8 (c : Nat)] 5)) = .ok (.string (strOf [c])) (wr.alloc (.cells #[.int .u8 (c : Nat)] 5)) :=
            run_to_string Try.underlying47 Try.underlying5 Try.underlying9 (l := [c]) ⟨by have := C256.out; simpa using this, by simp, .inr ⟨_, _, rfl, fun i hi => by
              have h0 : i = 0 := by simpa using hi
              subst h0
              simp⟩⟩ rfl
          clear hc
          have hD3 : DdB g (wr.alloc (.cells #[.int .u8 (c : Nat)] 5)) g (lnsI d i) := HD.out.keep0 ((Frm.refl _ _).alloc _)
          have F3 : Hid (Frm [] w (wr.alloc (.cells #[.int .u8 (c : Nat)] 5))) := Lib.hid (HF.out.alloc _)
          have hb := bbeg_any hD3 (by have := hD3.lt; omega) (strOf [c]) 1 (by rw [strOf_size]; simp) (by decide)
          have hnm : strOf [c] = nmI i := by unfold nmI; rw [HC.out]
          have hmb := many_beg (d := d) hlt
          rw [hnm, hmb.1, hmb.2, ← hnm] at hb
          have HBEG := Lib.hid hb
          have HNM := Lib.hid hnm
          clear hD3 hb hnm hmb
          go_wp2_with fail
          refine HBEG.out.mono ?_
          rintro e w4 ⟨rfl, hd4, hf4⟩
          have HD4 := Lib.hid hd4
          have F4 : Hid (Frm [] w w4) := Lib.hid (F3.out.trans hf4 (by simp) (fun x hx => by simp at hx; subst hx; have := HG.out; exact .inr (by omega)))
          clear hd4 hf4
          have hba := bits_one d i hd
          rcases bitI_lt d i with hbt | hbt
          · rw [hbt] at hba
            have hbq : (bits BinOp.and IntKind.u16 ((d : Int) / 2 ^ i) 1 == 1) = false := by rw [hba]; rfl
            have HBT := Lib.hid hbt
            clear hba hbt
            go_wp2
            go_roundw
            case rel => exact ⟨i + 1, by omega, by go_num, rfl, Lib.hid (by rw [← many_skip HBT.out, ← HNM.out]; exact HD4.out), F4⟩
            case measure => simp [intOf]; omega
          · rw [hbt] at hba
            have hbq : (bits BinOp.and IntKind.u16 ((d : Int) / 2 ^ i) 1 == 1) = true := by rw [hba]; rfl
            have hdn := bdon_any HD4.out (by have := HD4.out.lt; omega) (strOf [c]) 1 0 0 (by rw [strOf_size]; simp) (by decide) (by decide) (by decide)
            have hmd := many_don hlt (by have h := HD4.out.ok; rw [HNM.out] at h; exact h) hbt
            rw [HNM.out, hmd.1, hmd.2, ← HNM.out] at hdn
            have HDN := Lib.hid hdn
            clear hba hbt hdn hmd
            go_wp2_with fail
            refine HDN.out.mono ?_
            rintro e w5 ⟨rfl, hd5, hf5⟩
            have HD5 := Lib.hid hd5
            have F5 : Hid (Frm [] w w5) := Lib.hid (F4.out.trans hf5 (by simp) (fun x hx => by simp at hx; subst hx; have := HG.out; exact .inr (by omega)))
            clear hd5 hf5
            go_wp2
            go_roundw
            case rel => exact ⟨i + 1, by omega, by go_num, rfl, HD5, F5⟩
            case measure => simp [intOf]; omega
        · obtain rfl : i = 16 := by omega
          have hbg := bbeg_any HD.out (by have := HD.out.lt; omega) s 1 (by have := HS.out; omega) (by decide)
          have hfl := many_full (d := d) HS.out.1 HS.out.2
          rw [hfl, begX_err (by rw [hfl]; decide)] at hbg
          have HBG := Lib.hid hbg
          clear hbg hfl
          go_wp2_with fail
          refine HBG.out.mono ?_
          rintro e w4 ⟨rfl, hd4, hf4⟩
          have F4 : Hid (Frm [] w w4) := Lib.hid (HF.out.trans hf4 (by simp) (fun x hx => by simp at hx; subst hx; have := HG.out; exact .inr (by omega)))
          have HFO := Lib.hid (bfor_any hd4 (by have := hd4.lt; omega))
          clear hd4 hf4
          go_wp2_with fail
          refine HFO.out.mono ?_
          rintro e w5 ⟨rfl, hd5, hf5⟩
          have F5 : Hid (Frm [] w w5) := Lib.hid (F4.out.trans hf5 (by simp) (fun x hx => by simp at hx; subst hx; have := HG.out; exact .inr (by omega)))
          have hb2 := bbeg_any hd5 (by have := hd5.lt; omega) s 1 (by have := HS.out; omega) (by decide)
          rw [many_after hd HS.out.1 HS.out.2] at hb2
          by_cases hq : d = 65535
          · rw [if_pos hq] at hb2
            have HB2 := Lib.hid hb2
            subst hq
            clear hd5 hf5 hb2
            go_wp2_with fail
            refine HB2.out.mono ?_
            rintro e w6 ⟨rfl, hd6, hf6⟩
            have F6 : Hid (Frm [] w w6) := Lib.hid (F5.out.trans hf6 (by simp) (fun x hx => by simp at hx; subst hx; have := HG.out; exact .inr (by omega)))
            clear hd6 hf6
            go_wp2
            go_ret
            exact ⟨rfl, F6.out.below (by simp) (Nat.le_refl _)⟩
          · rw [if_neg hq] at hb2
            have HB2 := Lib.hid hb2
            have hq2 : ((d : Int) == 65535) = false := by rw [beq_eq_false_iff_ne]; omega
            have hq3 : ((d : Int) != 65535) = true := by rw [bne_iff_ne]; omega
            clear hd5 hf5 hb2
            go_wp2_with fail
            refine HB2.out.mono ?_
            rintro e w6 ⟨rfl, hd6, hf6⟩
            have F6 : Hid (Frm [] w w6) := Lib.hid (F5.out.trans hf6 (by simp) (fun x hx => by simp at hx; subst hx; have := HG.out; exact .inr (by omega)))
            clear hd6 hf6
            go_wp2
            go_ret
            exact ⟨rfl, F6.out.below (by simp) (Nat.le_refl _)⟩
end Go.Proofs.Ytahhkffghhgojaa
