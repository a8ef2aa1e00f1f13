/- OwnerFalls: the walk. -/
import Derived.Test.YtcbpppdmkhpkkaaGreatZOwKf
import Derived.Test.YtcbpppdmkhpkkaaGreatZOwFallM
import Derived.Test.YtcbpppdmkhpkkaaGreatMG
import Derived.Test.YtcbpppdmkhpkkaaGreatZInIs
namespace Go.Proofs.YtcbpppdmkhpkkaaGreat
open Go.RowKit
set_option maxRecDepth 100000

set_option linter.unusedVariables false in
set_option maxHeartbeats 32000000 in
theorem ownerFalls_walk (life : Nat) (a : Option Addr) (m cap : Nat) (ks : List Int) (waits : Nat) (w : World) (hl : life < 256) (h : Is w a ks) (hm : m = ks.length) (h63 : m ≤ 9223372036854775807) (hw : waits < 256) :
    Calls Tryz.prog 6 #[.int .u8 (life : Nat), .slice a m cap, .int .u8 (waits : Nat)] w fun e w' => e = .returned (.bool true) ∧ Below w.heap.size w w' := by
  have A0 := Lib.hid (awake17_any w)
  have H := Lib.hid h
  have HM := Lib.hid hm
  obtain ⟨r, hr⟩ : ∃ r, r = life % 50 := ⟨_, rfl⟩
  obtain ⟨L, hL⟩ : ∃ L, L = 2 + r := ⟨_, rfl⟩
  obtain ⟨W, hW⟩ : ∃ W, W = waits % 100 := ⟨_, rfl⟩
  have t1 : (life : Int).tmod 50 = (r : Int) := by rw [Int.tmod_eq_emod_of_nonneg (by omega)]; omega
  have t2 : (life : Int) % 50 = (r : Int) := by omega
  have t3 : (waits : Int).tmod 100 = (W : Int) := by rw [Int.tmod_eq_emod_of_nonneg (by omega)]; omega
  have t4 : (waits : Int) % 100 = (W : Int) := by omega
  have v1 : IntKind.u8.wrap (r : Int) = (r : Int) := by simp [IntKind.wrap, IntKind.bits, IntKind.signed]; omega
  have v2 : IntKind.u64.wrap (r : Int) = (r : Int) := by simp [IntKind.wrap, IntKind.bits, IntKind.signed]; omega
  have v3 : (2 : Int) + (r : Int) = (L : Int) := by omega
  have v4 : IntKind.u64.wrap (L : Int) = (L : Int) := by simp [IntKind.wrap, IntKind.bits, IntKind.signed]; omega
  have v5 : IntKind.u64.wrap (waits : Int) = (waits : Int) := by simp [IntKind.wrap, IntKind.bits, IntKind.signed]; omega
  have v6 : IntKind.u64.wrap (W : Int) = (W : Int) := by simp [IntKind.wrap, IntKind.bits, IntKind.signed]; omega
  have L2 : 2 ≤ L := by omega
  have L60 : L ≤ 60 := by omega
  have W100 : W < 100 := by omega
  have N0 := Lib.hid (fun z => new_ok 1048576 z (by decide))
  rw [show ((1048576 : Nat) : Int) = 1048576 from rfl] at N0
  clear h hm hr hL hW
  go_enter Tryz.func6, Tryz.ntmps6
  go_wp2_with fail
  (with_reducible refine A0.out.mono ?_)
  rintro e w0 ⟨rfl, hf0⟩
  have F0 := Lib.hid hf0
  clear hf0 A0
  go_wp2_with fail
  (with_reducible refine (N0.out _).mono ?_)
  rintro e w1 ⟨rfl, hd1, hf1, _⟩
  obtain ⟨dp, hdp⟩ : ∃ dp, dp = w0.heap.size := ⟨_, rfl⟩
  rw [← hdp] at hd1 ⊢
  have O1 := Lib.hid (kf_open w0 w1 dp 1048576 hd1 hf1 (by omega))
  clear hd1 hf1 hdp N0
  go_wp2_with fail
  (with_reducible refine O1.out.mono ?_)
  rintro e w2 ⟨k, rfl, hk2⟩
  have D2 := kf_do (opnC L) none 0 hk2 (by decide) (opnC_ok (by omega)) (Bytes.nil _) (fun _ => rfl) (by show (3 : Nat) ≠ 7; decide) (by show (0 : Nat) ≤ 4000; decide) (by decide)
  obtain ⟨fo1, fo2, _⟩ := fl_open L2 L60
  rw [show cmdV (opnC L) none 0 = .agg #[.int .u8 3, .string ⟨#[]⟩, .slice none 0 0, .int .u64 0, .int .u64 0, .int .u64 (L : Nat)] from rfl, fo1, fo2] at D2
  have D2 := Lib.hid D2
  clear hk2 O1 fo1 fo2
  go_wp2_with fail
  (with_reducible refine D2.out.mono ?_)
  rintro e w3 ⟨r3, ga3, gn3, gc3, rfl, hr3, hk3⟩
  obtain rfl : r3 = 1 := hr3 (by first | rfl | trivial)
  obtain ⟨a1, a2, a3⟩ := fl_acq L2 L60
  have AC := kf_acq 1 5 xB hk3 (by decide) (by decide) (by decide) (by decide) (by decide)
  obtain ⟨S2, hS2⟩ : ∃ S2, S2 = acqS (doS {} (opnC L)) 1 5 xB := ⟨_, rfl⟩
  rw [← hS2] at AC a3
  have FL := Lib.hid a3
  rw [a1, a2] at AC
  rw [show ((1 : Nat) : Int) = 1 from rfl, show ((5 : Nat) : Int) = 5 from rfl, show ((0 : Nat) : Int) = 0 from rfl, show xB = ⟨#[120]⟩ from rfl] at AC
  have AC := Lib.hid AC
  rw [show ((1 : Nat) : Int) = 1 from rfl]
  clear hk3 D2 hr3 a1 a2 a3 hS2
  go_wp2_with fail
  (with_reducible refine AC.out.mono ?_)
  rintro e w4 ⟨rfl, hk4⟩
  have R0 : Hid (Kf w0 w4 k dp S2 1048576 3 12312) := Lib.hid hk4
  clear hk4 AC
  have HH : Hid (hldV S2 ⟨#[120]⟩ = .tuple #[.int .u64 5, .int .u64 1, .bool true]) := Lib.hid (by
    show hldV S2 xB = _
    unfold hldV
    rw [FL.out.hld'.1, FL.out.hld'.2, FL.out.epB]
    rfl)
  go_wp2
  go_loopw [9, 62] (fun u9 u62 wr => ∃ (j kk : Nat), j ≤ m ∧ u62 = .int .i64 (j : Nat) ∧ u9 = .pointer (some ⟨kk, 0, none⟩) ∧ Hid (Kf w0 wr kk dp S2 1048576 3 12312)) (fun _ u62 _ => m - (intOf u62).toNat)
  case atStart => exact ⟨0, k, Nat.zero_le _, rfl, rfl, R0⟩
  case round =>
    clear R0
    obtain ⟨j, kk, hj, rfl, rfl, HR⟩ := hrel
    by_cases hlt : j < m
    · obtain ⟨hrange, b, off, rfl, hcell⟩ := H.out j (by have := HM.out; omega)
      have hc2 := ((F0.out.trans HR.out.frm (U := []) (by simp) (by simp)).cell (block_lt_of_cell hcell) (by simp)).trans hcell
      obtain ⟨s, hs⟩ : ∃ s, s = ks.getD j 0 := ⟨_, rfl⟩
      rw [← hs] at hc2 hrange
      clear hcell hs
      by_cases hbrk : 10 < j
      ·
        have D := kf_do (tickC W) none 0 HR.out (by decide) (tickC_ok (by omega)) (Bytes.nil _) (fun _ => rfl) (by show (6 : Nat) ≠ 7; decide) (by show (0 : Nat) ≤ 4000; decide) (by decide)
        rw [show cmdV (tickC W) none 0 = .agg #[.int .u8 6, .string ⟨#[]⟩, .slice none 0 0, .int .u64 0, .int .u64 0, .int .u64 (W : Nat)] from rfl] at D
        obtain ⟨E1, hE1⟩ : ∃ E1, E1 = doE S2 (tickC W) := ⟨_, rfl⟩
        rw [← hE1] at D
        obtain ⟨S3, hS3⟩ : ∃ S3, S3 = doS S2 (tickC W) := ⟨_, rfl⟩
        have FE := fl_end FL.out L2 L60 W100
        rw [← hS3] at D FE
        obtain ⟨f1, f2, f3, f4⟩ := FE
        have D := Lib.hid D
        have HF3 := Lib.hid f3
        have HF4 := Lib.hid f4
        have HF12 := Lib.hid (And.intro f1 f2)
        clear hE1 hS3 f1 f2 f3 f4
        go_wp2_with fail
        (with_reducible refine D.out.mono ?_)
        rintro e w5 ⟨r5, ga5, gn5, gc5, rfl, _, hk5⟩
        have HV := kf_hld xB hk5 (by decide)
        have HK5 := Lib.hid hk5
        clear hk5 D
        by_cases hWL : W < L
        · obtain ⟨i3, a3⟩ := HF3.out hWL
          unfold hldV at HV
          rw [if_pos i3] at HV
          obtain ⟨p, hp⟩ : ∃ p, p = numB (getN S3.nodes (ownK xB)).v := ⟨_, rfl⟩
          obtain ⟨q, hq⟩ : ∃ q, q = epB S3 xB := ⟨_, rfl⟩
          rw [← hp, ← hq, show xB = ⟨#[120]⟩ from rfl] at HV
          have HV := Lib.hid HV
          clear hp hq i3
          go_wp2_with fail
          (with_reducible refine HV.out.mono ?_)
          rintro e w6 ⟨rfl, hf6⟩
          have HK6 := HK5.out.same hf6
          have D2 := kf_do (opnC L) none 0 HK6 (by decide) (opnC_ok (by omega)) (Bytes.nil _) (fun _ => rfl) (by show (3 : Nat) ≠ 7; decide) (by show (0 : Nat) ≤ 4000; decide) (by decide)
          rw [show cmdV (opnC L) none 0 = .agg #[.int .u8 3, .string ⟨#[]⟩, .slice none 0 0, .int .u64 0, .int .u64 0, .int .u64 (L : Nat)] from rfl, HF12.out.1, HF12.out.2] at D2
          have D2 := Lib.hid D2
          clear HK6 hf6 HK5
          go_wp2_with fail
          (with_reducible refine D2.out.mono ?_)
          rintro e w7 ⟨r7, ga7, gn7, gc7, rfl, hr7, hk7⟩
          obtain rfl : r7 = 2 := hr7 (by first | rfl | trivial)
          rw [show ((2 : Nat) : Int) = 2 from rfl]
          clear hr7 D2
          have AC := kf_acq 2 6 xB hk7 (by decide) (by decide) (by decide) (by decide) (by decide)
          obtain ⟨rr, hrr⟩ : ∃ rr, rr = acqR (doS S3 (opnC L)) 2 6 xB := ⟨_, rfl⟩
          rw [a3, ← hrr] at AC
          rw [show ((2 : Nat) : Int) = 2 from rfl, show ((6 : Nat) : Int) = 6 from rfl, show ((50 : Nat) : Int) = 50 from rfl, show xB = ⟨#[120]⟩ from rfl] at AC
          have AC := Lib.hid AC
          clear hrr a3 hk7
          have y1 : decide ((W : Int) < (L : Int)) = true := decide_eq_true (by omega)
          go_wp2_with fail
          (with_reducible refine AC.out.mono ?_)
          rintro e w8 ⟨rfl, hk8⟩
          have FIN := Lib.hid (hk8.frm)
          clear hk8
          go_wp2
          go_ret
          exact ⟨rfl, (F0.out.trans FIN.out (U := []) (by simp) (by simp)).below (by simp) (Nat.le_refl _)⟩
        · obtain ⟨i3, a3, b3⟩ := HF4.out (by omega)
          unfold hldV at HV
          rw [if_neg (by rw [i3]; decide), show xB = ⟨#[120]⟩ from rfl] at HV
          have HV := Lib.hid HV
          clear i3
          go_wp2_with fail
          (with_reducible refine HV.out.mono ?_)
          rintro e w6 ⟨rfl, hf6⟩
          have HK6 := HK5.out.same hf6
          have D2 := kf_do (opnC L) none 0 HK6 (by decide) (opnC_ok (by omega)) (Bytes.nil _) (fun _ => rfl) (by show (3 : Nat) ≠ 7; decide) (by show (0 : Nat) ≤ 4000; decide) (by decide)
          rw [show cmdV (opnC L) none 0 = .agg #[.int .u8 3, .string ⟨#[]⟩, .slice none 0 0, .int .u64 0, .int .u64 0, .int .u64 (L : Nat)] from rfl, HF12.out.1, HF12.out.2] at D2
          have D2 := Lib.hid D2
          clear HK6 hf6 HK5
          go_wp2_with fail
          (with_reducible refine D2.out.mono ?_)
          rintro e w7 ⟨r7, ga7, gn7, gc7, rfl, hr7, hk7⟩
          obtain rfl : r7 = 2 := hr7 (by first | rfl | trivial)
          rw [show ((2 : Nat) : Int) = 2 from rfl]
          clear hr7 D2
          have AC := kf_acq 2 6 xB hk7 (by decide) (by decide) (by decide) (by decide) (by decide)
          rw [a3, b3] at AC
          rw [show ((2 : Nat) : Int) = 2 from rfl, show ((6 : Nat) : Int) = 6 from rfl, show ((0 : Nat) : Int) = 0 from rfl, show xB = ⟨#[120]⟩ from rfl] at AC
          have AC := Lib.hid AC
          clear a3 b3 hk7
          have y1 : decide ((W : Int) < (L : Int)) = false := decide_eq_false (by omega)
          go_wp2_with fail
          (with_reducible refine AC.out.mono ?_)
          rintro e w8 ⟨rfl, hk8⟩
          have FIN := Lib.hid (hk8.frm)
          clear hk8
          go_wp2
          go_ret
          exact ⟨rfl, (F0.out.trans FIN.out (U := []) (by simp) (by simp)).below (by simp) (Nat.le_refl _)⟩
      · have CR := Lib.hid (kf_crash s (j : Int) HR.out)
        clear t1 t2 t3 t4 v1 v2 v3 v4 v5 v6
        go_wp2_with fail
        (with_reducible refine CR.out.mono ?_)
        rintro e w5 ⟨rfl, hc5⟩
        have OP := Lib.hid (kc_open hc5)
        clear hc5 CR
        go_wp2_with fail
        (with_reducible refine OP.out.mono ?_)
        rintro e w6 ⟨k6, rfl, hk6⟩
        have HV := kf_hld xB hk6 (by decide)
        rw [show xB = ⟨#[120]⟩ from rfl, HH.out] at HV
        have HV := Lib.hid HV
        have HK6 := Lib.hid hk6
        clear hk6 OP
        go_wp2_with fail
        (with_reducible refine HV.out.mono ?_)
        rintro e w7 ⟨rfl, hf7⟩
        have R7 := Lib.hid (HK6.out.same hf7)
        clear hf7 HV HK6
        go_wp2
        go_roundw
        case rel => exact ⟨j + 1, k6, by omega, by go_num, rfl, R7⟩
        case measure => simp [intOf]; omega
    · obtain rfl : j = m := by omega
      have D := kf_do (tickC W) none 0 HR.out (by decide) (tickC_ok (by omega)) (Bytes.nil _) (fun _ => rfl) (by show (6 : Nat) ≠ 7; decide) (by show (0 : Nat) ≤ 4000; decide) (by decide)
      rw [show cmdV (tickC W) none 0 = .agg #[.int .u8 6, .string ⟨#[]⟩, .slice none 0 0, .int .u64 0, .int .u64 0, .int .u64 (W : Nat)] from rfl] at D
      obtain ⟨E1, hE1⟩ : ∃ E1, E1 = doE S2 (tickC W) := ⟨_, rfl⟩
      rw [← hE1] at D
      obtain ⟨S3, hS3⟩ : ∃ S3, S3 = doS S2 (tickC W) := ⟨_, rfl⟩
      have FE := fl_end FL.out L2 L60 W100
      rw [← hS3] at D FE
      obtain ⟨f1, f2, f3, f4⟩ := FE
      have D := Lib.hid D
      have HF3 := Lib.hid f3
      have HF4 := Lib.hid f4
      have HF12 := Lib.hid (And.intro f1 f2)
      clear hE1 hS3 f1 f2 f3 f4
      go_wp2_with fail
      (with_reducible refine D.out.mono ?_)
      rintro e w5 ⟨r5, ga5, gn5, gc5, rfl, _, hk5⟩
      have HV := kf_hld xB hk5 (by decide)
      have HK5 := Lib.hid hk5
      clear hk5 D
      by_cases hWL : W < L
      · obtain ⟨i3, a3⟩ := HF3.out hWL
        unfold hldV at HV
        rw [if_pos i3] at HV
        obtain ⟨p, hp⟩ : ∃ p, p = numB (getN S3.nodes (ownK xB)).v := ⟨_, rfl⟩
        obtain ⟨q, hq⟩ : ∃ q, q = epB S3 xB := ⟨_, rfl⟩
        rw [← hp, ← hq, show xB = ⟨#[120]⟩ from rfl] at HV
        have HV := Lib.hid HV
        clear hp hq i3
        go_wp2_with fail
        (with_reducible refine HV.out.mono ?_)
        rintro e w6 ⟨rfl, hf6⟩
        have HK6 := HK5.out.same hf6
        have D2 := kf_do (opnC L) none 0 HK6 (by decide) (opnC_ok (by omega)) (Bytes.nil _) (fun _ => rfl) (by show (3 : Nat) ≠ 7; decide) (by show (0 : Nat) ≤ 4000; decide) (by decide)
        rw [show cmdV (opnC L) none 0 = .agg #[.int .u8 3, .string ⟨#[]⟩, .slice none 0 0, .int .u64 0, .int .u64 0, .int .u64 (L : Nat)] from rfl, HF12.out.1, HF12.out.2] at D2
        have D2 := Lib.hid D2
        clear HK6 hf6 HK5
        go_wp2_with fail
        (with_reducible refine D2.out.mono ?_)
        rintro e w7 ⟨r7, ga7, gn7, gc7, rfl, hr7, hk7⟩
        obtain rfl : r7 = 2 := hr7 (by first | rfl | trivial)
        rw [show ((2 : Nat) : Int) = 2 from rfl]
        clear hr7 D2
        have AC := kf_acq 2 6 xB hk7 (by decide) (by decide) (by decide) (by decide) (by decide)
        obtain ⟨rr, hrr⟩ : ∃ rr, rr = acqR (doS S3 (opnC L)) 2 6 xB := ⟨_, rfl⟩
        rw [a3, ← hrr] at AC
        rw [show ((2 : Nat) : Int) = 2 from rfl, show ((6 : Nat) : Int) = 6 from rfl, show ((50 : Nat) : Int) = 50 from rfl, show xB = ⟨#[120]⟩ from rfl] at AC
        have AC := Lib.hid AC
        clear hrr a3 hk7
        have y1 : decide ((W : Int) < (L : Int)) = true := decide_eq_true (by omega)
        go_wp2_with fail
        (with_reducible refine AC.out.mono ?_)
        rintro e w8 ⟨rfl, hk8⟩
        have FIN := Lib.hid (hk8.frm)
        clear hk8
        go_wp2
        go_ret
        exact ⟨rfl, (F0.out.trans FIN.out (U := []) (by simp) (by simp)).below (by simp) (Nat.le_refl _)⟩
      · obtain ⟨i3, a3, b3⟩ := HF4.out (by omega)
        unfold hldV at HV
        rw [if_neg (by rw [i3]; decide), show xB = ⟨#[120]⟩ from rfl] at HV
        have HV := Lib.hid HV
        clear i3
        go_wp2_with fail
        (with_reducible refine HV.out.mono ?_)
        rintro e w6 ⟨rfl, hf6⟩
        have HK6 := HK5.out.same hf6
        have D2 := kf_do (opnC L) none 0 HK6 (by decide) (opnC_ok (by omega)) (Bytes.nil _) (fun _ => rfl) (by show (3 : Nat) ≠ 7; decide) (by show (0 : Nat) ≤ 4000; decide) (by decide)
        rw [show cmdV (opnC L) none 0 = .agg #[.int .u8 3, .string ⟨#[]⟩, .slice none 0 0, .int .u64 0, .int .u64 0, .int .u64 (L : Nat)] from rfl, HF12.out.1, HF12.out.2] at D2
        have D2 := Lib.hid D2
        clear HK6 hf6 HK5
        go_wp2_with fail
        (with_reducible refine D2.out.mono ?_)
        rintro e w7 ⟨r7, ga7, gn7, gc7, rfl, hr7, hk7⟩
        obtain rfl : r7 = 2 := hr7 (by first | rfl | trivial)
        rw [show ((2 : Nat) : Int) = 2 from rfl]
        clear hr7 D2
        have AC := kf_acq 2 6 xB hk7 (by decide) (by decide) (by decide) (by decide) (by decide)
        rw [a3, b3] at AC
        rw [show ((2 : Nat) : Int) = 2 from rfl, show ((6 : Nat) : Int) = 6 from rfl, show ((0 : Nat) : Int) = 0 from rfl, show xB = ⟨#[120]⟩ from rfl] at AC
        have AC := Lib.hid AC
        clear a3 b3 hk7
        have y1 : decide ((W : Int) < (L : Int)) = false := decide_eq_false (by omega)
        go_wp2_with fail
        (with_reducible refine AC.out.mono ?_)
        rintro e w8 ⟨rfl, hk8⟩
        have FIN := Lib.hid (hk8.frm)
        clear hk8
        go_wp2
        go_ret
        exact ⟨rfl, (F0.out.trans FIN.out (U := []) (by simp) (by simp)).below (by simp) (Nat.le_refl _)⟩
end Go.Proofs.YtcbpppdmkhpkkaaGreat
