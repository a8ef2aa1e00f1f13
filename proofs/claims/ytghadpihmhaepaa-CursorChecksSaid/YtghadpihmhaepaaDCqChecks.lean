/- The walk of CursorChecks. -/
import Derived.Test.YtghadpihmhaepaaDCqDecode
import Derived.Test.YtghadpihmhaepaaDCqRefTake
import Derived.Test.YtghadpihmhaepaaDCqBytes
import Derived.Test.YtghadpihmhaepaaDCqAwake
import Derived.Test.YtghadpihmhaepaaDCqRight
import Derived.Test.YtghadpihmhaepaaDCuSame
import Derived.Test.YtghadpihmhaepaaDTail
import Derived.Test.YtghadpihmhaepaaCD
import Derived.Deep.CutBlock
namespace Go.Proofs.Ytghadpihmhaepaa
open Go.RowKit
set_option maxRecDepth 100000
set_option linter.unusedSimpArgs false in
set_option maxHeartbeats 16000000 in
theorem cursorChecks_walk (cu : Ps × Option Addr × Nat × Nat × List Hx) (ac : Option Addr) (n capc : Nat) (cs : List Nat) (raw : Bool) (w : World) (hcu : CrsIn w cu.1 cu.2.1 cu.2.2.1 cu.2.2.2.1 cu.2.2.2.2) (hn : n = cs.length) (hb : Bytes w ac cs) (hc1 : n ≤ capc) (hc2 : ac = none → capc = 0) :
    Calls Try.prog 7 #[crsV cu.1 cu.2.1 cu.2.2.1 cu.2.2.2.1, .slice ac n capc, .bool raw] w (LTrue w) := by
  obtain ⟨m, ah, nh, ch, Y⟩ := cu
  simp only at hcu ⊢
  obtain ⟨w1, hw1⟩ : ∃ w1, w1 = w.alloc (.cells #[.int .u64 (m.l : Nat), .int .u64 (m.e : Nat), .slice ah nh ch] 28) := ⟨_, rfl⟩
  obtain ⟨g, hg⟩ : ∃ g, g = w.heap.size := ⟨_, rfl⟩
  have F1 : Hid (Frm [] w w1) := Lib.hid (by rw [hw1]; exact (Frm.refl _ _).alloc _)
  have B1 : Hid (Whole w1 g 28 #[.int .u64 (m.l : Nat), .int .u64 (m.e : Nat), .slice ah nh ch]) := Lib.hid (by rw [hw1, hg]; exact Whole.made _ _ _)
  have AW := Lib.hid (fun z => awake14_any z)
  have RT := Lib.hid (fun z (hz : Frm [] w z) => cqright_any m ah nh ch [] Y raw w z hcu hz (by simp))
  have CU := Lib.hid hcu
  have MF := Lib.hid (placeP_fits m raw hcu.fits)
  have M0 : Hid m.fits := Lib.hid hcu.fits
  have LEN : Hid (nh = Y.length) := Lib.hid hcu.len
  have HB := Lib.hid hb
  have HN := Lib.hid hn
  have HC1 := Lib.hid hc1
  have HC2 := Lib.hid hc2
  have hn63 : n ≤ 9223372036854775807 := by rw [hn]; exact hb.2.1
  have hh63 : nh ≤ 9223372036854775807 := Nat.le_trans hcu.le hcu.max
  obtain ⟨M, hM⟩ : ∃ M, M = placeP m raw := ⟨_, rfl⟩
  rw [← hM] at MF RT
  clear hcu hn hb hc1 hc2 hM
  obtain ⟨ml, me⟩ := m
  obtain ⟨Ml, Me⟩ := M
  unfold LRet at AW
  unfold RightEnd crsV at RT
  unfold crsV
  simp only at hw1 B1 RT MF M0 ⊢
  have k0 : ∀ z, Frm [] w1 z → z.cell? ⟨g, 0, none⟩ = some (.int .u64 (ml : Nat)) := fun z hz => (hz.whole B1.out (by simp)).cell 0
  have k1 : ∀ z, Frm [] w1 z → z.cell? ⟨g, 1, none⟩ = some (.int .u64 (me : Nat)) := fun z hz => (hz.whole B1.out (by simp)).cell 1
  have k2 : ∀ z, Frm [] w1 z → z.cell? ⟨g, 2, none⟩ = some (.slice ah nh ch) := fun z hz => (hz.whole B1.out (by simp)).cell 2
  have HW1 := Lib.hid hw1; clear hw1
  go_enter Try.func7, Try.ntmps7
  go_upto_region 1 with (fail)
  rw [← HW1.out, ← hg]
  have HG := Lib.hid hg; clear hg
  go_wp2_with fail
  (with_reducible refine (AW.out _).mono ?_)
  rintro e w2 ⟨rfl, hf2⟩
  have F2 : Hid (Frm [] w1 w2) := Lib.hid hf2
  have FW2 : Hid (Frm [] w w2) := Lib.hid (F1.out.trans hf2 (by simp) (by simp))
  clear hf2 AW
  by_cases h5 : 5000 < n
  · have d5 : decide (5000 < n) = true := decide_eq_true h5
    have d5' : (5000 : Int) < (n : Int) := by omega
    clear h5
    go_wp2
    go_ret
    exact lTrue FW2.out
  have N5 : Hid (n ≤ 5000) := Lib.hid (by omega)
  have d5 : decide (5000 < n) = false := decide_eq_false h5
  have d5' : ¬ (5000 : Int) < (n : Int) := by omega
  have x2 := k2 _ F2.out
  by_cases h1 : 100 < nh
  · have d1 : decide (100 < nh) = true := decide_eq_true h1
    have d1' : (100 : Int) < (nh : Int) := by omega
    clear h1
    go_wp2
    go_ret
    exact lTrue FW2.out
  have d1 : decide (100 < nh) = false := decide_eq_false h1
  have d1' : ¬ (100 : Int) < (nh : Int) := by omega
  go_wp2
  clear d1 d1' d5 d5'
  go_loopw [34] (fun s34 wr => ∃ k : Nat, k ≤ nh ∧ s34 = .int .i64 (k : Nat) ∧ Hid (∀ i, i < k → (Y.getD i default).t.2.length ≤ 100) ∧ Hid (Frm [] w1 wr)) (fun s34 _ => nh - (intOf s34).toNat)
  case atStart => exact ⟨0, Nat.zero_le _, rfl, Lib.hid (fun i hi => by omega), F2⟩
  case round =>
    obtain ⟨k, hk, rfl, HK, HF⟩ := hrel
    have FWR : Hid (Frm [] w wr) := Lib.hid (F1.out.trans HF.out (by simp) (by simp))
    by_cases hlt : k < nh
    · have hlt' : (k : Int) < (nh : Int) := by omega
      obtain ⟨b, off, rfl, d0, d1, _⟩ := (CU.out.hl.sub FWR.out).at (i := k) (by have := LEN.out; omega)
      have NX := Lib.hid (fun (h : (Y.getD k default).t.2.length ≤ 100) i (hi : i < k + 1) => by
        rcases Nat.lt_or_eq_of_le (Nat.le_of_lt_succ hi) with h1 | h1
        · exact HK.out i h1
        · rw [h1]; exact h)
      obtain ⟨x, hx⟩ : ∃ x, x = Y.getD k default := ⟨_, rfl⟩
      rw [← hx] at d0 d1 NX
      clear hx
      obtain ⟨⟨led, rs⟩, ra, rc⟩ := x
      simp only at d0 d1 NX
      obtain ⟨rn, hrn⟩ : ∃ rn, rn = rs.length := ⟨_, rfl⟩
      rw [← hrn] at d1 NX
      clear hrn x2 k0 k1 k2
      have FA : Hid (Frm [] w1 (wr.alloc (.cells #[.int .u64 (led : Nat), .slice ra rn rc] 55))) := Lib.hid (HF.out.alloc _)
      by_cases hr : 100 < rn
      · have dr : decide (100 < rn) = true := decide_eq_true hr
        have dr' : (100 : Int) < (rn : Int) := by omega
        have FX : Hid (Frm [] w (wr.alloc (.cells #[.int .u64 (led : Nat), .slice ra rn rc] 55))) := Lib.hid (F1.out.trans FA.out (by simp) (by simp))
        go_wp2
        go_ret
        exact lTrue FX.out
      · have dr : decide (100 < rn) = false := decide_eq_false hr
        have dr' : ¬ (100 : Int) < (rn : Int) := by omega
        have NX2 := Lib.hid (NX.out (by omega))
        clear hr NX
        go_wp2
        go_roundw
        case rel => exact ⟨k + 1, by omega, by go_num, NX2, FA⟩
        case measure => simp [intOf]; omega
    · obtain rfl : k = nh := by omega
      have YR : Hid (∀ x ∈ Y, x.t.2.length ≤ 100) := Lib.hid (fun x hx => by
        obtain ⟨i, hi, rfl⟩ := List.getElem_of_mem hx
        have := HK.out i (by have := LEN.out; omega)
        simpa [hi] using this)
      have q0 : ∀ z, Frm [] wr z → z.cell? ⟨g, 0, none⟩ = some (.int .u64 (ml : Nat)) := fun z hz => k0 z (HF.out.trans hz (by simp) (by simp))
      have q1 : ∀ z, Frm [] wr z → z.cell? ⟨g, 1, none⟩ = some (.int .u64 (me : Nat)) := fun z hz => k1 z (HF.out.trans hz (by simp) (by simp))
      have q2 : ∀ z, Frm [] wr z → z.cell? ⟨g, 2, none⟩ = some (.slice ah k ch) := fun z hz => k2 z (HF.out.trans hz (by simp) (by simp))
      have RX := Lib.hid (fun z (hz : Frm [] wr z) => RT.out z (FWR.out.trans hz (by simp) (by simp)))
      clear k0 k1 k2 x2
      go_upto_region 11 with (fail)
      refine wp_region_tail (S := fun w' => Frm [] wr w') (tl := (fun _ => false)) (by kernel_rfl) (Frm.drew (Frm.refl _ _)) (fun hHeld => ?_)
      refine tail_take (i := 0) (oi := ⟨some 43, _, _, _, _, _⟩) (v := ?_) rfl (by kernel_rfl) (by kernel_rfl) (by kernel_rfl) (by kernel_rfl) (by kernel_rfl) (fun _ _ _ h => h) (Or.inl ⟨by rfl, ?_⟩) (by assumption) ?_
      rotate_left 1
      · (intro w hSw; (try dsimp only at hSw); go_simp; all_goals with_reducible rfl)
      try simp only [Act.put, List.setIfInBounds_toArray, List.set_cons_zero, List.set_cons_succ]
      refine tail_take (i := 1) (oi := ⟨some 44, _, _, _, _, _⟩) (v := ?_) rfl (by kernel_rfl) (by kernel_rfl) (by kernel_rfl) (by kernel_rfl) (by kernel_rfl) (fun _ _ _ h => h) (Or.inl ⟨by rfl, ?_⟩) (by assumption) ?_
      rotate_left 1
      · (intro w hSw; (try dsimp only at hSw); go_simp; all_goals with_reducible rfl)
      try simp only [Act.put, List.setIfInBounds_toArray, List.set_cons_zero, List.set_cons_succ]
      refine tail_take (i := 2) (oi := ⟨some 45, _, _, _, _, _⟩) (v := ?_) rfl (by kernel_rfl) (by kernel_rfl) (by kernel_rfl) (by kernel_rfl) (by kernel_rfl) (fun _ _ _ h => h) (Or.inl ⟨by rfl, ?_⟩) (by assumption) ?_
      rotate_left 1
      · (intro w hSw; (try dsimp only at hSw); go_simp; all_goals with_reducible rfl)
      try simp only [Act.put, List.setIfInBounds_toArray, List.set_cons_zero, List.set_cons_succ]
      refine tail_take (i := 6) (oi := ⟨some 49, _, _, _, _, _⟩) (v := ?_) rfl (by kernel_rfl) (by kernel_rfl) (by kernel_rfl) (by kernel_rfl) (by kernel_rfl) (fun _ _ _ h => h) (Or.inl ⟨by rfl, ?_⟩) (by assumption) ?_
      rotate_left 1
      · (intro w hSw; (try dsimp only at hSw); go_simp; all_goals with_reducible rfl)
      try simp only [Act.put, List.setIfInBounds_toArray, List.set_cons_zero, List.set_cons_succ]
      refine tail_one (i := 3) (o := ⟨some 46, _, _, _, _, _⟩) (by kernel_rfl) rfl (fun K hK => ?_)
      go_simp
      ((with_reducible refine (RX.out _ (by repeat (first | assumption | apply Frm.drew | exact Frm.refl _ _))).mono ?_); rintro e w6 ⟨Z, az, zn, cz, rfl, ZN, ZR, ZL, hf6⟩; (have S6 : Frm [] wr w6 := Frm.trans (by repeat (first | assumption | apply Frm.drew | exact Frm.refl _ _)) hf6.out (by simp) (by simp)))
      go_wp2_with fail
      refine hK.out _ _ (fun _ => by assumption) (fun _ => ?_)
      clear hK K
      try simp only [Act.put, List.setIfInBounds_toArray, List.set_cons_zero, List.set_cons_succ]
      refine tail_one (i := 4) (o := ⟨some 47, _, _, _, _, _⟩) (by kernel_rfl) rfl (fun K hK => ?_)
      go_simp
      refine hK.out _ _ (fun _ => by repeat (first | assumption | apply Frm.alloc | apply Frm.drew | exact Frm.refl _ _)) (fun _ => ?_)
      clear hK K
      try simp only [Act.put, List.setIfInBounds_toArray, List.set_cons_zero, List.set_cons_succ]
      refine tail_one (i := 5) (o := ⟨some 48, _, _, _, _, _⟩) (by kernel_rfl) rfl (fun K hK => ?_)
      go_simp
      refine hK.out _ _ (fun _ => by repeat (first | assumption | apply Frm.alloc | apply Frm.drew | exact Frm.refl _ _)) (fun _ => ?_)
      clear hK K
      try simp only [Act.put, List.setIfInBounds_toArray, List.set_cons_zero, List.set_cons_succ]
      refine tail_done (by kernel_rfl) ?_ _
      obtain ⟨Wb, hWb⟩ : ∃ W, W = w6.alloc (.cells #[.int .u64 (ml : Nat), .int .u64 (me : Nat), .slice ah k ch, .int .u64 (Ml : Nat), .int .u64 (Me : Nat), .slice az zn cz] 28) := ⟨_, rfl⟩
      obtain ⟨yb, hyb⟩ : ∃ y, y = w6.heap.size := ⟨_, rfl⟩
      have F6b : Hid (Frm [] w6 Wb) := Lib.hid (by rw [hWb]; exact (Frm.refl _ _).alloc _)
      have FWb : Hid (Frm [] w Wb) := Lib.hid ((FWR.out.trans S6 (U := []) (by simp) (by simp)).trans F6b.out (by simp) (by simp))
      have BB : Hid (Whole Wb yb 28 #[.int .u64 (ml : Nat), .int .u64 (me : Nat), .slice ah k ch, .int .u64 (Ml : Nat), .int .u64 (Me : Nat), .slice az zn cz]) := Lib.hid (by rw [hWb, hyb]; exact Whole.made _ _ _)
      have H0 : Hid (HxL Wb [] ah Y) := Lib.hid (CU.out.hl.sub FWb.out)
      have H1 : Hid (HxL Wb [] az Z) := Lib.hid (ZL.out.1.sub F6b.out)
      have ZRG : Hid (zn ≤ 100 ∧ ∀ x ∈ Z, x.t.2.length ≤ 100) := Lib.hid ⟨by have := ZR.out.1; omega, fun x hx => by have := ZR.out.2.2 x.t (List.mem_map.2 ⟨x, hx, rfl⟩); omega⟩
      have EL : Hid (∀ i, i < 2 → ∃ (D : Ps) (ad : Option Addr) (dn cd : Nat) (Zd : List Hx), Wb.cell? ⟨yb, i * 3, none⟩ = some (.int .u64 (D.l : Nat)) ∧ Wb.cell? ⟨yb, i * 3 + 1, none⟩ = some (.int .u64 (D.e : Nat)) ∧ Wb.cell? ⟨yb, i * 3 + 2, none⟩ = some (.slice ad dn cd) ∧ HxL Wb [] ad Zd ∧ dn = Zd.length ∧ dn ≤ 100 ∧ (∀ x ∈ Zd, x.t.2.length ≤ 100) ∧ D.fits) := Lib.hid (fun i hi => by
        rcases (show i = 0 ∨ i = 1 by omega) with rfl | rfl
        · exact ⟨⟨ml, me⟩, ah, k, ch, Y, BB.out.cell 0, BB.out.cell 1, BB.out.cell 2, H0.out, LEN.out, by omega, YR.out, M0.out⟩
        · exact ⟨⟨Ml, Me⟩, az, zn, cz, Z, BB.out.cell 3, BB.out.cell 4, BB.out.cell 5, H1.out, ZN.out, ZRG.out.1, ZRG.out.2, MF.out⟩)
      clear q0 q1 q2
      go_upto_block 2 with fail
      rw [← hWb, ← hyb]
      have HWb := Lib.hid hWb; clear hWb
      have HYb := Lib.hid hyb; clear hyb
      go_wp2
      go_loopw [49] (fun s49 wr => ∃ i : Nat, i ≤ 2 ∧ s49 = .int .i64 (i : Nat) ∧ Hid (Frm [] Wb wr)) (fun s49 _ => 2 - (intOf s49).toNat)
      case atStart => exact ⟨0, by omega, rfl, Lib.hid (Frm.refl _ _)⟩
      case round =>
        obtain ⟨i, hi2, rfl, HI⟩ := hrel
        by_cases hlt2 : i < 2
        · have hlt2' : (i : Int) < 2 := by omega
          obtain ⟨D, ad, dn, cd, Zd, e0, e1, e2, hxd, hdn, hd100, hdr, hdf⟩ := EL.out i hlt2
          have d0 := (HI.out.cell (p := ⟨yb, i * 3, none⟩) (block_lt_of_cell e0) (by simp)).trans e0
          have d1 := (HI.out.cell (p := ⟨yb, i * 3 + 1, none⟩) (block_lt_of_cell e1) (by simp)).trans e1
          have d2 := (HI.out.cell (p := ⟨yb, i * 3 + 2, none⟩) (block_lt_of_cell e2) (by simp)).trans e2
          clear e0 e1 e2
          obtain ⟨Dl, De⟩ := D
          simp only at d0 d1
          obtain ⟨W3, hW3⟩ : ∃ W3, W3 = wr.alloc (.cells #[.int .u64 (Dl : Nat), .int .u64 (De : Nat), .slice ad dn cd] 28) := ⟨_, rfl⟩
          obtain ⟨y3, hy3⟩ : ∃ y3, y3 = wr.heap.size := ⟨_, rfl⟩
          have F3 : Hid (Frm [] Wb W3) := Lib.hid (by rw [hW3]; exact HI.out.alloc _)
          have B3 : Hid (Whole W3 y3 28 #[.int .u64 (Dl : Nat), .int .u64 (De : Nat), .slice ad dn cd]) := Lib.hid (by rw [hW3, hy3]; exact Whole.made _ _ _)
          have HXD : Hid (HxL W3 [] ad Zd) := Lib.hid (hxd.sub F3.out)
          have HDF := Lib.hid hdf
          have HDN := Lib.hid hdn
          have HDR := Lib.hid hdr
          have HD100 := Lib.hid hd100
          clear hxd hdf hdn hdr hd100
          have ENC := Lib.hid (cqencode_any ⟨Dl, De⟩ ad dn cd [] Zd W3 HXD.out HDN.out (by have := HD100.out; omega) (fun x hx => by have := HDR.out x hx; omega) HDF.out)
          have CK := Lib.hid (fun z (hz : Frm [] W3 z) => cqcheck_any ⟨Dl, De⟩ ad dn cd [] Zd z (HXD.out.sub hz) HDN.out (by have := HD100.out; omega) (fun x hx => by have := HDR.out x hx; omega))
          have RC := Lib.hid (fun z (hz : Frm [] W3 z) => crright_any ⟨Dl, De⟩ ad dn cd [] Zd z (HXD.out.sub hz) HDN.out (by have := HD100.out; omega) (fun x hx => by have := HDR.out x hx; omega))
          have BY := Lib.hid (fun z (hz : Frm [] W3 z) => crbytes_any ⟨Dl, De⟩ ad dn cd [] Zd z (HXD.out.sub hz) HDN.out HD100.out HDR.out HDF.out)
          have PE : Hid (pCrs (encCrs ⟨⟨Dl, De⟩, hels Zd⟩) = some (⟨⟨Dl, De⟩, hels Zd⟩, [])) := Lib.hid (by
            have := pCrs_enc ⟨⟨Dl, De⟩, hels Zd⟩ [] HDF.out (by rw [hels_length, ← HDN.out]; have := HD100.out; omega) (fun h hh => by
              obtain ⟨x, hx, rfl⟩ := List.mem_map.1 hh
              have hok := HXD.out.ok x hx
              exact ⟨hok.num, by have := HDR.out x hx; omega, hok.rs.1⟩)
            rwa [List.append_nil] at this)
          have SM := Lib.hid (fun z (D2 : Ps) (a2 : Option Addr) (n2 c2 : Nat) (Z2 : List Hx) (hz : Frm [] W3 z) (ht : Tkn z a2 n2 c2 Z2) => crsame_any D2 ⟨Dl, De⟩ a2 ad n2 c2 dn cd [] [] Z2 Zd z ht.hl (HXD.out.sub hz) ht.len HDN.out (by have := ht.few; omega) (by have := HD100.out; omega) (fun x hx => by have := ht.rgs x hx; omega) (fun x hx => by have := HDR.out x hx; omega))
          have LE : Hid ((encCrs ⟨⟨Dl, De⟩, hels Zd⟩).length ≤ 140737488355328) := Lib.hid (by
            have h1 := encHels_few (hels Zd) (fun h hh => by
              obtain ⟨x, hx, rfl⟩ := List.mem_map.1 hh
              exact HDR.out x hx)
            unfold encCrs
            simp only [List.length_append, be_length]
            rw [hels_length, ← HDN.out] at h1
            have := HD100.out
            omega)
          have OKI : Hid (RtC ⟨⟨Dl, De⟩, hels Zd⟩ ↔ OkC ⟨⟨Dl, De⟩, hels Zd⟩) := Lib.hid (rtc_iff _)
          obtain ⟨C, hC⟩ : ∃ C, C = (⟨⟨Dl, De⟩, hels Zd⟩ : Crs) := ⟨_, rfl⟩
          rw [← hC] at ENC CK RC BY PE SM LE OKI
          have HCC := Lib.hid hC; clear hC
          unfold EncE crsV at ENC
          unfold BoolOf crsV at CK RC SM
          unfold RcE crsV at BY
          simp only at ENC CK RC BY SM
          have u0 : ∀ z, Frm [] W3 z → z.cell? ⟨y3, 0, none⟩ = some (.int .u64 (Dl : Nat)) := fun z hz => (hz.whole B3.out (by simp)).cell 0
          have u1 : ∀ z, Frm [] W3 z → z.cell? ⟨y3, 1, none⟩ = some (.int .u64 (De : Nat)) := fun z hz => (hz.whole B3.out (by simp)).cell 1
          have u2 : ∀ z, Frm [] W3 z → z.cell? ⟨y3, 2, none⟩ = some (.slice ad dn cd) := fun z hz => (hz.whole B3.out (by simp)).cell 2
          have v0 := u0 _ (Frm.refl _ _)
          have v1 := u1 _ (Frm.refl _ _)
          have v2 := u2 _ (Frm.refl _ _)
          go_upto_region 14 with (fail)
          rw [← hW3, ← hy3]
          have HW3 := Lib.hid hW3; clear hW3
          have HY3 := Lib.hid hy3; clear hy3 d0 d1 d2
          go_wp2_with fail
          (with_reducible refine ENC.out.mono ?_)
          rintro e w4 (⟨hrt, ar, kr, cr, rfl, hkr, how, h8, hf4⟩ | ⟨hrt, rfl, hf4⟩)
          · clear v0 v1 v2
            have F4 : Hid (Frm [] W3 w4) := Lib.hid hf4.out
            have RTT := Lib.hid hrt
            have OKC : Hid (OkC C) := Lib.hid (OKI.out.1 hrt)
            have HKR := hkr
            have BG := own_bytes (by have h := how.out; rw [hkr.out] at h; exact h) h8.out
            have BYT : Hid (Bytes w4 ar (encCrs C)) := Lib.hid BG.1
            have BNIL : Hid (ar = none → cr = 0) := Lib.hid BG.2
            have hby8 : Hid (∀ x ∈ encCrs C, x < 256) := h8
            clear hrt how h8 hf4 BG hkr
            obtain ⟨st, hst⟩ : ∃ st, st = strOf (encCrs C) := ⟨_, rfl⟩
            have conv1 : ∀ z, Frm [] w4 z → (convert 22 9 (.slice ar kr cr)).run Try.prog z = .ok (.string st) z := fun z hz => by
              rw [hst]
              exact run_to_string Try.underlying22 Try.underlying5 Try.underlying9 (hz.bytes BYT.out (by simp)) HKR.out
            have CK4 := Lib.hid (fun z (hz : Frm [] w4 z) => CK.out z (F4.out.trans hz (by simp) (by simp)))
            have RC4 := Lib.hid (fun z (hz : Frm [] w4 z) => RC.out z (F4.out.trans hz (by simp) (by simp)))
            have BY4 := Lib.hid (fun z (hz : Frm [] w4 z) => BY.out z (F4.out.trans hz (by simp) (by simp)))
            have t0 : ∀ z, Frm [] w4 z → z.cell? ⟨y3, 0, none⟩ = some (.int .u64 (Dl : Nat)) := fun z hz => u0 z (F4.out.trans hz (by simp) (by simp))
            have t1 : ∀ z, Frm [] w4 z → z.cell? ⟨y3, 1, none⟩ = some (.int .u64 (De : Nat)) := fun z hz => u1 z (F4.out.trans hz (by simp) (by simp))
            have t2 : ∀ z, Frm [] w4 z → z.cell? ⟨y3, 2, none⟩ = some (.slice ad dn cd) := fun z hz => u2 z (F4.out.trans hz (by simp) (by simp))
            have eqs : (st.toList != st.toList) = false := by simp
            have HST := Lib.hid hst
            clear u0 u1 u2 hst
            go_upto_region 15 with (fail)
            refine wp_region_held_drew (S := fun w' => Frm [] w4 w') (by kernel_rfl) (Frm.drew (Frm.refl _ _)) (fun hHeld => ?_)
            refine wpAnyH_take (i := 0) (oi := ⟨some 58, _, _, _, _, _⟩) (v := ?_) rfl (by kernel_rfl) (by kernel_rfl) (by kernel_rfl) (fun _ _ _ h => h) (Or.inl ⟨by rfl, ?_⟩) (by assumption) ?_
            rotate_left 1
            · (intro w hSw; (try dsimp only at hSw); go_simp; all_goals with_reducible rfl)
            try simp only [Act.put, List.setIfInBounds_toArray, List.set_cons_zero, List.set_cons_succ]
            refine wpAnyH_take (i := 2) (oi := ⟨some 60, _, _, _, _, _⟩) (v := ?_) rfl (by kernel_rfl) (by kernel_rfl) (by kernel_rfl) (fun _ _ _ h => h) (Or.inl ⟨by rfl, ?_⟩) (by assumption) ?_
            rotate_left 1
            · (intro w hSw; (try dsimp only at hSw); go_simp; all_goals with_reducible rfl)
            try simp only [Act.put, List.setIfInBounds_toArray, List.set_cons_zero, List.set_cons_succ]
            refine wpAnyH_ready (rs := [1]) (by kernel_rfl) (by simp) ?_
            refine AllReadyH.cons (o := ⟨some 59, _, _, _, _, _⟩) rfl (fun K hK => ?_) AllReadyH.nil
            go_simp
            go_at_call 27; (with_reducible refine (CK4.out _ hHeld).mono ?_); rintro e v1 ⟨b1, rfl, hb1, hv1⟩; obtain rfl : b1 = true := hb1.2 RTT.out; clear hb1; have hHeld1 : Frm [] w4 v1 := hHeld.trans hv1 (by simp) (by simp)
            go_wp2_with fail
            refine hK.out _ _ (by assumption) (fun hHeld => ?_)
            clear hK K
            try simp only [Act.put, List.setIfInBounds_toArray, List.set_cons_zero, List.set_cons_succ]
            refine wpAnyH_ready (rs := [3]) (by kernel_rfl) (by simp) ?_
            refine AllReadyH.cons (o := ⟨some 61, _, _, _, _, _⟩) rfl (fun K hK => ?_) AllReadyH.nil
            go_simp
            go_at_call 25; (with_reducible refine (RC4.out _ hHeld).mono ?_); rintro e v2 ⟨b2, rfl, hb2, hv2⟩; obtain rfl : b2 = true := hb2.2 RTT.out; clear hb2; have hHeld2 : Frm [] w4 v2 := hHeld.trans hv2 (by simp) (by simp)
            go_wp2_with fail
            refine hK.out _ _ (by assumption) (fun hHeld => ?_)
            clear hK K
            try simp only [Act.put, List.setIfInBounds_toArray, List.set_cons_zero, List.set_cons_succ]
            refine wpAnyH_take (i := 4) (oi := ⟨some 62, _, _, _, _, _⟩) (v := ?_) rfl (by kernel_rfl) (by kernel_rfl) (by kernel_rfl) (fun _ _ _ h => h) (Or.inl ⟨by rfl, ?_⟩) (by assumption) ?_
            rotate_left 1
            · (intro w hSw; (try dsimp only at hSw); go_simp; all_goals with_reducible rfl)
            try simp only [Act.put, List.setIfInBounds_toArray, List.set_cons_zero, List.set_cons_succ]
            refine wpAnyH_take (i := 5) (oi := ⟨some 63, _, _, _, _, _⟩) (v := ?_) rfl (by kernel_rfl) (by kernel_rfl) (by kernel_rfl) (fun _ _ _ h => h) (Or.inl ⟨by rfl, ?_⟩) (by assumption) ?_
            rotate_left 1
            · (intro w hSw; (try dsimp only at hSw); go_simp; all_goals with_reducible rfl)
            try simp only [Act.put, List.setIfInBounds_toArray, List.set_cons_zero, List.set_cons_succ]
            refine wpAnyH_take (i := 6) (oi := ⟨some 64, _, _, _, _, _⟩) (v := ?_) rfl (by kernel_rfl) (by kernel_rfl) (by kernel_rfl) (fun _ _ _ h => h) (Or.inl ⟨by rfl, ?_⟩) (by assumption) ?_
            rotate_left 1
            · (intro w hSw; (try dsimp only at hSw); go_simp; all_goals with_reducible rfl)
            try simp only [Act.put, List.setIfInBounds_toArray, List.set_cons_zero, List.set_cons_succ]
            refine wpAnyH_take (i := 7) (oi := ⟨some 65, _, _, _, _, _⟩) (v := ?_) rfl (by kernel_rfl) (by kernel_rfl) (by kernel_rfl) (fun _ _ _ h => h) (Or.inl ⟨by rfl, ?_⟩) (by assumption) ?_
            rotate_left 1
            · (intro w hSw; (try dsimp only at hSw); go_simp; all_goals with_reducible rfl)
            try simp only [Act.put, List.setIfInBounds_toArray, List.set_cons_zero, List.set_cons_succ]
            refine wpAnyH_take (i := 8) (oi := ⟨some 66, _, _, _, _, _⟩) (v := ?_) rfl (by kernel_rfl) (by kernel_rfl) (by kernel_rfl) (fun _ _ _ h => h) (Or.inl ⟨by rfl, ?_⟩) (by assumption) ?_
            rotate_left 1
            · (intro w hSw; (try dsimp only at hSw); go_simp; all_goals with_reducible rfl)
            try simp only [Act.put, List.setIfInBounds_toArray, List.set_cons_zero, List.set_cons_succ]
            refine wpAnyH_ready (rs := [9]) (by kernel_rfl) (by simp) ?_
            refine AllReadyH.cons (o := ⟨some 67, _, _, _, _, _⟩) rfl (fun K hK => ?_) AllReadyH.nil
            go_simp
            go_at_call 27; (with_reducible refine (CK4.out _ hHeld).mono ?_); rintro e v3 ⟨b3, rfl, hb3, hv3⟩; obtain rfl : b3 = true := hb3.2 RTT.out; clear hb3; have hHeld3 : Frm [] w4 v3 := hHeld.trans hv3 (by simp) (by simp)
            go_wp2_with fail
            refine hK.out _ _ (by assumption) (fun hHeld => ?_)
            clear hK K
            try simp only [Act.put, List.setIfInBounds_toArray, List.set_cons_zero, List.set_cons_succ]
            refine wpAnyH_take (i := 10) (oi := ⟨some 68, _, _, _, _, _⟩) (v := ?_) rfl (by kernel_rfl) (by kernel_rfl) (by kernel_rfl) (fun _ _ _ h => h) (Or.inl ⟨by rfl, ?_⟩) (by assumption) ?_
            rotate_left 1
            · (intro w hSw; (try dsimp only at hSw); go_simp; all_goals with_reducible rfl)
            try simp only [Act.put, List.setIfInBounds_toArray, List.set_cons_zero, List.set_cons_succ]
            refine wpAnyH_take (i := 11) (oi := ⟨some 69, _, _, _, _, _⟩) (v := ?_) rfl (by kernel_rfl) (by kernel_rfl) (by kernel_rfl) (fun _ _ _ h => h) (Or.inl ⟨by rfl, ?_⟩) (by assumption) ?_
            rotate_left 1
            · (intro w hSw; (try dsimp only at hSw); go_simp; all_goals with_reducible rfl)
            try simp only [Act.put, List.setIfInBounds_toArray, List.set_cons_zero, List.set_cons_succ]
            refine wpAnyH_take (i := 12) (oi := ⟨some 70, _, _, _, _, _⟩) (v := ?_) rfl (by kernel_rfl) (by kernel_rfl) (by kernel_rfl) (fun _ _ _ h => h) (Or.inl ⟨by rfl, ?_⟩) (by assumption) ?_
            rotate_left 1
            · (intro w hSw; (try dsimp only at hSw); go_simp; all_goals with_reducible rfl)
            try simp only [Act.put, List.setIfInBounds_toArray, List.set_cons_zero, List.set_cons_succ]
            refine wpAnyH_take (i := 13) (oi := ⟨some 71, _, _, _, _, _⟩) (v := ?_) rfl (by kernel_rfl) (by kernel_rfl) (by kernel_rfl) (fun _ _ _ h => h) (Or.inl ⟨by rfl, ?_⟩) (by assumption) ?_
            rotate_left 1
            · (intro w hSw; (try dsimp only at hSw); go_simp; all_goals with_reducible rfl)
            try simp only [Act.put, List.setIfInBounds_toArray, List.set_cons_zero, List.set_cons_succ]
            refine wpAnyH_take (i := 14) (oi := ⟨some 72, _, _, _, _, _⟩) (v := ?_) rfl (by kernel_rfl) (by kernel_rfl) (by kernel_rfl) (fun _ _ _ h => h) (Or.inl ⟨by rfl, ?_⟩) (by assumption) ?_
            rotate_left 1
            · (intro w hSw; (try dsimp only at hSw); go_simp; all_goals with_reducible rfl)
            try simp only [Act.put, List.setIfInBounds_toArray, List.set_cons_zero, List.set_cons_succ]
            refine wpAnyH_take (i := 15) (oi := ⟨some 73, _, _, _, _, _⟩) (v := ?_) rfl (by kernel_rfl) (by kernel_rfl) (by kernel_rfl) (fun _ _ _ h => h) (Or.inl ⟨by rfl, ?_⟩) (by assumption) ?_
            rotate_left 1
            · (intro w hSw; (try dsimp only at hSw); go_simp; all_goals with_reducible rfl)
            try simp only [Act.put, List.setIfInBounds_toArray, List.set_cons_zero, List.set_cons_succ]
            refine wpAnyH_take (i := 16) (oi := ⟨some 74, _, _, _, _, _⟩) (v := undef) rfl (by kernel_rfl) (by kernel_rfl) (by kernel_rfl) (fun _ _ _ h => h) (Or.inr ⟨by rfl, rfl⟩) (by assumption) ?_
            try simp only [Act.put, List.setIfInBounds_toArray, List.set_cons_zero, List.set_cons_succ]
            refine wpAnyH_take (i := 17) (oi := ⟨some 75, _, _, _, _, _⟩) (v := undef) rfl (by kernel_rfl) (by kernel_rfl) (by kernel_rfl) (fun _ _ _ h => h) (Or.inr ⟨by rfl, rfl⟩) (by assumption) ?_
            try simp only [Act.put, List.setIfInBounds_toArray, List.set_cons_zero, List.set_cons_succ]
            refine wpAnyH_take (i := 18) (oi := ⟨some 76, _, _, _, _, _⟩) (v := ?_) rfl (by kernel_rfl) (by kernel_rfl) (by kernel_rfl) (fun _ _ _ h => h) (Or.inl ⟨by rfl, ?_⟩) (by assumption) ?_
            rotate_left 1
            · (intro w hSw; (try dsimp only at hSw); go_simp; all_goals with_reducible rfl)
            try simp only [Act.put, List.setIfInBounds_toArray, List.set_cons_zero, List.set_cons_succ]
            refine wpAnyH_take (i := 19) (oi := ⟨some 77, _, _, _, _, _⟩) (v := ?_) rfl (by kernel_rfl) (by kernel_rfl) (by kernel_rfl) (fun _ _ _ h => h) (Or.inl ⟨by rfl, ?_⟩) (by assumption) ?_
            rotate_left 1
            · (intro w hSw; (try dsimp only at hSw); go_simp; all_goals with_reducible rfl)
            try simp only [Act.put, List.setIfInBounds_toArray, List.set_cons_zero, List.set_cons_succ]
            refine wpAnyH_take (i := 20) (oi := ⟨some 78, _, _, _, _, _⟩) (v := ?_) rfl (by kernel_rfl) (by kernel_rfl) (by kernel_rfl) (fun _ _ _ h => h) (Or.inl ⟨by rfl, ?_⟩) (by assumption) ?_
            rotate_left 1
            · (intro w hSw; (try dsimp only at hSw); go_simp; all_goals with_reducible rfl)
            try simp only [Act.put, List.setIfInBounds_toArray, List.set_cons_zero, List.set_cons_succ]
            refine wpAnyH_take (i := 21) (oi := ⟨some 79, _, _, _, _, _⟩) (v := ?_) rfl (by kernel_rfl) (by kernel_rfl) (by kernel_rfl) (fun _ _ _ h => h) (Or.inl ⟨by rfl, ?_⟩) (by assumption) ?_
            rotate_left 1
            · (intro w hSw; (try dsimp only at hSw); go_simp; all_goals with_reducible rfl)
            try simp only [Act.put, List.setIfInBounds_toArray, List.set_cons_zero, List.set_cons_succ]
            refine wpAnyH_take (i := 22) (oi := ⟨some 80, _, _, _, _, _⟩) (v := ?_) rfl (by kernel_rfl) (by kernel_rfl) (by kernel_rfl) (fun _ _ _ h => h) (Or.inl ⟨by rfl, ?_⟩) (by assumption) ?_
            rotate_left 1
            · (intro w hSw; (try dsimp only at hSw); go_simp; all_goals with_reducible rfl)
            try simp only [Act.put, List.setIfInBounds_toArray, List.set_cons_zero, List.set_cons_succ]
            refine wpAnyH_take (i := 23) (oi := ⟨some 81, _, _, _, _, _⟩) (v := ?_) rfl (by kernel_rfl) (by kernel_rfl) (by kernel_rfl) (fun _ _ _ h => h) (Or.inl ⟨by rfl, ?_⟩) (by assumption) ?_
            rotate_left 1
            · (intro w hSw; (try dsimp only at hSw); go_simp; all_goals with_reducible rfl)
            try simp only [Act.put, List.setIfInBounds_toArray, List.set_cons_zero, List.set_cons_succ]
            refine wpAnyH_take (i := 24) (oi := ⟨some 82, _, _, _, _, _⟩) (v := ?_) rfl (by kernel_rfl) (by kernel_rfl) (by kernel_rfl) (fun _ _ _ h => h) (Or.inl ⟨by rfl, ?_⟩) (by assumption) ?_
            rotate_left 1
            · (intro w hSw; (try dsimp only at hSw); go_simp; all_goals with_reducible rfl)
            try simp only [Act.put, List.setIfInBounds_toArray, List.set_cons_zero, List.set_cons_succ]
            refine wpAnyH_take (i := 25) (oi := ⟨some 83, _, _, _, _, _⟩) (v := ?_) rfl (by kernel_rfl) (by kernel_rfl) (by kernel_rfl) (fun _ _ _ h => h) (Or.inl ⟨by rfl, ?_⟩) (by assumption) ?_
            rotate_left 1
            · (intro w hSw; (try dsimp only at hSw); go_simp; all_goals with_reducible rfl)
            try simp only [Act.put, List.setIfInBounds_toArray, List.set_cons_zero, List.set_cons_succ]
            refine wpAnyH_take (i := 26) (oi := ⟨some 84, _, _, _, _, _⟩) (v := ?_) rfl (by kernel_rfl) (by kernel_rfl) (by kernel_rfl) (fun _ _ _ h => h) (Or.inl ⟨by rfl, ?_⟩) (by assumption) ?_
            rotate_left 1
            · (intro w hSw; (try dsimp only at hSw); go_simp; all_goals with_reducible rfl)
            try simp only [Act.put, List.setIfInBounds_toArray, List.set_cons_zero, List.set_cons_succ]
            refine wpAnyH_ready (rs := [27]) (by kernel_rfl) (by simp) ?_
            refine AllReadyH.cons (o := ⟨some 85, _, _, _, _, _⟩) rfl (fun K hK => ?_) AllReadyH.nil
            go_simp
            go_at_call 30; (with_reducible refine (BY4.out _ hHeld).mono ?_); rintro e v4 ⟨a4, n4, c4, rfl, hrc⟩; have hHeld4 : Frm [] w4 v4 := hHeld.trans hrc.out.frm (by simp) (by simp); (have BR : Bytes v4 a4 (encCrs C) := (own_bytes (by have h := hrc.out.own; rw [hrc.out.len] at h; exact h) hby8.out).1); (have conv2 : ∀ z, Frm [] v4 z → (convert 22 9 (.slice a4 n4 c4)).run Try.prog z = .ok (.string st) z := fun z hz => by rw [HST.out]; exact run_to_string Try.underlying22 Try.underlying5 Try.underlying9 (hz.bytes BR (by simp)) hrc.out.len); have conv2v := conv2 _ (Frm.refl [] v4)
            go_wp2_with fail
            refine hK.out _ _ (by assumption) (fun hHeld => ?_)
            clear hK K
            try simp only [Act.put, List.setIfInBounds_toArray, List.set_cons_zero, List.set_cons_succ]
            refine wpAnyH_ready (rs := [28]) (by kernel_rfl) (by simp) ?_
            refine AllReadyH.cons (o := ⟨some 86, _, _, _, _, _⟩) rfl (fun K hK => ?_) AllReadyH.nil
            go_simp
            refine hK.out _ _ (by assumption) (fun hHeld => ?_)
            clear hK K
            try simp only [Act.put, List.setIfInBounds_toArray, List.set_cons_zero, List.set_cons_succ]
            refine wpAnyH_take (i := 29) (oi := ⟨some 87, _, _, _, _, _⟩) (v := ?_) rfl (by kernel_rfl) (by kernel_rfl) (by kernel_rfl) (fun _ _ _ h => h) (Or.inl ⟨by rfl, ?_⟩) (by assumption) ?_
            rotate_left 1
            · (intro w hSw; (try dsimp only at hSw); go_simp; all_goals with_reducible rfl)
            try simp only [Act.put, List.setIfInBounds_toArray, List.set_cons_zero, List.set_cons_succ]
            refine wpAnyH_take (i := 30) (oi := ⟨some 88, _, _, _, _, _⟩) (v := ?_) rfl (by kernel_rfl) (by kernel_rfl) (by kernel_rfl) (fun _ _ _ h => h) (Or.inl ⟨by rfl, ?_⟩) (by assumption) ?_
            rotate_left 1
            · (intro w hSw; (try dsimp only at hSw); go_simp; all_goals with_reducible rfl)
            try simp only [Act.put, List.setIfInBounds_toArray, List.set_cons_zero, List.set_cons_succ]
            refine wpAnyH_take (i := 31) (oi := ⟨some 89, _, _, _, _, _⟩) (v := ?_) rfl (by kernel_rfl) (by kernel_rfl) (by kernel_rfl) (fun _ _ _ h => h) (Or.inl ⟨by rfl, ?_⟩) (by assumption) ?_
            rotate_left 1
            · (intro w hSw; (try dsimp only at hSw); go_simp; all_goals with_reducible rfl)
            try simp only [Act.put, List.setIfInBounds_toArray, List.set_cons_zero, List.set_cons_succ]
            refine wpAnyH_done (by kernel_rfl) ?_ _
            have DX := Lib.hid (cqdecode_any ar kr cr (encCrs C) _ (hHeld.bytes BYT.out (by simp)) HKR.out BNIL.out (by rw [HKR.out]; exact LE.out))
            have FH := Lib.hid hHeld
            clear conv1 conv2 conv2v eqs
            go_wp2_with fail
            (with_reducible refine DX.out.mono ?_)
            rintro e w8 ⟨code, D2, a2, n2, c2, Z2, hdec, rfl, hf8, htk, _⟩
            unfold crsV
            obtain ⟨hc0, hceq⟩ := DecC.uniq hdec (.inr (.inr (.inr ⟨C, PE.out, OKC.out, rfl, rfl⟩)))
            subst hc0
            have CEQ := Lib.hid hceq
            clear hceq hdec
            have F48 : Hid (Frm [] w4 w8) := Lib.hid (FH.out.trans hf8.out (by simp) (by simp))
            obtain ⟨V8, hV8⟩ : ∃ W, W = w8.alloc (.cells #[.int .u64 (D2.l : Nat), .int .u64 (D2.e : Nat), .slice a2 n2 c2] 28) := ⟨_, rfl⟩
            obtain ⟨y8, hy8⟩ : ∃ y, y = w8.heap.size := ⟨_, rfl⟩
            have F88 : Hid (Frm [] w8 V8) := Lib.hid (by rw [hV8]; exact (Frm.refl _ _).alloc _)
            have B8 : Hid (Whole V8 y8 28 #[.int .u64 (D2.l : Nat), .int .u64 (D2.e : Nat), .slice a2 n2 c2]) := Lib.hid (by rw [hV8, hy8]; exact Whole.made _ _ _)
            have F4V : Hid (Frm [] w4 V8) := Lib.hid (F48.out.trans F88.out (by simp) (by simp))
            have F3V : Hid (Frm [] W3 V8) := Lib.hid (F4.out.trans F4V.out (by simp) (by simp))
            have SX := Lib.hid (SM.out V8 D2 a2 n2 c2 Z2 F3V.out ⟨htk.out.hl.sub F88.out, htk.out.len, htk.out.few, htk.out.rgs⟩)
            have v0 := t0 _ F4V.out
            have v1 := t1 _ F4V.out
            have v2 := t2 _ F4V.out
            have z0 := B8.out.cell 0
            have z1 := B8.out.cell 1
            have z2 := B8.out.cell 2
            simp only [List.getElem?_toArray, List.getElem?_cons_zero, List.getElem?_cons_succ] at z0 z1 z2
            clear t0 t1 t2 hf8 htk
            go_upto_region 18 with (fail)
            rw [← hV8, ← hy8]
            have HV8 := Lib.hid hV8; clear hV8
            have HY8 := Lib.hid hy8; clear hy8
            go_wp2_with fail
            (with_reducible refine SX.out.mono ?_)
            rintro e w9 ⟨b9, rfl, hb9, hf9⟩
            obtain rfl : b9 = true := hb9.2 CEQ.out
            have NX : Hid (Frm [] Wb w9) := Lib.hid (F3.out.trans (F3V.out.trans hf9 (U := []) (by simp) (by simp)) (by simp) (by simp))
            clear v0 v1 v2 z0 z1 z2 hb9 hf9
            go_wp2
            go_roundw
            case rel => exact ⟨i + 1, by omega, by go_num, NX⟩
            case measure => simp [intOf]; omega
          · clear v0 v1 v2
            have F4 : Hid (Frm [] W3 w4) := hf4
            have NOB : Hid (∀ b : Bool, (b = true → RtC C) → b = false) := Lib.hid (fun b hb => by
              cases b with
              | false => rfl
              | true => exact absurd (hb rfl) hrt)
            clear hrt hf4
            have CK4 := Lib.hid (fun z (hz : Frm [] w4 z) => CK.out z (F4.out.trans hz (by simp) (by simp)))
            have RC4 := Lib.hid (fun z (hz : Frm [] w4 z) => RC.out z (F4.out.trans hz (by simp) (by simp)))
            have t0 : ∀ z, Frm [] w4 z → z.cell? ⟨y3, 0, none⟩ = some (.int .u64 (Dl : Nat)) := fun z hz => u0 z (F4.out.trans hz (by simp) (by simp))
            have t1 : ∀ z, Frm [] w4 z → z.cell? ⟨y3, 1, none⟩ = some (.int .u64 (De : Nat)) := fun z hz => u1 z (F4.out.trans hz (by simp) (by simp))
            have t2 : ∀ z, Frm [] w4 z → z.cell? ⟨y3, 2, none⟩ = some (.slice ad dn cd) := fun z hz => u2 z (F4.out.trans hz (by simp) (by simp))
            clear u0 u1 u2
            go_upto_region 15 with (fail)
            refine wp_region_held_drew (S := fun w' => Frm [] w4 w') (by kernel_rfl) (Frm.drew (Frm.refl _ _)) (fun hHeld => ?_)
            refine wpAnyH_take (i := 0) (oi := ⟨some 58, _, _, _, _, _⟩) (v := ?_) rfl (by kernel_rfl) (by kernel_rfl) (by kernel_rfl) (fun _ _ _ h => h) (Or.inl ⟨by rfl, ?_⟩) (by assumption) ?_
            rotate_left 1
            · (intro w hSw; (try dsimp only at hSw); go_simp; all_goals with_reducible rfl)
            try simp only [Act.put, List.setIfInBounds_toArray, List.set_cons_zero, List.set_cons_succ]
            refine wpAnyH_take (i := 2) (oi := ⟨some 60, _, _, _, _, _⟩) (v := ?_) rfl (by kernel_rfl) (by kernel_rfl) (by kernel_rfl) (fun _ _ _ h => h) (Or.inl ⟨by rfl, ?_⟩) (by assumption) ?_
            rotate_left 1
            · (intro w hSw; (try dsimp only at hSw); go_simp; all_goals with_reducible rfl)
            try simp only [Act.put, List.setIfInBounds_toArray, List.set_cons_zero, List.set_cons_succ]
            refine wpAnyH_ready (rs := [1]) (by kernel_rfl) (by simp) ?_
            refine AllReadyH.cons (o := ⟨some 59, _, _, _, _, _⟩) rfl (fun K hK => ?_) AllReadyH.nil
            go_simp
            go_at_call 27; (with_reducible refine (CK4.out _ hHeld).mono ?_); rintro e v1 ⟨b1, rfl, hb1, hv1⟩; obtain rfl : b1 = false := NOB.out _ hb1.1; clear hb1; have hHeld1 : Frm [] w4 v1 := hHeld.trans hv1 (by simp) (by simp)
            go_wp2_with fail
            refine hK.out _ _ (by assumption) (fun hHeld => ?_)
            clear hK K
            try simp only [Act.put, List.setIfInBounds_toArray, List.set_cons_zero, List.set_cons_succ]
            refine wpAnyH_ready (rs := [3]) (by kernel_rfl) (by simp) ?_
            refine AllReadyH.cons (o := ⟨some 61, _, _, _, _, _⟩) rfl (fun K hK => ?_) AllReadyH.nil
            go_simp
            go_at_call 25; (with_reducible refine (RC4.out _ hHeld).mono ?_); rintro e v2 ⟨b2, rfl, hb2, hv2⟩; obtain rfl : b2 = false := NOB.out _ hb2.1; clear hb2; have hHeld2 : Frm [] w4 v2 := hHeld.trans hv2 (by simp) (by simp)
            go_wp2_with fail
            refine hK.out _ _ (by assumption) (fun hHeld => ?_)
            clear hK K
            try simp only [Act.put, List.setIfInBounds_toArray, List.set_cons_zero, List.set_cons_succ]
            refine wpAnyH_take (i := 4) (oi := ⟨some 62, _, _, _, _, _⟩) (v := ?_) rfl (by kernel_rfl) (by kernel_rfl) (by kernel_rfl) (fun _ _ _ h => h) (Or.inl ⟨by rfl, ?_⟩) (by assumption) ?_
            rotate_left 1
            · (intro w hSw; (try dsimp only at hSw); go_simp; all_goals with_reducible rfl)
            try simp only [Act.put, List.setIfInBounds_toArray, List.set_cons_zero, List.set_cons_succ]
            refine wpAnyH_take (i := 5) (oi := ⟨some 63, _, _, _, _, _⟩) (v := ?_) rfl (by kernel_rfl) (by kernel_rfl) (by kernel_rfl) (fun _ _ _ h => h) (Or.inl ⟨by rfl, ?_⟩) (by assumption) ?_
            rotate_left 1
            · (intro w hSw; (try dsimp only at hSw); go_simp; all_goals with_reducible rfl)
            try simp only [Act.put, List.setIfInBounds_toArray, List.set_cons_zero, List.set_cons_succ]
            refine wpAnyH_take (i := 6) (oi := ⟨some 64, _, _, _, _, _⟩) (v := ?_) rfl (by kernel_rfl) (by kernel_rfl) (by kernel_rfl) (fun _ _ _ h => h) (Or.inl ⟨by rfl, ?_⟩) (by assumption) ?_
            rotate_left 1
            · (intro w hSw; (try dsimp only at hSw); go_simp; all_goals with_reducible rfl)
            try simp only [Act.put, List.setIfInBounds_toArray, List.set_cons_zero, List.set_cons_succ]
            refine wpAnyH_take (i := 7) (oi := ⟨some 65, _, _, _, _, _⟩) (v := ?_) rfl (by kernel_rfl) (by kernel_rfl) (by kernel_rfl) (fun _ _ _ h => h) (Or.inl ⟨by rfl, ?_⟩) (by assumption) ?_
            rotate_left 1
            · (intro w hSw; (try dsimp only at hSw); go_simp; all_goals with_reducible rfl)
            try simp only [Act.put, List.setIfInBounds_toArray, List.set_cons_zero, List.set_cons_succ]
            refine wpAnyH_take (i := 8) (oi := ⟨some 66, _, _, _, _, _⟩) (v := ?_) rfl (by kernel_rfl) (by kernel_rfl) (by kernel_rfl) (fun _ _ _ h => h) (Or.inl ⟨by rfl, ?_⟩) (by assumption) ?_
            rotate_left 1
            · (intro w hSw; (try dsimp only at hSw); go_simp; all_goals with_reducible rfl)
            try simp only [Act.put, List.setIfInBounds_toArray, List.set_cons_zero, List.set_cons_succ]
            refine wpAnyH_ready (rs := [9]) (by kernel_rfl) (by simp) ?_
            refine AllReadyH.cons (o := ⟨some 67, _, _, _, _, _⟩) rfl (fun K hK => ?_) AllReadyH.nil
            go_simp
            go_at_call 27; (with_reducible refine (CK4.out _ hHeld).mono ?_); rintro e v3 ⟨b3, rfl, hb3, hv3⟩; obtain rfl : b3 = false := NOB.out _ hb3.1; clear hb3; have hHeld3 : Frm [] w4 v3 := hHeld.trans hv3 (by simp) (by simp)
            go_wp2_with fail
            refine hK.out _ _ (by assumption) (fun hHeld => ?_)
            clear hK K
            try simp only [Act.put, List.setIfInBounds_toArray, List.set_cons_zero, List.set_cons_succ]
            refine wpAnyH_take (i := 10) (oi := ⟨some 68, _, _, _, _, _⟩) (v := ?_) rfl (by kernel_rfl) (by kernel_rfl) (by kernel_rfl) (fun _ _ _ h => h) (Or.inl ⟨by rfl, ?_⟩) (by assumption) ?_
            rotate_left 1
            · (intro w hSw; (try dsimp only at hSw); go_simp; all_goals with_reducible rfl)
            try simp only [Act.put, List.setIfInBounds_toArray, List.set_cons_zero, List.set_cons_succ]
            refine wpAnyH_take (i := 11) (oi := ⟨some 69, _, _, _, _, _⟩) (v := ?_) rfl (by kernel_rfl) (by kernel_rfl) (by kernel_rfl) (fun _ _ _ h => h) (Or.inl ⟨by rfl, ?_⟩) (by assumption) ?_
            rotate_left 1
            · (intro w hSw; (try dsimp only at hSw); go_simp; all_goals with_reducible rfl)
            try simp only [Act.put, List.setIfInBounds_toArray, List.set_cons_zero, List.set_cons_succ]
            refine wpAnyH_take (i := 12) (oi := ⟨some 70, _, _, _, _, _⟩) (v := ?_) rfl (by kernel_rfl) (by kernel_rfl) (by kernel_rfl) (fun _ _ _ h => h) (Or.inl ⟨by rfl, ?_⟩) (by assumption) ?_
            rotate_left 1
            · (intro w hSw; (try dsimp only at hSw); go_simp; all_goals with_reducible rfl)
            try simp only [Act.put, List.setIfInBounds_toArray, List.set_cons_zero, List.set_cons_succ]
            refine wpAnyH_take (i := 13) (oi := ⟨some 71, _, _, _, _, _⟩) (v := ?_) rfl (by kernel_rfl) (by kernel_rfl) (by kernel_rfl) (fun _ _ _ h => h) (Or.inl ⟨by rfl, ?_⟩) (by assumption) ?_
            rotate_left 1
            · (intro w hSw; (try dsimp only at hSw); go_simp; all_goals with_reducible rfl)
            try simp only [Act.put, List.setIfInBounds_toArray, List.set_cons_zero, List.set_cons_succ]
            refine wpAnyH_take (i := 14) (oi := ⟨some 72, _, _, _, _, _⟩) (v := ?_) rfl (by kernel_rfl) (by kernel_rfl) (by kernel_rfl) (fun _ _ _ h => h) (Or.inl ⟨by rfl, ?_⟩) (by assumption) ?_
            rotate_left 1
            · (intro w hSw; (try dsimp only at hSw); go_simp; all_goals with_reducible rfl)
            try simp only [Act.put, List.setIfInBounds_toArray, List.set_cons_zero, List.set_cons_succ]
            refine wpAnyH_take (i := 15) (oi := ⟨some 73, _, _, _, _, _⟩) (v := ?_) rfl (by kernel_rfl) (by kernel_rfl) (by kernel_rfl) (fun _ _ _ h => h) (Or.inl ⟨by rfl, ?_⟩) (by assumption) ?_
            rotate_left 1
            · (intro w hSw; (try dsimp only at hSw); go_simp; all_goals with_reducible rfl)
            try simp only [Act.put, List.setIfInBounds_toArray, List.set_cons_zero, List.set_cons_succ]
            refine wpAnyH_take (i := 16) (oi := ⟨some 74, _, _, _, _, _⟩) (v := ?_) rfl (by kernel_rfl) (by kernel_rfl) (by kernel_rfl) (fun _ _ _ h => h) (Or.inl ⟨by rfl, ?_⟩) (by assumption) ?_
            rotate_left 1
            · (intro w hSw; (try dsimp only at hSw); go_simp; all_goals with_reducible rfl)
            try simp only [Act.put, List.setIfInBounds_toArray, List.set_cons_zero, List.set_cons_succ]
            refine wpAnyH_take (i := 17) (oi := ⟨some 75, _, _, _, _, _⟩) (v := ?_) rfl (by kernel_rfl) (by kernel_rfl) (by kernel_rfl) (fun _ _ _ h => h) (Or.inl ⟨by rfl, ?_⟩) (by assumption) ?_
            rotate_left 1
            · (intro w hSw; (try dsimp only at hSw); go_simp; all_goals with_reducible rfl)
            try simp only [Act.put, List.setIfInBounds_toArray, List.set_cons_zero, List.set_cons_succ]
            refine wpAnyH_take (i := 18) (oi := ⟨some 76, _, _, _, _, _⟩) (v := ?_) rfl (by kernel_rfl) (by kernel_rfl) (by kernel_rfl) (fun _ _ _ h => h) (Or.inl ⟨by rfl, ?_⟩) (by assumption) ?_
            rotate_left 1
            · (intro w hSw; (try dsimp only at hSw); go_simp; all_goals with_reducible rfl)
            try simp only [Act.put, List.setIfInBounds_toArray, List.set_cons_zero, List.set_cons_succ]
            refine wpAnyH_take (i := 19) (oi := ⟨some 77, _, _, _, _, _⟩) (v := ?_) rfl (by kernel_rfl) (by kernel_rfl) (by kernel_rfl) (fun _ _ _ h => h) (Or.inl ⟨by rfl, ?_⟩) (by assumption) ?_
            rotate_left 1
            · (intro w hSw; (try dsimp only at hSw); go_simp; all_goals with_reducible rfl)
            try simp only [Act.put, List.setIfInBounds_toArray, List.set_cons_zero, List.set_cons_succ]
            refine wpAnyH_take (i := 20) (oi := ⟨some 78, _, _, _, _, _⟩) (v := ?_) rfl (by kernel_rfl) (by kernel_rfl) (by kernel_rfl) (fun _ _ _ h => h) (Or.inl ⟨by rfl, ?_⟩) (by assumption) ?_
            rotate_left 1
            · (intro w hSw; (try dsimp only at hSw); go_simp; all_goals with_reducible rfl)
            try simp only [Act.put, List.setIfInBounds_toArray, List.set_cons_zero, List.set_cons_succ]
            refine wpAnyH_take (i := 21) (oi := ⟨some 79, _, _, _, _, _⟩) (v := ?_) rfl (by kernel_rfl) (by kernel_rfl) (by kernel_rfl) (fun _ _ _ h => h) (Or.inl ⟨by rfl, ?_⟩) (by assumption) ?_
            rotate_left 1
            · (intro w hSw; (try dsimp only at hSw); go_simp; all_goals with_reducible rfl)
            try simp only [Act.put, List.setIfInBounds_toArray, List.set_cons_zero, List.set_cons_succ]
            refine wpAnyH_take (i := 22) (oi := ⟨some 80, _, _, _, _, _⟩) (v := ?_) rfl (by kernel_rfl) (by kernel_rfl) (by kernel_rfl) (fun _ _ _ h => h) (Or.inl ⟨by rfl, ?_⟩) (by assumption) ?_
            rotate_left 1
            · (intro w hSw; (try dsimp only at hSw); go_simp; all_goals with_reducible rfl)
            try simp only [Act.put, List.setIfInBounds_toArray, List.set_cons_zero, List.set_cons_succ]
            refine wpAnyH_take (i := 23) (oi := ⟨some 81, _, _, _, _, _⟩) (v := ?_) rfl (by kernel_rfl) (by kernel_rfl) (by kernel_rfl) (fun _ _ _ h => h) (Or.inl ⟨by rfl, ?_⟩) (by assumption) ?_
            rotate_left 1
            · (intro w hSw; (try dsimp only at hSw); go_simp; all_goals with_reducible rfl)
            try simp only [Act.put, List.setIfInBounds_toArray, List.set_cons_zero, List.set_cons_succ]
            refine wpAnyH_take (i := 24) (oi := ⟨some 82, _, _, _, _, _⟩) (v := undef) rfl (by kernel_rfl) (by kernel_rfl) (by kernel_rfl) (fun _ _ _ h => h) (Or.inr ⟨by rfl, rfl⟩) (by assumption) ?_
            try simp only [Act.put, List.setIfInBounds_toArray, List.set_cons_zero, List.set_cons_succ]
            refine wpAnyH_take (i := 25) (oi := ⟨some 83, _, _, _, _, _⟩) (v := undef) rfl (by kernel_rfl) (by kernel_rfl) (by kernel_rfl) (fun _ _ _ h => h) (Or.inr ⟨by rfl, rfl⟩) (by assumption) ?_
            try simp only [Act.put, List.setIfInBounds_toArray, List.set_cons_zero, List.set_cons_succ]
            refine wpAnyH_take (i := 26) (oi := ⟨some 84, _, _, _, _, _⟩) (v := undef) rfl (by kernel_rfl) (by kernel_rfl) (by kernel_rfl) (fun _ _ _ h => h) (Or.inr ⟨by rfl, rfl⟩) (by assumption) ?_
            try simp only [Act.put, List.setIfInBounds_toArray, List.set_cons_zero, List.set_cons_succ]
            refine wpAnyH_take (i := 27) (oi := ⟨some 85, _, _, _, _, _⟩) (v := undef) rfl (by kernel_rfl) (by kernel_rfl) (by kernel_rfl) (fun _ _ _ h => h) (Or.inr ⟨by rfl, rfl⟩) (by assumption) ?_
            try simp only [Act.put, List.setIfInBounds_toArray, List.set_cons_zero, List.set_cons_succ]
            refine wpAnyH_take (i := 28) (oi := ⟨some 86, _, _, _, _, _⟩) (v := undef) rfl (by kernel_rfl) (by kernel_rfl) (by kernel_rfl) (fun _ _ _ h => h) (Or.inr ⟨by rfl, rfl⟩) (by assumption) ?_
            try simp only [Act.put, List.setIfInBounds_toArray, List.set_cons_zero, List.set_cons_succ]
            refine wpAnyH_take (i := 29) (oi := ⟨some 87, _, _, _, _, _⟩) (v := undef) rfl (by kernel_rfl) (by kernel_rfl) (by kernel_rfl) (fun _ _ _ h => h) (Or.inr ⟨by rfl, rfl⟩) (by assumption) ?_
            try simp only [Act.put, List.setIfInBounds_toArray, List.set_cons_zero, List.set_cons_succ]
            refine wpAnyH_take (i := 30) (oi := ⟨some 88, _, _, _, _, _⟩) (v := ?_) rfl (by kernel_rfl) (by kernel_rfl) (by kernel_rfl) (fun _ _ _ h => h) (Or.inl ⟨by rfl, ?_⟩) (by assumption) ?_
            rotate_left 1
            · (intro w hSw; (try dsimp only at hSw); go_simp; all_goals with_reducible rfl)
            try simp only [Act.put, List.setIfInBounds_toArray, List.set_cons_zero, List.set_cons_succ]
            refine wpAnyH_take (i := 31) (oi := ⟨some 89, _, _, _, _, _⟩) (v := ?_) rfl (by kernel_rfl) (by kernel_rfl) (by kernel_rfl) (fun _ _ _ h => h) (Or.inl ⟨by rfl, ?_⟩) (by assumption) ?_
            rotate_left 1
            · (intro w hSw; (try dsimp only at hSw); go_simp; all_goals with_reducible rfl)
            try simp only [Act.put, List.setIfInBounds_toArray, List.set_cons_zero, List.set_cons_succ]
            refine wpAnyH_done (by kernel_rfl) ?_ _
            have DX := Lib.hid (fun z => cqdecode_any none 0 0 [] z ⟨by simp, by simp, .inl rfl⟩ rfl (fun _ => rfl) (by decide))
            have FH := Lib.hid hHeld
            clear t0 t1 t2
            go_wp2_with fail
            (with_reducible refine (DX.out _).mono ?_)
            rintro e w8 ⟨code, D2, a2, n2, c2, Z2, _, rfl, hf8, _, _⟩
            have NX : Hid (Frm [] Wb (w8.alloc (.cells #[.int .u64 (D2.l : Nat), .int .u64 (D2.e : Nat), .slice a2 n2 c2] 28))) := Lib.hid ((F3.out.trans (F4.out.trans (FH.out.trans hf8.out (U := []) (by simp) (by simp)) (U := []) (by simp) (by simp)) (by simp) (by simp)).alloc _)
            clear hf8
            unfold crsV
            go_wp2
            go_roundw
            case rel => exact ⟨i + 1, by omega, by go_num, NX⟩
            case measure => simp [intOf]; omega
        · obtain rfl : i = 2 := by omega
          have FR : Hid (Frm [] w wr) := Lib.hid (FWb.out.trans HI.out (by simp) (by simp))
          have BW : Hid (Bytes wr ac cs) := Lib.hid (FR.out.bytes HB.out (by simp))
          have DX := Lib.hid (cqdecode_any ac n capc cs wr BW.out HN.out HC2.out (by have := N5.out; omega))
          go_wp2_with fail
          (with_reducible refine DX.out.mono ?_)
          rintro e w8 ⟨code, D2, a2, n2, c2, Z2, hdec, rfl, hf8, htk, _⟩
          unfold crsV
          have HDEC := Lib.hid hdec
          clear hdec
          obtain ⟨V8, hV8⟩ : ∃ W, W = w8.alloc (.cells #[.int .u64 (D2.l : Nat), .int .u64 (D2.e : Nat), .slice a2 n2 c2] 28) := ⟨_, rfl⟩
          obtain ⟨y8, hy8⟩ : ∃ y, y = w8.heap.size := ⟨_, rfl⟩
          have F88 : Hid (Frm [] w8 V8) := Lib.hid (by rw [hV8]; exact (Frm.refl _ _).alloc _)
          have B8 : Hid (Whole V8 y8 28 #[.int .u64 (D2.l : Nat), .int .u64 (D2.e : Nat), .slice a2 n2 c2]) := Lib.hid (by rw [hV8, hy8]; exact Whole.made _ _ _)
          have FR8 : Hid (Frm [] wr V8) := Lib.hid (hf8.out.trans F88.out (by simp) (by simp))
          have T8 : Hid (Tkn V8 a2 n2 c2 Z2) := Lib.hid ⟨htk.out.hl.sub F88.out, htk.out.len, htk.out.few, htk.out.rgs⟩
          clear hf8 htk
          go_upto_region 22 with (fail)
          rw [← hV8, ← hy8]
          have HV8 := Lib.hid hV8; clear hV8
          have HY8 := Lib.hid hy8; clear hy8
          obtain ⟨V9, hV9⟩ : ∃ W, W = V8.alloc (.cells #[.slice ac n capc, .int .i64 0] 63) := ⟨_, rfl⟩
          obtain ⟨rb, hrb⟩ : ∃ y, y = V8.heap.size := ⟨_, rfl⟩
          have F89 : Hid (Frm [] V8 V9) := Lib.hid (by rw [hV9]; exact (Frm.refl _ _).alloc _)
          have FR9 : Hid (Frm [] w V9) := Lib.hid (FR.out.trans (FR8.out.trans F89.out (U := []) (by simp) (by simp)) (by simp) (by simp))
          have RQ9 : Hid (RQ V9 rb rb (some cs)) := Lib.hid ⟨ac, cs, capc, 0, by rw [hV9, hrb, ← HN.out]; exact Whole.made _ _ _, FR9.out.bytes HB.out (by simp), by rw [← HN.out]; exact HC1.out, HC2.out, fun hne x hx => by
            have h1 := bytes_lt (FR8.out.bytes BW.out (by simp)) hne x hx
            omega, Nat.le_refl _, .inl ⟨rfl, rfl⟩⟩
          have RBW : Hid (w.heap.size ≤ rb ∧ y8 < rb) := Lib.hid (by have h1 := FR.out.size; have h2 := FR8.out.size; have h3 := B8.out.lt; omega)
          have TKX := Lib.hid (crtake_any RQ9.out)
          go_upto_region 23 with (fail)
          rw [← hV9, ← hrb]
          have HV9 := Lib.hid hV9; clear hV9
          have HRB := Lib.hid hrb; clear hrb
          go_wp2_with fail
          (with_reducible refine TKX.out.mono ?_)
          rintro e w10 ⟨D3, a3, n3, c3, rfl, hf10, hcase⟩
          unfold crsV
          obtain ⟨V11, hV11⟩ : ∃ W, W = w10.alloc (.cells #[.int .u64 (D3.l : Nat), .int .u64 (D3.e : Nat), .slice a3 n3 c3] 28) := ⟨_, rfl⟩
          obtain ⟨y11, hy11⟩ : ∃ y, y = w10.heap.size := ⟨_, rfl⟩
          have F11 : Hid (Frm [] w10 V11) := Lib.hid (by rw [hV11]; exact (Frm.refl _ _).alloc _)
          have B11 : Hid (Whole V11 y11 28 #[.int .u64 (D3.l : Nat), .int .u64 (D3.e : Nat), .slice a3 n3 c3]) := Lib.hid (by rw [hV11, hy11]; exact Whole.made _ _ _)
          have F911 : Hid (Frm [rb] V9 V11) := Lib.hid (hf10.out.trans F11.out (fun x hx => hx) (by simp))
          have F811 : Hid (Frm [] V8 V11) := Lib.hid (F89.out.trans F911.out (by simp) (fun x hx => .inr (by simp at hx; have := HRB.out; omega)))
          have NE11 : Hid (y11 ≠ rb) := Lib.hid (by have h1 := RQ9.out.lt; have h2 := hf10.out.size; omega)
          have FR11 : Hid (Frm [] w V11) := Lib.hid (FR.out.trans (FR8.out.trans F811.out (U := []) (by simp) (by simp)) (by simp) (by simp))
          have ENDX : Hid (Calls Try.prog 33 #[.pointer (some ⟨rb, 0, none⟩)] V11 (fun e w' => ∃ cc : Nat, e = .returned (.int .i64 (cc : Nat)) ∧ Hid ((cc ≠ 0 ∧ DecC cs cc ⟨⟨0, 0⟩, []⟩) ∨ (cc = 0 ∧ ∃ Z3, DecC cs 0 ⟨D3, hels Z3⟩ ∧ Tkn V11 a3 n3 c3 Z3 ∧ HxL V11 [rb] a3 Z3)) ∧ Hid (Frm [rb] V11 w'))) := Lib.hid (by
            rcases hcase.out with ⟨h1, h2⟩ | ⟨C, mm, h1, h2, v, h3⟩ | ⟨Z3, mm, h1, h2, h3, h4, h5, h6⟩
            · refine (rq_end (h2.keep F11.out (by simp) (by simp))).mono ?_
              rintro e w' ⟨c, rfl, hc, hf⟩
              rcases hc with ⟨h, _⟩ | ⟨l, h, _⟩ | ⟨_, rfl⟩
              · cases h
              · cases h
              · exact ⟨4, rfl, Lib.hid (.inl ⟨by decide, .inl ⟨h1, rfl, rfl⟩⟩), Lib.hid hf⟩
            · refine (rqf_end ⟨v, F11.out.whole h3 (by simp)⟩).mono ?_
              rintro e w' ⟨rfl, hf⟩
              exact ⟨23, rfl, Lib.hid (.inl ⟨by decide, .inr (.inl ⟨C, mm, h1, h2, rfl, rfl⟩)⟩), Lib.hid (hf.weak (by simp))⟩
            · refine (rq_end (h3.keep F11.out (by simp) (by simp))).mono ?_
              rintro e w' ⟨c, rfl, hc, hf⟩
              rcases hc with ⟨h, rfl⟩ | ⟨l, h, hl, rfl⟩ | ⟨h, _⟩
              · cases h
                exact ⟨0, rfl, Lib.hid (.inr ⟨rfl, Z3, .inr (.inr (.inr ⟨_, h1, h2, rfl, rfl⟩)), ⟨h4.hl.sub F11.out, h4.len, h4.few, h4.rgs⟩, h6.sub F11.out⟩), Lib.hid hf⟩
              · cases h
                exact ⟨5, rfl, Lib.hid (.inl ⟨by decide, .inr (.inr (.inl ⟨_, _, h1, h2, hl, rfl, rfl⟩))⟩), Lib.hid hf⟩
              · cases h)
          clear hcase hf10
          go_upto_region 24 with (fail)
          rw [← hV11, ← hy11]
          have HV11 := Lib.hid hV11; clear hV11
          have HY11 := Lib.hid hy11; clear hy11
          go_wp2_with fail
          (with_reducible refine ENDX.out.mono ?_)
          rintro e w12 ⟨cc, rfl, hcc, hf12⟩
          have F812 : Hid (Frm [rb] V8 w12) := Lib.hid (F811.out.trans hf12.out (by simp) (fun x hx => .inl hx))
          have FRX : Hid (∀ z, Frm [] w12 z → Frm [] w z) := Lib.hid (fun z hz => (FR11.out.trans hf12.out (U := []) (by simp) (fun x hx => .inr (by simp at hx; have := RBW.out; omega))).trans hz (by simp) (by simp))
          have b8 := F812.out.whole B8.out (by have := RBW.out; simp; omega)
          have b11 := hf12.out.whole B11.out (by have := NE11.out; simp; omega)
          have x0 := b8.cell 0
          have x1 := b8.cell 1
          have x2 := b8.cell 2
          have z0 := b11.cell 0
          have z1 := b11.cell 1
          have z2 := b11.cell 2
          simp only [List.getElem?_toArray, List.getElem?_cons_zero, List.getElem?_cons_succ] at x0 x1 x2 z0 z1 z2
          have H2 : Hid (HxL w12 [] a2 Z2) := Lib.hid ((T8.out.hl.keep F811.out (F' := [rb]) (by simp) (fun x hx => .inr (by simp at hx; have := HRB.out; omega))).keep hf12.out (F' := []) (fun x hx => .inl hx) (by simp))
          clear b8 b11
          rcases hcc.out with ⟨hne, hd⟩ | ⟨h0, Z3, hd, ht3, hl3⟩
          · obtain ⟨e1, e2⟩ := DecC.uniq HDEC.out hd
            subst e1
            have E2 := Lib.hid e2
            have b1 : ((code : Int) != 0) = true := by simp; omega
            have b2 : ((code : Int) == (code : Int)) = true := by simp
            have SX := Lib.hid (crsame_any D2 ⟨0, 0⟩ a2 none n2 c2 0 0 [] [] Z2 [] w12 H2.out (HxL.nil _ _ _) T8.out.len rfl (by have := T8.out.few; omega) (by decide) (fun x hx => by have := T8.out.rgs x hx; omega) (by simp))
            unfold BoolOf crsV at SX
            simp only at SX
            have h00 : ((0 : Nat) : Int) = 0 := rfl
            simp only [h00] at SX
            clear hne hd e2 hcc h00
            go_wp2_with fail
            (with_reducible refine SX.out.mono ?_)
            rintro e w13 ⟨b, rfl, hb, hf13⟩
            obtain rfl : b = true := hb.2 E2.out
            have FF := Lib.hid (FRX.out _ hf13)
            clear hb hf13 x0 x1 x2 z0 z1 z2
            go_wp2
            go_ret
            exact lTrue FF.out
          · subst h0
            obtain ⟨e1, e2⟩ := DecC.uniq HDEC.out hd
            subst e1
            have E2 := Lib.hid e2
            have H3 : Hid (HxL w12 [] a3 Z3) := Lib.hid (hl3.keep hf12.out (F' := []) (fun x hx => .inl hx) (by simp))
            have SX := Lib.hid (crsame_any D2 D3 a2 a3 n2 c2 n3 c3 [] [] Z2 Z3 w12 H2.out H3.out T8.out.len ht3.len (by have := T8.out.few; omega) (by have := ht3.few; omega) (fun x hx => by have := T8.out.rgs x hx; omega) (fun x hx => by have := ht3.rgs x hx; omega))
            unfold BoolOf crsV at SX
            clear hd e2 hcc ht3 hl3
            go_wp2_with fail
            (with_reducible refine SX.out.mono ?_)
            rintro e w13 ⟨b, rfl, hb, hf13⟩
            obtain rfl : b = true := hb.2 E2.out
            have FF := Lib.hid (FRX.out _ hf13)
            clear hb hf13 x0 x1 x2 z0 z1 z2
            go_wp2
            go_ret
            exact lTrue FF.out
end Go.Proofs.Ytghadpihmhaepaa
