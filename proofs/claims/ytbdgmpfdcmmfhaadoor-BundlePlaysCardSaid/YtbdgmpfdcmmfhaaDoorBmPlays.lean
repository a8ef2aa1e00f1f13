/- The walk of BundlePlays. -/
import Derived.Test.YtbdgmpfdcmmfhaaDoorBmHash
import Derived.Test.YtbdgmpfdcmmfhaaDoorBmZero
import Derived.Test.YtbdgmpfdcmmfhaaDoorInIs
import Derived.Deep.DeepCutAuto
namespace Go.Proofs.YtbdgmpfdcmmfhaaDoor
open Go.RowKit
set_option maxRecDepth 100000

set_option maxHeartbeats 16000000 in
theorem bundlePlays_walk (a : Option Addr) (n cap : Nat) (ts : List Ba) (a1 : Option Addr) (n1 cap1 : Nat) (l1 : List Int) (w : World) (hT : Bt w) (h : Bas w a ts) (hn : n = ts.length) (h63 : n ≤ 9223372036854775807) (h1 : Is w a1 l1) (hn1 : n1 = l1.length) (h163 : n1 ≤ 9223372036854775807) :
    Calls Tryd.prog 3 #[.slice a n cap, .slice a1 n1 cap1] w fun e w' => e = .returned (.bool true) ∧ Below w.heap.size w w' := by
  have HA := Lib.hid (awake16_any w hT)
  have H := Lib.hid h
  have HN := Lib.hid hn
  have HI := Lib.hid h1
  have HN1 := Lib.hid hn1
  clear h hn hT h1 hn1
  obtain ⟨Z, hZ⟩ : ∃ Z : Array Value, Z = Array.replicate 65536 (.bool false) := ⟨_, rfl⟩
  have ZV := mapZ_run
  have ZM : Hid (∀ w : World, Mp (w.alloc (.cells (Z.setIfInBounds 0 (.bool true)) 30)) w.heap.size (Bf [])) := Lib.hid (fun w => by rw [hZ]; exact Mp.made1 w _)
  have ZS : Z.size = 65536 := by rw [hZ]; simp
  rw [← hZ] at ZV
  clear hZ
  go_enter Tryd.func3, Tryd.ntmps3
  go_wp2_with fail
  (with_reducible refine HA.out.mono ?_)
  rintro e w1 ⟨rfl, hf1⟩
  have F1 := Lib.hid hf1
  clear hf1
  go_wp2_with fail
  (with_reducible refine (bmnew_any _).mono ?_)
  rintro e w4 ⟨rfl, hb4, hf4⟩
  have HB4 := Lib.hid hb4
  have F4 : Hid (Frm [] w w4) := Lib.hid (F1.out.trans hf4 (by simp) (by simp))
  obtain ⟨g, hg⟩ : ∃ g, g = w1.heap.size := ⟨_, rfl⟩
  rw [← hg] at HB4 ⊢
  have hgw : w.heap.size ≤ g := by rw [hg]; exact F1.out.size
  have hg4 : g < w4.heap.size := HB4.out.tab.lt
  obtain ⟨q, hq⟩ : ∃ q, q = w4.heap.size := ⟨_, rfl⟩
  have QG : Hid (q ≠ g) := Lib.hid (by omega)
  have HG : Hid (w.heap.size ≤ g ∧ w.heap.size ≤ q) := Lib.hid ⟨hgw, by omega⟩
  obtain ⟨w5, hw5⟩ : ∃ w5, w5 = w4.alloc (.cells (Z.setIfInBounds 0 (.bool true)) 30) := ⟨_, rfl⟩
  have HQ5 : Hid (Mp w5 q (Bf [])) := Lib.hid (by rw [hw5, hq]; exact ZM.out w4)
  have f45 : Frm [] w4 w5 := by rw [hw5]; exact (Frm.refl [] w4).alloc _
  have HB5 := Lib.hid (HB4.out.keep f45)
  have F5 : Hid (Frm [] w w5) := Lib.hid (F4.out.trans f45 (by simp) (by simp))
  have HW5 := Lib.hid hw5
  have HQQ := Lib.hid hq
  clear hb4 hf4 hg hgw hg4 hq hw5 f45
  go_wp2
  rw [← HQQ.out, ← HW5.out]
  go_loopw [33] (fun u wr => ∃ (k : Nat) (am : Option Addr) (cm : Nat) (L : List Nat), k ≤ n ∧ u = .int .i64 (k : Nat) ∧ Hid (Bm wr g am cm L) ∧ Hid (Mp wr q (Bf L)) ∧ Hid (Frm [] w wr) ∧ Hid (q ∉ blk am)) (fun u _ => n - (intOf u).toNat)
  case atStart => exact ⟨0, none, 0, [], Nat.zero_le _, rfl, HB5, HQ5, F5, Lib.hid (by simp)⟩
  case round =>
    obtain ⟨k, am, cm, L, hk, rfl, HM, HQM, HF, QM⟩ := hrel
    by_cases hlt : k < n
    ·
      obtain ⟨b, off, rfl, hin⟩ := H.out (by have := HN.out; omega)
      have hin0 := (hin k (by have := HN.out; omega))
      have hin2 := hin0.keep HF.out
      generalize ts.getD k default = t at hin2
      obtain ⟨tj, tp, tr⟩ := t
      obtain ⟨d0, d1, d2, ok⟩ := hin2
      simp only at d0 d1 d2
      have OK := Lib.hid ok
      obtain ⟨y, hy⟩ : ∃ y, y = wr.heap.size := ⟨_, rfl⟩
      obtain ⟨w2, hw2⟩ : ∃ w2, w2 = wr.alloc (.cells #[.bool tj, .int .i64 tp, .bool tr] 32) := ⟨_, rfl⟩
      have hf2 : Frm [] wr w2 := by rw [hw2]; exact (Frm.refl _ _).alloc _
      have F2 : Hid (Frm [] w w2) := Lib.hid (HF.out.trans hf2 (by simp) (by simp))
      have HFEW := Lib.hid (fewB_any ⟨tj, tp, tr⟩ w2)
      have WF := Lib.hid (fewB_wf ⟨tj, tp, tr⟩ OK.out.pl_wf)
      obtain ⟨z, hz⟩ : ∃ z, z = fewB ⟨tj, tp, tr⟩ := ⟨_, rfl⟩
      rw [← hz] at HFEW WF
      unfold Ba.value at HFEW
      simp only at HFEW
      have B2 : Hid (Whole w2 y 32 #[.bool tj, .int .i64 tp, .bool tr]) := Lib.hid (by rw [hw2, hy]; exact Whole.made _ _ _)
      have HF12 := Lib.hid hf2
      have HW2 := Lib.hid hw2
      have HY := Lib.hid hy
      clear hin hin0 ok hw2 hy hf2 hz OK
      by_cases h60 : 60 < k
      · have h60' : (60 : Int) < (k : Int) := by omega
        obtain ⟨wz, hwz⟩ : ∃ wz, wz = wr.alloc (.cells #[.bool tj, .int .i64 tp, .bool tr] 32) := ⟨_, rfl⟩
        have fz : Frm [] wr wz := by rw [hwz]; exact (Frm.refl _ _).alloc _
        have HB := Lib.hid (HM.out.keep fz)
        have HQ := Lib.hid (HQM.out.keep fz (by simp))
        have FZ : Hid (Frm [] w wz) := Lib.hid (HF.out.trans fz (by simp) (by simp))
        clear fz HFEW WF B2 HF12 HW2 HY F2
        go_wp2
        rw [← hwz]
        clear hwz d0 d1 d2
        skip
        skip
        have BF0 := Lib.hid (Bf_zero L)
        have OFA := Lib.hid (fun (z : World) (hz : Frm [] wz z) (k : Int) => bmof_any k (HB.out.keep hz))
        have OFB := Lib.hid (fun (z : World) (hz : Frm [] wz z) (k : Int) => mof_any k (HQ.out.keep hz (by simp)) BF0.out)
        obtain ⟨f, hf⟩ : ∃ f, f = Bf L := ⟨_, rfl⟩
        rw [← hf] at OFA OFB
        clear hf
        go_loopw [70] (fun u wr => ∃ (j : Nat), j ≤ n1 ∧ u = .int .i64 (j : Nat) ∧ Hid (Frm [] wz wr)) (fun u _ => n1 - (intOf u).toNat)
        case atStart => exact ⟨0, Nat.zero_le _, rfl, Lib.hid (Frm.refl _ _)⟩
        case round =>
          obtain ⟨j, hj, rfl, HFR⟩ := hrel
          by_cases hlt1 : j < n1
          · obtain ⟨⟨x1, x2⟩, b, off, rfl, p0⟩ := (HI.out.keep (FZ.out.trans HFR.out (U := []) (by simp) (by simp))) j (by have := HN1.out; omega)
            obtain ⟨x, hx⟩ : ∃ x, x = l1.getD j 0 := ⟨_, rfl⟩
            rw [← hx] at p0 x1 x2
            have hlt1' : (j : Int) < (n1 : Int) := by omega
            clear hx
            by_cases h20 : 20 < j
            · have h20' : (20 : Int) < (j : Int) := by omega
              have FIN : Hid (Below w.heap.size w wr) := Lib.hid ((FZ.out.trans HFR.out (U := []) (by simp) (by simp)).below (by simp) (Nat.le_refl _))
              go_wp2
              go_ret
              exact ⟨rfl, FIN.out⟩
            · have h20' : ¬ ((20 : Int) < (j : Int)) := by omega
              obtain ⟨u, hu⟩ : ∃ u : Nat, u = (x % 18446744073709551616).toNat := ⟨_, rfl⟩
              have w1 : IntKind.u64.wrap x = (u : Int) := by
                simp [IntKind.wrap, IntKind.bits, IntKind.signed]; omega
              have hu64 : u < 18446744073709551616 := by omega
              clear hu
              obtain ⟨r, hr⟩ : ∃ r : Nat, r = u % 65536 := ⟨_, rfl⟩
              have r1 : (u : Int).tmod 65536 = (r : Int) := by rw [Int.tmod_eq_emod_of_nonneg (by omega)]; omega
              have r2 : (u : Int) % 65536 = (r : Int) := by omega
              have hr65 : r < 65536 := by omega
              have w2' : IntKind.u64.wrap (r : Int) = (r : Int) := by simp [IntKind.wrap, IntKind.bits, IntKind.signed]; omega
              have w3' : IntKind.i64.wrap (r : Int) = (r : Int) := by simp [IntKind.wrap, IntKind.bits, IntKind.signed]; omega
              clear hr
              obtain ⟨y, hy⟩ : ∃ y, y = wr.heap.size := ⟨_, rfl⟩
              obtain ⟨w8, hw8⟩ : ∃ w8, w8 = wr.alloc (.cells #[.int .i64 x, .int .i64 (r : Nat)] 3) := ⟨_, rfl⟩
              have hf8 : Frm [] wr w8 := by rw [hw8]; exact (Frm.refl _ _).alloc _
              have F8 : Hid (Frm [] wz w8) := Lib.hid (HFR.out.trans hf8 (by simp) (by simp))
              have EL : Hid (∀ i, i < 2 → ∃ v : Int, w8.cell? ⟨y, i, none⟩ = some (.int .i64 v)) := Lib.hid (fun i hi => by
                have hw : Whole w8 y 3 #[.int .i64 x, .int .i64 (r : Nat)] := by rw [hw8, hy]; exact Whole.made _ _ _
                have hc : i = 0 ∨ i = 1 := by omega
                rcases hc with rfl | rfl
                · exact ⟨x, hw.cell 0⟩
                · exact ⟨(r : Nat), hw.cell 1⟩)
              have HW8 := Lib.hid hw8
              have HY8 := Lib.hid hy
              clear hw8 hy hf8
              go_wp2
              rw [← HW8.out, ← HY8.out]
              go_loop [84] (fun v => ∃ (i : Nat), i ≤ 2 ∧ v = .int .i64 (i : Nat)) (fun v => 2 - (intOf v).toNat)
              case atStart => exact ⟨0, by omega, rfl⟩
              case round =>
                obtain ⟨i, hi, rfl⟩ := hrel
                by_cases hi2 : i < 2
                · obtain ⟨v, q0⟩ := EL.out i hi2
                  have hi2' : (i : Int) < 2 := by omega
                  have PA := Lib.hid (OFA.out _ F8.out v)
                  have PB := Lib.hid (OFB.out _ F8.out v)
                  go_wp2_with fail
                  (with_reducible refine PA.out.mono ?_)
                  rintro e z1 ⟨hz1, (⟨hb1, rfl⟩ | ⟨n2, lo, hi', hn2, hn6, ho1, rfl⟩)⟩
                  · obtain rfl : w8 = z1 := hz1.symm
                    go_wp2_with fail
                    (with_reducible refine PB.out.mono ?_)
                    rintro e z2 ⟨hz2, (⟨_, rfl⟩ | ⟨n3, lo3, hi3, hn3, hn36, _, rfl⟩)⟩
                    · obtain rfl : w8 = z2 := hz2.symm
                      go_wp2
                      go_round
                      case rel => exact ⟨i + 1, by omega, by go_num⟩
                      case measure => simp [intOf]; omega
                    · exfalso; omega
                  · obtain rfl : w8 = z1 := hz1.symm
                    subst hn2
                    go_wp2_with fail
                    (with_reducible refine PB.out.mono ?_)
                    rintro e z2 ⟨hz2, (⟨hb3, _⟩ | ⟨n3, lo3, hi3, hn3, hn36, ho3, rfl⟩)⟩
                    · exfalso; omega
                    · obtain rfl : w8 = z2 := hz2.symm
                      obtain rfl : n2 = n3 := by omega
                      obtain ⟨rfl, rfl⟩ := ho1.uniq ho3
                      have k1 : ((lo : Int) != (lo : Int)) = false := by simp
                      have k2 : ((hi' : Int) != (hi' : Int)) = false := by simp
                      clear ho1 ho3 hn3 hn6 hn36 hz1 hz2
                      go_wp2
                      go_round
                      case rel => exact ⟨i + 1, by omega, by go_num⟩
                      case measure => simp [intOf]; omega
                · obtain rfl : i = 2 := by omega
                  go_wp2
                  go_roundw
                  case rel => exact ⟨j + 1, by omega, by go_num, F8⟩
                  case measure => simp [intOf]; omega
          · obtain rfl : j = n1 := by omega
            have FIN : Hid (Below w.heap.size w wr) := Lib.hid ((FZ.out.trans HFR.out (U := []) (by simp) (by simp)).below (by simp) (Nat.le_refl _))
            go_wp2
            go_ret
            exact ⟨rfl, FIN.out⟩
      · have h60' : ¬ ((60 : Int) < (k : Int)) := by omega
        go_wp2_with fail
        rw [← HW2.out, ← HY.out]
        (with_reducible refine HFEW.out.mono ?_)
        rintro e w5 ⟨rfl, hf5⟩
        have hfr : Frm [] wr w5 := HF12.out.trans hf5 (by simp) (by simp)
        have F5 : Hid (Frm [] w w5) := Lib.hid (HF.out.trans hfr (by simp) (by simp))
        have HB5 := Lib.hid (HM.out.keep hfr)
        have HQ5 := Lib.hid (HQM.out.keep hfr (by simp))
        have b5 := (hf5.whole B2.out (by simp)).cell 0
        simp at b5
        clear hf5 hfr d0 d1 d2
        cases tj
        ·
          have SP := Lib.hid (bmsplit_any z HB5.out WF.out)
          have SQ := Lib.hid (fun (v : World) (hv : Frm [g] w5 v) => msplit_any z (HQ5.out.keep hv (by simp; exact QG.out)))
          obtain ⟨c, hc⟩ : ∃ c, c = splC (Bf L) z := ⟨_, rfl⟩
          rw [← hc] at SP SQ
          clear hc
          go_wp2_with fail
          (with_reducible refine SP.out.mono ?_)
          rintro e w6 ⟨rfl, ⟨a6, c6, L6, hb6, hbf6, hbl6⟩, hf6⟩
          have QM6 : Hid (q ∉ blk a6) := Lib.hid (fun hm => by
            rcases hbl6 q hm with h1 | h1
            · exact QM.out h1
            · have h2 := HQ5.out.lt; omega)
          have SQ6 := Lib.hid (SQ.out w6 hf6)
          rw [← hbf6] at SQ6
          have HB6 := Lib.hid hb6
          have F6 : Hid (Frm [] w w6) := Lib.hid (F5.out.trans hf6 (by simp) (fun x hx => by simp at hx; subst hx; exact .inr HG.out.1))
          clear hb6 hbf6 hbl6 hf6
          go_wp2_with fail
          (with_reducible refine SQ6.out.mono ?_)
          rintro e w7 ⟨rfl, hq7, hf7⟩
          have HQ7 := Lib.hid hq7
          have HB7 := Lib.hid (HB6.out.keepS hf7 (by simp; exact fun e => QG.out e.symm) (fun x hx hm => QM6.out (by simp at hm; rw [← hm]; exact hx)))
          have F7 : Hid (Frm [] w w7) := Lib.hid (F6.out.trans hf7 (by simp) (fun x hx => by simp at hx; subst hx; exact .inr HG.out.2))
          have AL7 := Lib.hid (bmall_any HB7.out)
          have few7 : (allM (Bf L6)).length ≤ 16 := by rw [allM_Bf HB7.out.ok]; have := HB7.out.ok.few; simp; omega
          have cc : ((c : Int) != (c : Int)) = false := by simp
          clear hq7 hf7
          go_wp2_with fail
          (with_reducible refine AL7.out.mono ?_)
          rintro e w8 ⟨a8, m8, c8, rfl, hm8, ho8, hf8⟩
          have HQ8 := Lib.hid (HQ7.out.keep hf8 (by simp))
          have AQ8 := Lib.hid (mall_any HQ8.out)
          have F8 : Hid (Frm [] w w8) := Lib.hid (F7.out.trans hf8 (by simp) (by simp))
          have FB8 : Hid (Frm [] w7 w8) := Lib.hid hf8
          have HO8 := Lib.hid ho8.sl
          have HM8 := Lib.hid hm8
          clear hm8 ho8 hf8
          go_wp2_with fail
          (with_reducible refine AQ8.out.mono ?_)
          rintro e w9 ⟨a9, m9, c9, rfl, hm9, ho9, hf9⟩
          have SM := Lib.hid (msame_any a8 a9 m8 c8 m9 c9 _ _ w9 (HO8.out.sub hf9) ho9.sl HM8.out hm9 (by have := HM8.out; omega) (by omega))
          have F9 : Hid (Frm [] w w9) := Lib.hid (F8.out.trans hf9 (by simp) (by simp))
          have FB9 : Hid (Frm [] w7 w9) := Lib.hid (FB8.out.trans hf9 (by simp) (by simp))
          clear hm9 ho9 hf9 few7
          go_wp2_with fail
          (with_reducible refine SM.out.mono ?_)
          rintro e wx ⟨bb, rfl, hbb, hfx⟩
          obtain rfl : bb = true := hbb.2 (by first | exact trivial | rfl)
          have FX : Hid (Frm [] w wx) := Lib.hid (F9.out.trans hfx (by simp) (by simp))
          have fbx : Frm [] w7 wx := FB9.out.trans hfx (by simp) (by simp)
          have HBX := Lib.hid (HB7.out.keep fbx)
          have HQX := Lib.hid (HQ7.out.keep fbx (by simp))
          clear hbb hfx fbx
          go_wp2
          go_roundw
          case rel => exact ⟨k + 1, a6, c6, L6, by omega, by go_num, HBX, HQX, FX, QM6⟩
          case measure => simp [intOf]; omega
        ·
          have SP := Lib.hid (bmjoin_any z HB5.out WF.out)
          have SQ := Lib.hid (fun (v : World) (hv : Frm [g] w5 v) => mjoin_any z (HQ5.out.keep hv (by simp; exact QG.out)) WF.out)
          obtain ⟨c, hc⟩ : ∃ c, c = joinC (Bf L) z := ⟨_, rfl⟩
          rw [← hc] at SP SQ
          clear hc
          go_wp2_with fail
          (with_reducible refine SP.out.mono ?_)
          rintro e w6 ⟨rfl, ⟨a6, c6, L6, hb6, hbf6, hbl6⟩, hf6⟩
          have QM6 : Hid (q ∉ blk a6) := Lib.hid (fun hm => by
            rcases hbl6 q hm with h1 | h1
            · exact QM.out h1
            · have h2 := HQ5.out.lt; omega)
          have SQ6 := Lib.hid (SQ.out w6 hf6)
          rw [← hbf6] at SQ6
          have HB6 := Lib.hid hb6
          have F6 : Hid (Frm [] w w6) := Lib.hid (F5.out.trans hf6 (by simp) (fun x hx => by simp at hx; subst hx; exact .inr HG.out.1))
          clear hb6 hbf6 hbl6 hf6
          go_wp2_with fail
          (with_reducible refine SQ6.out.mono ?_)
          rintro e w7 ⟨rfl, hq7, hf7⟩
          have HQ7 := Lib.hid hq7
          have HB7 := Lib.hid (HB6.out.keepS hf7 (by simp; exact fun e => QG.out e.symm) (fun x hx hm => QM6.out (by simp at hm; rw [← hm]; exact hx)))
          have F7 : Hid (Frm [] w w7) := Lib.hid (F6.out.trans hf7 (by simp) (fun x hx => by simp at hx; subst hx; exact .inr HG.out.2))
          have AL7 := Lib.hid (bmall_any HB7.out)
          have few7 : (allM (Bf L6)).length ≤ 16 := by rw [allM_Bf HB7.out.ok]; have := HB7.out.ok.few; simp; omega
          have cc : ((c : Int) != (c : Int)) = false := by simp
          clear hq7 hf7
          go_wp2_with fail
          (with_reducible refine AL7.out.mono ?_)
          rintro e w8 ⟨a8, m8, c8, rfl, hm8, ho8, hf8⟩
          have HQ8 := Lib.hid (HQ7.out.keep hf8 (by simp))
          have AQ8 := Lib.hid (mall_any HQ8.out)
          have F8 : Hid (Frm [] w w8) := Lib.hid (F7.out.trans hf8 (by simp) (by simp))
          have FB8 : Hid (Frm [] w7 w8) := Lib.hid hf8
          have HO8 := Lib.hid ho8.sl
          have HM8 := Lib.hid hm8
          clear hm8 ho8 hf8
          go_wp2_with fail
          (with_reducible refine AQ8.out.mono ?_)
          rintro e w9 ⟨a9, m9, c9, rfl, hm9, ho9, hf9⟩
          have SM := Lib.hid (msame_any a8 a9 m8 c8 m9 c9 _ _ w9 (HO8.out.sub hf9) ho9.sl HM8.out hm9 (by have := HM8.out; omega) (by omega))
          have F9 : Hid (Frm [] w w9) := Lib.hid (F8.out.trans hf9 (by simp) (by simp))
          have FB9 : Hid (Frm [] w7 w9) := Lib.hid (FB8.out.trans hf9 (by simp) (by simp))
          clear hm9 ho9 hf9 few7
          go_wp2_with fail
          (with_reducible refine SM.out.mono ?_)
          rintro e wx ⟨bb, rfl, hbb, hfx⟩
          obtain rfl : bb = true := hbb.2 (by first | exact trivial | rfl)
          have FX : Hid (Frm [] w wx) := Lib.hid (F9.out.trans hfx (by simp) (by simp))
          have fbx : Frm [] w7 wx := FB9.out.trans hfx (by simp) (by simp)
          have HBX := Lib.hid (HB7.out.keep fbx)
          have HQX := Lib.hid (HQ7.out.keep fbx (by simp))
          clear hbb hfx fbx
          go_wp2
          go_roundw
          case rel => exact ⟨k + 1, a6, c6, L6, by omega, by go_num, HBX, HQX, FX, QM6⟩
          case measure => simp [intOf]; omega
    · obtain rfl : k = n := by omega
      obtain ⟨wz, hwz⟩ : ∃ wz, wz = wr := ⟨_, rfl⟩
      have HB := Lib.hid HM.out
      have HQ := Lib.hid HQM.out
      have FZ := Lib.hid HF.out
      subst hwz
      go_wp2
      skip
      skip
      have BF0 := Lib.hid (Bf_zero L)
      have OFA := Lib.hid (fun (z : World) (hz : Frm [] wz z) (k : Int) => bmof_any k (HB.out.keep hz))
      have OFB := Lib.hid (fun (z : World) (hz : Frm [] wz z) (k : Int) => mof_any k (HQ.out.keep hz (by simp)) BF0.out)
      obtain ⟨f, hf⟩ : ∃ f, f = Bf L := ⟨_, rfl⟩
      rw [← hf] at OFA OFB
      clear hf
      go_loopw [70] (fun u wr => ∃ (j : Nat), j ≤ n1 ∧ u = .int .i64 (j : Nat) ∧ Hid (Frm [] wz wr)) (fun u _ => n1 - (intOf u).toNat)
      case atStart => exact ⟨0, Nat.zero_le _, rfl, Lib.hid (Frm.refl _ _)⟩
      case round =>
        obtain ⟨j, hj, rfl, HFR⟩ := hrel
        by_cases hlt1 : j < n1
        · obtain ⟨⟨x1, x2⟩, b, off, rfl, p0⟩ := (HI.out.keep (FZ.out.trans HFR.out (U := []) (by simp) (by simp))) j (by have := HN1.out; omega)
          obtain ⟨x, hx⟩ : ∃ x, x = l1.getD j 0 := ⟨_, rfl⟩
          rw [← hx] at p0 x1 x2
          have hlt1' : (j : Int) < (n1 : Int) := by omega
          clear hx
          by_cases h20 : 20 < j
          · have h20' : (20 : Int) < (j : Int) := by omega
            have FIN : Hid (Below w.heap.size w wr) := Lib.hid ((FZ.out.trans HFR.out (U := []) (by simp) (by simp)).below (by simp) (Nat.le_refl _))
            go_wp2
            go_ret
            exact ⟨rfl, FIN.out⟩
          · have h20' : ¬ ((20 : Int) < (j : Int)) := by omega
            obtain ⟨u, hu⟩ : ∃ u : Nat, u = (x % 18446744073709551616).toNat := ⟨_, rfl⟩
            have w1 : IntKind.u64.wrap x = (u : Int) := by
              simp [IntKind.wrap, IntKind.bits, IntKind.signed]; omega
            have hu64 : u < 18446744073709551616 := by omega
            clear hu
            obtain ⟨r, hr⟩ : ∃ r : Nat, r = u % 65536 := ⟨_, rfl⟩
            have r1 : (u : Int).tmod 65536 = (r : Int) := by rw [Int.tmod_eq_emod_of_nonneg (by omega)]; omega
            have r2 : (u : Int) % 65536 = (r : Int) := by omega
            have hr65 : r < 65536 := by omega
            have w2' : IntKind.u64.wrap (r : Int) = (r : Int) := by simp [IntKind.wrap, IntKind.bits, IntKind.signed]; omega
            have w3' : IntKind.i64.wrap (r : Int) = (r : Int) := by simp [IntKind.wrap, IntKind.bits, IntKind.signed]; omega
            clear hr
            obtain ⟨y, hy⟩ : ∃ y, y = wr.heap.size := ⟨_, rfl⟩
            obtain ⟨w8, hw8⟩ : ∃ w8, w8 = wr.alloc (.cells #[.int .i64 x, .int .i64 (r : Nat)] 3) := ⟨_, rfl⟩
            have hf8 : Frm [] wr w8 := by rw [hw8]; exact (Frm.refl _ _).alloc _
            have F8 : Hid (Frm [] wz w8) := Lib.hid (HFR.out.trans hf8 (by simp) (by simp))
            have EL : Hid (∀ i, i < 2 → ∃ v : Int, w8.cell? ⟨y, i, none⟩ = some (.int .i64 v)) := Lib.hid (fun i hi => by
              have hw : Whole w8 y 3 #[.int .i64 x, .int .i64 (r : Nat)] := by rw [hw8, hy]; exact Whole.made _ _ _
              have hc : i = 0 ∨ i = 1 := by omega
              rcases hc with rfl | rfl
              · exact ⟨x, hw.cell 0⟩
              · exact ⟨(r : Nat), hw.cell 1⟩)
            have HW8 := Lib.hid hw8
            have HY8 := Lib.hid hy
            clear hw8 hy hf8
            go_wp2
            rw [← HW8.out, ← HY8.out]
            go_loop [84] (fun v => ∃ (i : Nat), i ≤ 2 ∧ v = .int .i64 (i : Nat)) (fun v => 2 - (intOf v).toNat)
            case atStart => exact ⟨0, by omega, rfl⟩
            case round =>
              obtain ⟨i, hi, rfl⟩ := hrel
              by_cases hi2 : i < 2
              · obtain ⟨v, q0⟩ := EL.out i hi2
                have hi2' : (i : Int) < 2 := by omega
                have PA := Lib.hid (OFA.out _ F8.out v)
                have PB := Lib.hid (OFB.out _ F8.out v)
                go_wp2_with fail
                (with_reducible refine PA.out.mono ?_)
                rintro e z1 ⟨hz1, (⟨hb1, rfl⟩ | ⟨n2, lo, hi', hn2, hn6, ho1, rfl⟩)⟩
                · obtain rfl : w8 = z1 := hz1.symm
                  go_wp2_with fail
                  (with_reducible refine PB.out.mono ?_)
                  rintro e z2 ⟨hz2, (⟨_, rfl⟩ | ⟨n3, lo3, hi3, hn3, hn36, _, rfl⟩)⟩
                  · obtain rfl : w8 = z2 := hz2.symm
                    go_wp2
                    go_round
                    case rel => exact ⟨i + 1, by omega, by go_num⟩
                    case measure => simp [intOf]; omega
                  · exfalso; omega
                · obtain rfl : w8 = z1 := hz1.symm
                  subst hn2
                  go_wp2_with fail
                  (with_reducible refine PB.out.mono ?_)
                  rintro e z2 ⟨hz2, (⟨hb3, _⟩ | ⟨n3, lo3, hi3, hn3, hn36, ho3, rfl⟩)⟩
                  · exfalso; omega
                  · obtain rfl : w8 = z2 := hz2.symm
                    obtain rfl : n2 = n3 := by omega
                    obtain ⟨rfl, rfl⟩ := ho1.uniq ho3
                    have k1 : ((lo : Int) != (lo : Int)) = false := by simp
                    have k2 : ((hi' : Int) != (hi' : Int)) = false := by simp
                    clear ho1 ho3 hn3 hn6 hn36 hz1 hz2
                    go_wp2
                    go_round
                    case rel => exact ⟨i + 1, by omega, by go_num⟩
                    case measure => simp [intOf]; omega
              · obtain rfl : i = 2 := by omega
                go_wp2
                go_roundw
                case rel => exact ⟨j + 1, by omega, by go_num, F8⟩
                case measure => simp [intOf]; omega
        · obtain rfl : j = n1 := by omega
          have FIN : Hid (Below w.heap.size w wr) := Lib.hid ((FZ.out.trans HFR.out (U := []) (by simp) (by simp)).below (by simp) (Nat.le_refl _))
          go_wp2
          go_ret
          exact ⟨rfl, FIN.out⟩
end Go.Proofs.YtbdgmpfdcmmfhaaDoor
