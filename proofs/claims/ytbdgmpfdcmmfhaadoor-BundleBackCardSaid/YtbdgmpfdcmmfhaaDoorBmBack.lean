/- The walk of BundleBack. -/
import Derived.Test.YtbdgmpfdcmmfhaaDoorBmBackM
import Derived.Deep.DeepCutAuto
namespace Go.Proofs.YtbdgmpfdcmmfhaaDoor
open Go.RowKit
set_option maxRecDepth 100000

set_option maxHeartbeats 8000000 in
theorem bundleBack_walk (a : Option Addr) (n cap : Nat) (ts : List Ba) (x : Int) (w : World) (hT : Bt w) (h : Bas w a ts) (hn : n = ts.length) (h63 : n ≤ 9223372036854775807) (hx : (Lit.int .i64 x).wf = true) :
    Calls Tryd.prog 5 #[.slice a n cap, .int .i64 x] w fun e w' => e = .returned (.bool true) ∧ Below w.heap.size w w' := by
  have HA := Lib.hid (awake16_any w hT)
  have H := Lib.hid h
  have HN := Lib.hid hn
  have WX := Lib.hid hx
  clear h hn hT hx
  go_enter Tryd.func5, Tryd.ntmps5
  go_wp2_with fail
  (with_reducible refine HA.out.mono ?_)
  rintro e w1 ⟨rfl, hf1⟩
  have F1 := Lib.hid hf1
  clear hf1
  go_wp2_with fail
  (with_reducible refine (bmnew_any _).mono ?_)
  rintro e w4 ⟨rfl, hb4, hf4⟩
  have HB4 := Lib.hid hb4
  have F4 : Hid (Frm [] w w4) := Lib.hid (F1.out.trans hf4 (by simp) (by simp))
  obtain ⟨g, hg⟩ : ∃ g, g = w1.heap.size := ⟨_, rfl⟩
  rw [← hg] at HB4 ⊢
  have HG : Hid (w.heap.size ≤ g) := Lib.hid (by rw [hg]; exact F1.out.size)
  clear hb4 hf4 hg
  go_wp2
  go_loopw [21] (fun u wr => ∃ (k : Nat) (am : Option Addr) (cm : Nat) (L : List Nat), k ≤ n ∧ u = .int .i64 (k : Nat) ∧ Hid (Bm wr g am cm L) ∧ Hid (Frm [] w wr)) (fun u _ => n - (intOf u).toNat)
  case atStart => exact ⟨0, none, 0, [], Nat.zero_le _, rfl, HB4, F4⟩
  case round =>
    obtain ⟨k, am, cm, L, hk, rfl, HM, HF⟩ := hrel
    by_cases hlt : k < n
    ·
      obtain ⟨b, off, rfl, hin⟩ := H.out (by have := HN.out; omega)
      have hin0 := (hin k (by have := HN.out; omega))
      have hin2 := hin0.keep HF.out
      generalize ts.getD k default = t at hin2
      obtain ⟨tj, tp, tr⟩ := t
      obtain ⟨d0, d1, d2, ok⟩ := hin2
      simp only at d0 d1 d2
      have OK := Lib.hid ok
      obtain ⟨y, hy⟩ : ∃ y, y = wr.heap.size := ⟨_, rfl⟩
      obtain ⟨w2, hw2⟩ : ∃ w2, w2 = wr.alloc (.cells #[.bool tj, .int .i64 tp, .bool tr] 32) := ⟨_, rfl⟩
      have hf2 : Frm [] wr w2 := by rw [hw2]; exact (Frm.refl _ _).alloc _
      have F2 : Hid (Frm [] w w2) := Lib.hid (HF.out.trans hf2 (by simp) (by simp))
      have HFEW := Lib.hid (fewB_any ⟨tj, tp, tr⟩ w2)
      have WF := Lib.hid (fewB_wf ⟨tj, tp, tr⟩ OK.out.pl_wf)
      obtain ⟨z, hz⟩ : ∃ z, z = fewB ⟨tj, tp, tr⟩ := ⟨_, rfl⟩
      rw [← hz] at HFEW WF
      unfold Ba.value at HFEW
      simp only at HFEW
      have B2 : Hid (Whole w2 y 32 #[.bool tj, .int .i64 tp, .bool tr]) := Lib.hid (by rw [hw2, hy]; exact Whole.made _ _ _)
      have HF12 := Lib.hid hf2
      have HW2 := Lib.hid hw2
      have HY := Lib.hid hy
      clear hin hin0 ok hw2 hy hf2 hz OK
      by_cases h14 : k < 14
      · have h60' : (k : Int) < 60 := by omega
        have h14' : (k : Int) < 14 := by omega
        go_wp2_with fail
        rw [← HW2.out, ← HY.out]
        (with_reducible refine HFEW.out.mono ?_)
        rintro e w5 ⟨rfl, hf5⟩
        have hfr : Frm [] wr w5 := HF12.out.trans hf5 (by simp) (by simp)
        have F5 : Hid (Frm [] w w5) := Lib.hid (HF.out.trans hfr (by simp) (by simp))
        have SP := Lib.hid (bmsplit_any z (HM.out.keep hfr) WF.out)
        clear hf5 hfr d0 d1 d2
        go_wp2_with fail
        (with_reducible refine SP.out.mono ?_)
        rintro e w6 ⟨rfl, ⟨a6, c6, L6, hb6, _, _⟩, hf6⟩
        have F6 : Hid (Frm [] w w6) := Lib.hid (F5.out.trans hf6 (by simp) (fun x hx => by simp at hx; subst hx; exact .inr HG.out))
        have HB6 := Lib.hid hb6
        clear hb6 hf6
        go_wp2
        go_roundw
        case rel => exact ⟨k + 1, a6, c6, L6, by omega, by go_num, HB6, F6⟩
        case measure => simp [intOf]; omega
      · have h14' : ¬ ((k : Int) < 14) := by omega
        have HMX := Lib.hid (HM.out.keep HF12.out)
        rw [HW2.out] at HMX F2
        by_cases h60 : k < 60
        · have h60' : (k : Int) < 60 := by omega
          go_wp2
          go_roundw
          case rel => exact ⟨k + 1, am, cm, L, by omega, by go_num, HMX, F2⟩
          case measure => simp [intOf]; omega
        · have h60' : ¬ ((k : Int) < 60) := by omega
          go_wp2
          go_roundw
          case rel => exact ⟨k + 1, am, cm, L, by omega, by go_num, HMX, F2⟩
          case measure => simp [intOf]; omega
    · obtain rfl : k = n := by omega
      have ALL0 := Lib.hid (bmall_any HM.out)
      rw [allM_Bf HM.out.ok] at ALL0
      go_wp2_with fail
      (with_reducible refine ALL0.out.mono ?_)
      rintro e w5 ⟨a8, m8, c8, rfl, hm8, ho8, hf8⟩
      have HM8 := Lib.hid hm8
      have F5 : Hid (Frm [] w w5) := Lib.hid (HF.out.trans hf8 (by simp) (by simp))
      have GN : Hid (∀ q ∈ blk a8, q ≠ g) := Lib.hid (fun q hq e => by have h1 := (ho8.blk_lt q hq).1; have h2 := HM.out.tab.lt; omega)
      have WAS5 := Lib.hid ho8.sl
      have HM5 := Lib.hid (HM.out.keep hf8)
      have SP := Lib.hid (bmsplit_any x HM5.out WX.out)
      have KEEPW : Hid (∀ z z', IvL z [] a8 (0 :: L) → Frm [g] z z' → IvL z' [] a8 (0 :: L)) := Lib.hid (fun z z' hz hf => ⟨hz.vals.keep hf (fun _ q hq hm => GN.out q.block (by rw [hq]; simp) (by simpa using hm)), by simp⟩)
      clear hm8 ho8 hf8 ALL0
      by_cases hsc : splC (Bf L) x = 0
      · obtain ⟨q1, q2, q3, q4⟩ := spl_again hsc
        rw [hsc] at SP
        clear hsc
        go_wp2_with fail
        (with_reducible refine SP.out.mono ?_)
        rintro e w6 ⟨rfl, ⟨a6, c6, L6, hb6, hbf6, _⟩, hf6⟩
        have SP2 := Lib.hid (bmsplit_any x hb6 WX.out)
        rw [hbf6, q1, q2] at SP2
        have F6 : Hid (Frm [] w w6) := Lib.hid (F5.out.trans hf6 (by simp) (fun x hx => by simp at hx; subst hx; exact .inr HG.out))
        have WAS6 := Lib.hid (KEEPW.out _ _ WAS5.out hf6)
        clear hb6 hbf6 hf6
        go_wp2_with fail
        (with_reducible refine SP2.out.mono ?_)
        rintro e w7 ⟨rfl, ⟨a7, c7, L7, hb7, hbf7, _⟩, hf7⟩
        have JN2 := Lib.hid (bmjoin_any x hb7 WX.out)
        rw [hbf7, q3, q4] at JN2
        have F7 : Hid (Frm [] w w7) := Lib.hid (F6.out.trans hf7 (by simp) (fun x hx => by simp at hx; subst hx; exact .inr HG.out))
        have WAS7 := Lib.hid (KEEPW.out _ _ WAS6.out hf7)
        clear hb7 hbf7 hf7 q1 q2 q3 q4
        go_wp2_with fail
        (with_reducible refine JN2.out.mono ?_)
        rintro e wz ⟨rfl, ⟨az, cz, LZ, hbz, hbfz, _⟩, hfz⟩
        obtain rfl : L = LZ := (Bf_inj hbz.ok HM5.out.ok hbfz).symm
        have HB := Lib.hid hbz
        have FZ : Hid (Frm [] w wz) := Lib.hid (F7.out.trans hfz (by simp) (fun x hx => by simp at hx; subst hx; exact .inr HG.out))
        have WAS := Lib.hid (KEEPW.out _ _ WAS7.out hfz)
        clear hbz hbfz hfz
        skip
        have ALL := Lib.hid (bmall_any HB.out)
        have OFX := Lib.hid (fun (z : World) (hz : Frm [] wz z) (k : Int) => bmof_any k (HB.out.keep hz))
        rw [allM_Bf HB.out.ok] at ALL
        have few : (0 :: L).length ≤ 16 := by have := HB.out.ok.few; simp; omega
        have OB := Lib.hid (fun (t lo hi : Nat) (ht : t < (0 :: L).length) (o : OfP (Bf L) ((0 :: L).getD t 0) lo hi) => of_begin HB.out.ok ht o)
        have B6 := Lib.hid (fun x (hx : x ∈ 0 :: L) => (show x < 65536 from by
          rcases List.mem_cons.1 hx with rfl | h1
          · decide
          · exact (HB.out.ok.in' x h1).2))
        have SU := Lib.hid (fun t => sumB_succ L t)
        have SA := Lib.hid (fun t (h : t < (0 :: L).length) => sumB_at h)
        have SE := Lib.hid (sumB_end L)
        have S0 : Hid (sumB L 0 = 0) := Lib.hid (by rw [sumB_at (by simp)]; rfl)
        have BFL : Hid (Bf L = Bf L) := Lib.hid rfl
        obtain ⟨G, hG⟩ : ∃ G, G = Bf L := ⟨_, rfl⟩
        obtain ⟨S, hS⟩ : ∃ S, S = sumB L := ⟨_, rfl⟩
        rw [← hS] at SU SA SE S0
        obtain ⟨T, hT⟩ : ∃ T, T = toB L := ⟨_, rfl⟩
        rw [← hT] at OB SU
        have HBK := Lib.hid (fun (z : World) (hz : Frm [] wz z) => HB.out.keep hz)
        obtain ⟨M, hM⟩ : ∃ M, M = 0 :: L := ⟨_, rfl⟩
        rw [← hM] at ALL few OB B6 SA SE WAS HM8
        have MAE : Hid (M = allM (Bf L)) := Lib.hid (by rw [hM, allM_Bf HB.out.ok])
        clear hS hT hG
        go_wp2_with fail
        (with_reducible refine ALL.out.mono ?_)
        rintro e wy ⟨ay, m, cy, rfl, hm, hoy, hfy⟩
        have HS := Lib.hid hoy.sl
        have HMN := Lib.hid hm
        have FZY := Lib.hid hfy
        have FY : Hid (Frm [] w wy) := Lib.hid (FZ.out.trans hfy (by simp) (by simp))
        have hm16 : m ≤ 16 := by omega
        clear hoy hm hfy few
        go_wp2
        go_loop [10, 59] (fun u10 u59 => ∃ (j s : Nat), j ≤ m ∧ s ≤ 65536 ∧ u59 = .int .i64 (j : Nat) ∧ u10 = .int .i64 (s : Nat) ∧ Hid (s = S j)) (fun _ u59 => m - (intOf u59).toNat)
        case atStart => exact ⟨0, 0, Nat.zero_le _, by omega, rfl, rfl, Lib.hid S0.out.symm⟩
        case round =>
          obtain ⟨j, s, hj, hs6, rfl, rfl, HSJ⟩ := hrel
          by_cases hlt : j < m
          · obtain ⟨b, off, rfl, p0⟩ := HS.out.at (i := j) (by have := HMN.out; omega)
            obtain ⟨x, hx⟩ : ∃ x, x = M.getD j 0 := ⟨_, rfl⟩
            have hx6 : x < 65536 := by rw [hx]; exact B6.out _ (getD_mem (by have := HMN.out; omega))
            rw [← hx] at p0
            have HX := Lib.hid hx
            have hlt' : (j : Int) < (m : Int) := by omega
            have OFJ := Lib.hid (OFX.out wy FZY.out (x : Int))
            clear hx
            go_wp2_with fail
            (with_reducible refine OFJ.out.mono ?_)
            rintro e wq ⟨hz, (⟨hbad, _⟩ | ⟨n', lo, hi, hn', hn6, hofp, rfl⟩)⟩
            · exact absurd hbad (by omega)
            obtain rfl : wy = wq := hz.symm
            obtain rfl : x = n' := by omega
            have jl : j < M.length := by rw [← HMN.out]; exact hlt
            have ob := OB.out j lo hi jl (by rw [← HX.out]; exact hofp)
            rw [← HX.out] at ob
            obtain ⟨rfl, ehi, hxt, ht6⟩ := ob
            have sx : s = lo := by rw [HSJ.out, SA.out j jl, HX.out]
            subst sx
            rw [← ehi] at hxt ht6
            have NS : Hid (hi = S (j + 1)) := Lib.hid (by rw [SU.out j]; exact ehi)
            have t1 : (s : Int) + ((hi : Int) - (s : Int)) = (hi : Int) := by omega
            have t2 : IntKind.i64.wrap (hi : Int) = (hi : Int) := IntWalk.i64_in _ (by omega)
            have t3 : IntKind.i64.wrap ((hi : Int) - (s : Int)) = (hi : Int) - (s : Int) := IntWalk.i64_in _ (by omega)
            have t4 : ((s : Int) != (s : Int)) = false := by simp
            clear hofp ehi hn' hz jl hxt
            go_wp2
            go_round
            case rel => exact ⟨j + 1, hi, by omega, by omega, by go_num, by rfl, NS⟩
            case measure => simp [intOf]; omega
          · obtain rfl : j = m := by omega
            have s65 : s = 65536 := by rw [HSJ.out, HMN.out]; exact SE.out
            subst s65
            have AL2 := Lib.hid (bmall_any (HBK.out wy FZY.out))
            rw [← MAE.out] at AL2
            have W8 := Lib.hid (WAS.out.sub FZY.out)
            go_wp2_with fail
            (with_reducible refine AL2.out.mono ?_)
            rintro e wx ⟨ax, mx, cx, rfl, hmx, hox, hfx⟩
            have SM := Lib.hid (msame_any ax a8 mx cx m8 c8 M M wx hox.sl (W8.out.sub hfx) hmx HM8.out (by have := HMN.out; omega) (by have := HM8.out; have := HMN.out; omega))
            have FX : Hid (Frm [] w wx) := Lib.hid (FY.out.trans hfx (by simp) (by simp))
            have FZX : Hid (Frm [] wz wx) := Lib.hid (FZY.out.trans hfx (by simp) (by simp))
            clear hox hfx hmx
            go_wp2_with fail
            (with_reducible refine SM.out.mono ?_)
            rintro e wv ⟨bb, rfl, hbb, hfv⟩
            obtain rfl : bb = true := hbb.2 (by first | exact trivial | rfl)
            have FV : Hid (Frm [] w wv) := Lib.hid (FX.out.trans hfv (by simp) (by simp))
            have JN := Lib.hid (bmjoin_any 0 (HBK.out wv (FZX.out.trans hfv (by simp) (by simp))) (by decide))
            rw [show joinC (Bf L) 0 = 2 by unfold joinC; rw [if_pos (by omega)]] at JN
            clear hbb hfv
            go_wp2_with fail
            (with_reducible refine JN.out.mono ?_)
            rintro e wu ⟨rfl, _, hfu⟩
            have FIN : Hid (Below w.heap.size w wu) := Lib.hid ((FV.out.trans hfu (U := []) (by simp) (fun x hx => by simp at hx; subst hx; exact .inr HG.out)).below (by simp) (Nat.le_refl _))
            clear hfu
            go_wp2
            go_ret
            exact ⟨rfl, FIN.out⟩
      · obtain ⟨c, hc⟩ : ∃ c, c = splC (Bf L) x := ⟨_, rfl⟩
        rw [spl_none hsc, ← hc] at SP
        have hc0 : c ≠ 0 := by rw [hc]; exact hsc
        have hc1 : ((c : Int) == 0) = false := by simp; omega
        clear hsc hc
        go_wp2_with fail
        (with_reducible refine SP.out.mono ?_)
        rintro e wz ⟨rfl, ⟨az, cz, LZ, hbz, hbfz, _⟩, hfz⟩
        obtain rfl : L = LZ := (Bf_inj hbz.ok HM5.out.ok hbfz).symm
        have HB := Lib.hid hbz
        have FZ : Hid (Frm [] w wz) := Lib.hid (F5.out.trans hfz (by simp) (fun x hx => by simp at hx; subst hx; exact .inr HG.out))
        have WAS := Lib.hid (KEEPW.out _ _ WAS5.out hfz)
        clear hbz hbfz hfz
        skip
        have ALL := Lib.hid (bmall_any HB.out)
        have OFX := Lib.hid (fun (z : World) (hz : Frm [] wz z) (k : Int) => bmof_any k (HB.out.keep hz))
        rw [allM_Bf HB.out.ok] at ALL
        have few : (0 :: L).length ≤ 16 := by have := HB.out.ok.few; simp; omega
        have OB := Lib.hid (fun (t lo hi : Nat) (ht : t < (0 :: L).length) (o : OfP (Bf L) ((0 :: L).getD t 0) lo hi) => of_begin HB.out.ok ht o)
        have B6 := Lib.hid (fun x (hx : x ∈ 0 :: L) => (show x < 65536 from by
          rcases List.mem_cons.1 hx with rfl | h1
          · decide
          · exact (HB.out.ok.in' x h1).2))
        have SU := Lib.hid (fun t => sumB_succ L t)
        have SA := Lib.hid (fun t (h : t < (0 :: L).length) => sumB_at h)
        have SE := Lib.hid (sumB_end L)
        have S0 : Hid (sumB L 0 = 0) := Lib.hid (by rw [sumB_at (by simp)]; rfl)
        have BFL : Hid (Bf L = Bf L) := Lib.hid rfl
        obtain ⟨G, hG⟩ : ∃ G, G = Bf L := ⟨_, rfl⟩
        obtain ⟨S, hS⟩ : ∃ S, S = sumB L := ⟨_, rfl⟩
        rw [← hS] at SU SA SE S0
        obtain ⟨T, hT⟩ : ∃ T, T = toB L := ⟨_, rfl⟩
        rw [← hT] at OB SU
        have HBK := Lib.hid (fun (z : World) (hz : Frm [] wz z) => HB.out.keep hz)
        obtain ⟨M, hM⟩ : ∃ M, M = 0 :: L := ⟨_, rfl⟩
        rw [← hM] at ALL few OB B6 SA SE WAS HM8
        have MAE : Hid (M = allM (Bf L)) := Lib.hid (by rw [hM, allM_Bf HB.out.ok])
        clear hS hT hG
        go_wp2_with fail
        (with_reducible refine ALL.out.mono ?_)
        rintro e wy ⟨ay, m, cy, rfl, hm, hoy, hfy⟩
        have HS := Lib.hid hoy.sl
        have HMN := Lib.hid hm
        have FZY := Lib.hid hfy
        have FY : Hid (Frm [] w wy) := Lib.hid (FZ.out.trans hfy (by simp) (by simp))
        have hm16 : m ≤ 16 := by omega
        clear hoy hm hfy few
        go_wp2
        go_loop [10, 59] (fun u10 u59 => ∃ (j s : Nat), j ≤ m ∧ s ≤ 65536 ∧ u59 = .int .i64 (j : Nat) ∧ u10 = .int .i64 (s : Nat) ∧ Hid (s = S j)) (fun _ u59 => m - (intOf u59).toNat)
        case atStart => exact ⟨0, 0, Nat.zero_le _, by omega, rfl, rfl, Lib.hid S0.out.symm⟩
        case round =>
          obtain ⟨j, s, hj, hs6, rfl, rfl, HSJ⟩ := hrel
          by_cases hlt : j < m
          · obtain ⟨b, off, rfl, p0⟩ := HS.out.at (i := j) (by have := HMN.out; omega)
            obtain ⟨x, hx⟩ : ∃ x, x = M.getD j 0 := ⟨_, rfl⟩
            have hx6 : x < 65536 := by rw [hx]; exact B6.out _ (getD_mem (by have := HMN.out; omega))
            rw [← hx] at p0
            have HX := Lib.hid hx
            have hlt' : (j : Int) < (m : Int) := by omega
            have OFJ := Lib.hid (OFX.out wy FZY.out (x : Int))
            clear hx
            go_wp2_with fail
            (with_reducible refine OFJ.out.mono ?_)
            rintro e wq ⟨hz, (⟨hbad, _⟩ | ⟨n', lo, hi, hn', hn6, hofp, rfl⟩)⟩
            · exact absurd hbad (by omega)
            obtain rfl : wy = wq := hz.symm
            obtain rfl : x = n' := by omega
            have jl : j < M.length := by rw [← HMN.out]; exact hlt
            have ob := OB.out j lo hi jl (by rw [← HX.out]; exact hofp)
            rw [← HX.out] at ob
            obtain ⟨rfl, ehi, hxt, ht6⟩ := ob
            have sx : s = lo := by rw [HSJ.out, SA.out j jl, HX.out]
            subst sx
            rw [← ehi] at hxt ht6
            have NS : Hid (hi = S (j + 1)) := Lib.hid (by rw [SU.out j]; exact ehi)
            have t1 : (s : Int) + ((hi : Int) - (s : Int)) = (hi : Int) := by omega
            have t2 : IntKind.i64.wrap (hi : Int) = (hi : Int) := IntWalk.i64_in _ (by omega)
            have t3 : IntKind.i64.wrap ((hi : Int) - (s : Int)) = (hi : Int) - (s : Int) := IntWalk.i64_in _ (by omega)
            have t4 : ((s : Int) != (s : Int)) = false := by simp
            clear hofp ehi hn' hz jl hxt
            go_wp2
            go_round
            case rel => exact ⟨j + 1, hi, by omega, by omega, by go_num, by rfl, NS⟩
            case measure => simp [intOf]; omega
          · obtain rfl : j = m := by omega
            have s65 : s = 65536 := by rw [HSJ.out, HMN.out]; exact SE.out
            subst s65
            have AL2 := Lib.hid (bmall_any (HBK.out wy FZY.out))
            rw [← MAE.out] at AL2
            have W8 := Lib.hid (WAS.out.sub FZY.out)
            go_wp2_with fail
            (with_reducible refine AL2.out.mono ?_)
            rintro e wx ⟨ax, mx, cx, rfl, hmx, hox, hfx⟩
            have SM := Lib.hid (msame_any ax a8 mx cx m8 c8 M M wx hox.sl (W8.out.sub hfx) hmx HM8.out (by have := HMN.out; omega) (by have := HM8.out; have := HMN.out; omega))
            have FX : Hid (Frm [] w wx) := Lib.hid (FY.out.trans hfx (by simp) (by simp))
            have FZX : Hid (Frm [] wz wx) := Lib.hid (FZY.out.trans hfx (by simp) (by simp))
            clear hox hfx hmx
            go_wp2_with fail
            (with_reducible refine SM.out.mono ?_)
            rintro e wv ⟨bb, rfl, hbb, hfv⟩
            obtain rfl : bb = true := hbb.2 (by first | exact trivial | rfl)
            have FV : Hid (Frm [] w wv) := Lib.hid (FX.out.trans hfv (by simp) (by simp))
            have JN := Lib.hid (bmjoin_any 0 (HBK.out wv (FZX.out.trans hfv (by simp) (by simp))) (by decide))
            rw [show joinC (Bf L) 0 = 2 by unfold joinC; rw [if_pos (by omega)]] at JN
            clear hbb hfv
            go_wp2_with fail
            (with_reducible refine JN.out.mono ?_)
            rintro e wu ⟨rfl, _, hfu⟩
            have FIN : Hid (Below w.heap.size w wu) := Lib.hid ((FV.out.trans hfu (U := []) (by simp) (fun x hx => by simp at hx; subst hx; exact .inr HG.out)).below (by simp) (Nat.le_refl _))
            clear hfu
            go_wp2
            go_ret
            exact ⟨rfl, FIN.out⟩
end Go.Proofs.YtbdgmpfdcmmfhaaDoor
