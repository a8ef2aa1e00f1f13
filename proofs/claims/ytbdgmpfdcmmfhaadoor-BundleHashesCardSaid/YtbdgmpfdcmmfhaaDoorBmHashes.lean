/- The walk of BundleHashes. -/
import Derived.Test.YtbdgmpfdcmmfhaaDoorBmHash
import Derived.Deep.DeepCutAuto
namespace Go.Proofs.YtbdgmpfdcmmfhaaDoor
open Go.RowKit
set_option maxRecDepth 100000

set_option maxHeartbeats 8000000 in
theorem bundleHashes_walk (s : ByteArray) (a : Option Addr) (n cap : Nat) (ts : List Ba) (w : World) (hT : Bt w) (hs : s.size ≤ 9223372036854775807) (h : Bas w a ts) (hn : n = ts.length) (h63 : n ≤ 9223372036854775807) :
    Calls Tryd.prog 4 #[.string s, .slice a n cap] w fun e w' => e = .returned (.bool true) ∧ Below w.heap.size w w' := by
  have HA := Lib.hid (awake16_any w hT)
  have H := Lib.hid h
  have HN := Lib.hid hn
  clear h hn hT
  by_cases hbig : 1000 < s.size
  · have hbig' : (1000 : Int) < (s.size : Int) := by omega
    go_enter Tryd.func4, Tryd.ntmps4
    go_wp2_with fail
    (with_reducible refine HA.out.mono ?_)
    rintro e w1 ⟨rfl, hf1⟩
    have FW : Hid (Below w.heap.size w w1) := Lib.hid (hf1.below (by simp) (Nat.le_refl _))
    clear hf1
    go_wp2
    go_ret
    exact ⟨rfl, FW.out⟩
  · have hbig' : ¬ ((1000 : Int) < (s.size : Int)) := by omega
    have hcv := fun (w : World) => Lib.run_convert_string_bytes (P := Tryd.prog) w 9 46 5 s Tryd.underlying9 Tryd.underlying46 Tryd.underlying5
    obtain ⟨r, hr⟩ : ∃ r, r = sumN (strL s) := ⟨_, rfl⟩
    have CS := Lib.hid (fun z cp => ref_sum_eq (some ⟨z.heap.size, 0, none⟩) s.size cp (strL s) (Lib.bytesWorld z 5 s) r hr.symm (conv_bytes _ _ _ hs) (strL_length s).symm)
    have HH := Lib.hid (fun z => bhash_any s z hs)
    rw [← hr] at HH
    have hr32 : r < 4294967296 := by rw [hr]; exact sumN_lt (strL_lt s)
    obtain ⟨hh, hq⟩ : ∃ q, q = r / 65536 := ⟨_, rfl⟩
    have q1 : (r : Int) / 65536 = (hh : Int) := by omega
    have q2 : IntKind.i64.wrap (hh : Int) = (hh : Int) := IntWalk.i64_in _ (by omega)
    rw [← hq] at HH
    have hh6 : hh < 65536 := by omega
    have q3 : ((hh : Int) != (hh : Int)) = false := by simp
    clear hr hq
    go_enter Tryd.func4, Tryd.ntmps4
    go_wp2_with fail
    (with_reducible refine HA.out.mono ?_)
    rintro e w1 ⟨rfl, hf1⟩
    have F1 := Lib.hid hf1
    clear hf1
    go_wp2_with fail
    (with_reducible refine (HH.out _).mono ?_)
    rintro e w2 ⟨rfl, hf2⟩
    have F2 : Hid (Frm [] w w2) := Lib.hid (F1.out.trans hf2 (by simp) (by simp))
    clear hf2
    go_wp2_with fail
    (with_reducible refine (CS.out _ _).mono ?_)
    rintro e w3 ⟨rfl, hz3⟩
    have F3 : Hid (Frm [] w w3) := Lib.hid (F2.out.trans (by rw [← hz3]; exact conv_frm _ _ _) (by simp) (by simp))
    clear hz3
    go_wp2_with fail
    (with_reducible refine (bmnew_any _).mono ?_)
    rintro e w4 ⟨rfl, hb4, hf4⟩
    have HB4 := Lib.hid hb4
    have F4 : Hid (Frm [] w w4) := Lib.hid (F3.out.trans hf4 (by simp) (by simp))
    obtain ⟨g, hg⟩ : ∃ g, g = w3.heap.size := ⟨_, rfl⟩
    rw [← hg] at HB4 ⊢
    have HG : Hid (w.heap.size ≤ g) := Lib.hid (by rw [hg]; exact F3.out.size)
    clear hb4 hf4 hg
    go_wp2
    go_loopw [34] (fun u wr => ∃ (k : Nat) (am : Option Addr) (cm : Nat) (L : List Nat), k ≤ n ∧ u = .int .i64 (k : Nat) ∧ Hid (Bm wr g am cm L) ∧ Hid (Frm [] w wr)) (fun u _ => n - (intOf u).toNat)
    case atStart => exact ⟨0, none, 0, [], Nat.zero_le _, rfl, HB4, F4⟩
    case round =>
      obtain ⟨k, am, cm, L, hk, rfl, HM, HF⟩ := hrel
      by_cases hlt : k < n
      ·
        obtain ⟨b, off, rfl, hin⟩ := H.out (by have := HN.out; omega)
        have hin0 := (hin k (by have := HN.out; omega))
        have hin2 := hin0.keep HF.out
        generalize ts.getD k default = t at hin2
        obtain ⟨tj, tp, tr⟩ := t
        obtain ⟨d0, d1, d2, ok⟩ := hin2
        simp only at d0 d1 d2
        have OK := Lib.hid ok
        obtain ⟨y, hy⟩ : ∃ y, y = wr.heap.size := ⟨_, rfl⟩
        obtain ⟨w2, hw2⟩ : ∃ w2, w2 = wr.alloc (.cells #[.bool tj, .int .i64 tp, .bool tr] 32) := ⟨_, rfl⟩
        have hf2 : Frm [] wr w2 := by rw [hw2]; exact (Frm.refl _ _).alloc _
        have F2 : Hid (Frm [] w w2) := Lib.hid (HF.out.trans hf2 (by simp) (by simp))
        have HFEW := Lib.hid (fewB_any ⟨tj, tp, tr⟩ w2)
        have WF := Lib.hid (fewB_wf ⟨tj, tp, tr⟩ OK.out.pl_wf)
        obtain ⟨z, hz⟩ : ∃ z, z = fewB ⟨tj, tp, tr⟩ := ⟨_, rfl⟩
        rw [← hz] at HFEW WF
        unfold Ba.value at HFEW
        simp only at HFEW
        have B2 : Hid (Whole w2 y 32 #[.bool tj, .int .i64 tp, .bool tr]) := Lib.hid (by rw [hw2, hy]; exact Whole.made _ _ _)
        have HF12 := Lib.hid hf2
        have HW2 := Lib.hid hw2
        have HY := Lib.hid hy
        clear hin hin0 ok hw2 hy hf2 hz OK
        by_cases h60 : k < 60
        · have h60' : (k : Int) < 60 := by omega
          go_wp2_with fail
          rw [← HW2.out, ← HY.out]
          (with_reducible refine HFEW.out.mono ?_)
          rintro e w5 ⟨rfl, hf5⟩
          have hfr : Frm [] wr w5 := HF12.out.trans hf5 (by simp) (by simp)
          have F5 : Hid (Frm [] w w5) := Lib.hid (HF.out.trans hfr (by simp) (by simp))
          have SP := Lib.hid (bmsplit_any z (HM.out.keep hfr) WF.out)
          clear hf5 hfr d0 d1 d2
          go_wp2_with fail
          (with_reducible refine SP.out.mono ?_)
          rintro e w6 ⟨rfl, ⟨a6, c6, L6, hb6, _, _⟩, hf6⟩
          have F6 : Hid (Frm [] w w6) := Lib.hid (F5.out.trans hf6 (by simp) (fun x hx => by simp at hx; subst hx; exact .inr HG.out))
          have HB6 := Lib.hid hb6
          clear hb6 hf6
          go_wp2
          go_roundw
          case rel => exact ⟨k + 1, a6, c6, L6, by omega, by go_num, HB6, F6⟩
          case measure => simp [intOf]; omega
        · have h60' : ¬ ((k : Int) < 60) := by omega
          have HMX := Lib.hid (HM.out.keep HF12.out)
          rw [HW2.out] at HMX F2
          go_wp2
          go_roundw
          case rel => exact ⟨k + 1, am, cm, L, by omega, by go_num, HMX, F2⟩
          case measure => simp [intOf]; omega
      · obtain rfl : k = n := by omega
        have OF := Lib.hid (bmof_any (hh : Int) HM.out)
        go_wp2_with fail
        (with_reducible refine OF.out.mono ?_)
        rintro e w5 ⟨hz, (⟨hbad, _⟩ | ⟨n', lo, hi, hn', hn6, hofp, rfl⟩)⟩
        · exact absurd hbad (by omega)
        obtain rfl : wr = w5 := hz.symm
        obtain rfl : hh = n' := by omega
        obtain ⟨kh, hkh, e1, e2, e3, e4, hno⟩ := pick_one HM.out.ok hh6 hofp
        have ALL := Lib.hid (bmall_any HM.out)
        rw [allM_Bf HM.out.ok] at ALL
        have few : (0 :: L).length ≤ 16 := by have := HM.out.ok.few; simp; omega
        have bnd : ∀ x ∈ 0 :: L, x < 65536 := fun x hx => by
          rcases List.mem_cons.1 hx with rfl | h1
          · decide
          · exact (HM.out.ok.in' x h1).2
        have TO : ∀ t, toB L t ≤ 65536 := fun t => by
          unfold toB
          split
          · rename_i hc; exact Nat.le_of_lt (bnd _ (getD_mem hc))
          · exact Nat.le_refl _
        have TOV : Hid (∀ t, (t + 1 < (0 :: L).length → toB L t = (0 :: L).getD (t + 1) 0) ∧ (¬ t + 1 < (0 :: L).length → toB L t = 65536)) := Lib.hid (fun t => ⟨fun h => if_pos h, fun h => if_neg h⟩)
        obtain ⟨T, hT⟩ : ∃ T, T = toB L := ⟨_, rfl⟩
        rw [← hT] at e2 hno TO TOV
        obtain ⟨M, hM⟩ : ∃ M, M = 0 :: L := ⟨_, rfl⟩
        rw [← hM] at ALL few bnd e1 hkh hno TOV
        have HBN := Lib.hid bnd
        have HTO := Lib.hid TO
        have HNO := Lib.hid hno
        have E1 := Lib.hid e1
        have E2 := Lib.hid e2
        have E34 := Lib.hid (show lo ≤ hh ∧ hh < hi from ⟨e3, e4⟩)
        clear hofp hM hT bnd TO hno e1 e2 e3 e4 hz hn'
        go_wp2_with fail
        (with_reducible refine ALL.out.mono ?_)
        rintro e w6 ⟨a6, m, c6, rfl, hm, ho6, hf6⟩
        have HS := Lib.hid ho6.sl
        have HMN := Lib.hid hm
        have F6 : Hid (Frm [] w w6) := Lib.hid (HF.out.trans hf6 (by simp) (by simp))
        have hm16 : m ≤ 16 := by omega
        have KH : Hid (kh < m) := Lib.hid (by rw [hm]; exact hkh)
        clear ho6 hm hf6 few hkh hk hlt
        go_wp2
        go_loop [11, 13, 57] (fun u11 u13 u57 => ∃ (j c : Nat), j ≤ m ∧ u57 = .int .i64 (j : Nat) ∧ u11 = .bool true ∧ u13 = .int .i64 (c : Nat) ∧ c ≤ 1 ∧ Hid (c = if kh < j then 1 else 0)) (fun _ _ u57 => m - (intOf u57).toNat)
        case atStart => exact ⟨0, 0, Nat.zero_le _, rfl, rfl, rfl, by omega, Lib.hid (by simp)⟩
        case round =>
          obtain ⟨j, c, hj, rfl, rfl, rfl, hc1, HC⟩ := hrel
          by_cases hlt : j < m
          · obtain ⟨b, off, rfl, p0⟩ := HS.out.at (i := j) (by have := HMN.out; omega)
            obtain ⟨x, hx⟩ : ∃ x, x = M.getD j 0 := ⟨_, rfl⟩
            have hx6 : x < 65536 := by rw [hx]; exact HBN.out _ (getD_mem (by have := HMN.out; omega))
            rw [← hx] at p0
            have HX := Lib.hid hx
            have hlt' : (j : Int) < (m : Int) := by omega
            clear hx
            have i1 : (j : Int) + 1 = ((j + 1 : Nat) : Int) := by omega
            by_cases hj1 : j + 1 < m
            · obtain ⟨b', off', hbe, p1⟩ := HS.out.at (i := j + 1) (by have := HMN.out; omega)
              simp only [Option.some.injEq, Addr.mk.injEq, and_true] at hbe
              obtain ⟨rfl, rfl⟩ := hbe
              have hTJ := (TOV.out j).1 (by have := HMN.out; omega)
              obtain ⟨y, hy⟩ : ∃ y, y = M.getD (j + 1) 0 := ⟨_, rfl⟩
              rw [← hy] at p1 hTJ
              have hy6 : y < 65536 := by rw [hy]; exact HBN.out _ (getD_mem (by have := HMN.out; omega))
              have HTJ := Lib.hid hTJ
              obtain ⟨j1, hj1e⟩ : ∃ j1, j1 = j + 1 := ⟨_, rfl⟩
              rw [← hj1e] at p1 i1 hj1
              have hj1' : (j1 : Int) < (m : Int) := by omega
              have HJ1 := Lib.hid hj1e
              clear hy hTJ hj1e
              by_cases hjk : j = kh
              · have hxl : x = lo := by rw [HX.out, hjk]; exact E1.out
                have hyh : y = hi := by rw [← HTJ.out, hjk]; exact E2.out
                have g1 : (x : Int) ≤ (hh : Int) := by have := E34.out.1; omega
                have g2 : (hh : Int) < (y : Int) := by have := E34.out.2; omega
                have g3 : ((lo : Int) == (x : Int)) = true := by simp; omega
                have g4 : ((hi : Int) == (y : Int)) = true := by simp; omega
                have c0 : c = 0 := by rw [HC.out, if_neg (by omega)]
                subst c0
                have NC : Hid (1 = if kh < j + 1 then 1 else 0) := Lib.hid (by rw [if_pos (by omega)])
                clear hjk hxl hyh
                go_wp2
                go_round
                case rel => exact ⟨j + 1, 1, by omega, by go_num, by rfl, by rfl, by omega, NC⟩
                case measure => simp [intOf]; omega
              · have NC : Hid (c = if kh < j + 1 then 1 else 0) := Lib.hid (by
                  have h1 := HC.out
                  by_cases h2 : kh < j
                  · rw [if_pos h2] at h1; rw [if_pos (by omega)]; exact h1
                  · rw [if_neg h2] at h1; rw [if_neg (by omega)]; exact h1)
                have hno := HNO.out j (by rw [← HMN.out]; exact hlt) hjk
                rw [← HX.out, HTJ.out] at hno
                clear hjk
                by_cases hx1 : x ≤ hh
                · have g1 : (x : Int) ≤ (hh : Int) := by omega
                  have g2 : ¬ ((hh : Int) < (y : Int)) := by omega
                  clear hno hx1
                  go_wp2
                  go_round
                  case rel => exact ⟨j + 1, c, by omega, by go_num, rfl, rfl, hc1, NC⟩
                  case measure => simp [intOf]; omega
                · have g1 : ¬ ((x : Int) ≤ (hh : Int)) := by omega
                  clear hno hx1
                  go_wp2
                  go_round
                  case rel => exact ⟨j + 1, c, by omega, by go_num, rfl, rfl, hc1, NC⟩
                  case measure => simp [intOf]; omega
            · have hj1' : ¬ (((j + 1 : Nat) : Int) < (m : Int)) := by omega
              have hTJ := (TOV.out j).2 (by have := HMN.out; omega)
              have HTJ := Lib.hid hTJ
              obtain ⟨j1, hj1e⟩ : ∃ j1, j1 = j + 1 := ⟨_, rfl⟩
              rw [← hj1e] at i1 hj1 hj1'
              have HJ1 := Lib.hid hj1e
              clear hTJ hj1e
              by_cases hjk : j = kh
              · have hxl : x = lo := by rw [HX.out, hjk]; exact E1.out
                have hyh : 65536 = hi := by rw [← HTJ.out, hjk]; exact E2.out
                have g1 : (x : Int) ≤ (hh : Int) := by have := E34.out.1; omega
                have g2 : (hh : Int) < 65536 := by have := E34.out.2; omega
                have g3 : ((lo : Int) == (x : Int)) = true := by simp; omega
                have g4 : ((hi : Int) == 65536) = true := by simp; omega
                have c0 : c = 0 := by rw [HC.out, if_neg (by omega)]
                subst c0
                have NC : Hid (1 = if kh < j + 1 then 1 else 0) := Lib.hid (by rw [if_pos (by omega)])
                clear hjk hxl hyh
                go_wp2
                go_round
                case rel => exact ⟨j + 1, 1, by omega, by go_num, by rfl, by rfl, by omega, NC⟩
                case measure => simp [intOf]; omega
              · have NC : Hid (c = if kh < j + 1 then 1 else 0) := Lib.hid (by
                  have h1 := HC.out
                  by_cases h2 : kh < j
                  · rw [if_pos h2] at h1; rw [if_pos (by omega)]; exact h1
                  · rw [if_neg h2] at h1; rw [if_neg (by omega)]; exact h1)
                have hno := HNO.out j (by rw [← HMN.out]; exact hlt) hjk
                rw [← HX.out, HTJ.out] at hno
                clear hjk
                by_cases hx1 : x ≤ hh
                · have g1 : (x : Int) ≤ (hh : Int) := by omega
                  have g2 : ¬ ((hh : Int) < 65536) := by omega
                  clear hno hx1
                  go_wp2
                  go_round
                  case rel => exact ⟨j + 1, c, by omega, by go_num, rfl, rfl, hc1, NC⟩
                  case measure => simp [intOf]; omega
                · have g1 : ¬ ((x : Int) ≤ (hh : Int)) := by omega
                  clear hno hx1
                  go_wp2
                  go_round
                  case rel => exact ⟨j + 1, c, by omega, by go_num, rfl, rfl, hc1, NC⟩
                  case measure => simp [intOf]; omega
          · obtain rfl : j = m := by omega
            have c1 : c = 1 := by rw [HC.out, if_pos KH.out]
            subst c1
            have FIN : Hid (Below w.heap.size w w6) := Lib.hid (F6.out.below (by simp) (Nat.le_refl _))
            go_wp2
            go_ret
            exact ⟨congrArg (fun x => Ending.returned (Value.bool x)) (decide_eq_true (by omega)), FIN.out⟩
end Go.Proofs.YtbdgmpfdcmmfhaaDoor
