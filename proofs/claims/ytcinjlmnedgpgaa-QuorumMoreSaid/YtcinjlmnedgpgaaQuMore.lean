/- QuorumMore: the walk. -/
import Derived.Test.YtcinjlmnedgpgaaQuBits
namespace Go.Proofs.Ytcinjlmnedgpgaa
open Go.RowKit
set_option maxRecDepth 100000

def MoRel (w : World) (p bx bz P W A : Nat) (f g : Nat → Bool) (s25 : Value) (wr : World) : Prop :=
  ∃ k, k ≤ P ∧ s25 = .int .i64 (k : Nat) ∧ Hid (Frm [] w wr) ∧ Hid (Whole wr p 23 (quC P W A)) ∧ Hid (Whole wr bx 4 (rowB (fill P f k))) ∧ Hid (Whole wr bz 4 (rowB (fill P g k)))

set_option maxHeartbeats 16000000 in
theorem quorumMore_walk (n e a m : Nat) (w : World) (hn : n < 65536) (he : e < 18446744073709551616) (ha : a < 256) (hm : m < 256) :
    Calls Try.prog 6 #[.int .u16 (n : Nat), .int .u64 (e : Nat), .int .u8 (a : Nat), .int .u8 (m : Nat)] w fun x w' => x = .returned (.bool true) ∧ Below w.heap.size w w' := by
  have AW := Lib.hid (fun z => awake10_any z)
  have QN := Lib.hid (fun z => quorum_any n z hn)
  go_enter Try.func6, Try.ntmps6
  go_wp2_with fail
  refine (AW.out w).mono ?_
  rintro x w1 ⟨rfl, hf1⟩
  have HF1 := Lib.hid hf1; clear hf1 AW
  go_wp2_with fail
  refine (QN.out w1).mono ?_
  rintro x w2 ⟨P, W, A, hA1, hA2, hA3, hA4, rfl, hf2⟩
  have HF2 := Lib.hid (HF1.out.trans hf2 (U := []) (by simp) (by simp))
  clear hf2 HF1 QN
  have hmk := fun (z : World) => mk_bools P (by omega) z
  have HF3 := Lib.hid (HF2.out.alloc (.cells (quC P W A) 23))
  have HQ3 := Lib.hid (Whole.made w2 23 (quC P W A))
  go_wp2
  generalize hw3 : w2.alloc (.cells (quC P W A) 23) = w3 at HF3 HQ3 ⊢
  clear hw3
  obtain ⟨p, hp⟩ : ∃ p, p = w2.heap.size := ⟨_, rfl⟩
  rw [← hp] at HQ3 ⊢
  have HPW : Hid (w.heap.size ≤ p ∧ p < w3.heap.size) := Lib.hid ⟨by rw [hp]; exact HF2.out.size, HQ3.out.lt⟩
  clear hp HF2
  have c0 : w3.cell? ⟨p, 0, none⟩ = some (.int .i64 (P : Int)) := HQ3.out.cell 0
  have c1 : (w3.alloc (.cells (rowB (List.replicate P false)) 4)).cell? ⟨p, 0, none⟩ = some (.int .i64 (P : Int)) := (HQ3.out.alloc _).cell 0
  have HA := Lib.hid (((Whole.made w3 4 (rowB (List.replicate P false))).alloc (.cells (rowB (List.replicate P false)) 4)).drew)
  have HC := Lib.hid ((Whole.made (w3.alloc (.cells (rowB (List.replicate P false)) 4)) 4 (rowB (List.replicate P false))).drew)
  have HQ4 := Lib.hid (((HQ3.out.alloc (.cells (rowB (List.replicate P false)) 4)).alloc (.cells (rowB (List.replicate P false)) 4)).drew)
  have HF4 := Lib.hid (((HF3.out.alloc (.cells (rowB (List.replicate P false)) 4)).alloc (.cells (rowB (List.replicate P false)) 4)).drew)
  rw [show (w3.alloc (.cells (rowB (List.replicate P false)) 4)).heap.size = w3.heap.size + 1 by simp] at HC
  go_region
  (generalize (World.alloc (World.alloc w3 (.cells (rowB (List.replicate P false)) 4)) (.cells (rowB (List.replicate P false)) 4)).drew = w4 at HA HC HQ4 HF4 ⊢; obtain ⟨bx, hbx⟩ : ∃ b, b = w3.heap.size := ⟨_, rfl⟩; obtain ⟨bz, hbz⟩ : ∃ b, b = w3.heap.size + 1 := ⟨_, rfl⟩; rw [← hbx] at HA; rw [← hbz] at HC; have HX := HA; have HZ := HC; clear HA HC; rw [← hbz, ← hbx])
  rotate_left 1
  (generalize (World.alloc (World.alloc w3 (.cells (rowB (List.replicate P false)) 4)) (.cells (rowB (List.replicate P false)) 4)).drew = w4 at HA HC HQ4 HF4 ⊢; obtain ⟨bz, hbz⟩ : ∃ b, b = w3.heap.size := ⟨_, rfl⟩; obtain ⟨bx, hbx⟩ : ∃ b, b = w3.heap.size + 1 := ⟨_, rfl⟩; rw [← hbx] at HC; rw [← hbz] at HA; have HX := HC; have HZ := HA; clear HA HC; rw [← hbx, ← hbz])
  rotate_left 1
  all_goals
    have HN : Hid (w.heap.size ≤ p ∧ p < bx ∧ p < bz ∧ bx ≠ bz) := Lib.hid (by have := HPW.out; omega)
    have HR0 : Hid (MoRel w p bx bz P W A (fun j => a.testBit j) (fun j => a.testBit j || m.testBit j) (.int .i64 (0 : Nat)) w4) := Lib.hid ⟨0, Nat.zero_le _, rfl, HF4, HQ4, by rw [fill_zero]; exact HX, by rw [fill_zero]; exact HZ⟩
    have d0 : w4.cell? ⟨p, 0, none⟩ = some (.int .i64 (P : Int)) := HQ4.out.cell 0
    clear HPW HF4 HQ4 HX HZ HF3 HQ3 c0 c1 hbx hbz hmk
    go_wp2
    clear d0
    go_loopw [25] (fun s25 wr => MoRel w p bx bz P W A (fun j => a.testBit j) (fun j => a.testBit j || m.testBit j) s25 wr) (fun s25 _ => P - (intOf s25).toNat)
    case atStart => exact HR0.out
    case round =>
      clear HR0
      obtain ⟨k, hk, rfl, HF, HQ, HX, HZ⟩ := hrel
      by_cases hlt : k < P
      · obtain ⟨b0, hb0⟩ : ∃ b0, b0 = a.testBit k := ⟨_, rfl⟩
        obtain ⟨b1, hb1⟩ : ∃ b1, b1 = m.testBit k := ⟨_, rfl⟩
        have v0 : (bits .and .u8 ((a : Int) / 2 ^ k) 1 == 1) = b0 := by rw [hb0]; exact (bit8 ha).1
        have v1 : (bits .and .u8 ((m : Int) / 2 ^ k) 1 == 1) = b1 := by rw [hb1]; exact (bit8 hm).1
        have HX2 := Lib.hid (HX.out.put k (.bool b0))
        rw [rowB_set, hb0, show (fill P (fun j => a.testBit j) k).set k (a.testBit k) = _ from fill_set P (fun j => a.testBit j) k, ← hb0] at HX2
        have HZ1 := Lib.hid (HZ.out.other (p := ⟨bx, k, none⟩) (Ne.symm HN.out.2.2.2) (.bool b0))
        have HZ2 := Lib.hid (HZ1.out.put k (.bool (b0 || b1)))
        rw [rowB_set, hb0, hb1, show (fill P (fun j => a.testBit j || m.testBit j) k).set k (a.testBit k || m.testBit k) = _ from fill_set P (fun j => a.testBit j || m.testBit j) k, ← hb0, ← hb1] at HZ2
        have HX3 := Lib.hid (HX2.out.other (p := ⟨bz, k, none⟩) HN.out.2.2.2 (.bool (b0 || b1)))
        have HQ3 := Lib.hid ((HQ.out.other (p := ⟨bx, k, none⟩) (by have := HN.out; simp; omega) (.bool b0)).other (p := ⟨bz, k, none⟩) (by have := HN.out; simp; omega) (.bool (b0 || b1)))
        have HF3 := Lib.hid ((HF.out.setCell (p := ⟨bx, k, none⟩) (.inr (by have := HN.out; simp; omega)) (.bool b0)).setCell (p := ⟨bz, k, none⟩) (.inr (by have := HN.out; simp; omega)) (.bool (b0 || b1)))
        have cx : wr.cell? ⟨bx, k, none⟩ = some (.bool ((fill P (fun j => a.testBit j) k).getD k false)) := (HX.out.cell k).trans (rowB_at _ k (by rw [fill_len]; exact hlt))
        have fx : wr.frozen? ⟨bx, k, none⟩ = false := HX.out.free k
        have cy : (wr.setCell ⟨bx, k, none⟩ (.bool b0)).cell? ⟨bx, k, none⟩ = some (.bool b0) := (HX2.out.cell k).trans ((rowB_at _ k (by rw [fill_len]; exact hlt)).trans (by rw [fill_at _ _ _ _ (Nat.lt_succ_self k) hlt, hb0]))
        have cz : (wr.setCell ⟨bx, k, none⟩ (.bool b0)).cell? ⟨bz, k, none⟩ = some (.bool ((fill P (fun j => a.testBit j || m.testBit j) k).getD k false)) := (HZ1.out.cell k).trans (rowB_at _ k (by rw [fill_len]; exact hlt))
        have fz : (wr.setCell ⟨bx, k, none⟩ (.bool b0)).frozen? ⟨bz, k, none⟩ = false := HZ1.out.free k
        clear hb0 hb1 HX HZ HQ HF HX2 HZ1
        cases b0
        · go_wp2
          go_roundw
          case rel => exact ⟨k + 1, hlt, by go_num, HF3, HQ3, HX3, HZ2⟩
          case measure => simp [intOf]; omega
        · go_wp2
          go_roundw
          case rel => exact ⟨k + 1, hlt, by go_num, HF3, HQ3, HX3, HZ2⟩
          case measure => simp [intOf]; omega
      · obtain rfl : k = P := by omega
        have EX := Lib.hid (fun z (hz : Frm [] wr z) => enough_any k W A e (some ⟨bx, 0, none⟩) k k _ z hA1 hA2 hA4 hA3 he ((HX.out.bin).keep hz) (fill_len k (fun j => a.testBit j) k).symm)
        have EY := Lib.hid (fun z (hz : Frm [] wr z) => enough_any k W A e (some ⟨bz, 0, none⟩) k k _ z hA1 hA2 hA4 hA3 he ((HZ.out.bin).keep hz) (fill_len k (fun j => a.testBit j || m.testBit j) k).symm)
        have CX := Lib.hid (fun z (hz : Frm [] wr z) => covered_any k W A (some ⟨bx, 0, none⟩) k k _ z hA1 hA2 hA4 hA3 ((HX.out.bin).keep hz) (fill_len k (fun j => a.testBit j) k).symm)
        have CY := Lib.hid (fun z (hz : Frm [] wr z) => covered_any k W A (some ⟨bz, 0, none⟩) k k _ z hA1 hA2 hA4 hA3 ((HZ.out.bin).keep hz) (fill_len k (fun j => a.testBit j || m.testBit j) k).symm)
        have hsub : ∀ p, p < k → (fill k (fun j => a.testBit j) k).getD p false = true → (fill k (fun j => a.testBit j || m.testBit j) k).getD p false = true := fun p hp h => by
          rw [fill_at _ _ _ _ hp hp] at h ⊢
          rw [h]; rfl
        have I1 := Lib.hid (fun (h : enN k W A e (fill k (fun j => a.testBit j) k) = true) => (show enN k W A e (fill k (fun j => a.testBit j || m.testBit j) k) = true from decide_eq_true (Nat.le_trans (of_decide_eq_true h) (told_more (by omega) hsub))))
        have I2 := Lib.hid (fun (h : covN k W A (fill k (fun j => a.testBit j) k) = true) => cov_more (P := k) (W := W) (A := A) (by omega) hsub h)
        have q0 : ∀ z, Frm [] wr z → z.cell? ⟨p, 0, none⟩ = some (.int .i64 (k : Int)) := fun z hz => (hz.whole HQ.out (by simp)).cell 0
        have q1 : ∀ z, Frm [] wr z → z.cell? ⟨p, 1, none⟩ = some (.int .i64 (W : Int)) := fun z hz => (hz.whole HQ.out (by simp)).cell 1
        have q2 : ∀ z, Frm [] wr z → z.cell? ⟨p, 2, none⟩ = some (.int .i64 (A : Int)) := fun z hz => (hz.whole HQ.out (by simp)).cell 2
        have Q0 := Lib.hid q0
        have Q1 := Lib.hid q1
        have Q2 := Lib.hid q2
        generalize enN k W A e (fill k (fun j => a.testBit j) k) = e1 at EX I1
        generalize enN k W A e (fill k (fun j => a.testBit j || m.testBit j) k) = e2 at EY I1
        generalize covN k W A (fill k (fun j => a.testBit j) k) = c1 at CX I2
        generalize covN k W A (fill k (fun j => a.testBit j || m.testBit j) k) = c2 at CY I2
        clear hsub q0 q1 q2 HX HZ HQ
        have c0 := Q0.out wr (Frm.refl _ _)
        have c1' := Q1.out wr (Frm.refl _ _)
        have c2' := Q2.out wr (Frm.refl _ _)
        go_wp2_with fail
        refine (EX.out wr (Frm.refl _ _)).mono ?_
        rintro x v1 ⟨rfl, hv1⟩
        have T1 := Lib.hid hv1
        clear hv1 c0 c1' c2'
        have STEP : Hid (∀ v, Frm [] wr v → (v.cell? ⟨p, 0, none⟩ = some (.int .i64 (k : Int)) ∧ v.cell? ⟨p, 1, none⟩ = some (.int .i64 (W : Int)) ∧ v.cell? ⟨p, 2, none⟩ = some (.int .i64 (A : Int)))) := Lib.hid fun v hv => ⟨Q0.out v hv, Q1.out v hv, Q2.out v hv⟩
        clear Q0 Q1 Q2
        obtain ⟨c0, c1', c2'⟩ := STEP.out v1 T1.out
        cases e1
        · cases c1
          · go_wp2_with fail
            refine (CX.out v1 T1.out).mono ?_
            rintro x v2 ⟨rfl, hv2⟩
            have T2 := Lib.hid (T1.out.trans hv2 (U := []) (by simp) (by simp))
            go_wp2
            go_ret
            exact ⟨rfl, (HF.out.trans T2.out (U := []) (by simp) (by simp)).below (by simp) (Nat.le_refl _)⟩
          · obtain rfl : c2 = true := I2.out rfl
            go_wp2_with fail
            refine (CX.out v1 T1.out).mono ?_
            rintro x v2 ⟨rfl, hv2⟩
            have T2 := Lib.hid (T1.out.trans hv2 (U := []) (by simp) (by simp))
            obtain ⟨d0, d1, d2⟩ := STEP.out v2 T2.out
            clear c0 c1' c2' hv2
            go_wp2_with fail
            refine (CY.out v2 T2.out).mono ?_
            rintro x v3 ⟨rfl, hv3⟩
            have T3 := Lib.hid (T2.out.trans hv3 (U := []) (by simp) (by simp))
            clear d0 d1 d2
            go_wp2
            go_ret
            exact ⟨rfl, (HF.out.trans T3.out (U := []) (by simp) (by simp)).below (by simp) (Nat.le_refl _)⟩
        · obtain rfl : e2 = true := I1.out rfl
          go_wp2_with fail
          refine (EY.out v1 T1.out).mono ?_
          rintro x v4 ⟨rfl, hv4⟩
          have T4 := Lib.hid (T1.out.trans hv4 (U := []) (by simp) (by simp))
          clear c0 c1' c2' hv4
          obtain ⟨c0, c1', c2'⟩ := STEP.out v4 T4.out
          cases c1
          · go_wp2_with fail
            refine (CX.out v4 T4.out).mono ?_
            rintro x v2 ⟨rfl, hv2⟩
            have T2 := Lib.hid (T4.out.trans hv2 (U := []) (by simp) (by simp))
            go_wp2
            go_ret
            exact ⟨rfl, (HF.out.trans T2.out (U := []) (by simp) (by simp)).below (by simp) (Nat.le_refl _)⟩
          · obtain rfl : c2 = true := I2.out rfl
            go_wp2_with fail
            refine (CX.out v4 T4.out).mono ?_
            rintro x v2 ⟨rfl, hv2⟩
            have T2 := Lib.hid (T4.out.trans hv2 (U := []) (by simp) (by simp))
            obtain ⟨d0, d1, d2⟩ := STEP.out v2 T2.out
            clear c0 c1' c2' hv2
            go_wp2_with fail
            refine (CY.out v2 T2.out).mono ?_
            rintro x v3 ⟨rfl, hv3⟩
            have T3 := Lib.hid (T2.out.trans hv3 (U := []) (by simp) (by simp))
            clear d0 d1 d2
            go_wp2
            go_ret
            exact ⟨rfl, (HF.out.trans T3.out (U := []) (by simp) (by simp)).below (by simp) (Nat.le_refl _)⟩
end Go.Proofs.Ytcinjlmnedgpgaa
