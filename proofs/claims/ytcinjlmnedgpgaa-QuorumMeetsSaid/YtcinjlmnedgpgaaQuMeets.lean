/- QuorumMeets: the walk. -/
import Derived.Test.YtcinjlmnedgpgaaQuBits
namespace Go.Proofs.Ytcinjlmnedgpgaa
open Go.RowKit
set_option maxRecDepth 100000

/-- Is one of the first k in both? -/
def both (f g : Nat → Bool) (k : Nat) : Bool := (List.range k).any (fun j => f j && g j)
theorem both_succ (f g : Nat → Bool) (k : Nat) : both f g (k + 1) = (both f g k || (f k && g k)) := by simp [both, List.range_succ]

def MeRel (w : World) (p bx bz P W A : Nat) (f g : Nat → Bool) (s12 s26 : Value) (wr : World) : Prop :=
  ∃ k, k ≤ P ∧ s26 = .int .i64 (k : Nat) ∧ s12 = .bool (both f g k) ∧ Hid (Frm [] w wr) ∧ Hid (Whole wr p 23 (quC P W A)) ∧ Hid (Whole wr bx 4 (rowB (fill P f k))) ∧ Hid (Whole wr bz 4 (rowB (fill P g k)))

set_option maxHeartbeats 16000000 in
theorem quorumMeets_walk (n e a m : Nat) (w : World) (hn : n < 65536) (he : e < 18446744073709551616) (ha : a < 256) (hm : m < 256) :
    Calls Try.prog 4 #[.int .u16 (n : Nat), .int .u64 (e : Nat), .int .u8 (a : Nat), .int .u8 (m : Nat)] w fun x w' => x = .returned (.bool true) ∧ Below w.heap.size w w' := by
  have AW := Lib.hid (fun z => awake10_any z)
  have QN := Lib.hid (fun z => quorum_any n z hn)
  go_enter Try.func4, Try.ntmps4
  go_wp2_with fail
  refine (AW.out w).mono ?_
  rintro x w1 ⟨rfl, hf1⟩
  have HF1 := Lib.hid hf1; clear hf1 AW
  go_wp2_with fail
  refine (QN.out w1).mono ?_
  rintro x w2 ⟨P, W, A, hA1, hA2, hA3, hA4, rfl, hf2⟩
  have HF2 := Lib.hid (HF1.out.trans hf2 (U := []) (by simp) (by simp))
  clear hf2 HF1 QN
  have hmk := fun (z : World) => mk_bools P (by omega) z
  have HF3 := Lib.hid (HF2.out.alloc (.cells (quC P W A) 23))
  have HQ3 := Lib.hid (Whole.made w2 23 (quC P W A))
  go_wp2
  generalize hw3 : w2.alloc (.cells (quC P W A) 23) = w3 at HF3 HQ3 ⊢
  clear hw3
  obtain ⟨p, hp⟩ : ∃ p, p = w2.heap.size := ⟨_, rfl⟩
  rw [← hp] at HQ3 ⊢
  have HPW : Hid (w.heap.size ≤ p ∧ p < w3.heap.size) := Lib.hid ⟨by rw [hp]; exact HF2.out.size, HQ3.out.lt⟩
  clear hp HF2
  have c0 : w3.cell? ⟨p, 0, none⟩ = some (.int .i64 (P : Int)) := HQ3.out.cell 0
  have c1 : (w3.alloc (.cells (rowB (List.replicate P false)) 4)).cell? ⟨p, 0, none⟩ = some (.int .i64 (P : Int)) := (HQ3.out.alloc _).cell 0
  have HA := Lib.hid (((Whole.made w3 4 (rowB (List.replicate P false))).alloc (.cells (rowB (List.replicate P false)) 4)).drew)
  have HC := Lib.hid ((Whole.made (w3.alloc (.cells (rowB (List.replicate P false)) 4)) 4 (rowB (List.replicate P false))).drew)
  have HQ4 := Lib.hid (((HQ3.out.alloc (.cells (rowB (List.replicate P false)) 4)).alloc (.cells (rowB (List.replicate P false)) 4)).drew)
  have HF4 := Lib.hid (((HF3.out.alloc (.cells (rowB (List.replicate P false)) 4)).alloc (.cells (rowB (List.replicate P false)) 4)).drew)
  rw [show (w3.alloc (.cells (rowB (List.replicate P false)) 4)).heap.size = w3.heap.size + 1 by simp] at HC
  go_region
  (generalize (World.alloc (World.alloc w3 (.cells (rowB (List.replicate P false)) 4)) (.cells (rowB (List.replicate P false)) 4)).drew = w4 at HA HC HQ4 HF4 ⊢; obtain ⟨bx, hbx⟩ : ∃ b, b = w3.heap.size := ⟨_, rfl⟩; obtain ⟨bz, hbz⟩ : ∃ b, b = w3.heap.size + 1 := ⟨_, rfl⟩; rw [← hbx] at HA; rw [← hbz] at HC; have HX := HA; have HZ := HC; clear HA HC; rw [← hbz, ← hbx])
  rotate_left 1
  (generalize (World.alloc (World.alloc w3 (.cells (rowB (List.replicate P false)) 4)) (.cells (rowB (List.replicate P false)) 4)).drew = w4 at HA HC HQ4 HF4 ⊢; obtain ⟨bz, hbz⟩ : ∃ b, b = w3.heap.size := ⟨_, rfl⟩; obtain ⟨bx, hbx⟩ : ∃ b, b = w3.heap.size + 1 := ⟨_, rfl⟩; rw [← hbx] at HC; rw [← hbz] at HA; have HX := HC; have HZ := HA; clear HA HC; rw [← hbx, ← hbz])
  rotate_left 1
  all_goals
    have HN : Hid (w.heap.size ≤ p ∧ p < bx ∧ p < bz ∧ bx ≠ bz) := Lib.hid (by have := HPW.out; omega)
    have HR0 : Hid (MeRel w p bx bz P W A (fun j => a.testBit j) (fun j => m.testBit j) (.bool false) (.int .i64 (0 : Nat)) w4) := Lib.hid ⟨0, Nat.zero_le _, rfl, rfl, HF4, HQ4, by rw [fill_zero]; exact HX, by rw [fill_zero]; exact HZ⟩
    have d0 : w4.cell? ⟨p, 0, none⟩ = some (.int .i64 (P : Int)) := HQ4.out.cell 0
    clear HPW HF4 HQ4 HX HZ HF3 HQ3 c0 c1 hbx hbz hmk
    go_wp2
    clear d0
    go_loopw [12, 26] (fun s12 s26 wr => MeRel w p bx bz P W A (fun j => a.testBit j) (fun j => m.testBit j) s12 s26 wr) (fun _ s26 _ => P - (intOf s26).toNat)
    case atStart => exact HR0.out
    case round =>
      clear HR0
      obtain ⟨k, hk, rfl, rfl, HF, HQ, HX, HZ⟩ := hrel
      by_cases hlt : k < P
      · obtain ⟨b0, hb0⟩ : ∃ b0, b0 = a.testBit k := ⟨_, rfl⟩
        obtain ⟨b1, hb1⟩ : ∃ b1, b1 = m.testBit k := ⟨_, rfl⟩
        have v0 : (bits .and .u8 ((a : Int) / 2 ^ k) 1 == 1) = b0 := by rw [hb0]; exact (bit8 ha).1
        have v1 : (bits .and .u8 ((m : Int) / 2 ^ k) 1 == 1) = b1 := by rw [hb1]; exact (bit8 hm).1
        have HB := Lib.hid (both_succ (fun j => a.testBit j) (fun j => m.testBit j) k)
        obtain ⟨bo, hbo⟩ : ∃ bo, bo = both (fun j => a.testBit j) (fun j => m.testBit j) k := ⟨_, rfl⟩
        rw [← hbo] at HB ⊢
        simp only [← hb0, ← hb1] at HB
        have cx : wr.cell? ⟨bx, k, none⟩ = some (.bool ((fill P (fun j => a.testBit j) k).getD k false)) := (HX.out.cell k).trans (rowB_at _ k (by rw [fill_len]; exact hlt))
        have fx : wr.frozen? ⟨bx, k, none⟩ = false := HX.out.free k
        have cz : wr.cell? ⟨bz, k, none⟩ = some (.bool ((fill P (fun j => m.testBit j) k).getD k false)) := (HZ.out.cell k).trans (rowB_at _ k (by rw [fill_len]; exact hlt))
        have fz : wr.frozen? ⟨bz, k, none⟩ = false := HZ.out.free k
        have cx' : (wr.setCell ⟨bz, k, none⟩ (.bool b1)).cell? ⟨bx, k, none⟩ = some (.bool ((fill P (fun j => a.testBit j) k).getD k false)) := ((HX.out.other (p := ⟨bz, k, none⟩) HN.out.2.2.2 _).cell k).trans (rowB_at _ k (by rw [fill_len]; exact hlt))
        have fx' : (wr.setCell ⟨bz, k, none⟩ (.bool b1)).frozen? ⟨bx, k, none⟩ = false := (HX.out.other (p := ⟨bz, k, none⟩) HN.out.2.2.2 _).free k
        have cz' : (wr.setCell ⟨bx, k, none⟩ (.bool b0)).cell? ⟨bz, k, none⟩ = some (.bool ((fill P (fun j => m.testBit j) k).getD k false)) := ((HZ.out.other (p := ⟨bx, k, none⟩) (Ne.symm HN.out.2.2.2) _).cell k).trans (rowB_at _ k (by rw [fill_len]; exact hlt))
        have fz' : (wr.setCell ⟨bx, k, none⟩ (.bool b0)).frozen? ⟨bz, k, none⟩ = false := (HZ.out.other (p := ⟨bx, k, none⟩) (Ne.symm HN.out.2.2.2) _).free k
        have ALL : Hid (∀ v, v = ((wr.setCell ⟨bx, k, none⟩ (.bool b0)).setCell ⟨bz, k, none⟩ (.bool b1)).drew ∨ v = ((wr.setCell ⟨bz, k, none⟩ (.bool b1)).setCell ⟨bx, k, none⟩ (.bool b0)).drew →
            Frm [] w v ∧ Whole v p 23 (quC P W A) ∧ Whole v bx 4 (rowB (fill P (fun j => a.testBit j) (k + 1))) ∧ Whole v bz 4 (rowB (fill P (fun j => m.testBit j) (k + 1)))) := Lib.hid (by
          have hn := HN.out
          have e0 : (rowB (fill P (fun j => a.testBit j) k)).setIfInBounds k (.bool b0) = rowB (fill P (fun j => a.testBit j) (k + 1)) := by rw [rowB_set, hb0]; exact congrArg rowB (fill_set P (fun j => a.testBit j) k)
          have e1 : (rowB (fill P (fun j => m.testBit j) k)).setIfInBounds k (.bool b1) = rowB (fill P (fun j => m.testBit j) (k + 1)) := by rw [rowB_set, hb1]; exact congrArg rowB (fill_set P (fun j => m.testBit j) k)
          rintro v (rfl | rfl)
          · refine ⟨((HF.out.setCell (p := ⟨bx, k, none⟩) (.inr (by simp; omega)) _).setCell (p := ⟨bz, k, none⟩) (.inr (by simp; omega)) _).drew, ((HQ.out.other (p := ⟨bx, k, none⟩) (by simp; omega) _).other (p := ⟨bz, k, none⟩) (by simp; omega) _).drew, ?_, ?_⟩
            · rw [← e0]; exact ((HX.out.put k _).other (p := ⟨bz, k, none⟩) hn.2.2.2 _).drew
            · rw [← e1]; exact ((HZ.out.other (p := ⟨bx, k, none⟩) (Ne.symm hn.2.2.2) _).put k _).drew
          · refine ⟨((HF.out.setCell (p := ⟨bz, k, none⟩) (.inr (by simp; omega)) _).setCell (p := ⟨bx, k, none⟩) (.inr (by simp; omega)) _).drew, ((HQ.out.other (p := ⟨bz, k, none⟩) (by simp; omega) _).other (p := ⟨bx, k, none⟩) (by simp; omega) _).drew, ?_, ?_⟩
            · rw [← e0]; exact ((HX.out.other (p := ⟨bz, k, none⟩) hn.2.2.2 _).put k _).drew
            · rw [← e1]; exact ((HZ.out.put k _).other (p := ⟨bx, k, none⟩) (Ne.symm hn.2.2.2) _).drew)
        have AT0 : Hid ((fill P (fun j => a.testBit j) (k + 1)).getD k false = b0) := Lib.hid (by rw [fill_at _ _ _ _ (Nat.lt_succ_self k) hlt, hb0])
        have AT1 : Hid ((fill P (fun j => m.testBit j) (k + 1)).getD k false = b1) := Lib.hid (by rw [fill_at _ _ _ _ (Nat.lt_succ_self k) hlt, hb1])
        clear hb0 hb1 hbo HX HZ HQ HF
        go_wp2_with fail
        go_region
        all_goals
          generalize hv : World.drew _ = v
          have HV := ALL.out v (by first | exact .inl hv.symm | exact .inr hv.symm)
          obtain ⟨hvf, hvq, hvx, hvz⟩ := HV
          have HF2 := Lib.hid hvf
          have HQ2 := Lib.hid hvq
          have HX2 := Lib.hid hvx
          have HZ2 := Lib.hid hvz
          have dx : v.cell? ⟨bx, k, none⟩ = some (.bool b0) := (hvx.cell k).trans ((rowB_at _ k (by rw [fill_len]; exact hlt)).trans (by rw [AT0.out]))
          have dz : v.cell? ⟨bz, k, none⟩ = some (.bool b1) := (hvz.cell k).trans ((rowB_at _ k (by rw [fill_len]; exact hlt)).trans (by rw [AT1.out]))
          clear hv hvf hvq hvx hvz ALL cx fx cz fz cx' fx' cz' fz' v0 v1
          cases bo
          · cases b0
            · go_wp2
              go_roundw
              case rel => exact ⟨k + 1, hlt, by go_num, by rw [HB.out]; rfl, HF2, HQ2, HX2, HZ2⟩
              case measure => simp [intOf]; omega
            · go_wp2
              go_roundw
              case rel => exact ⟨k + 1, hlt, by go_num, by rw [HB.out]; cases b1 <;> rfl, HF2, HQ2, HX2, HZ2⟩
              case measure => simp [intOf]; omega
          · go_wp2
            go_roundw
            case rel => exact ⟨k + 1, hlt, by go_num, by rw [HB.out]; rfl, HF2, HQ2, HX2, HZ2⟩
            case measure => simp [intOf]; omega
      · obtain rfl : k = P := by omega
        have EX := Lib.hid (fun z (hz : Frm [] wr z) => enough_any k W A e (some ⟨bx, 0, none⟩) k k _ z hA1 hA2 hA4 hA3 he ((HX.out.bin).keep hz) (fill_len k (fun j => a.testBit j) k).symm)
        have CY := Lib.hid (fun z (hz : Frm [] wr z) => covered_any k W A (some ⟨bz, 0, none⟩) k k _ z hA1 hA2 hA4 hA3 ((HZ.out.bin).keep hz) (fill_len k (fun j => m.testBit j) k).symm)
        have I1 := Lib.hid (fun (h : enN k W A e (fill k (fun j => a.testBit j) k) = true) (h2 : covN k W A (fill k (fun j => m.testBit j) k) = true) => (show both (fun j => a.testBit j) (fun j => m.testBit j) k = true from by
          obtain ⟨q, hq, h3, h4⟩ := meets (P := k) (W := W) (A := A) (e := e) (by omega) hA2 (of_decide_eq_true h) h2
          rw [fill_at _ _ _ _ hq hq] at h3 h4
          unfold both
          rw [List.any_eq_true]
          have h3' : a.testBit q = true := h3
          have h4' : m.testBit q = true := h4
          exact ⟨q, List.mem_range.2 hq, by show (a.testBit q && m.testBit q) = true; rw [h3', h4']; rfl⟩))
        generalize enN k W A e (fill k (fun j => a.testBit j) k) = e1 at EX I1
        generalize covN k W A (fill k (fun j => m.testBit j) k) = c1 at CY I1
        generalize both (fun j => a.testBit j) (fun j => m.testBit j) k = bo at I1 ⊢
        have STEP : Hid (∀ v, Frm [] wr v → (v.cell? ⟨p, 0, none⟩ = some (.int .i64 (k : Int)) ∧ v.cell? ⟨p, 1, none⟩ = some (.int .i64 (W : Int)) ∧ v.cell? ⟨p, 2, none⟩ = some (.int .i64 (A : Int)))) := Lib.hid fun v hv => ⟨(hv.whole HQ.out (by simp)).cell 0, (hv.whole HQ.out (by simp)).cell 1, (hv.whole HQ.out (by simp)).cell 2⟩
        clear HX HZ HQ
        obtain ⟨c0, c1', c2'⟩ := STEP.out wr (Frm.refl _ _)
        go_wp2_with fail
        refine (EX.out wr (Frm.refl _ _)).mono ?_
        rintro x v1 ⟨rfl, hv1⟩
        have T1 := Lib.hid hv1
        clear hv1 c0 c1' c2'
        obtain ⟨c0, c1', c2'⟩ := STEP.out v1 T1.out
        cases e1
        · go_wp2
          go_ret
          exact ⟨rfl, (HF.out.trans T1.out (U := []) (by simp) (by simp)).below (by simp) (Nat.le_refl _)⟩
        · go_wp2_with fail
          refine (CY.out v1 T1.out).mono ?_
          rintro x v2 ⟨rfl, hv2⟩
          have T2 := Lib.hid (T1.out.trans hv2 (U := []) (by simp) (by simp))
          clear hv2 c0 c1' c2'
          cases c1
          · go_wp2
            go_ret
            exact ⟨rfl, (HF.out.trans T2.out (U := []) (by simp) (by simp)).below (by simp) (Nat.le_refl _)⟩
          · obtain rfl : bo = true := I1.out (by simp) (by simp)
            go_wp2
            go_ret
            exact ⟨rfl, (HF.out.trans T2.out (U := []) (by simp) (by simp)).below (by simp) (Nat.le_refl _)⟩
end Go.Proofs.Ytcinjlmnedgpgaa
