/- QuorumSpread: the walk. -/
import Derived.Test.YtcinjlmnedgpgaaQuSpMath
namespace Go.Proofs.Ytcinjlmnedgpgaa
open Go.RowKit
set_option maxRecDepth 100000

/-- At the head of the loop over entries. -/
def SpRel (w : World) (p bc P W A f : Nat) (s24 : Value) (wr : World) : Prop :=
  ∃ i, i ≤ P ∧ s24 = .int .i64 (i : Nat) ∧ Hid (Frm [] w wr) ∧ Hid (Whole wr p 23 (quC P W A)) ∧ Hid (Whole wr bc 3 (rowI (cntL P W f i 0)))
/-- At the head of the loop over an entry's places. -/
def SqRel (w : World) (p bc bs be P W A f i : Nat) (s37 : Value) (wr : World) : Prop :=
  ∃ j, j ≤ W ∧ s37 = .int .i64 (j : Nat) ∧ Hid (Frm [] w wr) ∧ Hid (Whole wr p 23 (quC P W A)) ∧ Hid (Whole wr bc 3 (rowI (cntL P W f i j))) ∧ Hid (Whole wr bs 4 (rowB (seenL P (f + i) j))) ∧ Hid (Whole wr be 3 (rowI (setN P W (f + i))))
/-- At the head of the last loop. -/
def SzRel (wr : World) (P : Nat) (s68 : Value) (wz : World) : Prop := ∃ k, k ≤ P ∧ s68 = .int .i64 (k : Nat) ∧ wz = wr

set_option maxHeartbeats 16000000 in
theorem quorumSpread_walk (n f : Nat) (w : World) (hn : n < 65536) (hf : f < 18446744073709551616) :
    Calls Try.prog 7 #[.int .u16 (n : Nat), .int .u64 (f : Nat)] w fun x w' => x = .returned (.bool true) ∧ Below w.heap.size w w' := by
  have AW := Lib.hid (fun z => awake10_any z)
  have QN := Lib.hid (fun z => quorum_any n z hn)
  go_enter Try.func7, Try.ntmps7
  go_wp2_with fail
  refine (AW.out w).mono ?_
  rintro x w1 ⟨rfl, hf1⟩
  have HF1 := Lib.hid hf1; clear hf1 AW
  go_wp2_with fail
  refine (QN.out w1).mono ?_
  rintro x w2 ⟨P, W, A, hA1, hA2, hA3, hA4, rfl, hf2⟩
  have HF2 := Lib.hid (HF1.out.trans hf2 (U := []) (by simp) (by simp))
  clear hf2 HF1 QN
  have HF3 := Lib.hid (HF2.out.alloc (.cells (quC P W A) 23))
  have HQ3 := Lib.hid (Whole.made w2 23 (quC P W A))
  by_cases hbig : 4611686018427387904 < f
  · have hd : decide ((f : Int) > 4611686018427387904) = true := decide_eq_true (by omega)
    go_wp2
    go_ret
    exact ⟨rfl, HF3.out.below (by simp) (Nat.le_refl _)⟩
  have hd : decide ((f : Int) > 4611686018427387904) = false := decide_eq_false (by omega)
  have hmi := fun (z : World) => mk_ints P (by omega) z
  have HMB := Lib.hid (fun (z : World) => mk_bools P (by omega) z)
  have c0 : (w2.alloc (.cells (quC P W A) 23)).cell? ⟨w2.heap.size, 0, none⟩ = some (.int .i64 (P : Int)) := HQ3.out.cell 0
  have HQ4 := Lib.hid (HQ3.out.alloc (.cells (rowI (List.replicate P 0)) 3))
  have HF4 := Lib.hid (HF3.out.alloc (.cells (rowI (List.replicate P 0)) 3))
  have HC4 := Lib.hid (Whole.made (w2.alloc (.cells (quC P W A) 23)) 3 (rowI (List.replicate P 0)))
  rw [← cntL_start P W f, show (w2.alloc (.cells (quC P W A) 23)).heap.size = w2.heap.size + 1 by simp] at HC4
  rw [← cntL_start P W f] at hmi HQ4 HF4
  have c1 : ((w2.alloc (.cells (quC P W A) 23)).alloc (.cells (rowI (cntL P W f 0 0)) 3)).cell? ⟨w2.heap.size, 0, none⟩ = some (.int .i64 (P : Int)) := HQ4.out.cell 0
  go_wp2
  generalize (w2.alloc (.cells (quC P W A) 23)).alloc (.cells (rowI (cntL P W f 0 0)) 3) = w4 at c1 HQ4 HF4 HC4 ⊢
  obtain ⟨bc, hbc⟩ : ∃ bc, bc = w2.heap.size + 1 := ⟨_, rfl⟩
  obtain ⟨p, hp⟩ : ∃ p, p = w2.heap.size := ⟨_, rfl⟩
  rw [← hbc] at HC4 ⊢
  rw [← hp] at HQ4 ⊢
  have HN : Hid (w.heap.size ≤ p ∧ p < bc) := Lib.hid (by have := HF2.out.size; omega)
  have HR0 : Hid (SpRel w p bc P W A f (.int .i64 (0 : Nat)) w4) := Lib.hid ⟨0, Nat.zero_le _, rfl, HF4, HQ4, HC4⟩
  clear hbc hp HF2 HF3 HQ3 c0 c1 hmi hd HF4 HQ4 HC4
  go_loopw [24] (fun s24 wr => SpRel w p bc P W A f s24 wr) (fun s24 _ => P - (intOf s24).toNat)
  case atStart => exact HR0.out
  case round =>
    clear HR0
    obtain ⟨i, hi, rfl, HF, HQ, HC⟩ := hrel
    by_cases hlt : i < P
    · have hfi : f + i < 18446744073709551616 := by omega
      have u1 : IntKind.u64.wrap (i : Int) = (i : Int) := by simp [IntKind.wrap, IntKind.bits, IntKind.signed]; omega
      have u1' : (i : Int) % 18446744073709551616 = (i : Int) := by omega
      have u2 : IntKind.u64.wrap ((f : Int) + (i : Int)) = ((f + i : Nat) : Int) := by simp [IntKind.wrap, IntKind.bits, IntKind.signed]; omega
      have u2' : ((f : Int) + (i : Int)) % 18446744073709551616 = ((f + i : Nat) : Int) := by omega
      have ST := Lib.hid (fun z => qset_any P W A (f + i) z hA1 hA2 hA4 hA3 hfi)
      have c0 : wr.cell? ⟨p, 0, none⟩ = some (.int .i64 (P : Int)) := HQ.out.cell 0
      have HQ5 := Lib.hid (HQ.out.alloc (.cells (rowB (List.replicate P false)) 4))
      have HF5 := Lib.hid (HF.out.alloc (.cells (rowB (List.replicate P false)) 4))
      have HC5 := Lib.hid (HC.out.alloc (.cells (rowB (List.replicate P false)) 4))
      have HS5 := Lib.hid (Whole.made wr 4 (rowB (List.replicate P false)))
      have hbs := HC.out.lt
      obtain ⟨bs, hbse⟩ : ∃ bs, bs = wr.heap.size := ⟨_, rfl⟩
      rw [← hbse] at HS5 hbs
      have hmb2 : (Instr.makeSlice 26 (.int .i64 (P : Int)) (.int .i64 (P : Int))).run Try.prog wr = .ok (.slice (some ⟨bs, 0, none⟩) P P) (wr.alloc (.cells (rowB (List.replicate P false)) 4)) := by rw [hbse]; exact HMB.out wr
      have q0 : (wr.alloc (.cells (rowB (List.replicate P false)) 4)).cell? ⟨p, 0, none⟩ = some (.int .i64 (P : Int)) := HQ5.out.cell 0
      have q1 : (wr.alloc (.cells (rowB (List.replicate P false)) 4)).cell? ⟨p, 1, none⟩ = some (.int .i64 (W : Int)) := HQ5.out.cell 1
      have q2 : (wr.alloc (.cells (rowB (List.replicate P false)) 4)).cell? ⟨p, 2, none⟩ = some (.int .i64 (A : Int)) := HQ5.out.cell 2
      clear hbse HQ HF HC
      go_wp2_with fail
      generalize wr.alloc (.cells (rowB (List.replicate P false)) 4) = w5 at q0 q1 q2 HQ5 HF5 HC5 HS5 ⊢
      refine (ST.out w5).mono ?_
      rintro x w6 ⟨be, hbe, rfl, hre, hf6⟩
      have HQ6 := Lib.hid (hf6.whole HQ5.out (by simp))
      have HC6 := Lib.hid (hf6.whole HC5.out (by simp))
      have HS6 := Lib.hid (hf6.whole HS5.out (by simp))
      rw [← seenL_start P (f + i)] at HS6
      have HE6 := Lib.hid hre
      have HF6 := Lib.hid (HF5.out.trans hf6 (U := []) (by simp) (by simp))
      have HM : Hid (p < bc ∧ bc < bs ∧ bs < be ∧ w.heap.size ≤ p) := Lib.hid (by have := HN.out; have := HS5.out.lt; omega)
      have HR1 : Hid (SqRel w p bc bs be P W A f i (.int .i64 (0 : Nat)) w6) := Lib.hid ⟨0, Nat.zero_le _, rfl, HF6, HQ6, HC6, HS6, HE6⟩
      clear hre hf6 hbe HQ5 HF5 HC5 HS5 HQ6 HC6 HS6 HE6 HF6 q0 q1 q2 c0 hmb2 u1 u1' u2 u2' ST hbs
      go_wp2
      go_loopw [37] (fun s37 wr => SqRel w p bc bs be P W A f i s37 wr) (fun s37 _ => W - (intOf s37).toNat)
      case atStart => exact HR1.out
      case round =>
        clear HR1
        obtain ⟨j, hj, rfl, HF, HQ, HC, HS, HE⟩ := hrel
        by_cases hjl : j < W
        · obtain ⟨q, hq⟩ : ∃ q, q = plN P (f + i) j := ⟨_, rfl⟩
          have hqP : q < P := by rw [hq]; exact plN_lt (by omega) _ _
          have hat : (setN P W (f + i)).getD j 0 = q := by rw [hq]; simp [setN, List.getD, hjl]
          obtain ⟨v, hv⟩ : ∃ v, v = (cntL P W f i j).getD q 0 := ⟨_, rfl⟩
          have hvle : v ≤ 100 := by
            rw [hv, cntL_at hqP]
            have h1 := spS_le P W f q i
            have h2 := List.count_le_length (a := q) (l := setN P j (f + i))
            rw [setN_len] at h2
            have h3 : W * i ≤ 7 * 7 := Nat.mul_le_mul (by omega) (by omega)
            omega
          have hcs := cntL_step (W := W) hq (v := v + 1) (by rw [hv]) (by omega)
          have hss := seenL_step hq
          have hns : (seenL P (f + i) j).getD q false = false := by rw [seenL_at hqP, hq]; exact not_seen (by omega)
          have c0 : wr.cell? ⟨p, 0, none⟩ = some (.int .i64 (P : Int)) := HQ.out.cell 0
          have ce : wr.cell? ⟨be, j, none⟩ = some (.int .i64 (q : Nat)) := (HE.out.cell j).trans ((rowI_at _ j (by rw [setN_len]; exact hjl)).trans (by rw [hat]))
          have cs : wr.cell? ⟨bs, q, none⟩ = some (.bool false) := (HS.out.cell q).trans ((rowB_at _ q (by rw [seenL_len]; exact hqP)).trans (by rw [hns]))
          have fs : wr.frozen? ⟨bs, q, none⟩ = false := HS.out.free q
          have HS2 := Lib.hid (HS.out.put q (.bool true))
          rw [rowB_set, hss] at HS2
          have HC1 := Lib.hid (HC.out.other (p := ⟨bs, q, none⟩) (by have := HM.out; simp; omega) (.bool true))
          have cc : (wr.setCell ⟨bs, q, none⟩ (.bool true)).cell? ⟨bc, q, none⟩ = some (.int .i64 (v : Nat)) := (HC1.out.cell q).trans ((rowI_at _ q (by rw [cntL_len]; exact hqP)).trans (by rw [hv]))
          have fc : (wr.setCell ⟨bs, q, none⟩ (.bool true)).frozen? ⟨bc, q, none⟩ = false := HC1.out.free q
          have HC2 := Lib.hid (HC1.out.put q (.int .i64 ((v + 1 : Nat) : Int)))
          rw [rowI_set, hcs] at HC2
          have HS3 := Lib.hid (HS2.out.other (p := ⟨bc, q, none⟩) (by have := HM.out; simp; omega) (.int .i64 ((v + 1 : Nat) : Int)))
          have HQ3 := Lib.hid ((HQ.out.other (p := ⟨bs, q, none⟩) (by have := HM.out; simp; omega) (.bool true)).other (p := ⟨bc, q, none⟩) (by have := HM.out; simp; omega) (.int .i64 ((v + 1 : Nat) : Int)))
          have HE3 := Lib.hid ((HE.out.other (p := ⟨bs, q, none⟩) (by have := HM.out; simp; omega) (.bool true)).other (p := ⟨bc, q, none⟩) (by have := HM.out; simp; omega) (.int .i64 ((v + 1 : Nat) : Int)))
          have HF3 := Lib.hid ((HF.out.setCell (p := ⟨bs, q, none⟩) (.inr (by have := HM.out; simp; omega)) (.bool true)).setCell (p := ⟨bc, q, none⟩) (.inr (by have := HM.out; simp; omega)) (.int .i64 ((v + 1 : Nat) : Int)))
          have d1 : decide ((q : Int) < 0) = false := decide_eq_false (by omega)
          have d2 : decide ((q : Int) ≥ (P : Int)) = false := decide_eq_false (by omega)
          have w1' : IntKind.i64.wrap ((v : Int) + 1) = ((v + 1 : Nat) : Int) := IntWalk.i64_in _ (by omega)
          have w2' : (v : Int) + 1 = ((v + 1 : Nat) : Int) := rfl
          rw [← w2'] at HS3 HQ3 HE3 HF3 HC2
          clear hq hat hv hcs hss hns HS HC HQ HE HF HS2 HC1 w2'
          go_wp2
          go_roundw
          case rel => exact ⟨j + 1, hjl, by go_num, HF3, HQ3, HC2, HS3, HE3⟩
          case measure => simp [intOf]; omega
        · obtain rfl : j = W := by omega
          rw [cntL_next] at HC
          go_wp2
          go_roundw
          case rel => exact ⟨i + 1, hlt, by go_num, HF, HQ, HC⟩
          case measure => simp [intOf]; omega
    · obtain rfl : i = P := by omega
      have c1 : wr.cell? ⟨p, 1, none⟩ = some (.int .i64 (W : Int)) := HQ.out.cell 1
      have CC : Hid (∀ k, k < i → wr.cell? ⟨bc, k, none⟩ = some (.int .i64 (W : Int))) := Lib.hid fun k hk => (HC.out.cell k).trans ((rowI_at _ k (by rw [cntL_len]; exact hk)).trans (by rw [cntL_at hk, spS_all W hk]; simp [setN]))
      have HR2 : Hid (SzRel wr i (.int .i64 (0 : Nat)) wr) := Lib.hid ⟨0, Nat.zero_le _, rfl, rfl⟩
      go_wp2
      go_loopw [68] (fun s68 wz => SzRel wr i s68 wz) (fun s68 _ => i - (intOf s68).toNat)
      case atStart => exact HR2.out
      case round =>
        clear HR2
        obtain ⟨k, hk, rfl, rfl⟩ := hrel
        by_cases hlt : k < i
        · have cc := CC.out k hlt
          have hd : ((W : Int) != (W : Int)) = false := by simp
          go_wp2
          go_roundw
          case rel => exact ⟨k + 1, hlt, by go_num, rfl⟩
          case measure => simp [intOf]; omega
        · go_wp2
          go_ret
          exact ⟨rfl, HF.out.below (by simp) (Nat.le_refl _)⟩
end Go.Proofs.Ytcinjlmnedgpgaa
