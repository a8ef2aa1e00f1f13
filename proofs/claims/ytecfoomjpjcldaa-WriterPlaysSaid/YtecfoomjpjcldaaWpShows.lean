/- Both writers side by side; the law's comparison. Written by wip/mk-wpshows.py. -/
import Derived.Test.YtecfoomjpjcldaaDwWait
import Derived.Test.YtecfoomjpjcldaaShSame
import Derived.RegionTactic
import Derived.BigRegion
import Derived.Deep.Cut
import Derived.Deep.CutRange
namespace Go.Proofs.Ytecfoomjpjcldaa
open Go.RowKit
set_option maxRecDepth 100000
/-- The program's writer at px, the document's at pm (and in the blocks G). -/
structure Pw (w : World) (B px pm : Nat) (G : List Nat) (P W A : Nat) (D : List (List Nat)) (H : Nat → Nat → Bool) (su : Nat) (cl : Bool) : Prop where
  pr : Wq w B px (pm :: G) P W A D H su cl
  dw : Dw w B pm [px] G P W A D H su cl
theorem Pw.here {w w' : World} {B px pm : Nat} {G : List Nat} {P W A : Nat} {D : List (List Nat)} {H : Nat → Nat → Bool} {su : Nat} {cl : Bool} (h : Pw w B px pm G P W A D H su cl) (hf : Frm [] w w') : Pw w' B px pm G P W A D H su cl := ⟨h.pr.here hf, h.dw.here hf⟩
def Sh1Rel (w : World) (N : Nat) (s34 : Value) (wr : World) : Prop := ∃ i : Nat, s34 = .int .i64 (i : Nat) ∧ i ≤ N ∧ Hid (Frm [] w wr)
set_option maxHeartbeats 8000000 in
theorem wpshows_any {w : World} {B px pm : Nat} {G : List Nat} {P W A : Nat} {D : List (List Nat)} {H : Nat → Nat → Bool} {su : Nat} {cl : Bool} (m : Pw w B px pm G P W A D H su cl) (hl : D.length ≤ 100000) :
    Calls Try.prog 15 #[.pointer (some ⟨px, 0, none⟩), .pointer (some ⟨pm, 0, none⟩)] w fun e w' => e = .returned (.bool true) ∧ Frm [] w w' := by
  have HM := Lib.hid m
  have hsu := m.dw.su_le
  have HWA := Lib.hid (waiting_any m.pr)
  have HLL : Hid (D.length ≤ 100000) := Lib.hid hl
  obtain ⟨Q, hQ⟩ : ∃ Q : Ending → World → Prop, Q = fun e w' => e = .returned (.bool true) ∧ Frm [] w w' := ⟨_, rfl⟩
  rw [← hQ]
  have HQ : Hid (∀ z, Frm [] w z → Q (.returned (.bool true)) z) := Lib.hid fun z hz => by rw [hQ]; exact ⟨rfl, hz⟩
  have hP7 : P ≤ 7 := m.pr.quo.2.2.2
  clear m hQ hl hsu
  go_enter Try.func15, Try.ntmps15
  go_wp2_with fail
  (with_reducible refine HWA.out.mono ?_)
  rintro ex w1 ⟨a1, c1, X1, b1, e1, k, rfl, hk, hX1, hi1, hil1, hpl1, hf1⟩
  have HWB := Lib.hid (dwwaiting_any (HM.out.dw.here hf1) HLL.out)
  have HF1 := Lib.hid hf1
  have HIL1 := Lib.hid hil1
  have HPL1 := Lib.hid hpl1
  have HX1 := Lib.hid hX1
  have HI1 := Lib.hid hi1
  have HK := Lib.hid hk
  clear hf1 hil1 hpl1 hX1 hi1 hk HWA
  go_wp2_with fail
  (with_reducible refine HWB.out.mono ?_)
  rintro ex w2 ⟨a2, c2, X2, b2, e2, k', rfl, hk', hX2, hi2, hil2, hpl2, hf2⟩
  obtain rfl : k' = k := by rw [hk', HK.out]
  have HF2 := Lib.hid (HF1.out.trans hf2 (U := []) (by simp) (by simp))
  have HIT2 : Hid (its X1 = its X2) := Lib.hid (by rw [HI1.out, hi2])
  have HPL2 : Hid (PlIn w2 [] b1 (lackL P W H su D.length)) := Lib.hid (HPL1.out.keep hf2 (by simp) (by simp))
  have HPL3 := Lib.hid hpl2
  have hk5 : k' ≤ 100000 := by have := HK.out; have := HLL.out; omega
  have HSM := Lib.hid (sameItems_true a1 a2 k' c1 c2 X1 X2 [] [] w2 (HIL1.out.keep hf2 (F' := []) (by simp) (by simp)) hil2 HX1.out.symm HIT2.out (by omega))
  obtain ⟨L, hL⟩ : ∃ L, L = lackL P W H su D.length := ⟨_, rfl⟩
  have HLN : Hid (k' = L.length) := Lib.hid (by rw [hL, lackL_len]; exact HK.out)
  have HLS : Hid (∀ i, i < L.length → (L.getD i []).length ≤ 7) := Lib.hid fun i hi => by
    rw [hL, lackL_len] at hi
    rw [hL]
    unfold lackL
    rw [show ((List.range (D.length - su)).map fun i => keepI (H (su + i)) (setN P W (su + i))).getD i [] = keepI (H (su + i)) (setN P W (su + i)) by simp [hi]]
    have h1 : (keepI (H (su + i)) (setN P W (su + i))).length ≤ (setN P W (su + i)).length := List.length_filter_le _ _
    rw [setN_len] at h1
    have := HM.out.pr.quo
    omega
  rw [← hL] at HPL2 HPL3
  clear hk' hX2 hi2 hil2 hpl2 hf2 HF1 HIL1 HPL1 HX1 HI1 HK HWB HIT2 hL
  go_wp2_with fail
  (with_reducible refine HSM.out.mono ?_)
  rintro ex w3 ⟨rfl, hf3⟩
  have HF3 := Lib.hid hf3
  have HR0 : Hid (Sh1Rel w2 k' (.int .i64 0) w3) := Lib.hid ⟨0, rfl, Nat.zero_le _, HF3⟩
  have hbne : ((k' : Int) == (k' : Int)) = true := by simp
  clear hf3 HSM HF3
  go_wp2
  go_loopw [34] (fun s34 wr => Sh1Rel w2 k' s34 wr) (fun s34 _ => k' - (intOf s34).toNat)
  case atStart => exact HR0.out
  case round =>
    clear HR0
    obtain ⟨i, rfl, hi, HFR⟩ := hrel
    by_cases hik : i < k'
    · have hiL : i < L.length := by rw [← HLN.out]; exact hik
      obtain ⟨g1, o1, hb1, i1, j1, p1, p2⟩ := (HPL2.out.keep HFR.out (F' := []) (by simp) (by simp)).at hiL
      obtain ⟨g2, o2, hb2, i2, j2, q1, q2⟩ := (HPL3.out.keep HFR.out (F' := []) (by simp) (by simp)).at hiL
      have h7 := HLS.out i hiL
      subst hb1 hb2
      obtain ⟨l, hl⟩ : ∃ l, l = L.getD i [] := ⟨_, rfl⟩
      rw [← hl] at p1 p2 q1 q2 h7
      obtain ⟨ln, hln⟩ : ∃ ln, ln = l.length := ⟨_, rfl⟩
      rw [← hln] at p1 q1 h7
      have HLE := Lib.hid hln
      have P2 := Lib.hid p2
      have Q2 := Lib.hid q2
      have N1 : ∀ z, Frm [] wr z → z.cell? ⟨g1, o1 + i, none⟩ = some (.slice i1 ln j1) := fun z hz => (hz.cell (block_lt_of_cell p1) (by simp)).trans p1
      have N2 : ∀ z, Frm [] wr z → z.cell? ⟨g2, o2 + i, none⟩ = some (.slice i2 ln j2) := fun z hz => (hz.cell (block_lt_of_cell q1) (by simp)).trans q1
      have hd1 : decide ((i : Int) < (k' : Int)) = true := decide_eq_true (by omega)
      have hd2 : decide (i < k') = true := decide_eq_true hik
      have hki : (i : Int) < (k' : Int) := by omega
      have hbl : ((ln : Int) == (ln : Int)) = true := by simp
      have HN1 := Lib.hid N1
      have HN2 := Lib.hid N2
      clear hl hln p2 q2 hiL N1 N2
      go_upto_region 8 with fail
      go_region
      obtain ⟨wz, hwz⟩ : ∃ wz, wz = wr.drew := ⟨_, rfl⟩
      have hfz : Frm [] wr wz := by rw [hwz]; exact (Frm.refl _ _).drew
      rw [← hwz]
      clear hwz
      have p1 := HN1.out wz hfz
      have q1 := HN2.out wz hfz
      have HS0 : Hid (Sh1Rel wz ln (.int .i64 0) wz) := Lib.hid ⟨0, rfl, Nat.zero_le _, Lib.hid (Frm.refl _ _)⟩
      have HFZ := Lib.hid hfz
      clear hfz
      go_wp2
      clear p1 q1
      go_loopw [53] (fun s53 z => Sh1Rel wz ln s53 z) (fun s53 _ => ln - (intOf s53).toNat)
      case atStart => exact HS0.out
      case round =>
        clear HS0
        obtain ⟨j, rfl, hj, HFJ⟩ := hrel
        by_cases hjl : j < ln
        · have hjL : j < l.length := by rw [← HLE.out]; exact hjl
          have hfj := HFZ.out.trans HFJ.out (U := []) (by simp) (by simp)
          obtain ⟨s1, t1, hs1, r1⟩ := (P2.out.keep hfj) j hjL
          obtain ⟨s2, t2, hs2, r2⟩ := (Q2.out.keep hfj) j hjL
          subst hs1 hs2
          have p1 := HN1.out _ hfj
          have q1 := HN2.out _ hfj
          obtain ⟨v, hv⟩ : ∃ v, v = l.getD j 0 := ⟨_, rfl⟩
          rw [← hv] at r1 r2
          have hd3 : decide ((j : Int) < (ln : Int)) = true := decide_eq_true (by omega)
          have hd4 : decide (j < ln) = true := decide_eq_true hjl
          have hjn : (j : Int) < (ln : Int) := by omega
          have hbv : ((v : Int) == (v : Int)) = true := by simp
          have hwm : IntKind.i64.wrap ((j : Int) + 1) = ((j + 1 : Nat) : Int) := by rw [IntWalk.i64_in _ (by omega)]; rfl
          obtain ⟨m, hm⟩ : ∃ m, m = j + 1 := ⟨_, rfl⟩
          rw [← hm] at hwm
          have HMM : Hid (m ≤ ln ∧ ln - m < ln - j) := Lib.hid (by omega)
          clear hv hm hfj
          go_upto_region 13 with fail
          go_region
          go_wp2
          go_roundw
          case rel => exact ⟨m, rfl, HMM.out.1, Lib.hid HFJ.out.drew⟩
          case measure => have := HMM.out; simpa [intOf] using this.2
        · have hd3 : decide ((j : Int) < (ln : Int)) = false := decide_eq_false (by omega)
          have hd4 : decide (j < ln) = false := decide_eq_false hjl
          have hwm : IntKind.i64.wrap ((i : Int) + 1) = ((i + 1 : Nat) : Int) := by rw [IntWalk.i64_in _ (by omega)]; rfl
          obtain ⟨m, hm⟩ : ∃ m, m = i + 1 := ⟨_, rfl⟩
          rw [← hm] at hwm
          have HMM : Hid (m ≤ k' ∧ k' - m < k' - i) := Lib.hid (by omega)
          have HREL : Hid (Sh1Rel w2 k' (.int .i64 (m : Nat)) wr) := Lib.hid ⟨m, rfl, HMM.out.1, Lib.hid ((HFR.out.trans HFZ.out (U := []) (by simp) (by simp)).trans HFJ.out (by simp) (by simp))⟩
          clear hm
          go_wp2
          go_roundw
          case rel => exact HREL.out
          case measure => have := HMM.out; simpa [intOf] using this.2
    · have hd1 : decide ((i : Int) < (k' : Int)) = false := decide_eq_false (by omega)
      have hd2 : decide (i < k') = false := decide_eq_false hik
      have hfw := HF2.out.trans HFR.out (U := []) (by simp) (by simp)
      have HMW := Lib.hid (HM.out.here hfw)
      have HFW := Lib.hid hfw
      clear hfw hi hik
      go_upto_region 17 with fail
      obtain ⟨wq, hwq⟩ : ∃ wq, wq = wr := ⟨_, rfl⟩
      rw [← hwq]
      rw [← hwq] at HMW HFW
      clear hwq
      obtain ⟨n, hn⟩ : ∃ n, n = D.length := ⟨_, rfl⟩
      have HC1 := Lib.hid (fun z (hz : Frm [] wq z) => wrcount_any (HMW.out.pr.here hz))
      have HC2 := Lib.hid (fun z (hz : Frm [] wq z) => wrsure_any (HMW.out.pr.here hz))
      obtain ⟨a, c, b, e, R, vs, hv, _⟩ := HMW.out.dw.box
      have hplt := hv.lt
      have hv3 : wq.cell? ⟨pm, 3, none⟩ = some (.slice a n c) := by rw [hn]; exact hv.cell 3
      have K3 : ∀ y, Frm [] wq y → y.cell? ⟨pm, 3, none⟩ = some (.slice a n c) := fun y hy => (hy.cell hplt (by simp)).trans hv3
      have K5 : ∀ y, Frm [] wq y → y.cell? ⟨pm, 5, none⟩ = some (.int .i64 (su : Nat)) := fun y hy => (hy.cell hplt (by simp)).trans (hv.cell 5)
      have hn5 : n ≤ 100000 := by rw [hn]; exact HLL.out
      have hs5 : su ≤ 100000 := by have := HMW.out.dw.su_le; have := HLL.out; omega
      rw [← hn] at HC1
      have hwn : IntKind.u64.wrap (n : Int) = (n : Int) := by rw [IntWalk.u64_in _ (by omega)]
      have hws : IntKind.u64.wrap (su : Int) = (su : Int) := by rw [IntWalk.u64_in _ (by omega)]
      have hb1 : ((n : Int) == (n : Int)) = true := by simp
      have hb2 : ((su : Int) == (su : Int)) = true := by simp
      clear hn hv hv3
      refine wp_region_held_drew (S := fun w' => Frm [] wq w') (by kernel_rfl) (Frm.drew (Frm.refl _ _)) (fun hHeld => ?_)
      refine wpAnyH_take (i := 0) (oi := ⟨some 73, _, _, _, _, _⟩) (v := ?_) rfl (by kernel_rfl) (by kernel_rfl) (by kernel_rfl) (fun _ _ _ h => h) (Or.inl ⟨by rfl, ?_⟩) (by assumption) ?_
      rotate_left 1
      · (intro w hSw; (try dsimp only at hSw); have k3 := K3 w hSw; have k5 := K5 w hSw; go_simp; all_goals with_reducible rfl)
      try simp only [Act.put, List.setIfInBounds_toArray, List.set_cons_zero, List.set_cons_succ]
      refine wpAnyH_take (i := 2) (oi := ⟨some 75, _, _, _, _, _⟩) (v := ?_) rfl (by kernel_rfl) (by kernel_rfl) (by kernel_rfl) (fun _ _ _ h => h) (Or.inl ⟨by rfl, ?_⟩) (by assumption) ?_
      rotate_left 1
      · (intro w hSw; (try dsimp only at hSw); have k3 := K3 w hSw; have k5 := K5 w hSw; go_simp; all_goals with_reducible rfl)
      try simp only [Act.put, List.setIfInBounds_toArray, List.set_cons_zero, List.set_cons_succ]
      refine wpAnyH_take (i := 3) (oi := ⟨some 76, _, _, _, _, _⟩) (v := ?_) rfl (by kernel_rfl) (by kernel_rfl) (by kernel_rfl) (fun _ _ _ h => h) (Or.inl ⟨by rfl, ?_⟩) (by assumption) ?_
      rotate_left 1
      · (intro w hSw; (try dsimp only at hSw); have k3 := K3 w hSw; have k5 := K5 w hSw; go_simp; all_goals with_reducible rfl)
      try simp only [Act.put, List.setIfInBounds_toArray, List.set_cons_zero, List.set_cons_succ]
      refine wpAnyH_take (i := 4) (oi := ⟨some 77, _, _, _, _, _⟩) (v := ?_) rfl (by kernel_rfl) (by kernel_rfl) (by kernel_rfl) (fun _ _ _ h => h) (Or.inl ⟨by rfl, ?_⟩) (by assumption) ?_
      rotate_left 1
      · (intro w hSw; (try dsimp only at hSw); have k3 := K3 w hSw; have k5 := K5 w hSw; go_simp; all_goals with_reducible rfl)
      try simp only [Act.put, List.setIfInBounds_toArray, List.set_cons_zero, List.set_cons_succ]
      refine wpAnyH_take (i := 5) (oi := ⟨some 78, _, _, _, _, _⟩) (v := ?_) rfl (by kernel_rfl) (by kernel_rfl) (by kernel_rfl) (fun _ _ _ h => h) (Or.inl ⟨by rfl, ?_⟩) (by assumption) ?_
      rotate_left 1
      · (intro w hSw; (try dsimp only at hSw); have k3 := K3 w hSw; have k5 := K5 w hSw; go_simp; all_goals with_reducible rfl)
      try simp only [Act.put, List.setIfInBounds_toArray, List.set_cons_zero, List.set_cons_succ]
      refine wpAnyH_take (i := 6) (oi := ⟨some 79, _, _, _, _, _⟩) (v := ?_) rfl (by kernel_rfl) (by kernel_rfl) (by kernel_rfl) (fun _ _ _ h => h) (Or.inl ⟨by rfl, ?_⟩) (by assumption) ?_
      rotate_left 1
      · (intro w hSw; (try dsimp only at hSw); have k3 := K3 w hSw; have k5 := K5 w hSw; go_simp; all_goals with_reducible rfl)
      try simp only [Act.put, List.setIfInBounds_toArray, List.set_cons_zero, List.set_cons_succ]
      refine wpAnyH_take (i := 7) (oi := ⟨some 80, _, _, _, _, _⟩) (v := ?_) rfl (by kernel_rfl) (by kernel_rfl) (by kernel_rfl) (fun _ _ _ h => h) (Or.inl ⟨by rfl, ?_⟩) (by assumption) ?_
      rotate_left 1
      · (intro w hSw; (try dsimp only at hSw); have k3 := K3 w hSw; have k5 := K5 w hSw; go_simp; all_goals with_reducible rfl)
      try simp only [Act.put, List.setIfInBounds_toArray, List.set_cons_zero, List.set_cons_succ]
      refine wpAnyH_ready (rs := [1]) (by kernel_rfl) (by simp) ?_
      refine AllReadyH.cons (o := ⟨some 74, _, _, _, _, _⟩) rfl (fun K hK => ?_) AllReadyH.nil
      go_simp
      ((with_reducible refine (HC1.out _ (Frm.refl _ _).drew).mono ?_); rintro ex w8 ⟨rfl, hw1⟩; have hs1 : Frm [] wq w8 := by rw [← hw1]; exact (Frm.refl _ _).drew)
      go_wp2_with fail
      refine hK.out _ _ (by assumption) (fun hHeld => ?_)
      clear hK K
      try simp only [Act.put, List.setIfInBounds_toArray, List.set_cons_zero, List.set_cons_succ]
      refine wpAnyH_take (i := 8) (oi := ⟨some 81, _, _, _, _, _⟩) (v := ?_) rfl (by kernel_rfl) (by kernel_rfl) (by kernel_rfl) (fun _ _ _ h => h) (Or.inl ⟨by rfl, ?_⟩) (by assumption) ?_
      rotate_left 1
      · (intro w hSw; (try dsimp only at hSw); have k3 := K3 w hSw; have k5 := K5 w hSw; go_simp; all_goals with_reducible rfl)
      try simp only [Act.put, List.setIfInBounds_toArray, List.set_cons_zero, List.set_cons_succ]
      refine wpAnyH_take (i := 9) (oi := ⟨some 82, _, _, _, _, _⟩) (v := ?_) rfl (by kernel_rfl) (by kernel_rfl) (by kernel_rfl) (fun _ _ _ h => h) (Or.inl ⟨by rfl, ?_⟩) (by assumption) ?_
      rotate_left 1
      · (intro w hSw; (try dsimp only at hSw); have k3 := K3 w hSw; have k5 := K5 w hSw; go_simp; all_goals with_reducible rfl)
      try simp only [Act.put, List.setIfInBounds_toArray, List.set_cons_zero, List.set_cons_succ]
      refine wpAnyH_take (i := 10) (oi := ⟨some 83, _, _, _, _, _⟩) (v := ?_) rfl (by kernel_rfl) (by kernel_rfl) (by kernel_rfl) (fun _ _ _ h => h) (Or.inl ⟨by rfl, ?_⟩) (by assumption) ?_
      rotate_left 1
      · (intro w hSw; (try dsimp only at hSw); have k3 := K3 w hSw; have k5 := K5 w hSw; go_simp; all_goals with_reducible rfl)
      try simp only [Act.put, List.setIfInBounds_toArray, List.set_cons_zero, List.set_cons_succ]
      refine wpAnyH_take (i := 12) (oi := ⟨some 85, _, _, _, _, _⟩) (v := ?_) rfl (by kernel_rfl) (by kernel_rfl) (by kernel_rfl) (fun _ _ _ h => h) (Or.inl ⟨by rfl, ?_⟩) (by assumption) ?_
      rotate_left 1
      · (intro w hSw; (try dsimp only at hSw); have k3 := K3 w hSw; have k5 := K5 w hSw; go_simp; all_goals with_reducible rfl)
      try simp only [Act.put, List.setIfInBounds_toArray, List.set_cons_zero, List.set_cons_succ]
      refine wpAnyH_take (i := 13) (oi := ⟨some 86, _, _, _, _, _⟩) (v := ?_) rfl (by kernel_rfl) (by kernel_rfl) (by kernel_rfl) (fun _ _ _ h => h) (Or.inl ⟨by rfl, ?_⟩) (by assumption) ?_
      rotate_left 1
      · (intro w hSw; (try dsimp only at hSw); have k3 := K3 w hSw; have k5 := K5 w hSw; go_simp; all_goals with_reducible rfl)
      try simp only [Act.put, List.setIfInBounds_toArray, List.set_cons_zero, List.set_cons_succ]
      refine wpAnyH_take (i := 14) (oi := ⟨some 87, _, _, _, _, _⟩) (v := ?_) rfl (by kernel_rfl) (by kernel_rfl) (by kernel_rfl) (fun _ _ _ h => h) (Or.inl ⟨by rfl, ?_⟩) (by assumption) ?_
      rotate_left 1
      · (intro w hSw; (try dsimp only at hSw); have k3 := K3 w hSw; have k5 := K5 w hSw; go_simp; all_goals with_reducible rfl)
      try simp only [Act.put, List.setIfInBounds_toArray, List.set_cons_zero, List.set_cons_succ]
      refine wpAnyH_take (i := 15) (oi := ⟨some 88, _, _, _, _, _⟩) (v := ?_) rfl (by kernel_rfl) (by kernel_rfl) (by kernel_rfl) (fun _ _ _ h => h) (Or.inl ⟨by rfl, ?_⟩) (by assumption) ?_
      rotate_left 1
      · (intro w hSw; (try dsimp only at hSw); have k3 := K3 w hSw; have k5 := K5 w hSw; go_simp; all_goals with_reducible rfl)
      try simp only [Act.put, List.setIfInBounds_toArray, List.set_cons_zero, List.set_cons_succ]
      refine wpAnyH_take (i := 16) (oi := ⟨some 89, _, _, _, _, _⟩) (v := ?_) rfl (by kernel_rfl) (by kernel_rfl) (by kernel_rfl) (fun _ _ _ h => h) (Or.inl ⟨by rfl, ?_⟩) (by assumption) ?_
      rotate_left 1
      · (intro w hSw; (try dsimp only at hSw); have k3 := K3 w hSw; have k5 := K5 w hSw; go_simp; all_goals with_reducible rfl)
      try simp only [Act.put, List.setIfInBounds_toArray, List.set_cons_zero, List.set_cons_succ]
      refine wpAnyH_ready (rs := [11]) (by kernel_rfl) (by simp) ?_
      refine AllReadyH.cons (o := ⟨some 84, _, _, _, _, _⟩) rfl (fun K hK => ?_) AllReadyH.nil
      go_simp
      ((with_reducible refine (HC2.out _ hs1).mono ?_); rintro ex w9 ⟨rfl, hw2⟩; have hs2 : Frm [] wq w9 := by rw [← hw2]; exact hs1)
      go_wp2_with fail
      refine hK.out _ _ (by assumption) (fun hHeld => ?_)
      clear hK K
      try simp only [Act.put, List.setIfInBounds_toArray, List.set_cons_zero, List.set_cons_succ]
      refine wpAnyH_take (i := 17) (oi := ⟨some 90, _, _, _, _, _⟩) (v := ?_) rfl (by kernel_rfl) (by kernel_rfl) (by kernel_rfl) (fun _ _ _ h => h) (Or.inl ⟨by rfl, ?_⟩) (by assumption) ?_
      rotate_left 1
      · (intro w hSw; (try dsimp only at hSw); have k3 := K3 w hSw; have k5 := K5 w hSw; go_simp; all_goals with_reducible rfl)
      try simp only [Act.put, List.setIfInBounds_toArray, List.set_cons_zero, List.set_cons_succ]
      refine wpAnyH_take (i := 18) (oi := ⟨some 91, _, _, _, _, _⟩) (v := ?_) rfl (by kernel_rfl) (by kernel_rfl) (by kernel_rfl) (fun _ _ _ h => h) (Or.inl ⟨by rfl, ?_⟩) (by assumption) ?_
      rotate_left 1
      · (intro w hSw; (try dsimp only at hSw); have k3 := K3 w hSw; have k5 := K5 w hSw; go_simp; all_goals with_reducible rfl)
      try simp only [Act.put, List.setIfInBounds_toArray, List.set_cons_zero, List.set_cons_succ]
      refine wpAnyH_take (i := 19) (oi := ⟨some 4, _, _, _, _, _⟩) (v := ?_) rfl (by kernel_rfl) (by kernel_rfl) (by kernel_rfl) (fun _ _ _ h => h) (Or.inl ⟨by rfl, ?_⟩) (by assumption) ?_
      rotate_left 1
      · (intro w hSw; (try dsimp only at hSw); have k3 := K3 w hSw; have k5 := K5 w hSw; go_simp; all_goals with_reducible rfl)
      try simp only [Act.put, List.setIfInBounds_toArray, List.set_cons_zero, List.set_cons_succ]
      refine wpAnyH_done (by kernel_rfl) ?_ _
      have HE := Lib.hid (HQ.out w9 (HFW.out.trans hs2 (by simp) (by simp)))
      go_wp2
      exact HE.out
end Go.Proofs.Ytecfoomjpjcldaa
