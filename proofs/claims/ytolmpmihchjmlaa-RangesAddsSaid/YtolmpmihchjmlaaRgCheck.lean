/- Contracts of Check and of the document's Right. -/
import Derived.Test.YtolmpmihchjmlaaRgAsk2
import Derived.Deep.RegionHeld3
import Derived.Deep.DeepCutAuto
import Derived.Lib.QuietBelow
namespace Go.Proofs.Ytolmpmihchjmlaa
open Go.RowKit

/-- Right, place by place. -/
def RtI (l : List Rg) : Prop := ∀ i, i < l.length → (l.getD i (0, 0)).1 < (l.getD i (0, 0)).2 ∧ (0 < i → (l.getD (i - 1) (0, 0)).2 < (l.getD i (0, 0)).1)
theorem RtI.of {l : List Rg} (h : Rt l) : RtI l := fun i hi => ⟨rt_lt h hi, fun h0 => rt_gap h (by omega) hi⟩
def RtTo (l : List Rg) (k : Nat) : Prop := ∀ i, i < k → (l.getD i (0, 0)).1 < (l.getD i (0, 0)).2 ∧ (0 < i → (l.getD (i - 1) (0, 0)).2 < (l.getD i (0, 0)).1)
theorem RtTo.next {l : List Rg} {k : Nat} (h : RtTo l k) (h1 : (l.getD k (0, 0)).1 < (l.getD k (0, 0)).2) (h2 : 0 < k → (l.getD (k - 1) (0, 0)).2 < (l.getD k (0, 0)).1) : RtTo l (k + 1) := by
  intro i hi
  rcases Nat.lt_or_eq_of_le (Nat.le_of_lt_succ hi) with h3 | rfl
  · exact h i h3
  · exact ⟨h1, h2⟩

set_option maxHeartbeats 2000000 in
theorem right_any {w : World} {a : Option Addr} {l : List Rg} (h : Rr w a l) {n cap : Nat} (hn : n = l.length) (hsz : n < 4611686018427387904) :
    Calls Try.prog 24 #[.slice a n cap] w (BoolOf (RtI l) w) := by
  have HN := Lib.hid hn; clear hn
  have H := Lib.hid h; clear h
  go_enter Try.func24, Try.ntmps24
  go_wp2
  go_loopw [3] (fun i wr => ∃ k : Nat, k ≤ n ∧ i = .int .i64 k ∧ Hid (RtTo l k) ∧ Frm [] w wr) (fun i _ => n - (intOf i).toNat)
  case atStart => exact ⟨0, Nat.zero_le _, rfl, fun t ht => absurd ht (Nat.not_lt_zero _), Frm.refl _ _⟩
  case round =>
    obtain ⟨k, hk, rfl, HI, hf⟩ := hrel
    have HF := Lib.hid hf; clear hf
    by_cases hlt : k < n
    · obtain ⟨b, off, rfl, hc⟩ := (H.out.keep0 HF.out).2 (by have := HN.out; omega)
      obtain ⟨d0, d1⟩ := hc k (by have := HN.out; omega)
      have hlt' : (k : Int) < (n : Int) := by omega
      obtain ⟨x, hx⟩ : ∃ y, y = (l.getD k (0, 0)).1 := ⟨_, rfl⟩
      obtain ⟨y, hy⟩ : ∃ y, y = (l.getD k (0, 0)).2 := ⟨_, rfl⟩
      rw [← hx] at d0
      rw [← hy] at d1
      have HX := Lib.hid hx; clear hx
      have HY := Lib.hid hy; clear hy
      by_cases hxy : x < y
      · have hxy' : ¬ (y : Int) ≤ (x : Int) := by omega
        rcases Nat.eq_zero_or_pos k with hk0 | hk0
        · have HI2 : Hid (RtTo l (k + 1)) := HI.out.next (by rw [← HX.out, ← HY.out]; exact hxy) (fun h => by omega)
          have k1 : decide (0 < k) = false := decide_eq_false (by omega)
          have k2 : decide ((0 : Int) < (k : Int)) = false := decide_eq_false (by omega)
          clear hc hxy hk0
          go_wp2
          go_quiet (fail)
          go_wp2
          go_quiet (fail)
          go_wp2
          go_roundw
          case rel => exact ⟨k + 1, by omega, by go_num, HI2, by repeat (first | exact HF.out | apply Frm.drewN)⟩
          case measure => simp [intOf]; omega
        · obtain ⟨j, rfl⟩ : ∃ j, k = j + 1 := ⟨k - 1, by omega⟩
          clear hk0
          obtain ⟨_, d2⟩ := hc j (by have := HN.out; omega)
          clear hc
          obtain ⟨z, hz⟩ : ∃ y, y = (l.getD j (0, 0)).2 := ⟨_, rfl⟩
          rw [← hz] at d2
          have HZ := Lib.hid hz; clear hz
          have e0 : (((j + 1 : Nat) : Int) - 1) = (j : Int) := by omega
          have hj1 : (j : Int) < (n : Int) := by omega
          by_cases hzx : z < x
          · have hzx' : ¬ (x : Int) ≤ (z : Int) := by omega
            have HI2 : Hid (RtTo l (j + 1 + 1)) := HI.out.next (by rw [← HX.out, ← HY.out]; exact hxy) (fun h => by rw [← HX.out, show j + 1 - 1 = j by omega, ← HZ.out]; exact hzx)
            clear hxy hzx
            go_wp2
            go_quiet (fail)
            go_wp2
            go_quiet (fail)
            go_wp2
            go_roundw
            case rel => exact ⟨j + 1 + 1, by omega, by go_num, HI2, by repeat (first | exact HF.out | apply Frm.drewN)⟩
            case measure => simp [intOf]; omega
          · have hzx' : (x : Int) ≤ (z : Int) := by omega
            have NO : Hid (¬ RtI l) := fun hr => by
              have := (hr (j + 1) (by have := HN.out; omega)).2 (by omega)
              rw [← HX.out, show j + 1 - 1 = j by omega, ← HZ.out] at this
              exact hzx this
            clear hxy hzx
            go_wp2
            go_quiet (fail)
            go_wp2
            go_quiet (fail)
            go_wp2
            go_ret
            exact boolOf_f NO.out (by repeat (first | exact HF.out | apply Frm.drewN))
      · have hxy' : (y : Int) ≤ (x : Int) := by omega
        have NO : Hid (¬ RtI l) := fun hr => by
          have := (hr k (by have := HN.out; omega)).1
          rw [← HX.out, ← HY.out] at this
          exact hxy this
        clear hxy hc
        go_wp2
        go_quiet (fail)
        go_wp2
        go_ret
        exact boolOf_f NO.out (HF.out.drewN _)
    · obtain rfl : k = n := by omega
      go_wp2
      go_ret
      exact boolOf_t (fun i hi => HI.out i (by have := HN.out; omega)) HF.out

set_option maxHeartbeats 2000000 in
theorem check_any {w : World} {a : Option Addr} {l : List Rg} (h : Rr w a l) {n cap : Nat} (hn : n = l.length) (hsz : n < 4611686018427387904) :
    Calls Try.prog 23 #[.slice a n cap] w (BoolOf (RtI l) w) := by
  have HN := Lib.hid hn; clear hn
  have H := Lib.hid h; clear h
  go_enter Try.func23, Try.ntmps23
  go_wp2
  go_loopw [7] (fun i wr => ∃ k : Nat, k ≤ n ∧ i = .int .i64 k ∧ Hid (RtTo l k) ∧ Frm [] w wr) (fun i _ => n - (intOf i).toNat)
  case atStart => exact ⟨0, Nat.zero_le _, rfl, fun t ht => absurd ht (Nat.not_lt_zero _), Frm.refl _ _⟩
  case round =>
    obtain ⟨k, hk, rfl, HI, hf⟩ := hrel
    have HF := Lib.hid hf; clear hf
    by_cases hlt : k < n
    · obtain ⟨b, off, rfl, hc⟩ := (H.out.keep0 HF.out).2 (by have := HN.out; omega)
      obtain ⟨d0, d1⟩ := hc k (by have := HN.out; omega)
      have hlt' : (k : Int) < (n : Int) := by omega
      obtain ⟨x, hx⟩ : ∃ y, y = (l.getD k (0, 0)).1 := ⟨_, rfl⟩
      obtain ⟨y, hy⟩ : ∃ y, y = (l.getD k (0, 0)).2 := ⟨_, rfl⟩
      rw [← hx] at d0
      rw [← hy] at d1
      have HX := Lib.hid hx; clear hx
      have HY := Lib.hid hy; clear hy
      obtain ⟨W, hW⟩ : ∃ W, W = wr.alloc (.cells #[.int .u64 x, .int .u64 y] 51) := ⟨_, rfl⟩
      have hB : Whole W wr.heap.size 51 #[.int .u64 x, .int .u64 y] := by rw [hW]; exact Whole.made _ _ _
      have hFW : Frm [] w W := by rw [hW]; exact HF.out.alloc _
      obtain ⟨g, hg⟩ : ∃ g, g = wr.heap.size := ⟨_, rfl⟩
      rw [← hg] at hB
      have g0 := hB.cell 0
      have g1 := hB.cell 1
      have hglt := hB.lt
      simp only [List.getElem?_toArray] at g0 g1
      have HW := Lib.hid hW; clear hW
      have HG := Lib.hid hg; clear hg
      have HB := Lib.hid hB; clear hB
      have HFW := Lib.hid hFW; clear hFW
      by_cases hxy : x < y
      · have E : Hid (∀ W', Calls Try.prog 51 #[.agg #[.int .u64 x, .int .u64 y]] W' fun e w' => e = .returned (.bool false) ∧ Below W'.heap.size W' w') := fun W' => (empty_any x y W').mono fun e w1 hbo => ⟨(hbo.no (by omega)).1, (hbo.no (by omega)).2.below (by simp) (Nat.le_refl _)⟩
        rcases Nat.eq_zero_or_pos k with hk0 | hk0
        · have HI2 : Hid (RtTo l (k + 1)) := HI.out.next (by rw [← HX.out, ← HY.out]; exact hxy) (fun h => by omega)
          have k1 : decide (0 < k) = false := decide_eq_false (by omega)
          have k2 : decide ((0 : Int) < (k : Int)) = false := decide_eq_false (by omega)
          clear hc hk0
          go_upto_region 4 with (fail)
          rw [← HW.out, ← HG.out]
          clear d0 d1
          have q0 := fun d os => cell_regrown (w := W) g0 d os
          have q1 := fun d os => cell_regrown (w := W) g1 d os
          refine wp_region_quiet_below (by kernel_rfl) (by kernel_rfl) ?_
          repeat (first | go_big_quiet_step (exact Calls.regrown_of (E.out _)) | quiet_step (exact Calls.regrown_of (E.out _)))
          refine wpQuiet_nil ?_
          intro _ hw'
          obtain ⟨⟨nq, osq⟩, hw''⟩ := hw'
          subst hw''
          have hfin : Frm [] w (Go.Sort.grow (redrawn W nq) osq) := HFW.out.trans (Frm.ofBelow (below_regrown W nq osq)) (by simp) (by simp)
          obtain ⟨W2, hW2⟩ : ∃ W2, W2 = Go.Sort.grow (redrawn W nq) osq := ⟨_, rfl⟩
          rw [← hW2] at hfin
          simp only [← hW2]
          have HFIN := Lib.hid hfin
          clear hfin hW2 q0 q1 g0 g1
          go_wp2
          go_roundw
          case rel => exact ⟨k + 1, by omega, by go_num, HI2, HFIN.out⟩
          case measure => simp [intOf]; omega
        · obtain ⟨j, rfl⟩ : ∃ j, k = j + 1 := ⟨k - 1, by omega⟩
          clear hk0
          obtain ⟨_, d2⟩ := hc j (by have := HN.out; omega)
          obtain ⟨z, hz⟩ : ∃ y, y = (l.getD j (0, 0)).2 := ⟨_, rfl⟩
          rw [← hz] at d2
          have HZ := Lib.hid hz; clear hz
          have e2 : W.cell? ⟨b, off + j * 2 + 1, none⟩ = some (.int .u64 z) := by
            rw [HW.out]
            exact ((Frm.refl [] wr).alloc _).cell (p := ⟨b, off + j * 2 + 1, none⟩) (block_lt_of_cell d2) (by simp) |>.trans d2
          have k1 : decide (0 < j + 1) = true := decide_eq_true (by omega)
          have k2 : decide ((0 : Int) < (j : Int) + 1) = true := decide_eq_true (by omega)
          have e0 : (((j + 1 : Nat) : Int) - 1) = (j : Int) := by omega
          have hj1 : (j : Int) < (n : Int) := by omega
          have q2 := fun d os => cell_regrown (w := W) e2 d os
          clear hc d2
          by_cases hzx : z < x
          · have hzx' : ¬ (x : Int) ≤ (z : Int) := by omega
            have HI2 : Hid (RtTo l (j + 1 + 1)) := HI.out.next (by rw [← HX.out, ← HY.out]; exact hxy) (fun h => by rw [← HX.out, show j + 1 - 1 = j by omega, ← HZ.out]; exact hzx)
            go_upto_region 4 with (fail)
            rw [← HW.out, ← HG.out]
            clear d0 d1
            have q0 := fun d os => cell_regrown (w := W) g0 d os
            have q1 := fun d os => cell_regrown (w := W) g1 d os
            refine wp_region_quiet_below (by kernel_rfl) (by kernel_rfl) ?_
            repeat (first | go_big_quiet_step (exact Calls.regrown_of (E.out _)) | quiet_step (exact Calls.regrown_of (E.out _)))
            refine wpQuiet_nil ?_
            intro _ hw'
            obtain ⟨⟨nq, osq⟩, hw''⟩ := hw'
            subst hw''
            have hfin : Frm [] w (Go.Sort.grow (redrawn W nq) osq) := HFW.out.trans (Frm.ofBelow (below_regrown W nq osq)) (by simp) (by simp)
            obtain ⟨W2, hW2⟩ : ∃ W2, W2 = Go.Sort.grow (redrawn W nq) osq := ⟨_, rfl⟩
            rw [← hW2] at hfin
            simp only [← hW2]
            have HFIN := Lib.hid hfin
            clear hfin hW2 q2 e2 q0 q1 g0 g1
            go_wp2
            go_roundw
            case rel => exact ⟨j + 1 + 1, by omega, by go_num, HI2, HFIN.out⟩
            case measure => simp [intOf]; omega
          · have hzx' : (x : Int) ≤ (z : Int) := by omega
            have NO : Hid (¬ RtI l) := fun hr => by
              have := (hr (j + 1) (by have := HN.out; omega)).2 (by omega)
              rw [← HX.out, show j + 1 - 1 = j by omega, ← HZ.out] at this
              exact hzx this
            go_upto_region 4 with (fail)
            rw [← HW.out, ← HG.out]
            clear d0 d1
            have q0 := fun d os => cell_regrown (w := W) g0 d os
            have q1 := fun d os => cell_regrown (w := W) g1 d os
            refine wp_region_quiet_below (by kernel_rfl) (by kernel_rfl) ?_
            repeat (first | go_big_quiet_step (exact Calls.regrown_of (E.out _)) | quiet_step (exact Calls.regrown_of (E.out _)))
            refine wpQuiet_nil ?_
            intro _ hw'
            obtain ⟨⟨nq, osq⟩, hw''⟩ := hw'
            subst hw''
            have hfin : Frm [] w (Go.Sort.grow (redrawn W nq) osq) := HFW.out.trans (Frm.ofBelow (below_regrown W nq osq)) (by simp) (by simp)
            obtain ⟨W2, hW2⟩ : ∃ W2, W2 = Go.Sort.grow (redrawn W nq) osq := ⟨_, rfl⟩
            rw [← hW2] at hfin
            simp only [← hW2]
            have HFIN := Lib.hid hfin
            clear hfin hW2 q2 e2 q0 q1 g0 g1
            go_wp2
            go_ret
            exact boolOf_f NO.out HFIN.out
      · have E : Hid (∀ W', Calls Try.prog 51 #[.agg #[.int .u64 x, .int .u64 y]] W' fun e w' => e = .returned (.bool true) ∧ Below W'.heap.size W' w') := fun W' => (empty_any x y W').mono fun e w1 hbo => ⟨(hbo.yes (by omega)).1, (hbo.yes (by omega)).2.below (by simp) (Nat.le_refl _)⟩
        have NO : Hid (¬ RtI l) := fun hr => by
          have := (hr k (by have := HN.out; omega)).1
          rw [← HX.out, ← HY.out] at this
          exact hxy this
        clear hc
        go_upto_region 4 with (fail)
        rw [← HW.out, ← HG.out]
        clear d0 d1
        have q0 := fun d os => cell_regrown (w := W) g0 d os
        have q1 := fun d os => cell_regrown (w := W) g1 d os
        refine wp_region_quiet_below (by kernel_rfl) (by kernel_rfl) ?_
        repeat (first | go_big_quiet_step (exact Calls.regrown_of (E.out _)) | quiet_step (exact Calls.regrown_of (E.out _)))
        refine wpQuiet_nil ?_
        intro _ hw'
        obtain ⟨⟨nq, osq⟩, hw''⟩ := hw'
        subst hw''
        have hfin : Frm [] w (Go.Sort.grow (redrawn W nq) osq) := HFW.out.trans (Frm.ofBelow (below_regrown W nq osq)) (by simp) (by simp)
        obtain ⟨W2, hW2⟩ : ∃ W2, W2 = Go.Sort.grow (redrawn W nq) osq := ⟨_, rfl⟩
        rw [← hW2] at hfin
        simp only [← hW2]
        have HFIN := Lib.hid hfin
        clear hfin hW2 q0 q1 g0 g1
        go_wp2
        go_ret
        exact boolOf_f NO.out HFIN.out
    · obtain rfl : k = n := by omega
      go_wp2
      go_ret
      exact boolOf_t (fun i hi => HI.out i (by have := HN.out; omega)) HF.out
end Go.Proofs.Ytolmpmihchjmlaa
