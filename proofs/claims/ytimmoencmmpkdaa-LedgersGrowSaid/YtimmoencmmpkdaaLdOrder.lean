/- Package ledgers: contracts of Order, ahead, Behind. -/
import Derived.Test.YtimmoencmmpkdaaLdBase
namespace Go.Proofs.Ytimmoencmmpkdaa
open Go.RowKit
set_option maxRecDepth 100000

theorem ldcmp_or (a b : Ps) : (if ldcmp a.l b.l = 0 then ldcmp a.e b.e else ldcmp a.l b.l) = ordP a b := by
  unfold ldcmp ordP Ps.lt
  split <;> (repeat' split) <;> (try rfl) <;> (try omega) <;> simp_all <;> omega
set_option maxHeartbeats 1000000 in
theorem ldorder_any (a b : Ps) (w : World) : Calls Try.prog 19 #[a.val, b.val] w (LRet w (.int .i64 (ordP a b))) := by
  rw [← ldcmp_or]
  obtain ⟨al, ae⟩ := a
  obtain ⟨bl, be⟩ := b
  unfold Ps.val LRet
  simp only
  have H1 := Lib.hid (fun w => ldcmp_any (w := w) al bl)
  have H2 := Lib.hid (fun w => ldcmp_any (w := w) ae be)
  generalize ldcmp al bl = c1 at H1 ⊢
  generalize ldcmp ae be = c2 at H2 ⊢
  have OR := Lib.hid (fun g w h0 h1 => ldor_any g c1 c2 w h0 h1)
  generalize (if c1 = 0 then c2 else c1) = c at OR ⊢
  obtain ⟨w1, hw1⟩ : ∃ w1, w1 = (w.alloc (.cells #[.int .u64 (al : Nat), .int .u64 (ae : Nat)] 36)).alloc (.cells #[.int .u64 (bl : Nat), .int .u64 (be : Nat)] 36) := ⟨_, rfl⟩
  have F1 : Hid (Frm [] w w1) := Lib.hid (by rw [hw1]; exact ((Frm.refl _ _).alloc _).alloc _)
  have B1 : Whole w1 w.heap.size 36 #[.int .u64 (al : Nat), .int .u64 (ae : Nat)] := by rw [hw1]; exact (Whole.made _ _ _).alloc _
  have B2 : Whole w1 (w.heap.size + 1) 36 #[.int .u64 (bl : Nat), .int .u64 (be : Nat)] := by
    rw [hw1]
    have := Whole.made (w.alloc (.cells #[.int .u64 (al : Nat), .int .u64 (ae : Nat)] 36)) 36 #[.int .u64 (bl : Nat), .int .u64 (be : Nat)]
    rwa [World.size_alloc] at this
  have k1 : ∀ y, Frm [] w1 y → y.cell? ⟨w.heap.size, 0, none⟩ = some (.int .u64 (al : Nat)) := fun y hy => (hy.whole B1 (by simp)).cell 0
  have k2 : ∀ y, Frm [] w1 y → y.cell? ⟨w.heap.size, 1, none⟩ = some (.int .u64 (ae : Nat)) := fun y hy => (hy.whole B1 (by simp)).cell 1
  have k3 : ∀ y, Frm [] w1 y → y.cell? ⟨w.heap.size + 1, 0, none⟩ = some (.int .u64 (bl : Nat)) := fun y hy => (hy.whole B2 (by simp)).cell 0
  have k4 : ∀ y, Frm [] w1 y → y.cell? ⟨w.heap.size + 1, 1, none⟩ = some (.int .u64 (be : Nat)) := fun y hy => (hy.whole B2 (by simp)).cell 1
  clear B1 B2
  have HW1 := Lib.hid hw1
  clear hw1
  go_enter Try.func19, Try.ntmps19
  go_wp2
  rw [← HW1.out]
  refine wp_region_held_drew (S := fun w' => Frm [] w1 w') (by kernel_rfl) (Frm.drew (Frm.refl _ _)) (fun hHeld => ?_)
  refine wpAnyH_take (i := 0) (oi := ⟨some 5, _, _, _, _, _⟩) (v := ?_) rfl (by kernel_rfl) (by kernel_rfl) (by kernel_rfl) (fun _ _ _ h => h) (Or.inl ⟨by rfl, ?_⟩) (by assumption) ?_
  rotate_left 1
  · (intro w hSw; (try dsimp only at hSw); go_simp; all_goals with_reducible rfl)
  try simp only [Act.put, List.setIfInBounds_toArray, List.set_cons_zero, List.set_cons_succ]
  refine wpAnyH_take (i := 1) (oi := ⟨some 6, _, _, _, _, _⟩) (v := ?_) rfl (by kernel_rfl) (by kernel_rfl) (by kernel_rfl) (fun _ _ _ h => h) (Or.inl ⟨by rfl, ?_⟩) (by assumption) ?_
  rotate_left 1
  · (intro w hSw; (try dsimp only at hSw); go_simp; all_goals with_reducible rfl)
  try simp only [Act.put, List.setIfInBounds_toArray, List.set_cons_zero, List.set_cons_succ]
  refine wpAnyH_take (i := 2) (oi := ⟨some 7, _, _, _, _, _⟩) (v := ?_) rfl (by kernel_rfl) (by kernel_rfl) (by kernel_rfl) (fun _ _ _ h => h) (Or.inl ⟨by rfl, ?_⟩) (by assumption) ?_
  rotate_left 1
  · (intro w hSw; (try dsimp only at hSw); go_simp; all_goals with_reducible rfl)
  try simp only [Act.put, List.setIfInBounds_toArray, List.set_cons_zero, List.set_cons_succ]
  refine wpAnyH_take (i := 3) (oi := ⟨some 8, _, _, _, _, _⟩) (v := ?_) rfl (by kernel_rfl) (by kernel_rfl) (by kernel_rfl) (fun _ _ _ h => h) (Or.inl ⟨by rfl, ?_⟩) (by assumption) ?_
  rotate_left 1
  · (intro w hSw; (try dsimp only at hSw); go_simp; all_goals with_reducible rfl)
  try simp only [Act.put, List.setIfInBounds_toArray, List.set_cons_zero, List.set_cons_succ]
  refine wpAnyH_take (i := 5) (oi := ⟨some 10, _, _, _, _, _⟩) (v := ?_) rfl (by kernel_rfl) (by kernel_rfl) (by kernel_rfl) (fun _ _ _ h => h) (Or.inl ⟨by rfl, ?_⟩) (by assumption) ?_
  rotate_left 1
  · (intro w hSw; (try dsimp only at hSw); go_simp; all_goals with_reducible rfl)
  try simp only [Act.put, List.setIfInBounds_toArray, List.set_cons_zero, List.set_cons_succ]
  refine wpAnyH_take (i := 6) (oi := ⟨some 11, _, _, _, _, _⟩) (v := ?_) rfl (by kernel_rfl) (by kernel_rfl) (by kernel_rfl) (fun _ _ _ h => h) (Or.inl ⟨by rfl, ?_⟩) (by assumption) ?_
  rotate_left 1
  · (intro w hSw; (try dsimp only at hSw); go_simp; all_goals with_reducible rfl)
  try simp only [Act.put, List.setIfInBounds_toArray, List.set_cons_zero, List.set_cons_succ]
  refine wpAnyH_take (i := 7) (oi := ⟨some 12, _, _, _, _, _⟩) (v := ?_) rfl (by kernel_rfl) (by kernel_rfl) (by kernel_rfl) (fun _ _ _ h => h) (Or.inl ⟨by rfl, ?_⟩) (by assumption) ?_
  rotate_left 1
  · (intro w hSw; (try dsimp only at hSw); go_simp; all_goals with_reducible rfl)
  try simp only [Act.put, List.setIfInBounds_toArray, List.set_cons_zero, List.set_cons_succ]
  refine wpAnyH_take (i := 8) (oi := ⟨some 13, _, _, _, _, _⟩) (v := ?_) rfl (by kernel_rfl) (by kernel_rfl) (by kernel_rfl) (fun _ _ _ h => h) (Or.inl ⟨by rfl, ?_⟩) (by assumption) ?_
  rotate_left 1
  · (intro w hSw; (try dsimp only at hSw); go_simp; all_goals with_reducible rfl)
  try simp only [Act.put, List.setIfInBounds_toArray, List.set_cons_zero, List.set_cons_succ]
  refine wpAnyH_ready (rs := [4]) (by kernel_rfl) (by simp) ?_
  refine AllReadyH.cons (o := ⟨some 9, _, _, _, _, _⟩) rfl (fun K hK => ?_) AllReadyH.nil
  go_simp
  go_at_call 39; (with_reducible refine (H1.out _).mono ?_); rintro e w' ⟨rfl, rfl⟩
  go_wp2_with fail
  refine hK.out _ _ (by assumption) (fun hHeld => ?_)
  clear hK K
  try simp only [Act.put, List.setIfInBounds_toArray, List.set_cons_zero, List.set_cons_succ]
  refine wpAnyH_ready (rs := [9]) (by kernel_rfl) (by simp) ?_
  refine AllReadyH.cons (o := ⟨some 14, _, _, _, _, _⟩) rfl (fun K hK => ?_) AllReadyH.nil
  go_simp
  go_at_call 39; (with_reducible refine (H2.out _).mono ?_); rintro e w' ⟨rfl, rfl⟩
  go_wp2_with fail
  refine hK.out _ _ (by assumption) (fun hHeld => ?_)
  clear hK K
  try simp only [Act.put, List.setIfInBounds_toArray, List.set_cons_zero, List.set_cons_succ]
  refine wpAnyH_ready (rs := [10]) (by kernel_rfl) (by simp) ?_
  refine AllReadyH.cons (o := ⟨some 15, _, _, _, _, _⟩) rfl (fun K hK => ?_) AllReadyH.nil
  go_simp
  refine hK.out _ _ (by repeat (first | assumption | apply Frm.alloc | apply Frm.drew | exact Frm.refl _ _)) (fun hHeld => ?_)
  clear hK K
  try simp only [Act.put, List.setIfInBounds_toArray, List.set_cons_zero, List.set_cons_succ]
  refine wpAnyH_ready (rs := [11]) (by kernel_rfl) (by simp) ?_
  refine AllReadyH.cons (o := ⟨some 16, _, _, _, _, _⟩) rfl (fun K hK => ?_) AllReadyH.nil
  go_simp
  go_at_call 38; (with_reducible refine (OR.out _ _ (by simp) (by simp)).mono ?_); rintro e w' ⟨rfl, rfl⟩
  go_wp2_with fail
  refine hK.out _ _ (by assumption) (fun hHeld => ?_)
  clear hK K
  try simp only [Act.put, List.setIfInBounds_toArray, List.set_cons_zero, List.set_cons_succ]
  refine wpAnyH_take (i := 12) (oi := ⟨some 4, _, _, _, _, _⟩) (v := ?_) rfl (by kernel_rfl) (by kernel_rfl) (by kernel_rfl) (fun _ _ _ h => h) (Or.inl ⟨by rfl, ?_⟩) (by assumption) ?_
  rotate_left 1
  · (intro w hSw; (try dsimp only at hSw); go_simp; all_goals with_reducible rfl)
  try simp only [Act.put, List.setIfInBounds_toArray, List.set_cons_zero, List.set_cons_succ]
  refine wpAnyH_done (by kernel_rfl) ?_ _
  go_wp2
  go_ret
  exact ⟨rfl, F1.out.trans hHeld (by simp) (by simp)⟩
set_option maxHeartbeats 1000000 in
theorem ldahead_any (x : Ld) (o : Nat) (p : Ps) (w : World) : Calls Try.prog 34 #[x.val, .int .u64 (o : Nat), p.val] w (LRet w (.int .u64 (x.ahead o p : Nat))) := by
  have HS := Lib.hid (fun z => ldsize_any x o z)
  unfold Ld.ahead
  generalize x.size o = sz at HS ⊢
  obtain ⟨i, c, n⟩ := x
  obtain ⟨pl, pe⟩ := p
  unfold Ps.val Ld.val LRet
  unfold Ld.val LRet at HS
  simp only at HS ⊢
  obtain ⟨w1, hw1⟩ : ∃ w1, w1 = (w.alloc (.cells #[.int .u64 (i : Nat), .bool c, .int .u64 (n : Nat)] 32)).alloc (.cells #[.int .u64 (pl : Nat), .int .u64 (pe : Nat)] 36) := ⟨_, rfl⟩
  have F1 : Hid (Frm [] w w1) := Lib.hid (by rw [hw1]; exact ((Frm.refl _ _).alloc _).alloc _)
  have B1 : Whole w1 w.heap.size 32 #[.int .u64 (i : Nat), .bool c, .int .u64 (n : Nat)] := by rw [hw1]; exact (Whole.made _ _ _).alloc _
  have B2 : Whole w1 (w.heap.size + 1) 36 #[.int .u64 (pl : Nat), .int .u64 (pe : Nat)] := by
    rw [hw1]
    have := Whole.made (w.alloc (.cells #[.int .u64 (i : Nat), .bool c, .int .u64 (n : Nat)] 32)) 36 #[.int .u64 (pl : Nat), .int .u64 (pe : Nat)]
    rwa [World.size_alloc] at this
  by_cases h1 : i < pl
  · rw [if_pos h1]
    have d1 : decide (i < pl) = true := decide_eq_true h1
    go_enter Try.func34, Try.ntmps34
    go_wp2_with fail
    rw [← hw1]
    (with_reducible refine (HS.out _).mono ?_)
    rintro e w' ⟨rfl, hf⟩
    have FF : Hid (Frm [] w w') := Lib.hid (F1.out.trans hf (by simp) (by simp))
    clear hf
    go_wp2
    go_ret
    exact ⟨rfl, FF.out⟩
  · rw [if_neg h1]
    have d1 : decide (i < pl) = false := decide_eq_false h1
    by_cases h2 : i = pl
    · rw [if_pos h2]
      obtain ⟨m, hm⟩ : ∃ m, m = min sz pe := ⟨_, rfl⟩
      rw [← hm]
      have hmin : ∀ (w : World), (Builtin.min_ #[24, 24] 24 #[.int .u64 (sz : Int), .int .u64 (pe : Int)]).run Try.prog w = .ok (.int .u64 (m : Nat)) w := by
        intro w
        simp [go_sem]
        split <;> (first | (simp; omega) | omega)
      have d2 : ((i : Int) == (pl : Int)) = true := by rw [beq_iff_eq]; omega
      have k1 : ∀ y, Frm [] w1 y → y.cell? ⟨w.heap.size, 0, none⟩ = some (.int .u64 (i : Nat)) := fun y hy => (hy.whole B1 (by simp)).cell 0
      have k2 : ∀ y, Frm [] w1 y → y.cell? ⟨w.heap.size, 1, none⟩ = some (.bool c) := fun y hy => (hy.whole B1 (by simp)).cell 1
      have k3 : ∀ y, Frm [] w1 y → y.cell? ⟨w.heap.size, 2, none⟩ = some (.int .u64 (n : Nat)) := fun y hy => (hy.whole B1 (by simp)).cell 2
      have k4 : ∀ y, Frm [] w1 y → y.cell? ⟨w.heap.size + 1, 1, none⟩ = some (.int .u64 (pe : Nat)) := fun y hy => (hy.whole B2 (by simp)).cell 1
      have HW1 := Lib.hid hw1
      clear hw1 h1 h2 hm B1 B2
      go_enter Try.func34, Try.ntmps34
      go_wp2
      rw [← HW1.out]
      refine wp_region_held_drew (S := fun w' => Frm [] w1 w') (by kernel_rfl) (Frm.drew (Frm.refl _ _)) (fun hHeld => ?_)
      refine wpAnyH_take (i := 0) (oi := ⟨some 22, _, _, _, _, _⟩) (v := ?_) rfl (by kernel_rfl) (by kernel_rfl) (by kernel_rfl) (fun _ _ _ h => h) (Or.inl ⟨by rfl, ?_⟩) (by assumption) ?_
      rotate_left 1
      · (intro w hSw; (try dsimp only at hSw); go_simp; all_goals with_reducible rfl)
      try simp only [Act.put, List.setIfInBounds_toArray, List.set_cons_zero, List.set_cons_succ]
      refine wpAnyH_take (i := 1) (oi := ⟨some 23, _, _, _, _, _⟩) (v := ?_) rfl (by kernel_rfl) (by kernel_rfl) (by kernel_rfl) (fun _ _ _ h => h) (Or.inl ⟨by rfl, ?_⟩) (by assumption) ?_
      rotate_left 1
      · (intro w hSw; (try dsimp only at hSw); go_simp; all_goals with_reducible rfl)
      try simp only [Act.put, List.setIfInBounds_toArray, List.set_cons_zero, List.set_cons_succ]
      refine wpAnyH_take (i := 3) (oi := ⟨some 25, _, _, _, _, _⟩) (v := ?_) rfl (by kernel_rfl) (by kernel_rfl) (by kernel_rfl) (fun _ _ _ h => h) (Or.inl ⟨by rfl, ?_⟩) (by assumption) ?_
      rotate_left 1
      · (intro w hSw; (try dsimp only at hSw); go_simp; all_goals with_reducible rfl)
      try simp only [Act.put, List.setIfInBounds_toArray, List.set_cons_zero, List.set_cons_succ]
      refine wpAnyH_take (i := 4) (oi := ⟨some 26, _, _, _, _, _⟩) (v := ?_) rfl (by kernel_rfl) (by kernel_rfl) (by kernel_rfl) (fun _ _ _ h => h) (Or.inl ⟨by rfl, ?_⟩) (by assumption) ?_
      rotate_left 1
      · (intro w hSw; (try dsimp only at hSw); go_simp; all_goals with_reducible rfl)
      try simp only [Act.put, List.setIfInBounds_toArray, List.set_cons_zero, List.set_cons_succ]
      refine wpAnyH_ready (rs := [2]) (by kernel_rfl) (by simp) ?_
      refine AllReadyH.cons (o := ⟨some 24, _, _, _, _, _⟩) rfl (fun K hK => ?_) AllReadyH.nil
      go_simp
      go_at_call 35; (with_reducible refine (HS.out _).mono ?_); rintro e w' ⟨rfl, hf⟩; have hHeld2 : Frm [] w1 w' := hHeld.trans hf (by simp) (by simp)
      go_wp2_with fail
      refine hK.out _ _ (by assumption) (fun hHeld => ?_)
      clear hK K
      try simp only [Act.put, List.setIfInBounds_toArray, List.set_cons_zero, List.set_cons_succ]
      refine wpAnyH_take (i := 5) (oi := ⟨some 27, _, _, _, _, _⟩) (v := ?_) rfl (by kernel_rfl) (by kernel_rfl) (by kernel_rfl) (fun _ _ _ h => h) (Or.inl ⟨by rfl, ?_⟩) (by assumption) ?_
      rotate_left 1
      · (intro w hSw; (try dsimp only at hSw); go_simp; all_goals with_reducible rfl)
      try simp only [Act.put, List.setIfInBounds_toArray, List.set_cons_zero, List.set_cons_succ]
      refine wpAnyH_take (i := 6) (oi := ⟨some 6, _, _, _, _, _⟩) (v := ?_) rfl (by kernel_rfl) (by kernel_rfl) (by kernel_rfl) (fun _ _ _ h => h) (Or.inl ⟨by rfl, ?_⟩) (by assumption) ?_
      rotate_left 1
      · (intro w hSw; (try dsimp only at hSw); go_simp; all_goals with_reducible rfl)
      try simp only [Act.put, List.setIfInBounds_toArray, List.set_cons_zero, List.set_cons_succ]
      refine wpAnyH_done (by kernel_rfl) ?_ _
      go_wp2
      go_ret
      exact ⟨rfl, F1.out.trans hHeld (by simp) (by simp)⟩
    · rw [if_neg h2]
      have d2 : ((i : Int) == (pl : Int)) = false := by rw [beq_eq_false_iff_ne]; omega
      go_enter Try.func34, Try.ntmps34
      go_wp2
      go_ret
      exact ⟨rfl, by rw [← hw1]; exact F1.out⟩
/-- The place behind one. -/
theorem ldbehind_any (p : Ps) (hp : p.fits) (w : World) : Calls Try.prog 25 #[p.val] w (LRet w (behindP p).val) := by
  obtain ⟨pl, pe⟩ := p
  obtain ⟨h1, h2⟩ := hp
  unfold behindP Ps.val LRet
  simp only at h1 h2 ⊢
  by_cases he : pe = 18446744073709551615
  · rw [if_pos he]
    have d1 : ((pe : Int) == 18446744073709551615) = true := by rw [beq_iff_eq]; omega
    obtain ⟨q, hq⟩ : ∃ q, q = (pl + 1) % 18446744073709551616 := ⟨_, rfl⟩
    rw [← hq]
    have hw : IntKind.u64.wrap ((pl : Int) + 1) = (q : Int) := by simp [IntKind.wrap, IntKind.bits, IntKind.signed]; omega
    have hw2 : ((pl : Int) + 1) % 18446744073709551616 = (q : Int) := by omega
    clear hq h1 h2 he
    go_enter Try.func25, Try.ntmps25
    go_wp2
    trace_state
    refine bodyPost_ret (results_cell_row (P := Try.prog) rfl _ _ (w.heap.size + 1) _ _ _ _ rfl (heap_alloc2_new w _ _) Try.underlying36 rfl (by kernel_rfl)) rfl ?_
    exact ⟨rfl, ((Frm.refl _ _).alloc _).alloc _⟩
  · rw [if_neg he]
    have d1 : ((pe : Int) == 18446744073709551615) = false := by rw [beq_eq_false_iff_ne]; omega
    obtain ⟨q, hq⟩ : ∃ q, q = pe + 1 := ⟨_, rfl⟩
    rw [← hq]
    have hw : IntKind.u64.wrap ((pe : Int) + 1) = (q : Int) := by simp [IntKind.wrap, IntKind.bits, IntKind.signed]; omega
    have hw2 : ((pe : Int) + 1) % 18446744073709551616 = (q : Int) := by omega
    clear hq h1 h2 he
    go_enter Try.func25, Try.ntmps25
    go_wp2
    refine bodyPost_ret (results_cell_row (P := Try.prog) rfl _ _ (w.heap.size + 1) _ _ _ _ rfl (heap_alloc2_new w _ _) Try.underlying36 rfl (by kernel_rfl)) rfl ?_
    exact ⟨rfl, ((Frm.refl _ _).alloc _).alloc _⟩
end Go.Proofs.Ytimmoencmmpkdaa
