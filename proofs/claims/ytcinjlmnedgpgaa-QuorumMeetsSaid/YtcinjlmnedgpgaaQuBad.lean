/- What is no quorum: no places, false, false, on both sides. And: the law's lists, the law's quorum of a number. -/
import Derived.Test.YtcinjlmnedgpgaaQuRef2
namespace Go.Proofs.Ytcinjlmnedgpgaa
open Go.RowKit
set_option maxRecDepth 100000

set_option maxHeartbeats 2000000 in
theorem set_bad (p q a : Int) (e : Nat) (w : World) (h : okQ p q a = false) :
    Calls Try.prog 13 #[quV p q a, .int .u64 (e : Nat)] w fun x w' => x = .returned (.slice none 0 0) ∧ Frm [] w w' := by
  have CK := Lib.hid (fun z => check_any p q a z)
  rw [h] at CK
  clear h
  go_enter Try.func13, Try.ntmps13
  have HF0 := Lib.hid ((Frm.refl [] w).alloc (.cells (quC p q a) 23))
  have c0 : (w.alloc (.cells (quC p q a) 23)).cell? ⟨w.heap.size, 0, none⟩ = some (.int .i64 p) := (Whole.made w _ _).cell 0
  have c1 : (w.alloc (.cells (quC p q a) 23)).cell? ⟨w.heap.size, 1, none⟩ = some (.int .i64 q) := (Whole.made w _ _).cell 1
  have c2 : (w.alloc (.cells (quC p q a) 23)).cell? ⟨w.heap.size, 2, none⟩ = some (.int .i64 a) := (Whole.made w _ _).cell 2
  go_wp2_with fail
  refine (CK.out _).mono ?_
  rintro x w1 ⟨rfl, hf1⟩
  go_wp2
  go_ret
  exact ⟨rfl, HF0.out.trans hf1 (by simp) (by simp)⟩
set_option maxHeartbeats 2000000 in
theorem rset_bad (p q a : Int) (e : Nat) (w : World) (h : okQ p q a = false) :
    Calls Try.prog 14 #[quV p q a, .int .u64 (e : Nat)] w fun x w' => x = .returned (.slice none 0 0) ∧ Frm [] w w' := by
  have CK := Lib.hid (fun z => rcheck_any p q a z)
  rw [h] at CK
  clear h
  go_enter Try.func14, Try.ntmps14
  have HF0 := Lib.hid ((Frm.refl [] w).alloc (.cells (quC p q a) 23))
  have c0 : (w.alloc (.cells (quC p q a) 23)).cell? ⟨w.heap.size, 0, none⟩ = some (.int .i64 p) := (Whole.made w _ _).cell 0
  have c1 : (w.alloc (.cells (quC p q a) 23)).cell? ⟨w.heap.size, 1, none⟩ = some (.int .i64 q) := (Whole.made w _ _).cell 1
  have c2 : (w.alloc (.cells (quC p q a) 23)).cell? ⟨w.heap.size, 2, none⟩ = some (.int .i64 a) := (Whole.made w _ _).cell 2
  go_wp2_with fail
  refine (CK.out _).mono ?_
  rintro x w1 ⟨rfl, hf1⟩
  go_wp2
  go_ret
  exact ⟨rfl, HF0.out.trans hf1 (by simp) (by simp)⟩
set_option maxHeartbeats 2000000 in
theorem cov_bad (p q a : Int) (v : Value) (w : World) (h : okQ p q a = false) :
    Calls Try.prog 17 #[quV p q a, v] w fun x w' => x = .returned (.bool false) ∧ Frm [] w w' := by
  have CK := Lib.hid (fun z => check_any p q a z)
  rw [h] at CK
  clear h
  go_enter Try.func17, Try.ntmps17
  have HF0 := Lib.hid ((Frm.refl [] w).alloc (.cells (quC p q a) 23))
  have c0 : (w.alloc (.cells (quC p q a) 23)).cell? ⟨w.heap.size, 0, none⟩ = some (.int .i64 p) := (Whole.made w _ _).cell 0
  have c1 : (w.alloc (.cells (quC p q a) 23)).cell? ⟨w.heap.size, 1, none⟩ = some (.int .i64 q) := (Whole.made w _ _).cell 1
  have c2 : (w.alloc (.cells (quC p q a) 23)).cell? ⟨w.heap.size, 2, none⟩ = some (.int .i64 a) := (Whole.made w _ _).cell 2
  go_wp2_with fail
  refine (CK.out _).mono ?_
  rintro x w1 ⟨rfl, hf1⟩
  go_wp2
  go_ret
  exact ⟨rfl, HF0.out.trans hf1 (by simp) (by simp)⟩
set_option maxHeartbeats 2000000 in
theorem rcov_bad (p q a : Int) (v : Value) (w : World) (h : okQ p q a = false) :
    Calls Try.prog 18 #[quV p q a, v] w fun x w' => x = .returned (.bool false) ∧ Frm [] w w' := by
  have CK := Lib.hid (fun z => rcheck_any p q a z)
  rw [h] at CK
  clear h
  go_enter Try.func18, Try.ntmps18
  have HF0 := Lib.hid ((Frm.refl [] w).alloc (.cells (quC p q a) 23))
  have c0 : (w.alloc (.cells (quC p q a) 23)).cell? ⟨w.heap.size, 0, none⟩ = some (.int .i64 p) := (Whole.made w _ _).cell 0
  have c1 : (w.alloc (.cells (quC p q a) 23)).cell? ⟨w.heap.size, 1, none⟩ = some (.int .i64 q) := (Whole.made w _ _).cell 1
  have c2 : (w.alloc (.cells (quC p q a) 23)).cell? ⟨w.heap.size, 2, none⟩ = some (.int .i64 a) := (Whole.made w _ _).cell 2
  go_wp2_with fail
  refine (CK.out _).mono ?_
  rintro x w1 ⟨rfl, hf1⟩
  go_wp2
  go_ret
  exact ⟨rfl, HF0.out.trans hf1 (by simp) (by simp)⟩
set_option maxHeartbeats 4000000 in
theorem en_bad (p q a : Int) (e : Nat) (v : Value) (w : World) (h : okQ p q a = false) :
    Calls Try.prog 15 #[quV p q a, .int .u64 (e : Nat), v] w fun x w' => x = .returned (.bool false) ∧ Frm [] w w' := by
  have CK := Lib.hid (fun z => check_any p q a z)
  rw [h] at CK
  clear h
  go_enter Try.func15, Try.ntmps15
  have HQ0 := Lib.hid (Whole.made w 23 (quC p q a))
  have HF0 := Lib.hid ((Frm.refl [] w).alloc (.cells (quC p q a) 23))
  go_wp2_with fail
  generalize hw0 : w.alloc (.cells (quC p q a) 23) = w0 at HQ0 HF0 ⊢
  clear hw0
  obtain ⟨b, hb⟩ : ∃ b, b = w.heap.size := ⟨_, rfl⟩
  rw [← hb] at HQ0 ⊢
  clear hb
  have n0 : ∀ y, Frm [] w0 y → y.cell? ⟨b, 0, none⟩ = some (.int .i64 p) := fun y hy => (hy.whole HQ0.out (by simp)).cell 0
  have n1 : ∀ y, Frm [] w0 y → y.cell? ⟨b, 1, none⟩ = some (.int .i64 q) := fun y hy => (hy.whole HQ0.out (by simp)).cell 1
  have n2 : ∀ y, Frm [] w0 y → y.cell? ⟨b, 2, none⟩ = some (.int .i64 a) := fun y hy => (hy.whole HQ0.out (by simp)).cell 2
  refine wp_region_held_drew (S := fun w' => Frm [] w0 w') (by kernel_rfl) (Frm.drew (Frm.refl _ _)) (fun hHeld => ?_)
  refine wpAnyH_take (i := 0) (oi := ⟨some 7, _, _, _, _, _⟩) (v := ?_) rfl (by kernel_rfl) (by kernel_rfl) (by kernel_rfl) (fun _ _ _ h => h) (Or.inl ⟨by rfl, ?_⟩) (by assumption) ?_
  rotate_left 1
  · (intro w hSw; (try dsimp only at hSw); go_simp; all_goals with_reducible rfl)
  try simp only [Act.put, List.setIfInBounds_toArray, List.set_cons_zero, List.set_cons_succ]
  refine wpAnyH_ready (rs := [1]) (by kernel_rfl) (by simp) ?_
  refine AllReadyH.cons (o := ⟨some 8, _, _, _, _, _⟩) rfl (fun K hK => ?_) AllReadyH.nil
  go_simp
  (go_at_call 10; (with_reducible refine (CK.out _).mono ?_); rintro ex wz ⟨rfl, hfz⟩; have S1 : Frm [] w0 wz := Frm.trans (by assumption) hfz (by simp) (by simp); clear hfz)
  go_wp2_with fail
  refine hK.out _ _ (by assumption) (fun hHeld => ?_)
  clear hK K
  try simp only [Act.put, List.setIfInBounds_toArray, List.set_cons_zero, List.set_cons_succ]
  refine wpAnyH_take (i := 2) (oi := ⟨some 9, _, _, _, _, _⟩) (v := ?_) rfl (by kernel_rfl) (by kernel_rfl) (by kernel_rfl) (fun _ _ _ h => h) (Or.inl ⟨by rfl, ?_⟩) (by assumption) ?_
  rotate_left 1
  · (intro w hSw; (try dsimp only at hSw); go_simp; all_goals with_reducible rfl)
  try simp only [Act.put, List.setIfInBounds_toArray, List.set_cons_zero, List.set_cons_succ]
  refine wpAnyH_take (i := 3) (oi := ⟨some 10, _, _, _, _, _⟩) (v := undef) rfl (by kernel_rfl) (by kernel_rfl) (by kernel_rfl) (fun _ _ _ h => h) (Or.inr ⟨by rfl, rfl⟩) (by assumption) ?_
  try simp only [Act.put, List.setIfInBounds_toArray, List.set_cons_zero, List.set_cons_succ]
  refine wpAnyH_take (i := 4) (oi := ⟨some 11, _, _, _, _, _⟩) (v := undef) rfl (by kernel_rfl) (by kernel_rfl) (by kernel_rfl) (fun _ _ _ h => h) (Or.inr ⟨by rfl, rfl⟩) (by assumption) ?_
  try simp only [Act.put, List.setIfInBounds_toArray, List.set_cons_zero, List.set_cons_succ]
  refine wpAnyH_take (i := 5) (oi := ⟨some 12, _, _, _, _, _⟩) (v := undef) rfl (by kernel_rfl) (by kernel_rfl) (by kernel_rfl) (fun _ _ _ h => h) (Or.inr ⟨by rfl, rfl⟩) (by assumption) ?_
  try simp only [Act.put, List.setIfInBounds_toArray, List.set_cons_zero, List.set_cons_succ]
  refine wpAnyH_take (i := 6) (oi := ⟨some 13, _, _, _, _, _⟩) (v := undef) rfl (by kernel_rfl) (by kernel_rfl) (by kernel_rfl) (fun _ _ _ h => h) (Or.inr ⟨by rfl, rfl⟩) (by assumption) ?_
  try simp only [Act.put, List.setIfInBounds_toArray, List.set_cons_zero, List.set_cons_succ]
  refine wpAnyH_take (i := 7) (oi := ⟨some 14, _, _, _, _, _⟩) (v := undef) rfl (by kernel_rfl) (by kernel_rfl) (by kernel_rfl) (fun _ _ _ h => h) (Or.inr ⟨by rfl, rfl⟩) (by assumption) ?_
  try simp only [Act.put, List.setIfInBounds_toArray, List.set_cons_zero, List.set_cons_succ]
  refine wpAnyH_take (i := 8) (oi := ⟨some 15, _, _, _, _, _⟩) (v := undef) rfl (by kernel_rfl) (by kernel_rfl) (by kernel_rfl) (fun _ _ _ h => h) (Or.inr ⟨by rfl, rfl⟩) (by assumption) ?_
  try simp only [Act.put, List.setIfInBounds_toArray, List.set_cons_zero, List.set_cons_succ]
  refine wpAnyH_take (i := 9) (oi := ⟨some 16, _, _, _, _, _⟩) (v := undef) rfl (by kernel_rfl) (by kernel_rfl) (by kernel_rfl) (fun _ _ _ h => h) (Or.inr ⟨by rfl, rfl⟩) (by assumption) ?_
  try simp only [Act.put, List.setIfInBounds_toArray, List.set_cons_zero, List.set_cons_succ]
  refine wpAnyH_take (i := 10) (oi := ⟨some 17, _, _, _, _, _⟩) (v := ?_) rfl (by kernel_rfl) (by kernel_rfl) (by kernel_rfl) (fun _ _ _ h => h) (Or.inl ⟨by rfl, ?_⟩) (by assumption) ?_
  rotate_left 1
  · (intro w hSw; (try dsimp only at hSw); go_simp; all_goals with_reducible rfl)
  try simp only [Act.put, List.setIfInBounds_toArray, List.set_cons_zero, List.set_cons_succ]
  refine wpAnyH_take (i := 11) (oi := ⟨some 6, _, _, _, _, _⟩) (v := ?_) rfl (by kernel_rfl) (by kernel_rfl) (by kernel_rfl) (fun _ _ _ h => h) (Or.inl ⟨by rfl, ?_⟩) (by assumption) ?_
  rotate_left 1
  · (intro w hSw; (try dsimp only at hSw); go_simp; all_goals with_reducible rfl)
  try simp only [Act.put, List.setIfInBounds_toArray, List.set_cons_zero, List.set_cons_succ]
  refine wpAnyH_done (by kernel_rfl) ?_ _
  all_goals
    go_wp2
    go_ret
    exact ⟨rfl, Frm.trans HF0.out (by assumption) (by simp) (by simp)⟩
set_option maxHeartbeats 4000000 in
theorem ren_bad (p q a : Int) (e : Nat) (v : Value) (w : World) (h : okQ p q a = false) :
    Calls Try.prog 16 #[quV p q a, .int .u64 (e : Nat), v] w fun x w' => x = .returned (.bool false) ∧ Frm [] w w' := by
  have CK := Lib.hid (fun z => rcheck_any p q a z)
  rw [h] at CK
  clear h
  go_enter Try.func16, Try.ntmps16
  have HQ0 := Lib.hid (Whole.made w 23 (quC p q a))
  have HF0 := Lib.hid ((Frm.refl [] w).alloc (.cells (quC p q a) 23))
  go_wp2_with fail
  generalize hw0 : w.alloc (.cells (quC p q a) 23) = w0 at HQ0 HF0 ⊢
  clear hw0
  obtain ⟨b, hb⟩ : ∃ b, b = w.heap.size := ⟨_, rfl⟩
  rw [← hb] at HQ0 ⊢
  clear hb
  have n0 : ∀ y, Frm [] w0 y → y.cell? ⟨b, 0, none⟩ = some (.int .i64 p) := fun y hy => (hy.whole HQ0.out (by simp)).cell 0
  have n1 : ∀ y, Frm [] w0 y → y.cell? ⟨b, 1, none⟩ = some (.int .i64 q) := fun y hy => (hy.whole HQ0.out (by simp)).cell 1
  have n2 : ∀ y, Frm [] w0 y → y.cell? ⟨b, 2, none⟩ = some (.int .i64 a) := fun y hy => (hy.whole HQ0.out (by simp)).cell 2
  refine wp_region_held_drew (S := fun w' => Frm [] w0 w') (by kernel_rfl) (Frm.drew (Frm.refl _ _)) (fun hHeld => ?_)
  refine wpAnyH_take (i := 0) (oi := ⟨some 7, _, _, _, _, _⟩) (v := ?_) rfl (by kernel_rfl) (by kernel_rfl) (by kernel_rfl) (fun _ _ _ h => h) (Or.inl ⟨by rfl, ?_⟩) (by assumption) ?_
  rotate_left 1
  · (intro w hSw; (try dsimp only at hSw); go_simp; all_goals with_reducible rfl)
  try simp only [Act.put, List.setIfInBounds_toArray, List.set_cons_zero, List.set_cons_succ]
  refine wpAnyH_ready (rs := [1]) (by kernel_rfl) (by simp) ?_
  refine AllReadyH.cons (o := ⟨some 8, _, _, _, _, _⟩) rfl (fun K hK => ?_) AllReadyH.nil
  go_simp
  (go_at_call 11; (with_reducible refine (CK.out _).mono ?_); rintro ex wz ⟨rfl, hfz⟩; have S1 : Frm [] w0 wz := Frm.trans (by assumption) hfz (by simp) (by simp); clear hfz)
  go_wp2_with fail
  refine hK.out _ _ (by assumption) (fun hHeld => ?_)
  clear hK K
  try simp only [Act.put, List.setIfInBounds_toArray, List.set_cons_zero, List.set_cons_succ]
  refine wpAnyH_take (i := 2) (oi := ⟨some 9, _, _, _, _, _⟩) (v := ?_) rfl (by kernel_rfl) (by kernel_rfl) (by kernel_rfl) (fun _ _ _ h => h) (Or.inl ⟨by rfl, ?_⟩) (by assumption) ?_
  rotate_left 1
  · (intro w hSw; (try dsimp only at hSw); go_simp; all_goals with_reducible rfl)
  try simp only [Act.put, List.setIfInBounds_toArray, List.set_cons_zero, List.set_cons_succ]
  refine wpAnyH_take (i := 3) (oi := ⟨some 10, _, _, _, _, _⟩) (v := undef) rfl (by kernel_rfl) (by kernel_rfl) (by kernel_rfl) (fun _ _ _ h => h) (Or.inr ⟨by rfl, rfl⟩) (by assumption) ?_
  try simp only [Act.put, List.setIfInBounds_toArray, List.set_cons_zero, List.set_cons_succ]
  refine wpAnyH_take (i := 4) (oi := ⟨some 11, _, _, _, _, _⟩) (v := undef) rfl (by kernel_rfl) (by kernel_rfl) (by kernel_rfl) (fun _ _ _ h => h) (Or.inr ⟨by rfl, rfl⟩) (by assumption) ?_
  try simp only [Act.put, List.setIfInBounds_toArray, List.set_cons_zero, List.set_cons_succ]
  refine wpAnyH_take (i := 5) (oi := ⟨some 12, _, _, _, _, _⟩) (v := undef) rfl (by kernel_rfl) (by kernel_rfl) (by kernel_rfl) (fun _ _ _ h => h) (Or.inr ⟨by rfl, rfl⟩) (by assumption) ?_
  try simp only [Act.put, List.setIfInBounds_toArray, List.set_cons_zero, List.set_cons_succ]
  refine wpAnyH_take (i := 6) (oi := ⟨some 13, _, _, _, _, _⟩) (v := undef) rfl (by kernel_rfl) (by kernel_rfl) (by kernel_rfl) (fun _ _ _ h => h) (Or.inr ⟨by rfl, rfl⟩) (by assumption) ?_
  try simp only [Act.put, List.setIfInBounds_toArray, List.set_cons_zero, List.set_cons_succ]
  refine wpAnyH_take (i := 7) (oi := ⟨some 14, _, _, _, _, _⟩) (v := undef) rfl (by kernel_rfl) (by kernel_rfl) (by kernel_rfl) (fun _ _ _ h => h) (Or.inr ⟨by rfl, rfl⟩) (by assumption) ?_
  try simp only [Act.put, List.setIfInBounds_toArray, List.set_cons_zero, List.set_cons_succ]
  refine wpAnyH_take (i := 8) (oi := ⟨some 15, _, _, _, _, _⟩) (v := undef) rfl (by kernel_rfl) (by kernel_rfl) (by kernel_rfl) (fun _ _ _ h => h) (Or.inr ⟨by rfl, rfl⟩) (by assumption) ?_
  try simp only [Act.put, List.setIfInBounds_toArray, List.set_cons_zero, List.set_cons_succ]
  refine wpAnyH_take (i := 9) (oi := ⟨some 16, _, _, _, _, _⟩) (v := undef) rfl (by kernel_rfl) (by kernel_rfl) (by kernel_rfl) (fun _ _ _ h => h) (Or.inr ⟨by rfl, rfl⟩) (by assumption) ?_
  try simp only [Act.put, List.setIfInBounds_toArray, List.set_cons_zero, List.set_cons_succ]
  refine wpAnyH_take (i := 10) (oi := ⟨some 17, _, _, _, _, _⟩) (v := ?_) rfl (by kernel_rfl) (by kernel_rfl) (by kernel_rfl) (fun _ _ _ h => h) (Or.inl ⟨by rfl, ?_⟩) (by assumption) ?_
  rotate_left 1
  · (intro w hSw; (try dsimp only at hSw); go_simp; all_goals with_reducible rfl)
  try simp only [Act.put, List.setIfInBounds_toArray, List.set_cons_zero, List.set_cons_succ]
  refine wpAnyH_take (i := 11) (oi := ⟨some 6, _, _, _, _, _⟩) (v := ?_) rfl (by kernel_rfl) (by kernel_rfl) (by kernel_rfl) (fun _ _ _ h => h) (Or.inl ⟨by rfl, ?_⟩) (by assumption) ?_
  rotate_left 1
  · (intro w hSw; (try dsimp only at hSw); go_simp; all_goals with_reducible rfl)
  try simp only [Act.put, List.setIfInBounds_toArray, List.set_cons_zero, List.set_cons_succ]
  refine wpAnyH_done (by kernel_rfl) ?_ _
  all_goals
    go_wp2
    go_ret
    exact ⟨rfl, Frm.trans HF0.out (by assumption) (by simp) (by simp)⟩

def SmRel (l : List Nat) (s13 : Value) (w wr : World) : Prop := ∃ k, k ≤ l.length ∧ s13 = .int .i64 (k : Nat) ∧ ∃ n, wr = w.drewN n
set_option maxHeartbeats 4000000 in
theorem same_any (a a' : Option Addr) (n c c' : Nat) (l : List Nat) (w : World) (h : IIn w a l) (h' : IIn w a' l) (hn : n = l.length) (hl : l.length ≤ 1000) :
    Calls Try.prog 12 #[.slice a n c, .slice a' n c'] w fun x w' => x = .returned (.bool true) ∧ Frm [] w w' := by
  have HN := Lib.hid hn; clear hn
  have H := Lib.hid h; clear h
  have H' := Lib.hid h'; clear h'
  have hn1 : n ≤ 1000 := by rw [HN.out]; exact hl
  have HR0 : Hid (SmRel l (.int .i64 (0 : Nat)) w w) := Lib.hid ⟨0, Nat.zero_le _, rfl, 0, rfl⟩
  go_enter Try.func12, Try.ntmps12
  go_wp2
  go_loopw [13] (fun s13 wr => SmRel l s13 w wr) (fun s13 _ => l.length - (intOf s13).toNat)
  case atStart => exact HR0.out
  case round =>
    clear HR0
    obtain ⟨k, hk, rfl, m, rfl⟩ := hrel
    have HF := Lib.hid ((Frm.refl [] w).drewN m)
    by_cases hlt : k < n
    · have hlt' : k < l.length := by rw [← HN.out]; exact hlt
      obtain ⟨b, off, rfl, hc⟩ := H.out k hlt'
      obtain ⟨b', off', rfl, hc'⟩ := H'.out k hlt'
      obtain ⟨q, hq⟩ : ∃ q, q = l.getD k 0 := ⟨_, rfl⟩
      rw [← hq] at hc hc'
      clear hq
      have hd : ((q : Int) != (q : Int)) = false := by simp
      go_wp2
      go_quiet (fail)
      go_wp2
      go_roundw
      case rel => exact ⟨k + 1, hlt', by go_num, _, rfl⟩
      case measure => simp [intOf]; omega
    · go_wp2
      go_ret
      exact ⟨rfl, HF.out⟩
end Go.Proofs.Ytcinjlmnedgpgaa
