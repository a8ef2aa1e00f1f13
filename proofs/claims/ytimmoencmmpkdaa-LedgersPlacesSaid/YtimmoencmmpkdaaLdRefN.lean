/- Contracts of the document's Next, Has, Between. -/
import Derived.Test.YtimmoencmmpkdaaLdRefA
import Derived.Test.YtimmoencmmpkdaaLdRefO
import Derived.Test.YtimmoencmmpkdaaLdHas
namespace Go.Proofs.Ytimmoencmmpkdaa
open Go.RowKit
set_option maxRecDepth 100000

/-- Found one by one. -/
theorem find_at {L : List Ps} {P : Ps → Bool} {k : Nat} (hk : k < L.length) (h1 : ∀ j, j < k → P (L.getD j default) = false) (h2 : P (L.getD k default) = true) : L.find? P = some (L.getD k default) := by
  rw [List.find?_eq_some_iff_append]
  refine ⟨h2, L.take k, L.drop (k + 1), ?_, fun a ha => ?_⟩
  · have e : L.getD k default = L[k] := by simp [hk]
    rw [e, ← List.drop_eq_getElem_cons hk, List.take_append_drop]
  · obtain ⟨i, hi, rfl⟩ := List.getElem_of_mem ha
    rw [List.length_take] at hi
    have e : L.getD i default = L[i]'(by omega) := by simp [show i < L.length by omega]
    have := h1 i (by omega)
    rw [e] at this
    simp [List.getElem_take, this]
theorem find_none_at {L : List Ps} {P : Ps → Bool} (h1 : ∀ j, j < L.length → P (L.getD j default) = false) : L.find? P = none := by
  rw [List.find?_eq_none]
  intro a ha
  obtain ⟨i, hi, rfl⟩ := List.getElem_of_mem ha
  have := h1 i hi
  rw [show L.getD i default = L[i] by simp [hi]] at this
  simp [this]
set_option maxHeartbeats 8000000 in
theorem rlnext_any (a : Option Addr) (n cap : Nat) (X : List Ld) (o : Nat) (p : Ps) (w : World) (h : LdL w [] a X) (hn : n = X.length) (hsz : n < 4611686018427387904) (ht : tot X o ≤ 100000) :
    Calls Try.prog 18 #[.slice a n cap, .int .u64 (o : Nat), p.val] w (LRet w (nextR X o p)) := by
  have HAL := Lib.hid (fun z (hz : Frm [] w z) => rlall_any a n cap X o z (h.sub hz) hn hsz ht)
  have HSZ := Lib.hid (fun (x : Ld) z => rlsize_any x o z)
  have HOR := Lib.hid (fun (q : Ps) z => rlorder_any q p z)
  have MN : Hid (allP X o = [] ∨ True) := Lib.hid (.inr trivial)
  have LEN := Lib.hid (allP_length X o)
  have FND := Lib.hid (nextP_find X o p)
  obtain ⟨L, hL⟩ : ∃ L, L = allP X o := ⟨_, rfl⟩
  obtain ⟨M, hM⟩ : ∃ M, M = tot X o := ⟨_, rfl⟩
  rw [← hL, ← hM] at HAL LEN
  rw [← hL] at FND
  have hM16 : M ≤ 100000 := by omega
  obtain ⟨w1, hw1⟩ : ∃ w1, w1 = (w.alloc (.cells #[.int .u64 (p.l : Nat), .int .u64 (p.e : Nat)] 36)).alloc (.cells #[.int .u64 0, .int .u64 0] 36) := ⟨_, rfl⟩
  have F1 : Hid (Frm [] w w1) := Lib.hid (by rw [hw1]; exact ((Frm.refl _ _).alloc _).alloc _)
  obtain ⟨g, hg⟩ : ∃ g, g = w.heap.size := ⟨_, rfl⟩
  have B1 : Hid (Whole w1 g 36 #[.int .u64 (p.l : Nat), .int .u64 (p.e : Nat)]) := Lib.hid (by rw [hw1, hg]; exact (Whole.made _ _ _).alloc _)
  have B2 : Hid (Whole w1 (g + 1) 36 #[.int .u64 0, .int .u64 0]) := Lib.hid (by
    rw [hw1, hg]
    have := Whole.made (w.alloc (.cells #[.int .u64 (p.l : Nat), .int .u64 (p.e : Nat)] 36)) 36 #[.int .u64 0, .int .u64 0]
    rwa [World.size_alloc] at this)
  have GS : Hid (w.heap.size ≤ g) := Lib.hid (by omega)
  have H := Lib.hid h; clear h
  have HN := Lib.hid hn; clear hn ht hL hM MN
  obtain ⟨R, hR⟩ : ∃ R, R = LRet w (nextR X o p) := ⟨_, rfl⟩
  rw [← hR]
  have HR := Lib.hid hR; clear hR
  have FIN : Hid (∀ (z : World) (q : Ps), Frm [] w1 z → Whole ((z.setCell ⟨g + 1, 0, none⟩ (.int .u64 (q.l : Nat))).setCell ⟨g + 1, 1, none⟩ (.int .u64 (q.e : Nat))) (g + 1) 36 #[.int .u64 (q.l : Nat), .int .u64 (q.e : Nat)] ∧ Frm [] w ((z.setCell ⟨g + 1, 0, none⟩ (.int .u64 (q.l : Nat))).setCell ⟨g + 1, 1, none⟩ (.int .u64 (q.e : Nat)))) := Lib.hid (fun z q hz => by
    have hw := hz.whole B2.out (by simp)
    refine ⟨?_, ?_⟩
    · have := (hw.put 0 (.int .u64 (q.l : Nat))).put 1 (.int .u64 (q.e : Nat))
      simpa using this
    · have h1 := F1.out.trans hz (U := []) (by simp) (by simp)
      exact (h1.setCell (.inr (by have := GS.out; simp; omega)) _).setCell (.inr (by have := GS.out; simp; omega)) _)
  have V0 : Hid (∀ (z : World) (q : Ps) (b : Bool) (tm : Array Value), tm.getD 6 undef = .pointer (some ⟨g + 1, 0, none⟩) → tm.getD 7 undef = .bool b → Whole z (g + 1) 36 #[.int .u64 (q.l : Nat), .int .u64 (q.e : Nat)] → (results Try.f18 tm).run Try.prog z = .ok (.tuple #[q.val, .bool b]) z) := Lib.hid (fun z q b tm h6 h7 hw => by
    have c0 := hw.cell 0
    have c1 := hw.cell 1
    simp at c0 c1
    have h6' : tm[6]?.getD undef = .pointer (some ⟨g + 1, 0, none⟩) := by simpa using h6
    have h7' : tm[7]?.getD undef = .bool b := by simpa using h7
    unfold Ps.val
    simp [results, Try.results18, go_sem, c0, c1, h6', h7'])
  obtain ⟨pl, pe⟩ := p
  unfold Ps.val at HOR
  unfold Ps.val
  simp only at hw1 B1 HOR ⊢
  have HW1 := Lib.hid hw1; clear hw1
  go_enter Try.func18, Try.ntmps18
  go_wp2_with fail
  rw [← HW1.out, ← hg]
  have HG := Lib.hid hg; clear hg
  (with_reducible refine (HAL.out _ F1.out).mono ?_)
  rintro e w2 ⟨a2, c2, rfl, ho2, hf2⟩
  have F2 := Lib.hid hf2
  have L2 : Hid (PsL w2 [] a2 L) := Lib.hid ho2.sl
  clear hf2 ho2 HAL
  go_wp2
  go_loopw [9] (fun s9 wr => ∃ k : Nat, k ≤ M ∧ s9 = .int .i64 (k : Nat) ∧ Hid (∀ j, j < k → (L.getD j default).lt ⟨pl, pe⟩) ∧ Hid (Frm [] w2 wr)) (fun s9 _ => M - (intOf s9).toNat)
  case atStart => exact ⟨0, Nat.zero_le _, rfl, Lib.hid (fun i hi => by omega), Lib.hid (Frm.refl _ _)⟩
  case round =>
    obtain ⟨k, hk, rfl, HI, HF⟩ := hrel
    have FR : Hid (Frm [] w1 wr) := Lib.hid (F2.out.trans HF.out (by simp) (by simp))
    by_cases hlt : k < M
    · have hlt' : (k : Int) < (M : Int) := by omega
      obtain ⟨b, off, rfl, d0, d1, _⟩ := (L2.out.sub HF.out).at (i := k) (by have := LEN.out; omega)
      have bb := FR.out.whole B1.out (by simp)
      have r0 : ∀ z, Frm [] wr z → z.cell? ⟨g, 0, none⟩ = some (.int .u64 (pl : Nat)) := fun z hz => (hz.whole bb (by simp)).cell 0
      have r1 : ∀ z, Frm [] wr z → z.cell? ⟨g, 1, none⟩ = some (.int .u64 (pe : Nat)) := fun z hz => (hz.whole bb (by simp)).cell 1
      obtain ⟨x, hx⟩ : ∃ x, x = L.getD k default := ⟨_, rfl⟩
      rw [← hx] at d0 d1
      have YES : Hid (¬ x.lt ⟨pl, pe⟩ → nextP X o ⟨pl, pe⟩ = some x) := Lib.hid (fun hc => by
        rw [← FND.out, hx]
        exact find_at (by have := LEN.out; omega) (fun j hj => decide_eq_false (fun h => h (HI.out j hj))) (by rw [decide_eq_true_iff, ← hx]; exact hc))
      have NO : Hid (x.lt ⟨pl, pe⟩ → ∀ j, j < k + 1 → (L.getD j default).lt ⟨pl, pe⟩) := Lib.hid (fun hc j hj => by
        rcases Nat.lt_or_eq_of_le (Nat.le_of_lt_succ hj) with h1 | rfl
        · exact HI.out j h1
        · rw [← hx]; exact hc)
      have ORX := Lib.hid (HOR.out x)
      obtain ⟨c, hc⟩ : ∃ c, c = ordP x ⟨pl, pe⟩ := ⟨_, rfl⟩
      rw [← hc] at ORX
      have CC : Hid ((0 ≤ c → ¬ x.lt ⟨pl, pe⟩) ∧ (¬ 0 ≤ c → x.lt ⟨pl, pe⟩)) := Lib.hid ⟨fun h => by rw [hc] at h; exact ordP_ge.1 h, fun h => by rw [hc] at h; exact Classical.not_not.1 (fun h2 => h (ordP_ge.2 h2))⟩
      clear hx hc bb
      obtain ⟨xl, xe⟩ := x
      unfold LRet at ORX
      simp only at d0 d1 ORX
      have c0 : ∀ z, Frm [] wr z → z.cell? ⟨b, off + k * 2, none⟩ = some (.int .u64 (xl : Nat)) := fun z hz => (hz.cell (p := ⟨b, off + k * 2, none⟩) (block_lt_of_cell d0) (by simp)).trans d0
      have c1 : ∀ z, Frm [] wr z → z.cell? ⟨b, off + k * 2 + 1, none⟩ = some (.int .u64 (xe : Nat)) := fun z hz => (hz.cell (p := ⟨b, off + k * 2 + 1, none⟩) (block_lt_of_cell d1) (by simp)).trans d1
      clear d0 d1
      by_cases hc0 : 0 ≤ c
      · have e1 : decide (0 ≤ c) = true := decide_eq_true hc0
        have NX := Lib.hid (YES.out (CC.out.1 hc0))
        clear YES NO CC
        go_wp2
        refine wp_region_held_drew (S := fun w' => Frm [] wr w') (by kernel_rfl) (Frm.drew (Frm.refl _ _)) (fun hHeld => ?_)
        refine wpAnyH_take (i := 0) (oi := ⟨some 20, _, _, _, _, _⟩) (v := ?_) rfl (by kernel_rfl) (by kernel_rfl) (by kernel_rfl) (fun _ _ _ h => h) (Or.inl ⟨by rfl, ?_⟩) (by assumption) ?_
        rotate_left 1
        · (intro w hSw; (try dsimp only at hSw); go_simp; all_goals with_reducible rfl)
        try simp only [Act.put, List.setIfInBounds_toArray, List.set_cons_zero, List.set_cons_succ]
        refine wpAnyH_take (i := 1) (oi := ⟨some 21, _, _, _, _, _⟩) (v := ?_) rfl (by kernel_rfl) (by kernel_rfl) (by kernel_rfl) (fun _ _ _ h => h) (Or.inl ⟨by rfl, ?_⟩) (by assumption) ?_
        rotate_left 1
        · (intro w hSw; (try dsimp only at hSw); go_simp; all_goals with_reducible rfl)
        try simp only [Act.put, List.setIfInBounds_toArray, List.set_cons_zero, List.set_cons_succ]
        refine wpAnyH_take (i := 2) (oi := ⟨some 22, _, _, _, _, _⟩) (v := ?_) rfl (by kernel_rfl) (by kernel_rfl) (by kernel_rfl) (fun _ _ _ h => h) (Or.inl ⟨by rfl, ?_⟩) (by assumption) ?_
        rotate_left 1
        · (intro w hSw; (try dsimp only at hSw); go_simp; all_goals with_reducible rfl)
        try simp only [Act.put, List.setIfInBounds_toArray, List.set_cons_zero, List.set_cons_succ]
        refine wpAnyH_take (i := 3) (oi := ⟨some 23, _, _, _, _, _⟩) (v := ?_) rfl (by kernel_rfl) (by kernel_rfl) (by kernel_rfl) (fun _ _ _ h => h) (Or.inl ⟨by rfl, ?_⟩) (by assumption) ?_
        rotate_left 1
        · (intro w hSw; (try dsimp only at hSw); go_simp; all_goals with_reducible rfl)
        try simp only [Act.put, List.setIfInBounds_toArray, List.set_cons_zero, List.set_cons_succ]
        refine wpAnyH_take (i := 4) (oi := ⟨some 24, _, _, _, _, _⟩) (v := ?_) rfl (by kernel_rfl) (by kernel_rfl) (by kernel_rfl) (fun _ _ _ h => h) (Or.inl ⟨by rfl, ?_⟩) (by assumption) ?_
        rotate_left 1
        · (intro w hSw; (try dsimp only at hSw); go_simp; all_goals with_reducible rfl)
        try simp only [Act.put, List.setIfInBounds_toArray, List.set_cons_zero, List.set_cons_succ]
        refine wpAnyH_ready (rs := [5]) (by kernel_rfl) (by simp) ?_
        refine AllReadyH.cons (o := ⟨some 25, _, _, _, _, _⟩) rfl (fun K hK => ?_) AllReadyH.nil
        go_simp
        go_at_call 20; (with_reducible refine (ORX.out _).mono ?_); rintro e w3 ⟨rfl, hf3⟩; have hHeld3 : Frm [] wr w3 := hHeld.trans hf3 (by simp) (by simp)
        go_wp2_with fail
        refine hK.out _ _ (by assumption) (fun hHeld => ?_)
        clear hK K
        try simp only [Act.put, List.setIfInBounds_toArray, List.set_cons_zero, List.set_cons_succ]
        refine wpAnyH_take (i := 6) (oi := ⟨some 26, _, _, _, _, _⟩) (v := ?_) rfl (by kernel_rfl) (by kernel_rfl) (by kernel_rfl) (fun _ _ _ h => h) (Or.inl ⟨by rfl, ?_⟩) (by assumption) ?_
        rotate_left 1
        · (intro w hSw; (try dsimp only at hSw); go_simp; all_goals with_reducible rfl)
        try simp only [Act.put, List.setIfInBounds_toArray, List.set_cons_zero, List.set_cons_succ]
        refine wpAnyH_done (by kernel_rfl) ?_ _
        have FX : Hid (Frm [] w1 w3) := Lib.hid (FR.out.trans hHeld (by simp) (by simp))
        have y0 := c0 _ hHeld
        have y1 := c1 _ hHeld
        have q0 := (FX.out.whole B2.out (by simp)).cell 0
        have q1 := (FX.out.whole B2.out (by simp)).cell 1
        have k0 := (FX.out.whole B2.out (by simp)).free 0
        have k1 := (FX.out.whole B2.out (by simp)).free 1
        simp only [List.getElem?_toArray, List.getElem?_cons_zero, List.getElem?_cons_succ] at q0 q1
        obtain ⟨FW1, FW2⟩ := FIN.out w3 ⟨xl, xe⟩ FX.out
        have FW1 := Lib.hid FW1
        have FW2 := Lib.hid FW2
        clear r0 r1 c0 c1 hHeld
        go_wp2
        refine bodyPost_ret (V0.out _ ⟨xl, xe⟩ true _ rfl rfl FW1.out) rfl ?_
        rw [HR.out, nextR_some NX.out]
        exact ⟨rfl, FW2.out⟩
      · have e1 : decide (0 ≤ c) = false := decide_eq_false hc0
        have NX := Lib.hid (NO.out (CC.out.2 hc0))
        clear YES NO CC
        go_wp2
        refine wp_region_held_drew (S := fun w' => Frm [] wr w') (by kernel_rfl) (Frm.drew (Frm.refl _ _)) (fun hHeld => ?_)
        refine wpAnyH_take (i := 0) (oi := ⟨some 20, _, _, _, _, _⟩) (v := ?_) rfl (by kernel_rfl) (by kernel_rfl) (by kernel_rfl) (fun _ _ _ h => h) (Or.inl ⟨by rfl, ?_⟩) (by assumption) ?_
        rotate_left 1
        · (intro w hSw; (try dsimp only at hSw); go_simp; all_goals with_reducible rfl)
        try simp only [Act.put, List.setIfInBounds_toArray, List.set_cons_zero, List.set_cons_succ]
        refine wpAnyH_take (i := 1) (oi := ⟨some 21, _, _, _, _, _⟩) (v := ?_) rfl (by kernel_rfl) (by kernel_rfl) (by kernel_rfl) (fun _ _ _ h => h) (Or.inl ⟨by rfl, ?_⟩) (by assumption) ?_
        rotate_left 1
        · (intro w hSw; (try dsimp only at hSw); go_simp; all_goals with_reducible rfl)
        try simp only [Act.put, List.setIfInBounds_toArray, List.set_cons_zero, List.set_cons_succ]
        refine wpAnyH_take (i := 2) (oi := ⟨some 22, _, _, _, _, _⟩) (v := ?_) rfl (by kernel_rfl) (by kernel_rfl) (by kernel_rfl) (fun _ _ _ h => h) (Or.inl ⟨by rfl, ?_⟩) (by assumption) ?_
        rotate_left 1
        · (intro w hSw; (try dsimp only at hSw); go_simp; all_goals with_reducible rfl)
        try simp only [Act.put, List.setIfInBounds_toArray, List.set_cons_zero, List.set_cons_succ]
        refine wpAnyH_take (i := 3) (oi := ⟨some 23, _, _, _, _, _⟩) (v := ?_) rfl (by kernel_rfl) (by kernel_rfl) (by kernel_rfl) (fun _ _ _ h => h) (Or.inl ⟨by rfl, ?_⟩) (by assumption) ?_
        rotate_left 1
        · (intro w hSw; (try dsimp only at hSw); go_simp; all_goals with_reducible rfl)
        try simp only [Act.put, List.setIfInBounds_toArray, List.set_cons_zero, List.set_cons_succ]
        refine wpAnyH_take (i := 4) (oi := ⟨some 24, _, _, _, _, _⟩) (v := ?_) rfl (by kernel_rfl) (by kernel_rfl) (by kernel_rfl) (fun _ _ _ h => h) (Or.inl ⟨by rfl, ?_⟩) (by assumption) ?_
        rotate_left 1
        · (intro w hSw; (try dsimp only at hSw); go_simp; all_goals with_reducible rfl)
        try simp only [Act.put, List.setIfInBounds_toArray, List.set_cons_zero, List.set_cons_succ]
        refine wpAnyH_ready (rs := [5]) (by kernel_rfl) (by simp) ?_
        refine AllReadyH.cons (o := ⟨some 25, _, _, _, _, _⟩) rfl (fun K hK => ?_) AllReadyH.nil
        go_simp
        go_at_call 20; (with_reducible refine (ORX.out _).mono ?_); rintro e w3 ⟨rfl, hf3⟩; have hHeld3 : Frm [] wr w3 := hHeld.trans hf3 (by simp) (by simp)
        go_wp2_with fail
        refine hK.out _ _ (by assumption) (fun hHeld => ?_)
        clear hK K
        try simp only [Act.put, List.setIfInBounds_toArray, List.set_cons_zero, List.set_cons_succ]
        refine wpAnyH_take (i := 6) (oi := ⟨some 26, _, _, _, _, _⟩) (v := ?_) rfl (by kernel_rfl) (by kernel_rfl) (by kernel_rfl) (fun _ _ _ h => h) (Or.inl ⟨by rfl, ?_⟩) (by assumption) ?_
        rotate_left 1
        · (intro w hSw; (try dsimp only at hSw); go_simp; all_goals with_reducible rfl)
        try simp only [Act.put, List.setIfInBounds_toArray, List.set_cons_zero, List.set_cons_succ]
        refine wpAnyH_done (by kernel_rfl) ?_ _
        have FX : Hid (Frm [] w2 w3) := Lib.hid (HF.out.trans hHeld (by simp) (by simp))
        clear r0 r1 c0 c1 hHeld
        go_wp2
        go_roundw
        case rel => exact ⟨k + 1, by omega, by go_num, NX, FX⟩
        case measure => simp [intOf]; omega
    · obtain rfl : k = M := by omega
      have NO : Hid (nextP X o ⟨pl, pe⟩ = none) := Lib.hid (by
        rw [← FND.out]
        exact find_none_at (fun j hj => decide_eq_false (fun h => h (HI.out j (by have := LEN.out; omega)))))
      have FWR : Hid (Frm [] w wr) := Lib.hid (F1.out.trans FR.out (by simp) (by simp))
      rcases Nat.eq_zero_or_pos n with h0 | h0
      · have d0 : ((n : Int) == 0) = true := by rw [beq_iff_eq]; omega
        have hX : X = [] := List.eq_nil_of_length_eq_zero (by have := HN.out; omega)
        have q0 := (FR.out.whole B2.out (by simp)).cell 0
        have q1 := (FR.out.whole B2.out (by simp)).cell 1
        have k0 := (FR.out.whole B2.out (by simp)).free 0
        have k1 := (FR.out.whole B2.out (by simp)).free 1
        simp only [List.getElem?_toArray, List.getElem?_cons_zero, List.getElem?_cons_succ] at q0 q1
        obtain ⟨FW1, FW2⟩ := FIN.out wr ⟨0, 0⟩ FR.out
        have FW1 := Lib.hid FW1
        have FW2 := Lib.hid FW2
        have EX : Hid (endP X o = ⟨0, 0⟩) := Lib.hid (by rw [hX]; rfl)
        clear hX h0
        go_wp2
        refine bodyPost_ret (V0.out _ ⟨0, 0⟩ false _ rfl rfl FW1.out) rfl ?_
        rw [HR.out, nextR_none NO.out, EX.out]
        exact ⟨rfl, FW2.out⟩
      · obtain ⟨j, hj⟩ : ∃ j, j = n - 1 := ⟨_, rfl⟩
        have d0 : ((n : Int) == 0) = false := by rw [beq_eq_false_iff_ne]; omega
        have s1 : (n : Int) - 1 = (j : Int) := by omega
        have s2 : (j : Int) < (n : Int) := by omega
        have s3 : j < n := by omega
        have hwj : IntKind.i64.wrap (j : Int) = (j : Int) := by simp [IntKind.wrap, IntKind.bits, IntKind.signed]; omega
        obtain ⟨b, off, rfl, e0, e1, e2, _⟩ := (H.out.sub FWR.out).at (i := j) (by have := HN.out; omega)
        have EX := Lib.hid (endP_last (X := X) o (by rintro rfl; have := HN.out; simp at this; omega))
        have ell : X.getD j default = lastL X := by unfold lastL; rw [← HN.out, hj]
        rw [ell] at e0 e1 e2
        have SX := Lib.hid (HSZ.out (lastL X))
        generalize lastL X = x at EX SX e0 e1 e2
        obtain ⟨xi, xc, xn⟩ := x
        unfold Ld.val LRet at SX
        simp only at EX SX e0 e1 e2
        generalize Ld.size ⟨xi, xc, xn⟩ o = sz at EX SX
        obtain ⟨W, hW⟩ : ∃ W, W = wr.alloc (.cells #[.int .u64 (xi : Nat), .bool xc, .int .u64 (xn : Nat)] 32) := ⟨_, rfl⟩
        obtain ⟨y, hy⟩ : ∃ y, y = wr.heap.size := ⟨_, rfl⟩
        have FW : Hid (Frm [] w1 W) := Lib.hid (by rw [hW]; exact FR.out.alloc _)
        have BW : Hid (Whole W y 32 #[.int .u64 (xi : Nat), .bool xc, .int .u64 (xn : Nat)]) := Lib.hid (by rw [hW, hy]; exact Whole.made _ _ _)
        have YG : Hid (y ≠ g + 1) := Lib.hid (by
          have h1 := (FR.out.whole B2.out (by simp)).lt
          rw [hy]; omega)
        have r4 : ∀ z, Frm [g + 1] W z → z.cell? ⟨y, 0, none⟩ = some (.int .u64 (xi : Nat)) := fun z hz => (hz.whole BW.out (by simp; exact YG.out)).cell 0
        have r5 : ∀ z, Frm [g + 1] W z → z.cell? ⟨y, 1, none⟩ = some (.bool xc) := fun z hz => (hz.whole BW.out (by simp; exact YG.out)).cell 1
        have r6 : ∀ z, Frm [g + 1] W z → z.cell? ⟨y, 2, none⟩ = some (.int .u64 (xn : Nat)) := fun z hz => (hz.whole BW.out (by simp; exact YG.out)).cell 2
        have HWW := Lib.hid hW; clear hW
        have HY := Lib.hid hy; clear hy ell hj h0
        go_upto_region 10 with (fail)
        rw [← HWW.out, ← HY.out]
        refine wp_region_held_drew (S := fun w' => Frm [g + 1] W w') (by kernel_rfl) (Frm.drew (Frm.refl _ _)) (fun hHeld => ?_)
        refine wpAnyH_take (i := 0) (oi := ⟨some 41, _, _, _, _, _⟩) (v := ?_) rfl (by kernel_rfl) (by kernel_rfl) (by kernel_rfl) (fun _ _ _ h => h) (Or.inl ⟨by rfl, ?_⟩) (by assumption) ?_
        rotate_left 1
        · (intro w hSw; (try dsimp only at hSw); go_simp; all_goals with_reducible rfl)
        try simp only [Act.put, List.setIfInBounds_toArray, List.set_cons_zero, List.set_cons_succ]
        refine wpAnyH_take (i := 1) (oi := ⟨some 42, _, _, _, _, _⟩) (v := ?_) rfl (by kernel_rfl) (by kernel_rfl) (by kernel_rfl) (fun _ _ _ h => h) (Or.inl ⟨by rfl, ?_⟩) (by assumption) ?_
        rotate_left 1
        · (intro w hSw; (try dsimp only at hSw); go_simp; all_goals with_reducible rfl)
        try simp only [Act.put, List.setIfInBounds_toArray, List.set_cons_zero, List.set_cons_succ]
        refine wpAnyH_take (i := 2) (oi := ⟨some 43, _, _, _, _, _⟩) (v := ?_) rfl (by kernel_rfl) (by kernel_rfl) (by kernel_rfl) (fun _ _ _ h => h) (Or.inl ⟨by rfl, ?_⟩) (by assumption) ?_
        rotate_left 1
        · (intro w hSw; (try dsimp only at hSw); go_simp; all_goals with_reducible rfl)
        try simp only [Act.put, List.setIfInBounds_toArray, List.set_cons_zero, List.set_cons_succ]
        refine wpAnyH_take (i := 3) (oi := ⟨some 44, _, _, _, _, _⟩) (v := ?_) rfl (by kernel_rfl) (by kernel_rfl) (by kernel_rfl) (fun _ _ _ h => h) (Or.inl ⟨by rfl, ?_⟩) (by assumption) ?_
        rotate_left 1
        · (intro w hSw; (try dsimp only at hSw); go_simp; all_goals with_reducible rfl)
        try simp only [Act.put, List.setIfInBounds_toArray, List.set_cons_zero, List.set_cons_succ]
        refine wpAnyH_ready (rs := [4]) (by kernel_rfl) (by simp) ?_
        refine AllReadyH.cons (o := ⟨some 45, _, _, _, _, _⟩) rfl (fun K hK => ?_) AllReadyH.nil
        go_simp
        go_at_call 37; (with_reducible refine (SX.out _).mono ?_); rintro e w4 ⟨rfl, hf4⟩; have hHeld4 : Frm [g + 1] W w4 := hHeld.trans hf4 (by simp) (by simp); have HF4 : Hid (Frm [] W w4) := Lib.hid ((((Frm.refl [] W).drew)).trans hf4 (by simp) (by simp))
        go_wp2_with fail
        refine hK.out _ _ (by assumption) (fun hHeld => ?_)
        clear hK K
        try simp only [Act.put, List.setIfInBounds_toArray, List.set_cons_zero, List.set_cons_succ]
        refine wpAnyH_take (i := 5) (oi := ⟨some 46, _, _, _, _, _⟩) (v := ?_) rfl (by kernel_rfl) (by kernel_rfl) (by kernel_rfl) (fun _ _ _ h => h) (Or.inl ⟨by rfl, ?_⟩) (by assumption) ?_
        rotate_left 1
        · (intro w hSw; (try dsimp only at hSw); go_simp; all_goals with_reducible rfl)
        try simp only [Act.put, List.setIfInBounds_toArray, List.set_cons_zero, List.set_cons_succ]
        have F4 : Hid (Frm [] w1 w4) := Lib.hid (FW.out.trans HF4.out (by simp) (by simp))
        have q0 := (F4.out.whole B2.out (by simp)).cell 0
        have q1 := (F4.out.whole B2.out (by simp)).cell 1
        have k0 := (F4.out.whole B2.out (by simp)).free 0
        have k1 := (F4.out.whole B2.out (by simp)).free 1
        simp only [List.getElem?_toArray, List.getElem?_cons_zero, List.getElem?_cons_succ] at q0 q1
        obtain ⟨FW1, FW2⟩ := FIN.out w4 ⟨xi, sz⟩ F4.out
        have FW1 := Lib.hid FW1
        have FW2 := Lib.hid FW2
        refine wpAnyH_ready (rs := [6]) (by kernel_rfl) (by simp) ?_
        refine AllReadyH.cons (o := ⟨none, _, _, _, _, _⟩) rfl (fun K hK => ?_) AllReadyH.nil
        go_simp
        refine hK.out _ _ ((hHeld.setCell (.inl (by simp)) _).setCell (.inl (by simp)) _) (fun hHeld => ?_)
        clear hK K
        refine wpAnyH_take (i := 7) (oi := ⟨some 7, _, _, _, _, _⟩) (v := ?_) rfl (by kernel_rfl) (by kernel_rfl) (by kernel_rfl) (fun _ _ _ h => h) (Or.inl ⟨by rfl, ?_⟩) (by assumption) ?_
        rotate_left 1
        · (intro w hSw; (try dsimp only at hSw); go_simp; all_goals with_reducible rfl)
        try simp only [Act.put, List.setIfInBounds_toArray, List.set_cons_zero, List.set_cons_succ]
        refine wpAnyH_done (by kernel_rfl) ?_ _
        clear r4 r5 r6 q0 q1 k0 k1
        go_wp2
        refine bodyPost_ret (V0.out _ ⟨xi, sz⟩ false _ rfl rfl FW1.out) rfl ?_
        rw [HR.out, nextR_none NO.out, EX.out]
        exact ⟨rfl, FW2.out⟩
set_option maxHeartbeats 1000000 in
theorem rlhas_any (a : Option Addr) (n cap : Nat) (X : List Ld) (o : Nat) (p : Ps) (w : World) (h : LdL w [] a X) (hn : n = X.length) (hsz : n < 4611686018427387904) (ht : tot X o ≤ 100000) :
    Calls Try.prog 22 #[.slice a n cap, .int .u64 (o : Nat), p.val] w (LRet w (.bool (hasP X o p))) := by
  have HNX := Lib.hid (fun z (hz : Frm [] w z) => rlnext_any a n cap X o p z (h.sub hz) hn hsz ht)
  rw [← nextV_has]
  unfold nextR at HNX
  generalize nextV X o p = v at HNX ⊢
  obtain ⟨d, hd⟩ : ∃ d, d = decide (v.1 = p) := ⟨_, rfl⟩
  rw [← hd]
  have HD := Lib.hid hd; clear hd
  obtain ⟨⟨ql, qe⟩, b⟩ := v
  obtain ⟨pl, pe⟩ := p
  clear h hn ht
  unfold LRet at HNX
  unfold Ps.val at HNX
  unfold Ps.val LRet
  simp only at HNX ⊢
  obtain ⟨g, hg⟩ : ∃ g, g = w.heap.size := ⟨_, rfl⟩
  obtain ⟨w1, hw1⟩ : ∃ w1, w1 = w.alloc (.cells #[.int .u64 (pl : Nat), .int .u64 (pe : Nat)] 36) := ⟨_, rfl⟩
  have F1 : Hid (Frm [] w w1) := Lib.hid (by rw [hw1]; exact (Frm.refl _ _).alloc _)
  have B1 : Hid (Whole w1 g 36 #[.int .u64 (pl : Nat), .int .u64 (pe : Nat)]) := Lib.hid (by rw [hw1, hg]; exact Whole.made _ _ _)
  have p0 := B1.out.cell 0
  have p1 := B1.out.cell 1
  simp at p0 p1
  have HG := Lib.hid hg
  have HW1 := Lib.hid hw1
  go_enter Try.func22, Try.ntmps22
  go_upto_region 1 with (fail)
  rw [← hw1, ← hg]
  clear hg hw1
  go_wp2_with fail
  (with_reducible refine (HNX.out _ F1.out).mono ?_)
  rintro e w2 ⟨rfl, hf2⟩
  have G2 : Hid (Frm [] w w2) := Lib.hid (F1.out.trans hf2 (by simp) (by simp))
  have bb := hf2.whole B1.out (by simp)
  have BB : Hid (Whole (w2.alloc (.cells #[.int .u64 (ql : Nat), .int .u64 (qe : Nat)] 36)) g 36 #[.int .u64 (pl : Nat), .int .u64 (pe : Nat)]) := Lib.hid (bb.alloc _)
  have FF : Hid (Frm [] w (w2.alloc (.cells #[.int .u64 (ql : Nat), .int .u64 (qe : Nat)] 36))) := Lib.hid (G2.out.alloc _)
  have q0 := BB.out.cell 0
  have q1 := BB.out.cell 1
  simp only [List.getElem?_toArray, List.getElem?_cons_zero, List.getElem?_cons_succ] at q0 q1
  have ee : ∀ w : World, (binOp .eql 36 (.agg #[.int .u64 (ql : Nat), .int .u64 (qe : Nat)]) (.agg #[.int .u64 (pl : Nat), .int .u64 (pe : Nat)])).run Try.prog w = .ok (.bool d) w := fun w => by rw [HD.out]; exact eql_ps ql qe pl pe w
  clear p0 p1 bb hf2 HNX
  cases b
  all_goals
    go_wp2
    go_ret
    exact ⟨by simp, FF.out⟩
theorem count_take {L : List Ps} {P : Ps → Bool} {k : Nat} (hk : k < L.length) : (L.take (k + 1)).countP P = (L.take k).countP P + (if P (L.getD k default) = true then 1 else 0) := by
  have e : L.getD k default = L[k] := by simp [hk]
  rw [e, List.take_succ_eq_append_getElem hk, List.countP_append, List.countP_singleton]
set_option maxHeartbeats 8000000 in
theorem rlbetween_any (a : Option Addr) (n cap : Nat) (X : List Ld) (o : Nat) (p q : Ps) (w : World) (h : LdL w [] a X) (hn : n = X.length) (hsz : n < 4611686018427387904) (ht : tot X o ≤ 100000) :
    Calls Try.prog 24 #[.slice a n cap, .int .u64 (o : Nat), p.val, q.val] w (LRet w (.int .u64 (btw X o p q : Nat))) := by
  have HAL := Lib.hid (fun z (hz : Frm [] w z) => rlall_any a n cap X o z (h.sub hz) hn hsz ht)
  have HO1 := Lib.hid (fun (x : Ps) z => rlorder_any x p z)
  have HO2 := Lib.hid (fun (x : Ps) z => rlorder_any x q z)
  have LEN := Lib.hid (allP_length X o)
  have CNT := Lib.hid (btw_count X o p q)
  obtain ⟨L, hL⟩ : ∃ L, L = allP X o := ⟨_, rfl⟩
  obtain ⟨M, hM⟩ : ∃ M, M = tot X o := ⟨_, rfl⟩
  rw [← hL, ← hM] at HAL LEN
  rw [← hL] at CNT
  have hM16 : M ≤ 100000 := by omega
  obtain ⟨ct, hct⟩ : ∃ ct : Nat → Nat, ct = fun k => (L.take k).countP (fun r => decide (¬ r.lt p ∧ r.lt q)) := ⟨_, rfl⟩
  have C0 : Hid (ct 0 = 0) := Lib.hid (by rw [hct]; simp)
  have CN : Hid (ct M = btw X o p q) := Lib.hid (by rw [hct, ← CNT.out, ← LEN.out]; show (L.take L.length).countP _ = _; rw [List.take_length])
  have CS : Hid (∀ k, k < M → ct (k + 1) = ct k + (if ¬ (L.getD k default).lt p ∧ (L.getD k default).lt q then 1 else 0)) := Lib.hid (fun k hk => by
    rw [hct]
    show (L.take (k + 1)).countP _ = _
    rw [count_take (by have := LEN.out; omega)]
    simp only [decide_eq_true_iff])
  have CB : Hid (∀ k, ct k ≤ k) := Lib.hid (fun k => by
    rw [hct]
    exact Nat.le_trans List.countP_le_length (by rw [List.length_take]; exact Nat.min_le_left _ _))
  obtain ⟨w1, hw1⟩ : ∃ w1, w1 = (w.alloc (.cells #[.int .u64 (p.l : Nat), .int .u64 (p.e : Nat)] 36)).alloc (.cells #[.int .u64 (q.l : Nat), .int .u64 (q.e : Nat)] 36) := ⟨_, rfl⟩
  have F1 : Hid (Frm [] w w1) := Lib.hid (by rw [hw1]; exact ((Frm.refl _ _).alloc _).alloc _)
  obtain ⟨g, hg⟩ : ∃ g, g = w.heap.size := ⟨_, rfl⟩
  have B1 : Hid (Whole w1 g 36 #[.int .u64 (p.l : Nat), .int .u64 (p.e : Nat)]) := Lib.hid (by rw [hw1, hg]; exact (Whole.made _ _ _).alloc _)
  have B2 : Hid (Whole w1 (g + 1) 36 #[.int .u64 (q.l : Nat), .int .u64 (q.e : Nat)]) := Lib.hid (by
    rw [hw1, hg]
    have := Whole.made (w.alloc (.cells #[.int .u64 (p.l : Nat), .int .u64 (p.e : Nat)] 36)) 36 #[.int .u64 (q.l : Nat), .int .u64 (q.e : Nat)]
    rwa [World.size_alloc] at this)
  clear h hn ht hL hM hct CNT
  obtain ⟨B, hB⟩ : ∃ B, B = btw X o p q := ⟨_, rfl⟩
  rw [← hB] at CN ⊢
  clear hB
  obtain ⟨R, hR⟩ : ∃ R, R = LRet w (.int .u64 (B : Nat)) := ⟨_, rfl⟩
  rw [← hR]
  have HR := Lib.hid hR; clear hR
  obtain ⟨pl, pe⟩ := p
  obtain ⟨ql, qe⟩ := q
  unfold Ps.val at HO1 HO2
  unfold Ps.val
  simp only at hw1 B1 B2 HO1 HO2 ⊢
  have HW1 := Lib.hid hw1; clear hw1
  go_enter Try.func24, Try.ntmps24
  go_wp2_with fail
  rw [← HW1.out, ← hg]
  have HG := Lib.hid hg; clear hg
  (with_reducible refine (HAL.out _ F1.out).mono ?_)
  rintro e w2 ⟨a2, c2, rfl, ho2, hf2⟩
  have F2 := Lib.hid hf2
  have L2 : Hid (PsL w2 [] a2 L) := Lib.hid ho2.sl
  clear hf2 ho2 HAL
  go_wp2
  go_loopw [10, 11] (fun s10 s11 wr => ∃ k : Nat, k ≤ M ∧ s11 = .int .i64 (k : Nat) ∧ s10 = .int .u64 (ct k : Nat) ∧ Hid (Frm [] w2 wr)) (fun _ s11 _ => M - (intOf s11).toNat)
  case atStart => exact ⟨0, Nat.zero_le _, rfl, by rw [C0.out]; rfl, Lib.hid (Frm.refl _ _)⟩
  case round =>
    obtain ⟨k, hk, rfl, rfl, HF⟩ := hrel
    have FR : Hid (Frm [] w1 wr) := Lib.hid (F2.out.trans HF.out (by simp) (by simp))
    by_cases hlt : k < M
    · have hlt' : (k : Int) < (M : Int) := by omega
      obtain ⟨b, off, rfl, d0, d1, _⟩ := (L2.out.sub HF.out).at (i := k) (by have := LEN.out; omega)
      have b1 := FR.out.whole B1.out (by simp)
      have b2 := FR.out.whole B2.out (by simp)
      have r0 : ∀ z, Frm [] wr z → z.cell? ⟨g, 0, none⟩ = some (.int .u64 (pl : Nat)) := fun z hz => (hz.whole b1 (by simp)).cell 0
      have r1 : ∀ z, Frm [] wr z → z.cell? ⟨g, 1, none⟩ = some (.int .u64 (pe : Nat)) := fun z hz => (hz.whole b1 (by simp)).cell 1
      have r2 : ∀ z, Frm [] wr z → z.cell? ⟨g + 1, 0, none⟩ = some (.int .u64 (ql : Nat)) := fun z hz => (hz.whole b2 (by simp)).cell 0
      have r3 : ∀ z, Frm [] wr z → z.cell? ⟨g + 1, 1, none⟩ = some (.int .u64 (qe : Nat)) := fun z hz => (hz.whole b2 (by simp)).cell 1
      have cs := CS.out k hlt
      have cb := CB.out k
      obtain ⟨x, hx⟩ : ∃ x, x = L.getD k default := ⟨_, rfl⟩
      rw [← hx] at d0 d1 cs
      have OR1 := Lib.hid (HO1.out x)
      have OR2 := Lib.hid (HO2.out x)
      obtain ⟨e1, he1⟩ : ∃ e1, e1 = ordP x ⟨pl, pe⟩ := ⟨_, rfl⟩
      obtain ⟨e2, he2⟩ : ∃ e2, e2 = ordP x ⟨ql, qe⟩ := ⟨_, rfl⟩
      rw [← he1] at OR1
      rw [← he2] at OR2
      have I1 : (0 ≤ e1 ↔ ¬ x.lt ⟨pl, pe⟩) := by rw [he1]; exact ordP_ge
      have I2 : (e2 < 0 ↔ x.lt ⟨ql, qe⟩) := by rw [he2]; exact ordP_neg
      obtain ⟨t2, ht2⟩ : ∃ t2, t2 = ct (k + 1) := ⟨_, rfl⟩
      obtain ⟨t1, ht1⟩ : ∃ t1, t1 = ct k := ⟨_, rfl⟩
      rw [← ht2, ← ht1] at cs
      have csy : 0 ≤ e1 → e2 < 0 → t2 = t1 + 1 := fun h1 h2 => by rw [if_pos ⟨I1.1 h1, I2.1 h2⟩] at cs; exact cs
      have csn : ¬ (0 ≤ e1 ∧ e2 < 0) → t2 = t1 := fun h => by rw [if_neg (fun h2 => h ⟨I1.2 h2.1, I2.2 h2.2⟩)] at cs; exact cs
      rw [← ht1] at cb ⊢
      have HT2 := Lib.hid ht2
      clear hx he1 he2 I1 I2 ht2 ht1 b1 b2 cs
      obtain ⟨xl, xe⟩ := x
      unfold LRet at OR1 OR2
      simp only at d0 d1 OR1 OR2
      have c0 : ∀ z, Frm [] wr z → z.cell? ⟨b, off + k * 2, none⟩ = some (.int .u64 (xl : Nat)) := fun z hz => (hz.cell (p := ⟨b, off + k * 2, none⟩) (block_lt_of_cell d0) (by simp)).trans d0
      have c1 : ∀ z, Frm [] wr z → z.cell? ⟨b, off + k * 2 + 1, none⟩ = some (.int .u64 (xe : Nat)) := fun z hz => (hz.cell (p := ⟨b, off + k * 2 + 1, none⟩) (block_lt_of_cell d1) (by simp)).trans d1
      clear d0 d1
      by_cases h1 : 0 ≤ e1
      · have d1 : decide (0 ≤ e1) = true := decide_eq_true h1
        by_cases h2 : e2 < 0
        · have d2 : decide (e2 < 0) = true := decide_eq_true h2
          have cs := csy h1 h2
          have hw1 : IntKind.u64.wrap ((t1 : Int) + 1) = (t2 : Int) := by simp [IntKind.wrap, IntKind.bits, IntKind.signed]; omega
          have hw2 : (t1 : Int) + 1 = (t2 : Int) := by omega
          have hw3 : IntKind.u64.wrap (t2 : Int) = (t2 : Int) := by simp [IntKind.wrap, IntKind.bits, IntKind.signed]; omega
          clear cs cb h1 h2 csy csn
          go_wp2
          refine wp_region_held_drew (S := fun w' => Frm [] wr w') (by kernel_rfl) (Frm.drew (Frm.refl _ _)) (fun hHeld => ?_)
          refine wpAnyH_take (i := 0) (oi := ⟨some 21, _, _, _, _, _⟩) (v := ?_) rfl (by kernel_rfl) (by kernel_rfl) (by kernel_rfl) (fun _ _ _ h => h) (Or.inl ⟨by rfl, ?_⟩) (by assumption) ?_
          rotate_left 1
          · (intro w hSw; (try dsimp only at hSw); go_simp; all_goals with_reducible rfl)
          try simp only [Act.put, List.setIfInBounds_toArray, List.set_cons_zero, List.set_cons_succ]
          refine wpAnyH_take (i := 1) (oi := ⟨some 22, _, _, _, _, _⟩) (v := ?_) rfl (by kernel_rfl) (by kernel_rfl) (by kernel_rfl) (fun _ _ _ h => h) (Or.inl ⟨by rfl, ?_⟩) (by assumption) ?_
          rotate_left 1
          · (intro w hSw; (try dsimp only at hSw); go_simp; all_goals with_reducible rfl)
          try simp only [Act.put, List.setIfInBounds_toArray, List.set_cons_zero, List.set_cons_succ]
          refine wpAnyH_take (i := 2) (oi := ⟨some 23, _, _, _, _, _⟩) (v := ?_) rfl (by kernel_rfl) (by kernel_rfl) (by kernel_rfl) (fun _ _ _ h => h) (Or.inl ⟨by rfl, ?_⟩) (by assumption) ?_
          rotate_left 1
          · (intro w hSw; (try dsimp only at hSw); go_simp; all_goals with_reducible rfl)
          try simp only [Act.put, List.setIfInBounds_toArray, List.set_cons_zero, List.set_cons_succ]
          refine wpAnyH_take (i := 3) (oi := ⟨some 24, _, _, _, _, _⟩) (v := ?_) rfl (by kernel_rfl) (by kernel_rfl) (by kernel_rfl) (fun _ _ _ h => h) (Or.inl ⟨by rfl, ?_⟩) (by assumption) ?_
          rotate_left 1
          · (intro w hSw; (try dsimp only at hSw); go_simp; all_goals with_reducible rfl)
          try simp only [Act.put, List.setIfInBounds_toArray, List.set_cons_zero, List.set_cons_succ]
          refine wpAnyH_take (i := 4) (oi := ⟨some 25, _, _, _, _, _⟩) (v := ?_) rfl (by kernel_rfl) (by kernel_rfl) (by kernel_rfl) (fun _ _ _ h => h) (Or.inl ⟨by rfl, ?_⟩) (by assumption) ?_
          rotate_left 1
          · (intro w hSw; (try dsimp only at hSw); go_simp; all_goals with_reducible rfl)
          try simp only [Act.put, List.setIfInBounds_toArray, List.set_cons_zero, List.set_cons_succ]
          refine wpAnyH_ready (rs := [5]) (by kernel_rfl) (by simp) ?_
          refine AllReadyH.cons (o := ⟨some 26, _, _, _, _, _⟩) rfl (fun K hK => ?_) AllReadyH.nil
          go_simp
          go_at_call 20; (with_reducible refine (OR1.out _).mono ?_); rintro e w3 ⟨rfl, hf3⟩; have hHeld3 : Frm [] wr w3 := hHeld.trans hf3 (by simp) (by simp)
          go_wp2_with fail
          refine hK.out _ _ (by assumption) (fun hHeld => ?_)
          clear hK K
          try simp only [Act.put, List.setIfInBounds_toArray, List.set_cons_zero, List.set_cons_succ]
          refine wpAnyH_take (i := 6) (oi := ⟨some 27, _, _, _, _, _⟩) (v := ?_) rfl (by kernel_rfl) (by kernel_rfl) (by kernel_rfl) (fun _ _ _ h => h) (Or.inl ⟨by rfl, ?_⟩) (by assumption) ?_
          rotate_left 1
          · (intro w hSw; (try dsimp only at hSw); go_simp; all_goals with_reducible rfl)
          try simp only [Act.put, List.setIfInBounds_toArray, List.set_cons_zero, List.set_cons_succ]
          refine wpAnyH_take (i := 7) (oi := ⟨some 28, _, _, _, _, _⟩) (v := ?_) rfl (by kernel_rfl) (by kernel_rfl) (by kernel_rfl) (fun _ _ _ h => h) (Or.inl ⟨by rfl, ?_⟩) (by assumption) ?_
          rotate_left 1
          · (intro w hSw; (try dsimp only at hSw); go_simp; all_goals with_reducible rfl)
          try simp only [Act.put, List.setIfInBounds_toArray, List.set_cons_zero, List.set_cons_succ]
          refine wpAnyH_take (i := 8) (oi := ⟨some 29, _, _, _, _, _⟩) (v := ?_) rfl (by kernel_rfl) (by kernel_rfl) (by kernel_rfl) (fun _ _ _ h => h) (Or.inl ⟨by rfl, ?_⟩) (by assumption) ?_
          rotate_left 1
          · (intro w hSw; (try dsimp only at hSw); go_simp; all_goals with_reducible rfl)
          try simp only [Act.put, List.setIfInBounds_toArray, List.set_cons_zero, List.set_cons_succ]
          refine wpAnyH_take (i := 9) (oi := ⟨some 30, _, _, _, _, _⟩) (v := ?_) rfl (by kernel_rfl) (by kernel_rfl) (by kernel_rfl) (fun _ _ _ h => h) (Or.inl ⟨by rfl, ?_⟩) (by assumption) ?_
          rotate_left 1
          · (intro w hSw; (try dsimp only at hSw); go_simp; all_goals with_reducible rfl)
          try simp only [Act.put, List.setIfInBounds_toArray, List.set_cons_zero, List.set_cons_succ]
          refine wpAnyH_take (i := 10) (oi := ⟨some 31, _, _, _, _, _⟩) (v := ?_) rfl (by kernel_rfl) (by kernel_rfl) (by kernel_rfl) (fun _ _ _ h => h) (Or.inl ⟨by rfl, ?_⟩) (by assumption) ?_
          rotate_left 1
          · (intro w hSw; (try dsimp only at hSw); go_simp; all_goals with_reducible rfl)
          try simp only [Act.put, List.setIfInBounds_toArray, List.set_cons_zero, List.set_cons_succ]
          refine wpAnyH_take (i := 11) (oi := ⟨some 32, _, _, _, _, _⟩) (v := ?_) rfl (by kernel_rfl) (by kernel_rfl) (by kernel_rfl) (fun _ _ _ h => h) (Or.inl ⟨by rfl, ?_⟩) (by assumption) ?_
          rotate_left 1
          · (intro w hSw; (try dsimp only at hSw); go_simp; all_goals with_reducible rfl)
          try simp only [Act.put, List.setIfInBounds_toArray, List.set_cons_zero, List.set_cons_succ]
          refine wpAnyH_take (i := 12) (oi := ⟨some 33, _, _, _, _, _⟩) (v := ?_) rfl (by kernel_rfl) (by kernel_rfl) (by kernel_rfl) (fun _ _ _ h => h) (Or.inl ⟨by rfl, ?_⟩) (by assumption) ?_
          rotate_left 1
          · (intro w hSw; (try dsimp only at hSw); go_simp; all_goals with_reducible rfl)
          try simp only [Act.put, List.setIfInBounds_toArray, List.set_cons_zero, List.set_cons_succ]
          refine wpAnyH_ready (rs := [13]) (by kernel_rfl) (by simp) ?_
          refine AllReadyH.cons (o := ⟨some 34, _, _, _, _, _⟩) rfl (fun K hK => ?_) AllReadyH.nil
          go_simp
          go_at_call 20; (with_reducible refine (OR2.out _).mono ?_); rintro e w4 ⟨rfl, hf4⟩; have hHeld4 : Frm [] wr w4 := hHeld.trans hf4 (by simp) (by simp)
          go_wp2_with fail
          refine hK.out _ _ (by assumption) (fun hHeld => ?_)
          clear hK K
          try simp only [Act.put, List.setIfInBounds_toArray, List.set_cons_zero, List.set_cons_succ]
          refine wpAnyH_take (i := 14) (oi := ⟨some 35, _, _, _, _, _⟩) (v := ?_) rfl (by kernel_rfl) (by kernel_rfl) (by kernel_rfl) (fun _ _ _ h => h) (Or.inl ⟨by rfl, ?_⟩) (by assumption) ?_
          rotate_left 1
          · (intro w hSw; (try dsimp only at hSw); go_simp; all_goals with_reducible rfl)
          try simp only [Act.put, List.setIfInBounds_toArray, List.set_cons_zero, List.set_cons_succ]
          refine wpAnyH_take (i := 15) (oi := ⟨some 36, _, _, _, _, _⟩) (v := ?_) rfl (by kernel_rfl) (by kernel_rfl) (by kernel_rfl) (fun _ _ _ h => h) (Or.inl ⟨by rfl, ?_⟩) (by assumption) ?_
          rotate_left 1
          · (intro w hSw; (try dsimp only at hSw); go_simp; all_goals with_reducible rfl)
          try simp only [Act.put, List.setIfInBounds_toArray, List.set_cons_zero, List.set_cons_succ]
          refine wpAnyH_done (by kernel_rfl) ?_ _
          have FX : Hid (Frm [] w2 _) := Lib.hid (HF.out.trans hHeld (by simp) (by simp))
          clear r0 r1 r2 r3 c0 c1 hHeld
          go_wp2
          go_roundw
          case rel => exact ⟨k + 1, by omega, by go_num, by rw [HT2.out], FX⟩
          case measure => simp [intOf]; omega
        · have d2 : decide (e2 < 0) = false := decide_eq_false h2
          have cs := csn (fun h => h2 h.2)
          have T12 : Hid (t1 = ct (k + 1)) := Lib.hid (by rw [← HT2.out]; omega)
          clear cs cb h1 h2 csy csn
          go_wp2
          refine wp_region_held_drew (S := fun w' => Frm [] wr w') (by kernel_rfl) (Frm.drew (Frm.refl _ _)) (fun hHeld => ?_)
          refine wpAnyH_take (i := 0) (oi := ⟨some 21, _, _, _, _, _⟩) (v := ?_) rfl (by kernel_rfl) (by kernel_rfl) (by kernel_rfl) (fun _ _ _ h => h) (Or.inl ⟨by rfl, ?_⟩) (by assumption) ?_
          rotate_left 1
          · (intro w hSw; (try dsimp only at hSw); go_simp; all_goals with_reducible rfl)
          try simp only [Act.put, List.setIfInBounds_toArray, List.set_cons_zero, List.set_cons_succ]
          refine wpAnyH_take (i := 1) (oi := ⟨some 22, _, _, _, _, _⟩) (v := ?_) rfl (by kernel_rfl) (by kernel_rfl) (by kernel_rfl) (fun _ _ _ h => h) (Or.inl ⟨by rfl, ?_⟩) (by assumption) ?_
          rotate_left 1
          · (intro w hSw; (try dsimp only at hSw); go_simp; all_goals with_reducible rfl)
          try simp only [Act.put, List.setIfInBounds_toArray, List.set_cons_zero, List.set_cons_succ]
          refine wpAnyH_take (i := 2) (oi := ⟨some 23, _, _, _, _, _⟩) (v := ?_) rfl (by kernel_rfl) (by kernel_rfl) (by kernel_rfl) (fun _ _ _ h => h) (Or.inl ⟨by rfl, ?_⟩) (by assumption) ?_
          rotate_left 1
          · (intro w hSw; (try dsimp only at hSw); go_simp; all_goals with_reducible rfl)
          try simp only [Act.put, List.setIfInBounds_toArray, List.set_cons_zero, List.set_cons_succ]
          refine wpAnyH_take (i := 3) (oi := ⟨some 24, _, _, _, _, _⟩) (v := ?_) rfl (by kernel_rfl) (by kernel_rfl) (by kernel_rfl) (fun _ _ _ h => h) (Or.inl ⟨by rfl, ?_⟩) (by assumption) ?_
          rotate_left 1
          · (intro w hSw; (try dsimp only at hSw); go_simp; all_goals with_reducible rfl)
          try simp only [Act.put, List.setIfInBounds_toArray, List.set_cons_zero, List.set_cons_succ]
          refine wpAnyH_take (i := 4) (oi := ⟨some 25, _, _, _, _, _⟩) (v := ?_) rfl (by kernel_rfl) (by kernel_rfl) (by kernel_rfl) (fun _ _ _ h => h) (Or.inl ⟨by rfl, ?_⟩) (by assumption) ?_
          rotate_left 1
          · (intro w hSw; (try dsimp only at hSw); go_simp; all_goals with_reducible rfl)
          try simp only [Act.put, List.setIfInBounds_toArray, List.set_cons_zero, List.set_cons_succ]
          refine wpAnyH_ready (rs := [5]) (by kernel_rfl) (by simp) ?_
          refine AllReadyH.cons (o := ⟨some 26, _, _, _, _, _⟩) rfl (fun K hK => ?_) AllReadyH.nil
          go_simp
          go_at_call 20; (with_reducible refine (OR1.out _).mono ?_); rintro e w3 ⟨rfl, hf3⟩; have hHeld3 : Frm [] wr w3 := hHeld.trans hf3 (by simp) (by simp)
          go_wp2_with fail
          refine hK.out _ _ (by assumption) (fun hHeld => ?_)
          clear hK K
          try simp only [Act.put, List.setIfInBounds_toArray, List.set_cons_zero, List.set_cons_succ]
          refine wpAnyH_take (i := 6) (oi := ⟨some 27, _, _, _, _, _⟩) (v := ?_) rfl (by kernel_rfl) (by kernel_rfl) (by kernel_rfl) (fun _ _ _ h => h) (Or.inl ⟨by rfl, ?_⟩) (by assumption) ?_
          rotate_left 1
          · (intro w hSw; (try dsimp only at hSw); go_simp; all_goals with_reducible rfl)
          try simp only [Act.put, List.setIfInBounds_toArray, List.set_cons_zero, List.set_cons_succ]
          refine wpAnyH_take (i := 7) (oi := ⟨some 28, _, _, _, _, _⟩) (v := ?_) rfl (by kernel_rfl) (by kernel_rfl) (by kernel_rfl) (fun _ _ _ h => h) (Or.inl ⟨by rfl, ?_⟩) (by assumption) ?_
          rotate_left 1
          · (intro w hSw; (try dsimp only at hSw); go_simp; all_goals with_reducible rfl)
          try simp only [Act.put, List.setIfInBounds_toArray, List.set_cons_zero, List.set_cons_succ]
          refine wpAnyH_take (i := 8) (oi := ⟨some 29, _, _, _, _, _⟩) (v := ?_) rfl (by kernel_rfl) (by kernel_rfl) (by kernel_rfl) (fun _ _ _ h => h) (Or.inl ⟨by rfl, ?_⟩) (by assumption) ?_
          rotate_left 1
          · (intro w hSw; (try dsimp only at hSw); go_simp; all_goals with_reducible rfl)
          try simp only [Act.put, List.setIfInBounds_toArray, List.set_cons_zero, List.set_cons_succ]
          refine wpAnyH_take (i := 9) (oi := ⟨some 30, _, _, _, _, _⟩) (v := ?_) rfl (by kernel_rfl) (by kernel_rfl) (by kernel_rfl) (fun _ _ _ h => h) (Or.inl ⟨by rfl, ?_⟩) (by assumption) ?_
          rotate_left 1
          · (intro w hSw; (try dsimp only at hSw); go_simp; all_goals with_reducible rfl)
          try simp only [Act.put, List.setIfInBounds_toArray, List.set_cons_zero, List.set_cons_succ]
          refine wpAnyH_take (i := 10) (oi := ⟨some 31, _, _, _, _, _⟩) (v := ?_) rfl (by kernel_rfl) (by kernel_rfl) (by kernel_rfl) (fun _ _ _ h => h) (Or.inl ⟨by rfl, ?_⟩) (by assumption) ?_
          rotate_left 1
          · (intro w hSw; (try dsimp only at hSw); go_simp; all_goals with_reducible rfl)
          try simp only [Act.put, List.setIfInBounds_toArray, List.set_cons_zero, List.set_cons_succ]
          refine wpAnyH_take (i := 11) (oi := ⟨some 32, _, _, _, _, _⟩) (v := ?_) rfl (by kernel_rfl) (by kernel_rfl) (by kernel_rfl) (fun _ _ _ h => h) (Or.inl ⟨by rfl, ?_⟩) (by assumption) ?_
          rotate_left 1
          · (intro w hSw; (try dsimp only at hSw); go_simp; all_goals with_reducible rfl)
          try simp only [Act.put, List.setIfInBounds_toArray, List.set_cons_zero, List.set_cons_succ]
          refine wpAnyH_take (i := 12) (oi := ⟨some 33, _, _, _, _, _⟩) (v := ?_) rfl (by kernel_rfl) (by kernel_rfl) (by kernel_rfl) (fun _ _ _ h => h) (Or.inl ⟨by rfl, ?_⟩) (by assumption) ?_
          rotate_left 1
          · (intro w hSw; (try dsimp only at hSw); go_simp; all_goals with_reducible rfl)
          try simp only [Act.put, List.setIfInBounds_toArray, List.set_cons_zero, List.set_cons_succ]
          refine wpAnyH_ready (rs := [13]) (by kernel_rfl) (by simp) ?_
          refine AllReadyH.cons (o := ⟨some 34, _, _, _, _, _⟩) rfl (fun K hK => ?_) AllReadyH.nil
          go_simp
          go_at_call 20; (with_reducible refine (OR2.out _).mono ?_); rintro e w4 ⟨rfl, hf4⟩; have hHeld4 : Frm [] wr w4 := hHeld.trans hf4 (by simp) (by simp)
          go_wp2_with fail
          refine hK.out _ _ (by assumption) (fun hHeld => ?_)
          clear hK K
          try simp only [Act.put, List.setIfInBounds_toArray, List.set_cons_zero, List.set_cons_succ]
          refine wpAnyH_take (i := 14) (oi := ⟨some 35, _, _, _, _, _⟩) (v := ?_) rfl (by kernel_rfl) (by kernel_rfl) (by kernel_rfl) (fun _ _ _ h => h) (Or.inl ⟨by rfl, ?_⟩) (by assumption) ?_
          rotate_left 1
          · (intro w hSw; (try dsimp only at hSw); go_simp; all_goals with_reducible rfl)
          try simp only [Act.put, List.setIfInBounds_toArray, List.set_cons_zero, List.set_cons_succ]
          refine wpAnyH_take (i := 15) (oi := ⟨some 36, _, _, _, _, _⟩) (v := ?_) rfl (by kernel_rfl) (by kernel_rfl) (by kernel_rfl) (fun _ _ _ h => h) (Or.inl ⟨by rfl, ?_⟩) (by assumption) ?_
          rotate_left 1
          · (intro w hSw; (try dsimp only at hSw); go_simp; all_goals with_reducible rfl)
          try simp only [Act.put, List.setIfInBounds_toArray, List.set_cons_zero, List.set_cons_succ]
          refine wpAnyH_done (by kernel_rfl) ?_ _
          have FX : Hid (Frm [] w2 _) := Lib.hid (HF.out.trans hHeld (by simp) (by simp))
          clear r0 r1 r2 r3 c0 c1 hHeld
          go_wp2
          go_roundw
          case rel => exact ⟨k + 1, by omega, by go_num, by rw [T12.out], FX⟩
          case measure => simp [intOf]; omega
      · have d1 : decide (0 ≤ e1) = false := decide_eq_false h1
        have cs := csn (fun h => h1 h.1)
        have T12 : Hid (t1 = ct (k + 1)) := Lib.hid (by rw [← HT2.out]; omega)
        clear cs cb h1 csy csn
        go_wp2
        refine wp_region_held_drew (S := fun w' => Frm [] wr w') (by kernel_rfl) (Frm.drew (Frm.refl _ _)) (fun hHeld => ?_)
        refine wpAnyH_take (i := 0) (oi := ⟨some 21, _, _, _, _, _⟩) (v := ?_) rfl (by kernel_rfl) (by kernel_rfl) (by kernel_rfl) (fun _ _ _ h => h) (Or.inl ⟨by rfl, ?_⟩) (by assumption) ?_
        rotate_left 1
        · (intro w hSw; (try dsimp only at hSw); go_simp; all_goals with_reducible rfl)
        try simp only [Act.put, List.setIfInBounds_toArray, List.set_cons_zero, List.set_cons_succ]
        refine wpAnyH_take (i := 1) (oi := ⟨some 22, _, _, _, _, _⟩) (v := ?_) rfl (by kernel_rfl) (by kernel_rfl) (by kernel_rfl) (fun _ _ _ h => h) (Or.inl ⟨by rfl, ?_⟩) (by assumption) ?_
        rotate_left 1
        · (intro w hSw; (try dsimp only at hSw); go_simp; all_goals with_reducible rfl)
        try simp only [Act.put, List.setIfInBounds_toArray, List.set_cons_zero, List.set_cons_succ]
        refine wpAnyH_take (i := 2) (oi := ⟨some 23, _, _, _, _, _⟩) (v := ?_) rfl (by kernel_rfl) (by kernel_rfl) (by kernel_rfl) (fun _ _ _ h => h) (Or.inl ⟨by rfl, ?_⟩) (by assumption) ?_
        rotate_left 1
        · (intro w hSw; (try dsimp only at hSw); go_simp; all_goals with_reducible rfl)
        try simp only [Act.put, List.setIfInBounds_toArray, List.set_cons_zero, List.set_cons_succ]
        refine wpAnyH_take (i := 3) (oi := ⟨some 24, _, _, _, _, _⟩) (v := ?_) rfl (by kernel_rfl) (by kernel_rfl) (by kernel_rfl) (fun _ _ _ h => h) (Or.inl ⟨by rfl, ?_⟩) (by assumption) ?_
        rotate_left 1
        · (intro w hSw; (try dsimp only at hSw); go_simp; all_goals with_reducible rfl)
        try simp only [Act.put, List.setIfInBounds_toArray, List.set_cons_zero, List.set_cons_succ]
        refine wpAnyH_take (i := 4) (oi := ⟨some 25, _, _, _, _, _⟩) (v := ?_) rfl (by kernel_rfl) (by kernel_rfl) (by kernel_rfl) (fun _ _ _ h => h) (Or.inl ⟨by rfl, ?_⟩) (by assumption) ?_
        rotate_left 1
        · (intro w hSw; (try dsimp only at hSw); go_simp; all_goals with_reducible rfl)
        try simp only [Act.put, List.setIfInBounds_toArray, List.set_cons_zero, List.set_cons_succ]
        refine wpAnyH_ready (rs := [5]) (by kernel_rfl) (by simp) ?_
        refine AllReadyH.cons (o := ⟨some 26, _, _, _, _, _⟩) rfl (fun K hK => ?_) AllReadyH.nil
        go_simp
        go_at_call 20; (with_reducible refine (OR1.out _).mono ?_); rintro e w3 ⟨rfl, hf3⟩; have hHeld3 : Frm [] wr w3 := hHeld.trans hf3 (by simp) (by simp)
        go_wp2_with fail
        refine hK.out _ _ (by assumption) (fun hHeld => ?_)
        clear hK K
        try simp only [Act.put, List.setIfInBounds_toArray, List.set_cons_zero, List.set_cons_succ]
        refine wpAnyH_take (i := 6) (oi := ⟨some 27, _, _, _, _, _⟩) (v := ?_) rfl (by kernel_rfl) (by kernel_rfl) (by kernel_rfl) (fun _ _ _ h => h) (Or.inl ⟨by rfl, ?_⟩) (by assumption) ?_
        rotate_left 1
        · (intro w hSw; (try dsimp only at hSw); go_simp; all_goals with_reducible rfl)
        try simp only [Act.put, List.setIfInBounds_toArray, List.set_cons_zero, List.set_cons_succ]
        refine wpAnyH_take (i := 7) (oi := ⟨some 28, _, _, _, _, _⟩) (v := ?_) rfl (by kernel_rfl) (by kernel_rfl) (by kernel_rfl) (fun _ _ _ h => h) (Or.inl ⟨by rfl, ?_⟩) (by assumption) ?_
        rotate_left 1
        · (intro w hSw; (try dsimp only at hSw); go_simp; all_goals with_reducible rfl)
        try simp only [Act.put, List.setIfInBounds_toArray, List.set_cons_zero, List.set_cons_succ]
        refine wpAnyH_take (i := 8) (oi := ⟨some 29, _, _, _, _, _⟩) (v := undef) rfl (by kernel_rfl) (by kernel_rfl) (by kernel_rfl) (fun _ _ _ h => h) (Or.inr ⟨by rfl, rfl⟩) (by assumption) ?_
        try simp only [Act.put, List.setIfInBounds_toArray, List.set_cons_zero, List.set_cons_succ]
        refine wpAnyH_take (i := 9) (oi := ⟨some 30, _, _, _, _, _⟩) (v := undef) rfl (by kernel_rfl) (by kernel_rfl) (by kernel_rfl) (fun _ _ _ h => h) (Or.inr ⟨by rfl, rfl⟩) (by assumption) ?_
        try simp only [Act.put, List.setIfInBounds_toArray, List.set_cons_zero, List.set_cons_succ]
        refine wpAnyH_take (i := 10) (oi := ⟨some 31, _, _, _, _, _⟩) (v := undef) rfl (by kernel_rfl) (by kernel_rfl) (by kernel_rfl) (fun _ _ _ h => h) (Or.inr ⟨by rfl, rfl⟩) (by assumption) ?_
        try simp only [Act.put, List.setIfInBounds_toArray, List.set_cons_zero, List.set_cons_succ]
        refine wpAnyH_take (i := 11) (oi := ⟨some 32, _, _, _, _, _⟩) (v := undef) rfl (by kernel_rfl) (by kernel_rfl) (by kernel_rfl) (fun _ _ _ h => h) (Or.inr ⟨by rfl, rfl⟩) (by assumption) ?_
        try simp only [Act.put, List.setIfInBounds_toArray, List.set_cons_zero, List.set_cons_succ]
        refine wpAnyH_take (i := 12) (oi := ⟨some 33, _, _, _, _, _⟩) (v := undef) rfl (by kernel_rfl) (by kernel_rfl) (by kernel_rfl) (fun _ _ _ h => h) (Or.inr ⟨by rfl, rfl⟩) (by assumption) ?_
        try simp only [Act.put, List.setIfInBounds_toArray, List.set_cons_zero, List.set_cons_succ]
        refine wpAnyH_take (i := 13) (oi := ⟨some 34, _, _, _, _, _⟩) (v := undef) rfl (by kernel_rfl) (by kernel_rfl) (by kernel_rfl) (fun _ _ _ h => h) (Or.inr ⟨by rfl, rfl⟩) (by assumption) ?_
        try simp only [Act.put, List.setIfInBounds_toArray, List.set_cons_zero, List.set_cons_succ]
        refine wpAnyH_take (i := 14) (oi := ⟨some 35, _, _, _, _, _⟩) (v := undef) rfl (by kernel_rfl) (by kernel_rfl) (by kernel_rfl) (fun _ _ _ h => h) (Or.inr ⟨by rfl, rfl⟩) (by assumption) ?_
        try simp only [Act.put, List.setIfInBounds_toArray, List.set_cons_zero, List.set_cons_succ]
        refine wpAnyH_take (i := 15) (oi := ⟨some 36, _, _, _, _, _⟩) (v := ?_) rfl (by kernel_rfl) (by kernel_rfl) (by kernel_rfl) (fun _ _ _ h => h) (Or.inl ⟨by rfl, ?_⟩) (by assumption) ?_
        rotate_left 1
        · (intro w hSw; (try dsimp only at hSw); go_simp; all_goals with_reducible rfl)
        try simp only [Act.put, List.setIfInBounds_toArray, List.set_cons_zero, List.set_cons_succ]
        refine wpAnyH_done (by kernel_rfl) ?_ _
        have FX : Hid (Frm [] w2 _) := Lib.hid (HF.out.trans hHeld (by simp) (by simp))
        clear r0 r1 r2 r3 c0 c1 hHeld
        go_wp2
        go_roundw
        case rel => exact ⟨k + 1, by omega, by go_num, by rw [T12.out], FX⟩
        case measure => simp [intOf]; omega
    · obtain rfl : k = M := by omega
      have FWR : Hid (Frm [] w wr) := Lib.hid (F1.out.trans FR.out (by simp) (by simp))
      have E : Hid (R (.returned (.int .u64 (ct k : Nat))) wr) := Lib.hid (by rw [HR.out, CN.out]; exact ⟨rfl, FWR.out⟩)
      go_wp2
      exact E.out
end Go.Proofs.Ytimmoencmmpkdaa
