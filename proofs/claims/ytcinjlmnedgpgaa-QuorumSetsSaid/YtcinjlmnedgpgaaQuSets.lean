/- QuorumSets: the walk. -/
import Derived.Test.YtcinjlmnedgpgaaQuAwake
import Derived.Test.YtcinjlmnedgpgaaInQu
namespace Go.Proofs.Ytcinjlmnedgpgaa
open Go.RowKit
set_option maxRecDepth 100000

/-- Both sides of one quorum, whatever it is: the same places, the same answers. -/
theorem quo_all (p q a : Int) (e : Nat) (a0 : Option Addr) (len cap : Nat) (bs : List Bool) (w0 : World) (he : e < 18446744073709551616) (hb : BIn w0 a0 bs) (hl : len = bs.length) :
    ∃ (l : List Nat) (n : Nat) (b1 b2 : Bool), n = l.length ∧ l.length ≤ 1000 ∧
      (∀ z, Calls Try.prog 13 #[quV p q a, .int .u64 (e : Nat)] z fun x w' => ∃ a' c, x = .returned (.slice a' n c) ∧ IIn w' a' l ∧ Frm [] z w') ∧
      (∀ z, Calls Try.prog 14 #[quV p q a, .int .u64 (e : Nat)] z fun x w' => ∃ a' c, x = .returned (.slice a' n c) ∧ IIn w' a' l ∧ Frm [] z w') ∧
      (∀ z, Frm [] w0 z → Calls Try.prog 15 #[quV p q a, .int .u64 (e : Nat), .slice a0 len cap] z fun x w' => x = .returned (.bool b1) ∧ Frm [] z w') ∧
      (∀ z, Frm [] w0 z → Calls Try.prog 16 #[quV p q a, .int .u64 (e : Nat), .slice a0 len cap] z fun x w' => x = .returned (.bool b1) ∧ Frm [] z w') ∧
      (∀ z, Frm [] w0 z → Calls Try.prog 17 #[quV p q a, .slice a0 len cap] z fun x w' => x = .returned (.bool b2) ∧ Frm [] z w') ∧
      (∀ z, Frm [] w0 z → Calls Try.prog 18 #[quV p q a, .slice a0 len cap] z fun x w' => x = .returned (.bool b2) ∧ Frm [] z w') := by
  by_cases h : okQ p q a = true
  · have h' := (okQ_iff p q a).1 h
    obtain ⟨P, rfl⟩ : ∃ P : Nat, p = (P : Int) := ⟨p.toNat, by omega⟩
    obtain ⟨W, rfl⟩ : ∃ W : Nat, q = (W : Int) := ⟨q.toNat, by omega⟩
    obtain ⟨A, rfl⟩ : ∃ A : Nat, a = (A : Int) := ⟨a.toNat, by omega⟩
    have h1 : 1 ≤ A := by omega
    have h2 : A ≤ W := by omega
    have h3 : W ≤ P := by omega
    have h4 : P ≤ 7 := by omega
    refine ⟨setN P W e, W, enN P W A e bs, covN P W A bs, (setN_len P W e).symm, by rw [setN_len]; omega, fun z => ?_, fun z => ?_, fun z hz => ?_, fun z hz => ?_, fun z hz => ?_, fun z hz => ?_⟩
    · refine (qset_any P W A e z h1 h2 h4 h3 he).mono ?_
      rintro x w' ⟨b, _, rfl, hr, hf⟩
      exact ⟨_, _, rfl, hr.iin, hf⟩
    · refine (rset_any P W A e z h1 h2 h4 h3 he).mono ?_
      rintro x w' ⟨a', c, rfl, hr, hf⟩
      exact ⟨_, _, rfl, hr, hf⟩
    · exact enough_any P W A e a0 len cap bs z h1 h2 h4 h3 he (hb.keep hz) hl
    · exact renough_any P W A e a0 len cap bs z h1 h2 h4 h3 he (hb.keep hz) hl
    · exact covered_any P W A a0 len cap bs z h1 h2 h4 h3 (hb.keep hz) hl
    · exact rcovered_any P W A a0 len cap bs z h1 h2 h4 h3 (hb.keep hz) hl
  · have h' : okQ p q a = false := by simpa using h
    refine ⟨[], 0, false, false, rfl, by simp, fun z => ?_, fun z => ?_, fun z hz => en_bad p q a e _ z h', fun z hz => ren_bad p q a e _ z h', fun z hz => cov_bad p q a _ z h', fun z hz => rcov_bad p q a _ z h'⟩
    · refine (set_bad p q a e z h').mono ?_
      rintro x w' ⟨rfl, hf⟩
      exact ⟨_, _, rfl, fun i hi => absurd hi (by simp), hf⟩
    · refine (rset_bad p q a e z h').mono ?_
      rintro x w' ⟨rfl, hf⟩
      exact ⟨_, _, rfl, fun i hi => absurd hi (by simp), hf⟩

def SsRel (wR : World) (s21 : Value) (wr : World) : Prop := ∃ k, k ≤ 2 ∧ s21 = .int .i64 (k : Nat) ∧ Hid (Frm [] wR wr)

set_option maxHeartbeats 16000000 in
theorem quorumSets_walk (t : Qu) (n e : Nat) (a0 : Option Addr) (len cap : Nat) (bs : List Bool) (w : World) (_ht : QuOk w t) (hn : n < 65536) (he : e < 18446744073709551616) (hb : BIn w a0 bs) (hl : len = bs.length) (hm : len ≤ 9223372036854775807) :
    Calls Try.prog 3 #[t.value, .int .u16 (n : Nat), .int .u64 (e : Nat), .slice a0 len cap] w fun x w' => x = .returned (.bool true) ∧ Below w.heap.size w w' := by
  have HB := Lib.hid hb; clear hb
  have HL := Lib.hid hl; clear hl
  obtain ⟨p0, q0, k0⟩ := t
  have AW := Lib.hid (fun z => awake10_any z)
  go_enter Try.func3, Try.ntmps3
  unfold Qu.value
  have HF0 := Lib.hid ((Frm.refl [] w).alloc (.cells (quC p0 q0 k0) 23))
  have HQ0 := Lib.hid (Whole.made w 23 (quC p0 q0 k0))
  go_wp2_with fail
  generalize hw0 : w.alloc (.cells (quC p0 q0 k0) 23) = w0 at HF0 HQ0 ⊢
  clear hw0
  obtain ⟨p, hp⟩ : ∃ p, p = w.heap.size := ⟨_, rfl⟩
  rw [← hp] at HQ0 ⊢
  have HP := Lib.hid hp; clear hp
  refine (AW.out w0).mono ?_
  rintro x w1 ⟨rfl, hf1⟩
  have HQ1 := Lib.hid (hf1.whole HQ0.out (by simp))
  have HF1 := Lib.hid (HF0.out.trans hf1 (U := []) (by simp) (by simp))
  clear hf1 HF0 HQ0 AW
  by_cases hlong : 100 < len
  · have hd : decide ((len : Int) > 100) = true := decide_eq_true (by omega)
    go_wp2
    go_ret
    exact ⟨rfl, HF1.out.below (by simp) (Nat.le_refl _)⟩
  have hd : decide ((len : Int) > 100) = false := decide_eq_false (by omega)
  go_wp2
  clear hd
  have n0 : ∀ y, Frm [] w1 y → y.cell? ⟨p, 0, none⟩ = some (.int .i64 p0) := fun y hy => (hy.whole HQ1.out (by simp)).cell 0
  have n1 : ∀ y, Frm [] w1 y → y.cell? ⟨p, 1, none⟩ = some (.int .i64 q0) := fun y hy => (hy.whole HQ1.out (by simp)).cell 1
  have n2 : ∀ y, Frm [] w1 y → y.cell? ⟨p, 2, none⟩ = some (.int .i64 k0) := fun y hy => (hy.whole HQ1.out (by simp)).cell 2
  have QN := Lib.hid (fun z => quorum_any n z hn)
  refine wp_region_held_drew (S := fun w' => Frm [] w1 w') (by kernel_rfl) (Frm.drew (Frm.refl _ _)) (fun hHeld => ?_)
  refine wpAnyH_take (i := 0) (oi := ⟨some 16, _, _, _, _, _⟩) (v := ?_) rfl (by kernel_rfl) (by kernel_rfl) (by kernel_rfl) (fun _ _ _ h => h) (Or.inl ⟨by rfl, ?_⟩) (by assumption) ?_
  rotate_left 1
  · (intro w hSw; (try dsimp only at hSw); go_simp; all_goals with_reducible rfl)
  try simp only [Act.put, List.setIfInBounds_toArray, List.set_cons_zero, List.set_cons_succ]
  refine wpAnyH_take (i := 1) (oi := ⟨some 17, _, _, _, _, _⟩) (v := ?_) rfl (by kernel_rfl) (by kernel_rfl) (by kernel_rfl) (fun _ _ _ h => h) (Or.inl ⟨by rfl, ?_⟩) (by assumption) ?_
  rotate_left 1
  · (intro w hSw; (try dsimp only at hSw); go_simp; all_goals with_reducible rfl)
  try simp only [Act.put, List.setIfInBounds_toArray, List.set_cons_zero, List.set_cons_succ]
  refine wpAnyH_take (i := 5) (oi := ⟨some 21, _, _, _, _, _⟩) (v := ?_) rfl (by kernel_rfl) (by kernel_rfl) (by kernel_rfl) (fun _ _ _ h => h) (Or.inl ⟨by rfl, ?_⟩) (by assumption) ?_
  rotate_left 1
  · (intro w hSw; (try dsimp only at hSw); go_simp; all_goals with_reducible rfl)
  try simp only [Act.put, List.setIfInBounds_toArray, List.set_cons_zero, List.set_cons_succ]
  refine wpAnyH_ready (rs := [2]) (by kernel_rfl) (by simp) ?_
  refine AllReadyH.cons (o := ⟨some 18, _, _, _, _, _⟩) rfl (fun K hK => ?_) AllReadyH.nil
  go_simp
  (go_at_call 9; (with_reducible refine (QN.out _).mono ?_); rintro ex w2 ⟨P, W, A, hA1, hA2, hA3, hA4, rfl, hf2⟩; have S1 : Frm [] w1 w2 := Frm.trans (by assumption) hf2 (by simp) (by simp); clear hf2)
  go_wp2_with fail
  refine hK.out _ _ (by assumption) (fun hHeld => ?_)
  clear hK K
  try simp only [Act.put, List.setIfInBounds_toArray, List.set_cons_zero, List.set_cons_succ]
  have S2 : Frm [] w1 (w2.alloc (.cells #[.int .i64 p0, .int .i64 q0, .int .i64 k0, .int .i64 (P : Int), .int .i64 (W : Int), .int .i64 (A : Int)] 23)) := S1.alloc _
  refine wpAnyH_ready (rs := [3]) (by kernel_rfl) (by simp) ?_
  refine AllReadyH.cons (o := ⟨some 19, _, _, _, _, _⟩) rfl (fun K hK => ?_) AllReadyH.nil
  go_simp
  refine hK.out _ _ (by assumption) (fun hHeld => ?_)
  clear hK K
  try simp only [Act.put, List.setIfInBounds_toArray, List.set_cons_zero, List.set_cons_succ]
  refine wpAnyH_take (i := 4) (oi := ⟨some 20, _, _, _, _, _⟩) (v := ?_) rfl (by kernel_rfl) (by kernel_rfl) (by kernel_rfl) (fun _ _ _ h => h) (Or.inl ⟨by rfl, ?_⟩) (by assumption) ?_
  rotate_left 1
  · (intro w hSw; (try dsimp only at hSw); go_simp; all_goals with_reducible rfl)
  try simp only [Act.put, List.setIfInBounds_toArray, List.set_cons_zero, List.set_cons_succ]
  refine wpAnyH_done (by kernel_rfl) ?_ _
  have HFR : Hid (Frm [] w1 (w2.alloc (.cells #[.int .i64 p0, .int .i64 q0, .int .i64 k0, .int .i64 (P : Int), .int .i64 (W : Int), .int .i64 (A : Int)] 23))) := Lib.hid S2
  have HWR := Lib.hid (Whole.made w2 23 #[.int .i64 p0, .int .i64 q0, .int .i64 k0, .int .i64 (P : Int), .int .i64 (W : Int), .int .i64 (A : Int)])
  generalize hwR : w2.alloc (.cells #[.int .i64 p0, .int .i64 q0, .int .i64 k0, .int .i64 (P : Int), .int .i64 (W : Int), .int .i64 (A : Int)] 23) = wR at HFR HWR ⊢
  clear hwR S2
  obtain ⟨R, hR⟩ : ∃ R, R = w2.heap.size := ⟨_, rfl⟩
  rw [← hR] at HWR ⊢
  have HCELL : Hid (∀ k, k < 2 → ∃ x y z : Int, ∀ u, Frm [] wR u → u.cell? ⟨R, k * 3, none⟩ = some (.int .i64 x) ∧ u.cell? ⟨R, k * 3 + 1, none⟩ = some (.int .i64 y) ∧ u.cell? ⟨R, k * 3 + 2, none⟩ = some (.int .i64 z)) := Lib.hid (by
    intro k hk
    have : k = 0 ∨ k = 1 := by omega
    rcases this with rfl | rfl
    · exact ⟨p0, q0, k0, fun u hu => ⟨(hu.whole HWR.out (by simp)).cell 0, (hu.whole HWR.out (by simp)).cell 1, (hu.whole HWR.out (by simp)).cell 2⟩⟩
    · exact ⟨P, W, A, fun u hu => ⟨(hu.whole HWR.out (by simp)).cell 3, (hu.whole HWR.out (by simp)).cell 4, (hu.whole HWR.out (by simp)).cell 5⟩⟩)
  have HFW : Hid (Frm [] w wR) := Lib.hid (HF1.out.trans HFR.out (by simp) (by simp))
  have HR0 : Hid (SsRel wR (.int .i64 (0 : Nat)) wR) := Lib.hid ⟨0, by omega, rfl, Lib.hid (Frm.refl _ _)⟩
  clear hHeld S1 n0 n1 n2 hR HWR HFR HF1 HQ1 HP QN
  go_wp2
  go_loopw [21] (fun s21 wr => SsRel wR s21 wr) (fun s21 _ => 2 - (intOf s21).toNat)
  case atStart => exact HR0.out
  case round =>
    clear HR0
    obtain ⟨k, hk, rfl, HF⟩ := hrel
    by_cases hlt : k < 2
    · obtain ⟨x, y, z, hc⟩ := HCELL.out k hlt
      obtain ⟨c0, c1, c2⟩ := hc wr HF.out
      clear hc
      obtain ⟨l, m, b1, b2, hml, hl7, ST, RST, EN, REN, CO, RCO⟩ := quo_all x y z e a0 len cap bs w he HB.out HL.out
      have ST := Lib.hid ST
      have RST := Lib.hid RST
      have EN := Lib.hid EN
      have REN := Lib.hid REN
      have CO := Lib.hid CO
      have RCO := Lib.hid RCO
      have HML := Lib.hid hml; clear hml
      have CK := Lib.hid (fun u => check_any x y z u)
      have RCK := Lib.hid (fun u => rcheck_any x y z u)
      obtain ⟨b0, hb0⟩ : ∃ b0, b0 = okQ x y z := ⟨_, rfl⟩
      rw [← hb0] at CK RCK
      clear hb0
      have d0 : (b0 != b0) = false := by simp
      have d1 : (b1 != b1) = false := by simp
      have d2 : (b2 != b2) = false := by simp
      have HQX := Lib.hid (Whole.made wr 23 (quC x y z))
      have HFX : Hid (Frm [] wR (wr.alloc (.cells (quC x y z) 23))) := Lib.hid (HF.out.alloc _)
      go_wp2_with fail
      generalize hwx : wr.alloc (.cells (quC x y z) 23) = wx at HQX HFX ⊢
      clear hwx
      obtain ⟨b, hb⟩ : ∃ b, b = wr.heap.size := ⟨_, rfl⟩
      rw [← hb] at HQX ⊢
      clear hb c0 c1 c2 HF
      have HFWX : Hid (Frm [] w wx) := Lib.hid (HFW.out.trans HFX.out (by simp) (by simp))
      have n0 : ∀ u, Frm [] wx u → u.cell? ⟨b, 0, none⟩ = some (.int .i64 x) := fun u hu => (hu.whole HQX.out (by simp)).cell 0
      have n1 : ∀ u, Frm [] wx u → u.cell? ⟨b, 1, none⟩ = some (.int .i64 y) := fun u hu => (hu.whole HQX.out (by simp)).cell 1
      have n2 : ∀ u, Frm [] wx u → u.cell? ⟨b, 2, none⟩ = some (.int .i64 z) := fun u hu => (hu.whole HQX.out (by simp)).cell 2
      refine wp_region_held_drew (S := fun w' => Frm [] wx w') (by kernel_rfl) (Frm.drew (Frm.refl _ _)) (fun hHeld => ?_)
      refine wpAnyH_take (i := 0) (oi := ⟨some 25, _, _, _, _, _⟩) (v := ?_) rfl (by kernel_rfl) (by kernel_rfl) (by kernel_rfl) (fun _ _ _ h => h) (Or.inl ⟨by rfl, ?_⟩) (by assumption) ?_
      rotate_left 1
      · (intro w hSw; (try dsimp only at hSw); go_simp; all_goals with_reducible rfl)
      try simp only [Act.put, List.setIfInBounds_toArray, List.set_cons_zero, List.set_cons_succ]
      refine wpAnyH_take (i := 2) (oi := ⟨some 27, _, _, _, _, _⟩) (v := ?_) rfl (by kernel_rfl) (by kernel_rfl) (by kernel_rfl) (fun _ _ _ h => h) (Or.inl ⟨by rfl, ?_⟩) (by assumption) ?_
      rotate_left 1
      · (intro w hSw; (try dsimp only at hSw); go_simp; all_goals with_reducible rfl)
      try simp only [Act.put, List.setIfInBounds_toArray, List.set_cons_zero, List.set_cons_succ]
      refine wpAnyH_ready (rs := [1]) (by kernel_rfl) (by simp) ?_
      refine AllReadyH.cons (o := ⟨some 26, _, _, _, _, _⟩) rfl (fun K hK => ?_) AllReadyH.nil
      go_simp
      (go_at_call 10; (with_reducible refine (CK.out _).mono ?_); rintro ex v1 ⟨rfl, hfv1⟩; have Sv1 : Frm [] wx v1 := Frm.trans (by assumption) hfv1 (by simp) (by simp); clear hfv1)
      go_wp2_with fail
      refine hK.out _ _ (by assumption) (fun hHeld => ?_)
      clear hK K
      try simp only [Act.put, List.setIfInBounds_toArray, List.set_cons_zero, List.set_cons_succ]
      refine wpAnyH_ready (rs := [3]) (by kernel_rfl) (by simp) ?_
      refine AllReadyH.cons (o := ⟨some 28, _, _, _, _, _⟩) rfl (fun K hK => ?_) AllReadyH.nil
      go_simp
      (go_at_call 11; (with_reducible refine (RCK.out _).mono ?_); rintro ex v2 ⟨rfl, hfv2⟩; have Sv2 : Frm [] wx v2 := Frm.trans (by assumption) hfv2 (by simp) (by simp); clear hfv2)
      go_wp2_with fail
      refine hK.out _ _ (by assumption) (fun hHeld => ?_)
      clear hK K
      try simp only [Act.put, List.setIfInBounds_toArray, List.set_cons_zero, List.set_cons_succ]
      refine wpAnyH_take (i := 4) (oi := ⟨some 29, _, _, _, _, _⟩) (v := ?_) rfl (by kernel_rfl) (by kernel_rfl) (by kernel_rfl) (fun _ _ _ h => h) (Or.inl ⟨by rfl, ?_⟩) (by assumption) ?_
      rotate_left 1
      · (intro w hSw; (try dsimp only at hSw); go_simp; all_goals with_reducible rfl)
      try simp only [Act.put, List.setIfInBounds_toArray, List.set_cons_zero, List.set_cons_succ]
      refine wpAnyH_take (i := 5) (oi := ⟨some 30, _, _, _, _, _⟩) (v := ?_) rfl (by kernel_rfl) (by kernel_rfl) (by kernel_rfl) (fun _ _ _ h => h) (Or.inl ⟨by rfl, ?_⟩) (by assumption) ?_
      rotate_left 1
      · (intro w hSw; (try dsimp only at hSw); go_simp; all_goals with_reducible rfl)
      try simp only [Act.put, List.setIfInBounds_toArray, List.set_cons_zero, List.set_cons_succ]
      refine wpAnyH_take (i := 6) (oi := ⟨some 31, _, _, _, _, _⟩) (v := ?_) rfl (by kernel_rfl) (by kernel_rfl) (by kernel_rfl) (fun _ _ _ h => h) (Or.inl ⟨by rfl, ?_⟩) (by assumption) ?_
      rotate_left 1
      · (intro w hSw; (try dsimp only at hSw); go_simp; all_goals with_reducible rfl)
      try simp only [Act.put, List.setIfInBounds_toArray, List.set_cons_zero, List.set_cons_succ]
      refine wpAnyH_take (i := 7) (oi := ⟨some 32, _, _, _, _, _⟩) (v := ?_) rfl (by kernel_rfl) (by kernel_rfl) (by kernel_rfl) (fun _ _ _ h => h) (Or.inl ⟨by rfl, ?_⟩) (by assumption) ?_
      rotate_left 1
      · (intro w hSw; (try dsimp only at hSw); go_simp; all_goals with_reducible rfl)
      try simp only [Act.put, List.setIfInBounds_toArray, List.set_cons_zero, List.set_cons_succ]
      refine wpAnyH_take (i := 9) (oi := ⟨some 34, _, _, _, _, _⟩) (v := ?_) rfl (by kernel_rfl) (by kernel_rfl) (by kernel_rfl) (fun _ _ _ h => h) (Or.inl ⟨by rfl, ?_⟩) (by assumption) ?_
      rotate_left 1
      · (intro w hSw; (try dsimp only at hSw); go_simp; all_goals with_reducible rfl)
      try simp only [Act.put, List.setIfInBounds_toArray, List.set_cons_zero, List.set_cons_succ]
      refine wpAnyH_take (i := 10) (oi := ⟨some 35, _, _, _, _, _⟩) (v := ?_) rfl (by kernel_rfl) (by kernel_rfl) (by kernel_rfl) (fun _ _ _ h => h) (Or.inl ⟨by rfl, ?_⟩) (by assumption) ?_
      rotate_left 1
      · (intro w hSw; (try dsimp only at hSw); go_simp; all_goals with_reducible rfl)
      try simp only [Act.put, List.setIfInBounds_toArray, List.set_cons_zero, List.set_cons_succ]
      refine wpAnyH_ready (rs := [8]) (by kernel_rfl) (by simp) ?_
      refine AllReadyH.cons (o := ⟨some 33, _, _, _, _, _⟩) rfl (fun K hK => ?_) AllReadyH.nil
      go_simp
      (go_at_call 13; (with_reducible refine (ST.out _).mono ?_); rintro ex v3 ⟨a3, c3, rfl, hi3, hf3⟩; have S3 : Frm [] wx v3 := Frm.trans (by assumption) hf3 (by simp) (by simp); clear hf3)
      go_wp2_with fail
      refine hK.out _ _ (by assumption) (fun hHeld => ?_)
      clear hK K
      try simp only [Act.put, List.setIfInBounds_toArray, List.set_cons_zero, List.set_cons_succ]
      refine wpAnyH_ready (rs := [11]) (by kernel_rfl) (by simp) ?_
      refine AllReadyH.cons (o := ⟨some 36, _, _, _, _, _⟩) rfl (fun K hK => ?_) AllReadyH.nil
      go_simp
      (go_at_call 14; (with_reducible refine (RST.out _).mono ?_); rintro ex v4 ⟨a4, c4, rfl, hi4, hf4⟩; have S4 : Frm [] wx v4 := Frm.trans (by assumption) hf4 (by simp) (by simp); have hi3 := hi3.keep hf4; clear hf4)
      go_wp2_with fail
      refine hK.out _ _ (by assumption) (fun hHeld => ?_)
      clear hK K
      try simp only [Act.put, List.setIfInBounds_toArray, List.set_cons_zero, List.set_cons_succ]
      refine wpAnyH_ready (rs := [12]) (by kernel_rfl) (by simp) ?_
      refine AllReadyH.cons (o := ⟨some 37, _, _, _, _, _⟩) rfl (fun K hK => ?_) AllReadyH.nil
      go_simp
      (go_at_call 12; (with_reducible refine (same_any a3 a4 m c3 c4 l _ hi3 hi4 HML.out hl7).mono ?_); rintro ex v5 ⟨rfl, hf5⟩; have S5 : Frm [] wx v5 := Frm.trans (by assumption) hf5 (by simp) (by simp); clear hf5 hi3 hi4)
      go_wp2_with fail
      refine hK.out _ _ (by assumption) (fun hHeld => ?_)
      clear hK K
      try simp only [Act.put, List.setIfInBounds_toArray, List.set_cons_zero, List.set_cons_succ]
      refine wpAnyH_take (i := 13) (oi := ⟨some 38, _, _, _, _, _⟩) (v := ?_) rfl (by kernel_rfl) (by kernel_rfl) (by kernel_rfl) (fun _ _ _ h => h) (Or.inl ⟨by rfl, ?_⟩) (by assumption) ?_
      rotate_left 1
      · (intro w hSw; (try dsimp only at hSw); go_simp; all_goals with_reducible rfl)
      try simp only [Act.put, List.setIfInBounds_toArray, List.set_cons_zero, List.set_cons_succ]
      refine wpAnyH_take (i := 14) (oi := ⟨some 39, _, _, _, _, _⟩) (v := ?_) rfl (by kernel_rfl) (by kernel_rfl) (by kernel_rfl) (fun _ _ _ h => h) (Or.inl ⟨by rfl, ?_⟩) (by assumption) ?_
      rotate_left 1
      · (intro w hSw; (try dsimp only at hSw); go_simp; all_goals with_reducible rfl)
      try simp only [Act.put, List.setIfInBounds_toArray, List.set_cons_zero, List.set_cons_succ]
      refine wpAnyH_take (i := 15) (oi := ⟨some 40, _, _, _, _, _⟩) (v := ?_) rfl (by kernel_rfl) (by kernel_rfl) (by kernel_rfl) (fun _ _ _ h => h) (Or.inl ⟨by rfl, ?_⟩) (by assumption) ?_
      rotate_left 1
      · (intro w hSw; (try dsimp only at hSw); go_simp; all_goals with_reducible rfl)
      try simp only [Act.put, List.setIfInBounds_toArray, List.set_cons_zero, List.set_cons_succ]
      refine wpAnyH_take (i := 16) (oi := ⟨some 41, _, _, _, _, _⟩) (v := ?_) rfl (by kernel_rfl) (by kernel_rfl) (by kernel_rfl) (fun _ _ _ h => h) (Or.inl ⟨by rfl, ?_⟩) (by assumption) ?_
      rotate_left 1
      · (intro w hSw; (try dsimp only at hSw); go_simp; all_goals with_reducible rfl)
      try simp only [Act.put, List.setIfInBounds_toArray, List.set_cons_zero, List.set_cons_succ]
      refine wpAnyH_take (i := 17) (oi := ⟨some 42, _, _, _, _, _⟩) (v := ?_) rfl (by kernel_rfl) (by kernel_rfl) (by kernel_rfl) (fun _ _ _ h => h) (Or.inl ⟨by rfl, ?_⟩) (by assumption) ?_
      rotate_left 1
      · (intro w hSw; (try dsimp only at hSw); go_simp; all_goals with_reducible rfl)
      try simp only [Act.put, List.setIfInBounds_toArray, List.set_cons_zero, List.set_cons_succ]
      refine wpAnyH_take (i := 18) (oi := ⟨some 43, _, _, _, _, _⟩) (v := ?_) rfl (by kernel_rfl) (by kernel_rfl) (by kernel_rfl) (fun _ _ _ h => h) (Or.inl ⟨by rfl, ?_⟩) (by assumption) ?_
      rotate_left 1
      · (intro w hSw; (try dsimp only at hSw); go_simp; all_goals with_reducible rfl)
      try simp only [Act.put, List.setIfInBounds_toArray, List.set_cons_zero, List.set_cons_succ]
      refine wpAnyH_take (i := 20) (oi := ⟨some 45, _, _, _, _, _⟩) (v := ?_) rfl (by kernel_rfl) (by kernel_rfl) (by kernel_rfl) (fun _ _ _ h => h) (Or.inl ⟨by rfl, ?_⟩) (by assumption) ?_
      rotate_left 1
      · (intro w hSw; (try dsimp only at hSw); go_simp; all_goals with_reducible rfl)
      try simp only [Act.put, List.setIfInBounds_toArray, List.set_cons_zero, List.set_cons_succ]
      refine wpAnyH_take (i := 21) (oi := ⟨some 46, _, _, _, _, _⟩) (v := ?_) rfl (by kernel_rfl) (by kernel_rfl) (by kernel_rfl) (fun _ _ _ h => h) (Or.inl ⟨by rfl, ?_⟩) (by assumption) ?_
      rotate_left 1
      · (intro w hSw; (try dsimp only at hSw); go_simp; all_goals with_reducible rfl)
      try simp only [Act.put, List.setIfInBounds_toArray, List.set_cons_zero, List.set_cons_succ]
      refine wpAnyH_take (i := 22) (oi := ⟨some 47, _, _, _, _, _⟩) (v := ?_) rfl (by kernel_rfl) (by kernel_rfl) (by kernel_rfl) (fun _ _ _ h => h) (Or.inl ⟨by rfl, ?_⟩) (by assumption) ?_
      rotate_left 1
      · (intro w hSw; (try dsimp only at hSw); go_simp; all_goals with_reducible rfl)
      try simp only [Act.put, List.setIfInBounds_toArray, List.set_cons_zero, List.set_cons_succ]
      refine wpAnyH_ready (rs := [19]) (by kernel_rfl) (by simp) ?_
      refine AllReadyH.cons (o := ⟨some 44, _, _, _, _, _⟩) rfl (fun K hK => ?_) AllReadyH.nil
      go_simp
      (go_at_call 15; (with_reducible refine (EN.out _ (HFWX.out.trans (by assumption) (by simp) (by simp))).mono ?_); rintro ex v6 ⟨rfl, hfv6⟩; have Sv6 : Frm [] wx v6 := Frm.trans (by assumption) hfv6 (by simp) (by simp); clear hfv6)
      go_wp2_with fail
      refine hK.out _ _ (by assumption) (fun hHeld => ?_)
      clear hK K
      try simp only [Act.put, List.setIfInBounds_toArray, List.set_cons_zero, List.set_cons_succ]
      refine wpAnyH_ready (rs := [23]) (by kernel_rfl) (by simp) ?_
      refine AllReadyH.cons (o := ⟨some 48, _, _, _, _, _⟩) rfl (fun K hK => ?_) AllReadyH.nil
      go_simp
      (go_at_call 16; (with_reducible refine (REN.out _ (HFWX.out.trans (by assumption) (by simp) (by simp))).mono ?_); rintro ex v7 ⟨rfl, hfv7⟩; have Sv7 : Frm [] wx v7 := Frm.trans (by assumption) hfv7 (by simp) (by simp); clear hfv7)
      go_wp2_with fail
      refine hK.out _ _ (by assumption) (fun hHeld => ?_)
      clear hK K
      try simp only [Act.put, List.setIfInBounds_toArray, List.set_cons_zero, List.set_cons_succ]
      refine wpAnyH_take (i := 24) (oi := ⟨some 49, _, _, _, _, _⟩) (v := ?_) rfl (by kernel_rfl) (by kernel_rfl) (by kernel_rfl) (fun _ _ _ h => h) (Or.inl ⟨by rfl, ?_⟩) (by assumption) ?_
      rotate_left 1
      · (intro w hSw; (try dsimp only at hSw); go_simp; all_goals with_reducible rfl)
      try simp only [Act.put, List.setIfInBounds_toArray, List.set_cons_zero, List.set_cons_succ]
      refine wpAnyH_take (i := 25) (oi := ⟨some 50, _, _, _, _, _⟩) (v := ?_) rfl (by kernel_rfl) (by kernel_rfl) (by kernel_rfl) (fun _ _ _ h => h) (Or.inl ⟨by rfl, ?_⟩) (by assumption) ?_
      rotate_left 1
      · (intro w hSw; (try dsimp only at hSw); go_simp; all_goals with_reducible rfl)
      try simp only [Act.put, List.setIfInBounds_toArray, List.set_cons_zero, List.set_cons_succ]
      refine wpAnyH_take (i := 26) (oi := ⟨some 51, _, _, _, _, _⟩) (v := ?_) rfl (by kernel_rfl) (by kernel_rfl) (by kernel_rfl) (fun _ _ _ h => h) (Or.inl ⟨by rfl, ?_⟩) (by assumption) ?_
      rotate_left 1
      · (intro w hSw; (try dsimp only at hSw); go_simp; all_goals with_reducible rfl)
      try simp only [Act.put, List.setIfInBounds_toArray, List.set_cons_zero, List.set_cons_succ]
      refine wpAnyH_take (i := 27) (oi := ⟨some 52, _, _, _, _, _⟩) (v := ?_) rfl (by kernel_rfl) (by kernel_rfl) (by kernel_rfl) (fun _ _ _ h => h) (Or.inl ⟨by rfl, ?_⟩) (by assumption) ?_
      rotate_left 1
      · (intro w hSw; (try dsimp only at hSw); go_simp; all_goals with_reducible rfl)
      try simp only [Act.put, List.setIfInBounds_toArray, List.set_cons_zero, List.set_cons_succ]
      refine wpAnyH_take (i := 28) (oi := ⟨some 53, _, _, _, _, _⟩) (v := ?_) rfl (by kernel_rfl) (by kernel_rfl) (by kernel_rfl) (fun _ _ _ h => h) (Or.inl ⟨by rfl, ?_⟩) (by assumption) ?_
      rotate_left 1
      · (intro w hSw; (try dsimp only at hSw); go_simp; all_goals with_reducible rfl)
      try simp only [Act.put, List.setIfInBounds_toArray, List.set_cons_zero, List.set_cons_succ]
      refine wpAnyH_take (i := 30) (oi := ⟨some 55, _, _, _, _, _⟩) (v := ?_) rfl (by kernel_rfl) (by kernel_rfl) (by kernel_rfl) (fun _ _ _ h => h) (Or.inl ⟨by rfl, ?_⟩) (by assumption) ?_
      rotate_left 1
      · (intro w hSw; (try dsimp only at hSw); go_simp; all_goals with_reducible rfl)
      try simp only [Act.put, List.setIfInBounds_toArray, List.set_cons_zero, List.set_cons_succ]
      refine wpAnyH_take (i := 31) (oi := ⟨some 56, _, _, _, _, _⟩) (v := ?_) rfl (by kernel_rfl) (by kernel_rfl) (by kernel_rfl) (fun _ _ _ h => h) (Or.inl ⟨by rfl, ?_⟩) (by assumption) ?_
      rotate_left 1
      · (intro w hSw; (try dsimp only at hSw); go_simp; all_goals with_reducible rfl)
      try simp only [Act.put, List.setIfInBounds_toArray, List.set_cons_zero, List.set_cons_succ]
      refine wpAnyH_ready (rs := [29]) (by kernel_rfl) (by simp) ?_
      refine AllReadyH.cons (o := ⟨some 54, _, _, _, _, _⟩) rfl (fun K hK => ?_) AllReadyH.nil
      go_simp
      (go_at_call 17; (with_reducible refine (CO.out _ (HFWX.out.trans (by assumption) (by simp) (by simp))).mono ?_); rintro ex v8 ⟨rfl, hfv8⟩; have Sv8 : Frm [] wx v8 := Frm.trans (by assumption) hfv8 (by simp) (by simp); clear hfv8)
      go_wp2_with fail
      refine hK.out _ _ (by assumption) (fun hHeld => ?_)
      clear hK K
      try simp only [Act.put, List.setIfInBounds_toArray, List.set_cons_zero, List.set_cons_succ]
      refine wpAnyH_ready (rs := [32]) (by kernel_rfl) (by simp) ?_
      refine AllReadyH.cons (o := ⟨some 57, _, _, _, _, _⟩) rfl (fun K hK => ?_) AllReadyH.nil
      go_simp
      (go_at_call 18; (with_reducible refine (RCO.out _ (HFWX.out.trans (by assumption) (by simp) (by simp))).mono ?_); rintro ex v9 ⟨rfl, hfv9⟩; have Sv9 : Frm [] wx v9 := Frm.trans (by assumption) hfv9 (by simp) (by simp); clear hfv9)
      go_wp2_with fail
      refine hK.out _ _ (by assumption) (fun hHeld => ?_)
      clear hK K
      try simp only [Act.put, List.setIfInBounds_toArray, List.set_cons_zero, List.set_cons_succ]
      refine wpAnyH_take (i := 33) (oi := ⟨some 58, _, _, _, _, _⟩) (v := ?_) rfl (by kernel_rfl) (by kernel_rfl) (by kernel_rfl) (fun _ _ _ h => h) (Or.inl ⟨by rfl, ?_⟩) (by assumption) ?_
      rotate_left 1
      · (intro w hSw; (try dsimp only at hSw); go_simp; all_goals with_reducible rfl)
      try simp only [Act.put, List.setIfInBounds_toArray, List.set_cons_zero, List.set_cons_succ]
      refine wpAnyH_take (i := 34) (oi := ⟨some 59, _, _, _, _, _⟩) (v := ?_) rfl (by kernel_rfl) (by kernel_rfl) (by kernel_rfl) (fun _ _ _ h => h) (Or.inl ⟨by rfl, ?_⟩) (by assumption) ?_
      rotate_left 1
      · (intro w hSw; (try dsimp only at hSw); go_simp; all_goals with_reducible rfl)
      try simp only [Act.put, List.setIfInBounds_toArray, List.set_cons_zero, List.set_cons_succ]
      refine wpAnyH_done (by kernel_rfl) ?_ _
      have HFE : Hid (Frm [] wR v9) := Lib.hid (HFX.out.trans Sv9 (by simp) (by simp))
      clear n0 n1 n2 HQX HFX HFWX ST RST EN REN CO RCO CK RCK
      go_wp2
      go_roundw
      case rel => exact ⟨k + 1, hlt, by go_num, HFE⟩
      case measure => simp [intOf]; omega
    · go_wp2
      go_ret
      exact ⟨rfl, (HFW.out.trans HF.out (U := []) (by simp) (by simp)).below (by simp) (Nat.le_refl _)⟩
end Go.Proofs.Ytcinjlmnedgpgaa
