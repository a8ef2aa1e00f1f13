/- The walk of LedgersBetween. -/
import Derived.Test.YtimmoencmmpkdaaLdAwake
import Derived.Test.YtimmoencmmpkdaaLdRight
import Derived.Deep.DeepCutAuto
namespace Go.Proofs.Ytimmoencmmpkdaa
open Go.RowKit
set_option maxRecDepth 100000

/-- What a law answers. -/
def LTrue (w : World) (e : Ending) (w' : World) : Prop := e = .returned (.bool true) ∧ Below w.heap.size w w'
theorem lTrue {w w' : World} (hf : Frm [] w w') : LTrue w (.returned (.bool true)) w' := ⟨rfl, hf.below (by simp) (Nat.le_refl _)⟩
set_option maxHeartbeats 8000000 in
theorem ledgersBetween_walk (a : Option Addr) (n cap : Nat) (X : List Ld) (o : Nat) (p q r : Ps) (w : World) (h : LdL w [] a X ∧ X.length ≤ cap ∧ (a = none → cap = 0)) (hn : n = X.length) (hsz : n ≤ 9223372036854775807) (ho : o < 18446744073709551616) (_hp : p.fits) (_hq : q.fits) (_hr : r.fits) :
    Calls Try.prog 6 #[.slice a n cap, .int .u64 (o : Nat), p.val, q.val, r.val] w (LTrue w) := by
  obtain ⟨w1, hw1⟩ : ∃ w1, w1 = ((w.alloc (.cells #[.int .u64 (p.l : Nat), .int .u64 (p.e : Nat)] 36)).alloc (.cells #[.int .u64 (q.l : Nat), .int .u64 (q.e : Nat)] 36)).alloc (.cells #[.int .u64 (r.l : Nat), .int .u64 (r.e : Nat)] 36) := ⟨_, rfl⟩
  have F1 : Hid (Frm [] w w1) := Lib.hid (by rw [hw1]; exact (((Frm.refl _ _).alloc _).alloc _).alloc _)
  obtain ⟨g, hg⟩ : ∃ g, g = w.heap.size := ⟨_, rfl⟩
  have B1 : Whole w1 g 36 #[.int .u64 (p.l : Nat), .int .u64 (p.e : Nat)] := by rw [hw1, hg]; exact ((Whole.made _ _ _).alloc _).alloc _
  have B2 : Whole w1 (g + 1) 36 #[.int .u64 (q.l : Nat), .int .u64 (q.e : Nat)] := by
    rw [hw1, hg]
    have := Whole.made (w.alloc (.cells #[.int .u64 (p.l : Nat), .int .u64 (p.e : Nat)] 36)) 36 #[.int .u64 (q.l : Nat), .int .u64 (q.e : Nat)]
    rw [World.size_alloc] at this
    exact this.alloc _
  have B3 : Whole w1 (g + 1 + 1) 36 #[.int .u64 (r.l : Nat), .int .u64 (r.e : Nat)] := by
    rw [hw1, hg]
    have := Whole.made ((w.alloc (.cells #[.int .u64 (p.l : Nat), .int .u64 (p.e : Nat)] 36)).alloc (.cells #[.int .u64 (q.l : Nat), .int .u64 (q.e : Nat)] 36)) 36 #[.int .u64 (r.l : Nat), .int .u64 (r.e : Nat)]
    rwa [World.size_alloc, World.size_alloc] at this
  have H1 : LdL w1 [] a X := h.1.sub F1.out
  have AW := Lib.hid (fun z => awake13_any z)
  have RI := Lib.hid (fun z (hz : Frm [] w1 z) => rlright_any a n cap X z (H1.sub hz) hn hsz)
  have O1 := Lib.hid (fun z => ldorder_any p q z)
  have O2 := Lib.hid (fun z => ldorder_any q r z)
  have BT : Hid (RtLd X → o ≤ 1099511627776 → ∀ a1 b1 z, Frm [] w1 z → Calls Try.prog 23 #[.slice a n cap, .int .u64 (o : Nat), Ps.val a1, Ps.val b1] z (LRet z (.int .u64 (btw X o a1 b1 : Nat)))) := Lib.hid (fun hr ho a1 b1 z hz => ldbetween_any a n cap X o a1 b1 z (H1.sub hz) hn (by have := hr.1; omega) (by have := tot_le hr ho; omega))
  have TB : Hid (RtLd X → o ≤ 1099511627776 → ∀ a1 b1, btw X o a1 b1 ≤ 70368744177664) := Lib.hid (fun hr ho a1 b1 => by have := tot_le hr ho; have := btw_le_tot X o a1 b1; omega)
  have AD : Hid (¬ q.lt p → ¬ r.lt q → btw X o p q + btw X o q r = btw X o p r ∧ btw X o r p = 0) := Lib.hid (fun h1 h2 => ⟨btw_add X o h1 h2, btw_back X o (fun h3 => by unfold Ps.lt at *; omega)⟩)
  clear h hn H1
  have k0 : ∀ z, Frm [] w1 z → z.cell? ⟨g, 0, none⟩ = some (.int .u64 (p.l : Nat)) := fun z hz => (hz.whole B1 (by simp)).cell 0
  have k1 : ∀ z, Frm [] w1 z → z.cell? ⟨g, 1, none⟩ = some (.int .u64 (p.e : Nat)) := fun z hz => (hz.whole B1 (by simp)).cell 1
  have k2 : ∀ z, Frm [] w1 z → z.cell? ⟨g + 1, 0, none⟩ = some (.int .u64 (q.l : Nat)) := fun z hz => (hz.whole B2 (by simp)).cell 0
  have k3 : ∀ z, Frm [] w1 z → z.cell? ⟨g + 1, 1, none⟩ = some (.int .u64 (q.e : Nat)) := fun z hz => (hz.whole B2 (by simp)).cell 1
  have k4 : ∀ z, Frm [] w1 z → z.cell? ⟨g + 1 + 1, 0, none⟩ = some (.int .u64 (r.l : Nat)) := fun z hz => (hz.whole B3 (by simp)).cell 0
  have k5 : ∀ z, Frm [] w1 z → z.cell? ⟨g + 1 + 1, 1, none⟩ = some (.int .u64 (r.e : Nat)) := fun z hz => (hz.whole B3 (by simp)).cell 1
  obtain ⟨pl, pe⟩ := p
  obtain ⟨ql, qe⟩ := q
  obtain ⟨rl, re⟩ := r
  obtain ⟨c1, hc1⟩ : ∃ c1, c1 = ordP ⟨pl, pe⟩ ⟨ql, qe⟩ := ⟨_, rfl⟩
  obtain ⟨c2, hc2⟩ : ∃ c2, c2 = ordP ⟨ql, qe⟩ ⟨rl, re⟩ := ⟨_, rfl⟩
  rw [← hc1] at O1
  rw [← hc2] at O2
  have C1 : Hid (c1 ≤ 0 → ¬ Ps.lt ⟨ql, qe⟩ ⟨pl, pe⟩) := Lib.hid (fun hh => by rw [hc1, ordP_le] at hh; exact hh)
  have C2 : Hid (c2 ≤ 0 → ¬ Ps.lt ⟨rl, re⟩ ⟨ql, qe⟩) := Lib.hid (fun hh => by rw [hc2, ordP_le] at hh; exact hh)
  clear hc1 hc2
  unfold Ps.val LRet at O1 O2
  unfold LRet at AW
  unfold Ps.val
  simp only at O1 O2 hw1 k0 k1 k2 k3 k4 k5 ⊢
  have K := Lib.hid (And.intro k0 (And.intro k1 (And.intro k2 (And.intro k3 (And.intro k4 k5)))))
  clear k0 k1 k2 k3 k4 k5 B1 B2 B3
  have HW1 := Lib.hid hw1; clear hw1
  go_enter Try.func6, Try.ntmps6
  go_wp2_with fail
  rw [← HW1.out, ← hg]
  have HG := Lib.hid hg; clear hg
  (with_reducible refine (AW.out _).mono ?_)
  rintro e w2 ⟨rfl, hf2⟩
  have F2 := Lib.hid hf2; clear hf2
  go_wp2_with fail
  (with_reducible refine (RI.out _ F2.out).mono ?_)
  rintro e w3 ⟨b, rfl, hb, hf3⟩
  have F3 : Hid (Frm [] w1 w3) := Lib.hid (F2.out.trans hf3 (by simp) (by simp))
  clear hf3
  cases b
  · have FF : Hid (Frm [] w w3) := Lib.hid (F1.out.trans F3.out (by simp) (by simp))
    clear hb
    go_wp2
    go_ret
    exact lTrue FF.out
  have RT := Lib.hid (hb.1 rfl)
  clear hb
  by_cases ho2 : 1099511627776 < o
  · have e1 : (1099511627776 : Int) < (o : Int) := by omega
    have e1' : decide (1099511627776 < o) = true := decide_eq_true ho2
    have FF : Hid (Frm [] w w3) := Lib.hid (F1.out.trans F3.out (by simp) (by simp))
    go_wp2
    go_ret
    exact lTrue FF.out
  have e1 : ¬ (1099511627776 : Int) < (o : Int) := by omega
  have e1' : decide (1099511627776 < o) = false := decide_eq_false ho2
  have e1d : decide ((1099511627776 : Int) < (o : Int)) = false := decide_eq_false e1
  have BT' := Lib.hid (BT.out RT.out (by omega))
  have TB' := Lib.hid (TB.out RT.out (by omega))
  clear ho2 ho BT TB
  obtain ⟨k0, k1, k2, k3, k4, k5⟩ := K.out
  have a0 := k0 _ F3.out
  have a1 := k1 _ F3.out
  have a2 := k2 _ F3.out
  have a3 := k3 _ F3.out
  clear k0 k1 k2 k3 k4 k5
  go_wp2_with fail
  (with_reducible refine (O1.out _).mono ?_)
  rintro e w4 ⟨rfl, hf4⟩
  have F4 : Hid (Frm [] w1 w4) := Lib.hid (F3.out.trans hf4 (by simp) (by simp))
  clear hf4 a0 a1 a2 a3
  by_cases hc1 : 0 < c1
  · have e2 : decide (0 < c1) = true := decide_eq_true hc1
    have FF : Hid (Frm [] w w4) := Lib.hid (F1.out.trans F4.out (by simp) (by simp))
    go_wp2
    go_ret
    exact lTrue FF.out
  have e2 : decide (0 < c1) = false := decide_eq_false hc1
  obtain ⟨k0, k1, k2, k3, k4, k5⟩ := K.out
  have a2 := k2 _ F4.out
  have a3 := k3 _ F4.out
  have a4 := k4 _ F4.out
  have a5 := k5 _ F4.out
  clear k0 k1 k2 k3 k4 k5
  go_wp2_with fail
  (with_reducible refine (O2.out _).mono ?_)
  rintro e w5 ⟨rfl, hf5⟩
  have F5 : Hid (Frm [] w1 w5) := Lib.hid (F4.out.trans hf5 (by simp) (by simp))
  clear hf5 a2 a3 a4 a5
  by_cases hc2 : 0 < c2
  · have e3 : decide (0 < c2) = true := decide_eq_true hc2
    have FF : Hid (Frm [] w w5) := Lib.hid (F1.out.trans F5.out (by simp) (by simp))
    go_wp2
    go_ret
    exact lTrue FF.out
  have e3 : decide (0 < c2) = false := decide_eq_false hc2
  obtain ⟨s1, s2⟩ := AD.out (C1.out (by omega)) (C2.out (by omega))
  have t1 := TB'.out ⟨pl, pe⟩ ⟨ql, qe⟩
  have t2 := TB'.out ⟨ql, qe⟩ ⟨rl, re⟩
  have c1' : Hid (∀ z, Frm [] w1 z → Calls Try.prog 23 #[.slice a n cap, .int .u64 (o : Nat), .agg #[.int .u64 (rl : Nat), .int .u64 (re : Nat)], .agg #[.int .u64 (pl : Nat), .int .u64 (pe : Nat)]] z fun e w' => e = .returned (.int .u64 0) ∧ Frm [] z w') := Lib.hid (fun z hz => (BT'.out ⟨rl, re⟩ ⟨pl, pe⟩ z hz).mono fun e w' hh => by unfold LRet at hh; rw [s2] at hh; exact hh)
  have BA := Lib.hid (BT'.out ⟨pl, pe⟩ ⟨ql, qe⟩)
  have BB := Lib.hid (BT'.out ⟨ql, qe⟩ ⟨rl, re⟩)
  have BC := Lib.hid (BT'.out ⟨pl, pe⟩ ⟨rl, re⟩)
  unfold Ps.val LRet at BA BB BC
  simp only at BA BB BC
  generalize btw X o ⟨pl, pe⟩ ⟨ql, qe⟩ = A at s1 t1 BA
  generalize btw X o ⟨ql, qe⟩ ⟨rl, re⟩ = B at s1 t2 BB
  generalize btw X o ⟨pl, pe⟩ ⟨rl, re⟩ = C at s1 BC
  have hw2 : IntKind.u64.wrap ((A : Int) + (B : Int)) = (C : Int) := by simp [IntKind.wrap, IntKind.bits, IntKind.signed]; omega
  have hw3 : (A : Int) + (B : Int) = (C : Int) := by omega
  have hw4 : IntKind.u64.wrap (C : Int) = (C : Int) := by simp [IntKind.wrap, IntKind.bits, IntKind.signed]; omega
  have hcc : ((C : Int) == (C : Int)) = true := beq_self_eq_true _
  clear s1 s2 t1 t2 hc1 hc2 AD C1 C2 BT' TB' e1 e1' e2
  obtain ⟨k0, k1, k2, k3, k4, k5⟩ := K.out
  go_wp2
  refine wp_region_held_drew (S := fun w' => Frm [] w1 w') (by kernel_rfl) (Frm.drew F5.out) (fun hHeld => ?_)
  refine wpAnyH_take (i := 0) (oi := ⟨some 32, _, _, _, _, _⟩) (v := ?_) rfl (by kernel_rfl) (by kernel_rfl) (by kernel_rfl) (fun _ _ _ h => h) (Or.inl ⟨by rfl, ?_⟩) (by assumption) ?_
  rotate_left 1
  · (intro w hSw; (try dsimp only at hSw); go_simp; all_goals with_reducible rfl)
  try simp only [Act.put, List.setIfInBounds_toArray, List.set_cons_zero, List.set_cons_succ]
  refine wpAnyH_take (i := 1) (oi := ⟨some 33, _, _, _, _, _⟩) (v := ?_) rfl (by kernel_rfl) (by kernel_rfl) (by kernel_rfl) (fun _ _ _ h => h) (Or.inl ⟨by rfl, ?_⟩) (by assumption) ?_
  rotate_left 1
  · (intro w hSw; (try dsimp only at hSw); go_simp; all_goals with_reducible rfl)
  try simp only [Act.put, List.setIfInBounds_toArray, List.set_cons_zero, List.set_cons_succ]
  refine wpAnyH_take (i := 2) (oi := ⟨some 34, _, _, _, _, _⟩) (v := ?_) rfl (by kernel_rfl) (by kernel_rfl) (by kernel_rfl) (fun _ _ _ h => h) (Or.inl ⟨by rfl, ?_⟩) (by assumption) ?_
  rotate_left 1
  · (intro w hSw; (try dsimp only at hSw); go_simp; all_goals with_reducible rfl)
  try simp only [Act.put, List.setIfInBounds_toArray, List.set_cons_zero, List.set_cons_succ]
  refine wpAnyH_take (i := 3) (oi := ⟨some 35, _, _, _, _, _⟩) (v := ?_) rfl (by kernel_rfl) (by kernel_rfl) (by kernel_rfl) (fun _ _ _ h => h) (Or.inl ⟨by rfl, ?_⟩) (by assumption) ?_
  rotate_left 1
  · (intro w hSw; (try dsimp only at hSw); go_simp; all_goals with_reducible rfl)
  try simp only [Act.put, List.setIfInBounds_toArray, List.set_cons_zero, List.set_cons_succ]
  refine wpAnyH_take (i := 5) (oi := ⟨some 37, _, _, _, _, _⟩) (v := ?_) rfl (by kernel_rfl) (by kernel_rfl) (by kernel_rfl) (fun _ _ _ h => h) (Or.inl ⟨by rfl, ?_⟩) (by assumption) ?_
  rotate_left 1
  · (intro w hSw; (try dsimp only at hSw); go_simp; all_goals with_reducible rfl)
  try simp only [Act.put, List.setIfInBounds_toArray, List.set_cons_zero, List.set_cons_succ]
  refine wpAnyH_take (i := 6) (oi := ⟨some 38, _, _, _, _, _⟩) (v := ?_) rfl (by kernel_rfl) (by kernel_rfl) (by kernel_rfl) (fun _ _ _ h => h) (Or.inl ⟨by rfl, ?_⟩) (by assumption) ?_
  rotate_left 1
  · (intro w hSw; (try dsimp only at hSw); go_simp; all_goals with_reducible rfl)
  try simp only [Act.put, List.setIfInBounds_toArray, List.set_cons_zero, List.set_cons_succ]
  refine wpAnyH_take (i := 7) (oi := ⟨some 39, _, _, _, _, _⟩) (v := ?_) rfl (by kernel_rfl) (by kernel_rfl) (by kernel_rfl) (fun _ _ _ h => h) (Or.inl ⟨by rfl, ?_⟩) (by assumption) ?_
  rotate_left 1
  · (intro w hSw; (try dsimp only at hSw); go_simp; all_goals with_reducible rfl)
  try simp only [Act.put, List.setIfInBounds_toArray, List.set_cons_zero, List.set_cons_succ]
  refine wpAnyH_take (i := 8) (oi := ⟨some 40, _, _, _, _, _⟩) (v := ?_) rfl (by kernel_rfl) (by kernel_rfl) (by kernel_rfl) (fun _ _ _ h => h) (Or.inl ⟨by rfl, ?_⟩) (by assumption) ?_
  rotate_left 1
  · (intro w hSw; (try dsimp only at hSw); go_simp; all_goals with_reducible rfl)
  try simp only [Act.put, List.setIfInBounds_toArray, List.set_cons_zero, List.set_cons_succ]
  refine wpAnyH_take (i := 11) (oi := ⟨some 43, _, _, _, _, _⟩) (v := ?_) rfl (by kernel_rfl) (by kernel_rfl) (by kernel_rfl) (fun _ _ _ h => h) (Or.inl ⟨by rfl, ?_⟩) (by assumption) ?_
  rotate_left 1
  · (intro w hSw; (try dsimp only at hSw); go_simp; all_goals with_reducible rfl)
  try simp only [Act.put, List.setIfInBounds_toArray, List.set_cons_zero, List.set_cons_succ]
  refine wpAnyH_take (i := 12) (oi := ⟨some 44, _, _, _, _, _⟩) (v := ?_) rfl (by kernel_rfl) (by kernel_rfl) (by kernel_rfl) (fun _ _ _ h => h) (Or.inl ⟨by rfl, ?_⟩) (by assumption) ?_
  rotate_left 1
  · (intro w hSw; (try dsimp only at hSw); go_simp; all_goals with_reducible rfl)
  try simp only [Act.put, List.setIfInBounds_toArray, List.set_cons_zero, List.set_cons_succ]
  refine wpAnyH_take (i := 13) (oi := ⟨some 45, _, _, _, _, _⟩) (v := ?_) rfl (by kernel_rfl) (by kernel_rfl) (by kernel_rfl) (fun _ _ _ h => h) (Or.inl ⟨by rfl, ?_⟩) (by assumption) ?_
  rotate_left 1
  · (intro w hSw; (try dsimp only at hSw); go_simp; all_goals with_reducible rfl)
  try simp only [Act.put, List.setIfInBounds_toArray, List.set_cons_zero, List.set_cons_succ]
  refine wpAnyH_take (i := 14) (oi := ⟨some 46, _, _, _, _, _⟩) (v := ?_) rfl (by kernel_rfl) (by kernel_rfl) (by kernel_rfl) (fun _ _ _ h => h) (Or.inl ⟨by rfl, ?_⟩) (by assumption) ?_
  rotate_left 1
  · (intro w hSw; (try dsimp only at hSw); go_simp; all_goals with_reducible rfl)
  try simp only [Act.put, List.setIfInBounds_toArray, List.set_cons_zero, List.set_cons_succ]
  refine wpAnyH_ready (rs := [4]) (by kernel_rfl) (by simp) ?_
  refine AllReadyH.cons (o := ⟨some 36, _, _, _, _, _⟩) rfl (fun K hK => ?_) AllReadyH.nil
  go_simp
  go_at_call 23; (with_reducible refine (BA.out _ hHeld).mono ?_); rintro e w6 ⟨rfl, hf6⟩; have hHeld6 : Frm [] w1 w6 := hHeld.trans hf6 (by simp) (by simp)
  go_wp2_with fail
  refine hK.out _ _ (by assumption) (fun hHeld => ?_)
  clear hK K
  try simp only [Act.put, List.setIfInBounds_toArray, List.set_cons_zero, List.set_cons_succ]
  refine wpAnyH_ready (rs := [9]) (by kernel_rfl) (by simp) ?_
  refine AllReadyH.cons (o := ⟨some 41, _, _, _, _, _⟩) rfl (fun K hK => ?_) AllReadyH.nil
  go_simp
  go_at_call 23; (with_reducible refine (BB.out _ hHeld).mono ?_); rintro e w7 ⟨rfl, hf7⟩; have hHeld7 : Frm [] w1 w7 := hHeld.trans hf7 (by simp) (by simp)
  go_wp2_with fail
  refine hK.out _ _ (by assumption) (fun hHeld => ?_)
  clear hK K
  try simp only [Act.put, List.setIfInBounds_toArray, List.set_cons_zero, List.set_cons_succ]
  refine wpAnyH_take (i := 10) (oi := ⟨some 42, _, _, _, _, _⟩) (v := ?_) rfl (by kernel_rfl) (by kernel_rfl) (by kernel_rfl) (fun _ _ _ h => h) (Or.inl ⟨by rfl, ?_⟩) (by assumption) ?_
  rotate_left 1
  · (intro w hSw; (try dsimp only at hSw); go_simp; all_goals with_reducible rfl)
  try simp only [Act.put, List.setIfInBounds_toArray, List.set_cons_zero, List.set_cons_succ]
  refine wpAnyH_ready (rs := [15]) (by kernel_rfl) (by simp) ?_
  refine AllReadyH.cons (o := ⟨some 47, _, _, _, _, _⟩) rfl (fun K hK => ?_) AllReadyH.nil
  go_simp
  go_at_call 23; (with_reducible refine (BC.out _ hHeld).mono ?_); rintro e w8 ⟨rfl, hf8⟩; have hHeld8 : Frm [] w1 w8 := hHeld.trans hf8 (by simp) (by simp)
  go_wp2_with fail
  refine hK.out _ _ (by assumption) (fun hHeld => ?_)
  clear hK K
  try simp only [Act.put, List.setIfInBounds_toArray, List.set_cons_zero, List.set_cons_succ]
  refine wpAnyH_take (i := 16) (oi := ⟨some 48, _, _, _, _, _⟩) (v := ?_) rfl (by kernel_rfl) (by kernel_rfl) (by kernel_rfl) (fun _ _ _ h => h) (Or.inl ⟨by rfl, ?_⟩) (by assumption) ?_
  rotate_left 1
  · (intro w hSw; (try dsimp only at hSw); go_simp; all_goals with_reducible rfl)
  try simp only [Act.put, List.setIfInBounds_toArray, List.set_cons_zero, List.set_cons_succ]
  refine wpAnyH_take (i := 17) (oi := ⟨some 49, _, _, _, _, _⟩) (v := ?_) rfl (by kernel_rfl) (by kernel_rfl) (by kernel_rfl) (fun _ _ _ h => h) (Or.inl ⟨by rfl, ?_⟩) (by assumption) ?_
  rotate_left 1
  · (intro w hSw; (try dsimp only at hSw); go_simp; all_goals with_reducible rfl)
  try simp only [Act.put, List.setIfInBounds_toArray, List.set_cons_zero, List.set_cons_succ]
  refine wpAnyH_take (i := 18) (oi := ⟨some 50, _, _, _, _, _⟩) (v := ?_) rfl (by kernel_rfl) (by kernel_rfl) (by kernel_rfl) (fun _ _ _ h => h) (Or.inl ⟨by rfl, ?_⟩) (by assumption) ?_
  rotate_left 1
  · (intro w hSw; (try dsimp only at hSw); go_simp; all_goals with_reducible rfl)
  try simp only [Act.put, List.setIfInBounds_toArray, List.set_cons_zero, List.set_cons_succ]
  refine wpAnyH_take (i := 19) (oi := ⟨some 51, _, _, _, _, _⟩) (v := ?_) rfl (by kernel_rfl) (by kernel_rfl) (by kernel_rfl) (fun _ _ _ h => h) (Or.inl ⟨by rfl, ?_⟩) (by assumption) ?_
  rotate_left 1
  · (intro w hSw; (try dsimp only at hSw); go_simp; all_goals with_reducible rfl)
  try simp only [Act.put, List.setIfInBounds_toArray, List.set_cons_zero, List.set_cons_succ]
  refine wpAnyH_take (i := 20) (oi := ⟨some 52, _, _, _, _, _⟩) (v := ?_) rfl (by kernel_rfl) (by kernel_rfl) (by kernel_rfl) (fun _ _ _ h => h) (Or.inl ⟨by rfl, ?_⟩) (by assumption) ?_
  rotate_left 1
  · (intro w hSw; (try dsimp only at hSw); go_simp; all_goals with_reducible rfl)
  try simp only [Act.put, List.setIfInBounds_toArray, List.set_cons_zero, List.set_cons_succ]
  refine wpAnyH_take (i := 21) (oi := ⟨some 53, _, _, _, _, _⟩) (v := ?_) rfl (by kernel_rfl) (by kernel_rfl) (by kernel_rfl) (fun _ _ _ h => h) (Or.inl ⟨by rfl, ?_⟩) (by assumption) ?_
  rotate_left 1
  · (intro w hSw; (try dsimp only at hSw); go_simp; all_goals with_reducible rfl)
  try simp only [Act.put, List.setIfInBounds_toArray, List.set_cons_zero, List.set_cons_succ]
  refine wpAnyH_ready (rs := [22]) (by kernel_rfl) (by simp) ?_
  refine AllReadyH.cons (o := ⟨some 54, _, _, _, _, _⟩) rfl (fun K hK => ?_) AllReadyH.nil
  go_simp
  go_at_call 23; (with_reducible refine (c1'.out _ hHeld).mono ?_); rintro e w9 ⟨rfl, hf9⟩; have hHeld9 : Frm [] w1 w9 := hHeld.trans hf9 (by simp) (by simp)
  go_wp2_with fail
  refine hK.out _ _ (by assumption) (fun hHeld => ?_)
  clear hK K
  try simp only [Act.put, List.setIfInBounds_toArray, List.set_cons_zero, List.set_cons_succ]
  refine wpAnyH_take (i := 23) (oi := ⟨some 55, _, _, _, _, _⟩) (v := ?_) rfl (by kernel_rfl) (by kernel_rfl) (by kernel_rfl) (fun _ _ _ h => h) (Or.inl ⟨by rfl, ?_⟩) (by assumption) ?_
  rotate_left 1
  · (intro w hSw; (try dsimp only at hSw); go_simp; all_goals with_reducible rfl)
  try simp only [Act.put, List.setIfInBounds_toArray, List.set_cons_zero, List.set_cons_succ]
  refine wpAnyH_take (i := 24) (oi := ⟨some 56, _, _, _, _, _⟩) (v := ?_) rfl (by kernel_rfl) (by kernel_rfl) (by kernel_rfl) (fun _ _ _ h => h) (Or.inl ⟨by rfl, ?_⟩) (by assumption) ?_
  rotate_left 1
  · (intro w hSw; (try dsimp only at hSw); go_simp; all_goals with_reducible rfl)
  try simp only [Act.put, List.setIfInBounds_toArray, List.set_cons_zero, List.set_cons_succ]
  refine wpAnyH_take (i := 25) (oi := ⟨some 10, _, _, _, _, _⟩) (v := ?_) rfl (by kernel_rfl) (by kernel_rfl) (by kernel_rfl) (fun _ _ _ h => h) (Or.inl ⟨by rfl, ?_⟩) (by assumption) ?_
  rotate_left 1
  · (intro w hSw; (try dsimp only at hSw); go_simp; all_goals with_reducible rfl)
  try simp only [Act.put, List.setIfInBounds_toArray, List.set_cons_zero, List.set_cons_succ]
  refine wpAnyH_done (by kernel_rfl) ?_ _
  clear k0 k1 k2 k3 k4 k5
  have FF : Hid (Frm [] w _) := Lib.hid (F1.out.trans hHeld (by simp) (by simp))
  go_wp2
  go_ret
  exact lTrue FF.out
end Go.Proofs.Ytimmoencmmpkdaa
