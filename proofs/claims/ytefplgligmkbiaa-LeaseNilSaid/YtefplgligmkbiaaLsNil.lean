/- Contracts of the calls on a nil book; the walk of LeaseNil. -/
import Derived.Test.YtefplgligmkbiaaLsAwake
import Derived.Test.YtefplgligmkbiaaInLe
namespace Go.Proofs.Ytefplgligmkbiaa
open Go.RowKit

set_option maxHeartbeats 1000000 in
theorem nil_open (w : World) (a b : Nat) : Calls Try.prog 11 #[.pointer none, .int .u64 (a : Nat), .int .u64 (b : Nat)] w fun e w' => e = .returned (.tuple #[.int .u64 0, .int .i64 1]) ∧ w = w' := by
  go_enter Try.func11, Try.ntmps11
  go_wp2
  go_ret2
  exact ⟨rfl, rfl⟩
set_option maxHeartbeats 1000000 in
theorem nil_renew (w : World) (a b : Nat) : Calls Try.prog 13 #[.pointer none, .int .u64 (a : Nat), .int .u64 (b : Nat)] w fun e w' => e = .returned (.int .i64 1) ∧ w = w' := by
  go_enter Try.func13, Try.ntmps13
  go_wp2
  go_ret
  exact ⟨rfl, rfl⟩
set_option maxHeartbeats 1000000 in
theorem nil_close (w : World) (a : Nat) : Calls Try.prog 15 #[.pointer none, .int .u64 (a : Nat)] w fun e w' => e = .returned (.int .i64 1) ∧ w = w' := by
  go_enter Try.func15, Try.ntmps15
  go_wp2
  go_ret
  exact ⟨rfl, rfl⟩
set_option maxHeartbeats 1000000 in
theorem nil_expire (w : World) (a : Nat) : Calls Try.prog 18 #[.pointer none, .int .u64 (a : Nat)] w fun e w' => e = .returned (.slice none 0 0) ∧ w = w' := by
  go_enter Try.func18, Try.ntmps18
  go_wp2
  go_ret
  exact ⟨rfl, rfl⟩
set_option maxHeartbeats 1000000 in
theorem nil_live (w : World) (a b : Nat) : Calls Try.prog 21 #[.pointer none, .int .u64 (a : Nat), .int .u64 (b : Nat)] w fun e w' => e = .returned (.bool false) ∧ w = w' := by
  go_enter Try.func21, Try.ntmps21
  go_wp2
  go_ret
  exact ⟨rfl, rfl⟩
set_option maxHeartbeats 1000000 in
theorem nil_all (w : World) : Calls Try.prog 23 #[.pointer none] w fun e w' => e = .returned (.tuple #[.int .u64 0, .slice none 0 0]) ∧ w = w' := by
  go_enter Try.func23, Try.ntmps23
  go_wp2
  go_ret2
  exact ⟨rfl, rfl⟩

set_option maxRecDepth 100000 in
set_option maxHeartbeats 2000000 in
theorem leaseNil_walk (t : Le) (w : World) (h : LeOk w t) : Calls Try.prog 6 #[t.value] w fun e w' => e = .returned (.bool true) ∧ Below w.heap.size w w' := by
  obtain ⟨k, id, now, life⟩ := t
  unfold Le.value
  obtain ⟨W0, hW0⟩ : ∃ W0, W0 = w.alloc (.cells #[.int .u8 (k : Nat), .int .u64 (id : Nat), .int .u64 (now : Nat), .int .u64 (life : Nat)] 33) := ⟨_, rfl⟩
  obtain ⟨g, hg⟩ : ∃ g, g = w.heap.size := ⟨_, rfl⟩
  have HC := Lib.hid (fun (z : World) (hz : Frm [] W0 z) => (show z.cell? ⟨g, 1, none⟩ = some (.int .u64 (id : Nat)) ∧ z.cell? ⟨g, 2, none⟩ = some (.int .u64 (now : Nat)) ∧ z.cell? ⟨g, 3, none⟩ = some (.int .u64 (life : Nat)) from by
    have h0 : Whole W0 g 33 #[.int .u8 (k : Nat), .int .u64 (id : Nat), .int .u64 (now : Nat), .int .u64 (life : Nat)] := by rw [hW0, hg]; exact Whole.made _ _ _
    have h1 := hz.whole h0 (by simp)
    exact ⟨h1.cell 1, h1.cell 2, h1.cell 3⟩))
  have F0 : Hid (Frm [] w W0) := by rw [hW0]; exact Lib.hid ((Frm.refl _ _).alloc _)
  have HA := Lib.hid (awake7_any W0)
  have HW0 := Lib.hid hW0
  have HG := Lib.hid hg
  clear h hW0 hg
  go_enter Try.func6, Try.ntmps6
  go_wp2_with fail
  rw [← HW0.out, ← HG.out]
  refine HA.out.mono ?_
  rintro e w1 ⟨rfl, hf⟩
  obtain ⟨q1, q2, q3⟩ := HC.out _ hf
  have F1 := Lib.hid (F0.out.trans hf (U := []) (by simp) (by simp))
  clear HW0 HG HA F0 hf HC
  have N1 := Lib.hid (fun w => nil_open w now life)
  have N2 := Lib.hid (fun w => nil_all w)
  have N3 := Lib.hid (fun w => nil_renew w id now)
  have N4 := Lib.hid (fun w => nil_close w id)
  have N5 := Lib.hid (fun w => nil_expire w now)
  have N6 := Lib.hid (fun w => nil_live w id now)
  go_wp2_with ((first
    | (go_at_call 11; (with_reducible refine (N1.out _).mono ?_))
    | (go_at_call 23; (with_reducible refine (N2.out _).mono ?_))
    | (go_at_call 13; (with_reducible refine (N3.out _).mono ?_))
    | (go_at_call 15; (with_reducible refine (N4.out _).mono ?_))
    | (go_at_call 18; (with_reducible refine (N5.out _).mono ?_))
    | (go_at_call 21; (with_reducible refine (N6.out _).mono ?_))); rintro e w' ⟨rfl, rfl⟩)
  go_ret
  exact ⟨rfl, F1.out.below (by simp) (Nat.le_refl _)⟩
end Go.Proofs.Ytefplgligmkbiaa
