/- Layer 13's fixed fact: contract of Awake. -/
import Derived.Test.YtimmoencmmpkdaaLdHas
import Derived.Test.YtimmoencmmpkdaaLdCheck
namespace Go.Proofs.Ytimmoencmmpkdaa
open Go.RowKit
set_option maxRecDepth 100000

def exL : List Ld := [⟨3, true, 2⟩, ⟨5, false, 0⟩]
theorem exL_next1 : nextR exL 1 ⟨3, 2⟩ = .tuple #[.agg #[.int .u64 5, .int .u64 0], .bool true] := by rfl
theorem exL_next2 : nextR exL 1 ⟨5, 1⟩ = .tuple #[.agg #[.int .u64 5, .int .u64 1], .bool false] := by rfl
theorem exL_btw : btw exL 1 ⟨3, 1⟩ ⟨5, 9⟩ = 2 := by rfl
theorem exL_tot : tot exL 1 = 3 := by rfl
theorem exL_right : RtLd exL := by
  refine ⟨by decide, fun i hi => ?_⟩
  have h2 : i < 2 := hi
  rcases Nat.lt_or_ge i 1 with h | h
  · obtain rfl : i = 0 := by omega
    exact ⟨by decide, by decide, by decide, by decide⟩
  · obtain rfl : i = 1 := by omega
    exact ⟨by decide, by decide, by decide, by decide⟩
theorem ld_lit (w : World) (X : List Ld) (cs : Array Value) (hcs : cs.toList = ldc X) (hf : ∀ x ∈ X, x.fits) : LdL (w.alloc (.cells cs 32)) [] (some ⟨w.heap.size, 0, none⟩) X := by
  refine ⟨.inr ⟨_, _, rfl, fun i u hu => ?_⟩, hf, by simp⟩
  rw [(Whole.made w _ cs).cell, Nat.zero_add, ← hu, ← hcs]
  simp
set_option maxHeartbeats 4000000 in
theorem awake13_any (w : World) : Calls Try.prog 9 #[] w (LRet w (.bool true)) := by
  have hl : LdL (w.alloc (.cells #[.int .u64 3, .bool true, .int .u64 2, .int .u64 5, .bool false, .int .u64 0] 32)) [] (some ⟨w.heap.size, 0, none⟩) exL := ld_lit w exL _ rfl (by intro x hx; simp [exL] at hx; rcases hx with rfl | rfl <;> exact ⟨by decide, by decide⟩)
  obtain ⟨g, hg⟩ : ∃ g, g = w.heap.size := ⟨_, rfl⟩
  obtain ⟨w1, hw1⟩ : ∃ w1, w1 = w.alloc (.cells #[.int .u64 3, .bool true, .int .u64 2, .int .u64 5, .bool false, .int .u64 0] 32) := ⟨_, rfl⟩
  rw [← hw1, ← hg] at hl
  have F1 : Hid (Frm [] w w1) := Lib.hid (by rw [hw1]; exact (Frm.refl _ _).alloc _)
  have N1 : Hid (∀ z, Frm [] w1 z → Calls Try.prog 17 #[.slice (some ⟨g, 0, none⟩) 2 2, .int .u64 1, .agg #[.int .u64 3, .int .u64 2]] z fun e w' => e = .returned (.tuple #[.agg #[.int .u64 5, .int .u64 0], .bool true]) ∧ Frm [] z w') := Lib.hid (fun z hz => ldnext_any (some ⟨g, 0, none⟩) 2 2 exL 1 ⟨3, 2⟩ z (hl.sub hz) rfl (by decide))
  have N2 : Hid (∀ z, Frm [] w1 z → Calls Try.prog 17 #[.slice (some ⟨g, 0, none⟩) 2 2, .int .u64 1, .agg #[.int .u64 5, .int .u64 1]] z fun e w' => e = .returned (.tuple #[.agg #[.int .u64 5, .int .u64 1], .bool false]) ∧ Frm [] z w') := Lib.hid (fun z hz => ldnext_any (some ⟨g, 0, none⟩) 2 2 exL 1 ⟨5, 1⟩ z (hl.sub hz) rfl (by decide))
  have CH : Hid (∀ z, Frm [] w1 z → Calls Try.prog 10 #[.slice (some ⟨g, 0, none⟩) 2 2] z fun e w' => e = .returned (.bool true) ∧ Frm [] z w') := Lib.hid (fun z hz => (ldcheck_any (some ⟨g, 0, none⟩) 2 2 exL z (hl.sub hz) rfl (by decide)).mono fun e w' h => h.yes exL_right)
  have BW : Hid (∀ z, Frm [] w1 z → Calls Try.prog 23 #[.slice (some ⟨g, 0, none⟩) 2 2, .int .u64 1, .agg #[.int .u64 3, .int .u64 1], .agg #[.int .u64 5, .int .u64 9]] z fun e w' => e = .returned (.int .u64 2) ∧ Frm [] z w') := Lib.hid (fun z hz => (ldbetween_any (some ⟨g, 0, none⟩) 2 2 exL 1 ⟨3, 1⟩ ⟨5, 9⟩ z (hl.sub hz) rfl (by decide) (by rw [exL_tot]; decide)).mono fun e w' h => by rw [exL_btw] at h; exact h)
  have e1 : ∀ w : World, (binOp .eql 36 (.agg #[.int .u64 5, .int .u64 0]) (.agg #[.int .u64 5, .int .u64 0])).run Try.prog w = .ok (.bool true) w := fun w => eql_ps 5 0 5 0 w
  have e2 : ∀ w : World, (binOp .eql 36 (.agg #[.int .u64 5, .int .u64 1]) (.agg #[.int .u64 5, .int .u64 1])).run Try.prog w = .ok (.bool true) w := fun w => eql_ps 5 1 5 1 w
  have HW1 := Lib.hid hw1; clear hw1
  clear hl
  have n1 : ((2 : Nat) : Int) = 2 := rfl
  go_enter Try.func9, Try.ntmps9
  go_upto_region 2 with (fail)
  rw [← HW1.out, ← hg]
  have HG := Lib.hid hg; clear hg
  go_wp2_with fail
  (with_reducible refine (N1.out _ (Frm.refl _ _)).mono ?_)
  rintro e w2 ⟨rfl, hf2⟩
  have f2 : Frm [] w1 (w2.alloc (.cells #[.int .u64 5, .int .u64 0] 36)) := hf2.alloc _
  have B2 : Hid (Whole (w2.alloc (.cells #[.int .u64 5, .int .u64 0] 36)) w2.heap.size 36 #[.int .u64 5, .int .u64 0]) := Lib.hid (Whole.made _ _ _)
  have F2 := Lib.hid f2; clear f2 hf2
  obtain ⟨w2a, hw2a⟩ : ∃ w2a, w2a = w2.alloc (.cells #[.int .u64 5, .int .u64 0] 36) := ⟨_, rfl⟩
  rw [← hw2a] at F2 B2
  have HW2 := Lib.hid hw2a; clear hw2a
  obtain ⟨g2, hg2⟩ : ∃ g2, g2 = w2.heap.size := ⟨_, rfl⟩
  rw [← hg2] at B2
  have HG2 := Lib.hid hg2; clear hg2
  go_upto_region 3 with (fail)
  rw [← HW2.out, ← HG2.out]
  go_wp2_with fail
  (with_reducible refine (N2.out _ F2.out).mono ?_)
  rintro e w3 ⟨rfl, hf3⟩
  have f3 : Frm [] w1 (w3.alloc (.cells #[.int .u64 5, .int .u64 1] 36)) := (F2.out.trans hf3 (by simp) (by simp)).alloc _
  have B3 : Hid (Whole (w3.alloc (.cells #[.int .u64 5, .int .u64 1] 36)) w3.heap.size 36 #[.int .u64 5, .int .u64 1]) := Lib.hid (Whole.made _ _ _)
  have B23 : Hid (Whole (w3.alloc (.cells #[.int .u64 5, .int .u64 1] 36)) g2 36 #[.int .u64 5, .int .u64 0]) := Lib.hid ((hf3.whole B2.out (by simp)).alloc _)
  have F3 := Lib.hid f3; clear f3 hf3
  obtain ⟨w3a, hw3a⟩ : ∃ w3a, w3a = w3.alloc (.cells #[.int .u64 5, .int .u64 1] 36) := ⟨_, rfl⟩
  rw [← hw3a] at F3 B3 B23
  have HW3 := Lib.hid hw3a; clear hw3a
  obtain ⟨g3, hg3⟩ : ∃ g3, g3 = w3.heap.size := ⟨_, rfl⟩
  rw [← hg3] at B3
  have HG3 := Lib.hid hg3; clear hg3
  go_upto_region 4 with (fail)
  rw [← HW3.out, ← HG3.out]
  go_wp2_with fail
  (with_reducible refine (CH.out _ F3.out).mono ?_)
  rintro e w4 ⟨rfl, hf4⟩
  have F4 : Hid (Frm [] w1 w4) := Lib.hid (F3.out.trans hf4 (by simp) (by simp))
  have p0 := (hf4.whole B23.out (by simp)).cell 0
  have p1 := (hf4.whole B23.out (by simp)).cell 1
  have q0 := (hf4.whole B3.out (by simp)).cell 0
  have q1 := (hf4.whole B3.out (by simp)).cell 1
  simp at p0 p1 q0 q1
  clear hf4
  go_wp2_with fail
  (with_reducible refine (BW.out _ F4.out).mono ?_)
  rintro e w5 ⟨rfl, hf5⟩
  have FF : Hid (Frm [] w w5) := Lib.hid (F1.out.trans (F4.out.trans hf5 (U := []) (by simp) (by simp)) (by simp) (by simp))
  clear hf5
  go_wp2
  go_ret
  exact ⟨rfl, FF.out⟩
end Go.Proofs.Ytimmoencmmpkdaa
