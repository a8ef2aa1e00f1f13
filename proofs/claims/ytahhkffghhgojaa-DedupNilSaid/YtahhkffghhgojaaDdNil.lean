/- The walk of DedupNil. -/
import Derived.Test.YtahhkffghhgojaaDdAwake
import Derived.Test.YtahhkffghhgojaaInDa
import Derived.Test.YtahhkffghhgojaaEqLn
namespace Go.Proofs.Ytahhkffghhgojaa
open Go.RowKit
set_option maxRecDepth 100000
set_option maxHeartbeats 8000000 in
theorem dedupNil_walk (t : Da) (w : World) (h : DaOk w t) :
    Calls Try.prog 5 #[t.value] w fun e w' => e = .returned (.bool true) ∧ Below w.heap.size w w' := by
  obtain ⟨k, nm, seq, al, ae, raw⟩ := t
  unfold Da.value
  simp only
  clear h
  obtain ⟨w0, hw0⟩ : ∃ w0, w0 = w.alloc (.cells #[.int .u8 (k : Nat), .string nm, .int .u64 (seq : Nat), .int .u64 (al : Nat), .int .u64 (ae : Nat), .bool raw] 34) := ⟨_, rfl⟩
  obtain ⟨g, hg⟩ : ∃ g, g = w.heap.size := ⟨_, rfl⟩
  have F0 : Hid (Frm [] w w0) := Lib.hid (by rw [hw0]; exact (Frm.refl _ _).alloc _)
  have B0 : Hid (Whole w0 g 34 #[.int .u8 (k : Nat), .string nm, .int .u64 (seq : Nat), .int .u64 (al : Nat), .int .u64 (ae : Nat), .bool raw]) := Lib.hid (by rw [hw0, hg]; exact Whole.made _ _ _)
  have ee : ∀ w : World, (binOp .eql 42 (.agg #[.string ⟨#[]⟩, .int .u64 0, .int .u64 0, .int .u64 0, .int .u64 0]) (.agg #[.string ⟨#[]⟩, .int .u64 0, .int .u64 0, .int .u64 0, .int .u64 0])).run Try.prog w = .ok (.bool true) w := fun w => eql_ln ⟨#[]⟩ 0 0 0 0 ⟨#[]⟩ 0 0 0 0 w
  have HW0 := Lib.hid hw0; clear hw0
  have HG := Lib.hid hg; clear hg
  go_enter Try.func5, Try.ntmps5
  go_wp2_with fail
  rw [← HW0.out, ← HG.out]
  (with_reducible refine (awake15_any _).mono ?_)
  rintro e w1 ⟨rfl, hf1⟩
  have F1 : Hid (Frm [] w w1) := Lib.hid (F0.out.trans hf1 (by simp) (by simp))
  have B1 := Lib.hid (hf1.whole B0.out (by simp))
  have b1 := B1.out.cell 1
  simp at b1
  clear hf1
  go_wp2_with fail
  (with_reducible refine (dlast_nil _ _).mono ?_)
  rintro e w2 ⟨rfl, hf2⟩
  have f2 : Frm [] w1 (w2.alloc (.cells #[.string ⟨#[]⟩, .int .u64 0, .int .u64 0, .int .u64 0, .int .u64 0] 42)) := hf2.alloc _
  have L2 : Hid (Whole (w2.alloc (.cells #[.string ⟨#[]⟩, .int .u64 0, .int .u64 0, .int .u64 0, .int .u64 0] 42)) w2.heap.size 42 #[.string ⟨#[]⟩, .int .u64 0, .int .u64 0, .int .u64 0, .int .u64 0]) := Lib.hid (Whole.made _ _ _)
  obtain ⟨g2, hg2⟩ : ∃ g2, g2 = w2.heap.size := ⟨_, rfl⟩
  obtain ⟨w2a, hw2a⟩ : ∃ w2a, w2a = w2.alloc (.cells #[.string ⟨#[]⟩, .int .u64 0, .int .u64 0, .int .u64 0, .int .u64 0] 42) := ⟨_, rfl⟩
  rw [← hg2] at L2
  rw [← hw2a] at f2 L2
  have HW2 := Lib.hid hw2a; clear hw2a
  have HG2 := Lib.hid hg2; clear hg2
  have F2 : Hid (Frm [] w w2a) := Lib.hid (F1.out.trans f2 (by simp) (by simp))
  have B2 := Lib.hid (f2.whole B1.out (by simp))
  clear hf2 f2 b1
  go_wp2_with fail
  rw [← HW2.out, ← HG2.out]
  (with_reducible refine (dfor_nil _).mono ?_)
  rintro e w3 ⟨rfl, hf3⟩
  obtain ⟨w4, hw4⟩ : ∃ w4, w4 = w3.alloc (.cells #[.pointer none, .int .i64 0] 57) := ⟨_, rfl⟩
  obtain ⟨g4, hg4⟩ : ∃ g4, g4 = w3.heap.size := ⟨_, rfl⟩
  have P4 : Hid (Whole w4 g4 57 #[.pointer none, .int .i64 0]) := Lib.hid (by rw [hw4, hg4]; exact Whole.made _ _ _)
  have f4 : Frm [] w2a w4 := by rw [hw4]; exact hf3.alloc _
  have F4 : Hid (Frm [] w w4) := Lib.hid (F2.out.trans f4 (by simp) (by simp))
  have B4 := Lib.hid (f4.whole B2.out (by simp))
  have L4 := Lib.hid (f4.whole L2.out (by simp))
  have HW4 := Lib.hid hw4; clear hw4
  have HG4 := Lib.hid hg4; clear hg4
  have b1 := B4.out.cell 1
  have b2 := B4.out.cell 2
  simp at b1 b2
  clear hf3 f4
  go_upto_region 7 with (fail)
  rw [← HW4.out, ← HG4.out]
  go_wp2_with fail
  (with_reducible refine (dbeg_nil _ _ _).mono ?_)
  rintro e w5 ⟨rfl, hf5⟩
  have F5 : Hid (Frm [] w w5) := Lib.hid (F4.out.trans hf5 (by simp) (by simp))
  have B5 := Lib.hid (hf5.whole B4.out (by simp))
  have L5 := Lib.hid (hf5.whole L4.out (by simp))
  have P5 := Lib.hid (hf5.whole P4.out (by simp))
  clear b1 b2 hf5
  have b1 := B5.out.cell 1
  have b2 := B5.out.cell 2
  have b3 := B5.out.cell 3
  have b4 := B5.out.cell 4
  simp at b1 b2 b3 b4
  go_wp2_with fail
  (with_reducible refine (ddon_nil _ _ _ _ _).mono ?_)
  rintro e w6 ⟨rfl, hf6⟩
  have F6 : Hid (Frm [] w w6) := Lib.hid (F5.out.trans hf6 (by simp) (by simp))
  have L6 := Lib.hid (hf6.whole L5.out (by simp))
  have P6 := Lib.hid (hf6.whole P5.out (by simp))
  clear b1 b2 b3 b4 hf6
  have l0 := L6.out.cell 0
  have l1 := L6.out.cell 1
  have l2 := L6.out.cell 2
  have l3 := L6.out.cell 3
  have l4 := L6.out.cell 4
  simp at l0 l1 l2 l3 l4
  go_wp2_with fail
  (with_reducible refine (dall_nil _).mono ?_)
  rintro e w7 ⟨rfl, hf7⟩
  have F7 : Hid (Frm [] w w7) := Lib.hid (F6.out.trans hf7 (by simp) (by simp))
  have P7 := hf7.whole P6.out (by simp)
  have D7 := Lib.hid (done_nil g4 w7 P7)
  clear l0 l1 l2 l3 l4 hf7 P7
  go_wp2_with fail
  (with_reducible refine D7.out.mono ?_)
  rintro e w8 ⟨rfl, hw8⟩
  have F8 : Hid (Frm [] w w8) := Lib.hid (by rw [← hw8]; exact F7.out)
  clear hw8
  go_wp2
  go_ret
  exact ⟨rfl, F8.out.below (by simp) (Nat.le_refl _)⟩
end Go.Proofs.Ytahhkffghhgojaa
