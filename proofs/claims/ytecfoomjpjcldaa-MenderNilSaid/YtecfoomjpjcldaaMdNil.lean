/- The walk of MenderNil. -/
import Derived.Test.YtecfoomjpjcldaaMdAwake
import Derived.Test.YtecfoomjpjcldaaInWd
namespace Go.Proofs.Ytecfoomjpjcldaa
open Go.RowKit
set_option maxRecDepth 100000
set_option maxHeartbeats 8000000 in
theorem menderNil_walk (x : Wd) (w : World) (_hx : WdOk w x) :
    Calls Try.prog 8 #[x.value] w fun e w' => e = .returned (.bool true) ∧ Below w.heap.size w w' := by
  obtain ⟨pl, su, la, lc, X, raw⟩ := x
  unfold Wd.value
  obtain ⟨n, hn⟩ : ∃ n, n = X.length := ⟨_, rfl⟩
  simp only
  rw [← hn]
  clear hn _hx
  go_enter Try.func8, Try.ntmps8
  go_wp2_with fail
  obtain ⟨w0, hw0⟩ : ∃ w0, w0 = w.alloc (.cells #[.int .i64 pl, .int .u64 (su : Nat), .slice la n lc, .bool raw] 67) := ⟨_, rfl⟩
  rw [← hw0]
  have HF0 : Hid (Frm [] w w0) := Lib.hid (by rw [hw0]; exact (Frm.refl _ _).alloc _)
  have HW0 : Hid (Whole w0 w.heap.size 67 #[.int .i64 pl, .int .u64 (su : Nat), .slice la n lc, .bool raw]) := Lib.hid (by rw [hw0]; exact Whole.made _ _ _)
  clear hw0
  (with_reducible refine (awake12_any _).mono ?_)
  rintro e w1 ⟨rfl, hf1⟩
  have HF1 := Lib.hid (HF0.out.trans hf1 (U := []) (by simp) (by simp))
  have HW1 := Lib.hid (hf1.whole HW0.out (by simp))
  clear hf1 HF0 HW0
  go_wp2_with fail
  (with_reducible refine (nil_result _).mono ?_)
  rintro e w2 ⟨rfl, hf2⟩
  have HF2 := Lib.hid (HF1.out.trans hf2 (U := []) (by simp) (by simp))
  have hW2 := hf2.whole HW1.out (by simp)
  have c0 := hW2.cell 0
  have c1 := hW2.cell 1
  have c2 := hW2.cell 2
  simp at c0 c1 c2
  clear hf2 HF1 HW1 hW2
  go_wp2_with fail
  (with_reducible refine (nil_hear _ _ _ _).mono ?_)
  rintro e w3 ⟨rfl, hf3⟩
  have HF3 := Lib.hid (HF2.out.trans hf3 (U := []) (by simp) (by simp))
  clear hf3 HF2 c0 c1 c2
  go_wp2_with fail
  (with_reducible refine (nil_ready _).mono ?_)
  rintro e w4 ⟨rfl, hf4⟩
  have HF4 := Lib.hid (HF3.out.trans hf4 (U := []) (by simp) (by simp))
  clear hf4 HF3
  go_wp2
  go_ret
  exact ⟨rfl, HF4.out.below (by simp) (Nat.le_refl _)⟩
end Go.Proofs.Ytecfoomjpjcldaa
