/- TreeNil: the walk. -/
import Derived.Test.YtchhbmhnjknhaaaTrAwake
import Derived.Test.YtchhbmhnjknhaaaInTc
namespace Go.Proofs.Ytchhbmhnjknhaaa
open Go.RowKit

set_option maxRecDepth 100000 in
set_option maxHeartbeats 4000000 in
theorem treeNil_walk (t : Tc) (w : World) (h : TcOk w t) : Calls Try.prog 8 #[t.value] w fun e w' => e = .returned (.bool true) ∧ Below w.heap.size w w' := by
  obtain ⟨tk, tkey, va, vc, tv, tw, tow⟩ := t
  unfold Tc.value
  simp only
  obtain ⟨vn, hvn⟩ : ∃ vn, vn = tv.length := ⟨_, rfl⟩
  rw [← hvn]
  obtain ⟨w0, hw0⟩ : ∃ w0, w0 = w.alloc (.cells #[.int .u8 (tk : Nat), .string tkey, .slice va vn vc, .int .u64 (tw : Nat), .int .u64 (tow : Nat)] 33) := ⟨_, rfl⟩
  obtain ⟨g, hg⟩ : ∃ g, g = w.heap.size := ⟨_, rfl⟩
  have hW := Whole.made w 33 #[.int .u8 (tk : Nat), .string tkey, .slice va vn vc, .int .u64 (tw : Nat), .int .u64 (tow : Nat)]
  rw [← hw0, ← hg] at hW
  have hf0 : Frm [] w w0 := by rw [hw0]; exact (Frm.refl _ _).alloc _
  have HW := Lib.hid hW
  have HF := Lib.hid hf0
  have HW0 := Lib.hid hw0
  have HG := Lib.hid hg
  have HAW := Lib.hid (awake6_any w0)
  clear h hvn hw0 hg hW hf0
  go_enter Try.func8, Try.ntmps8
  go_wp2_with fail
  rw [← HW0.out, ← HG.out]
  (with_reducible refine HAW.out.mono ?_)
  rintro e w1 ⟨rfl, hb⟩
  have hf1 := Frm.ofBelow hb
  have HF1 := Lib.hid (HF.out.trans hf1 (U := []) (by simp) (by simp))
  have hW1 := hf1.whole HW.out (by simp)
  have c1 := hW1.cell 1
  have c2 := hW1.cell 2
  have c3 := hW1.cell 3
  have c4 := hW1.cell 4
  simp at c1 c2 c3 c4
  have HW1 := Lib.hid hW1
  clear hb hf1 hW1 HAW
  go_wp2_with fail
  (with_reducible refine (nil_put _ _ _ _ _).mono ?_)
  rintro e w' ⟨rfl, rfl⟩
  go_wp2_with fail
  (with_reducible refine (nil_get _ _).mono ?_)
  rintro e w2 ⟨rfl, hf2⟩
  obtain ⟨w3, hw3⟩ : ∃ w3, w3 = w2.alloc (.cells #[.string ⟨#[]⟩, .slice none 0 0, .int .u64 0, .int .u64 0] 44) := ⟨_, rfl⟩
  obtain ⟨g2, hg2⟩ : ∃ g, g = w2.heap.size := ⟨_, rfl⟩
  have hf13 : Frm [] w1 w3 := by rw [hw3]; exact hf2.alloc _
  have hW3 := Whole.made w2 44 #[.string ⟨#[]⟩, .slice none 0 0, .int .u64 0, .int .u64 0]
  rw [← hw3, ← hg2] at hW3
  have hWA := hf13.whole HW1.out (by simp)
  have d4 := hWA.cell 4
  simp at d4
  rw [hw3] at d4
  have HF3 := Lib.hid (HF1.out.trans hf13 (U := []) (by simp) (by simp))
  have HWA := Lib.hid hWA
  have HW3 := Lib.hid hW3
  have HH3 := Lib.hid hw3
  have HG2 := Lib.hid hg2
  clear hf2 hw3 hg2 hf13 hW3 hWA
  go_wp2_with fail
  rw [← HH3.out, ← HG2.out]
  (with_reducible refine (nil_drop _ _).mono ?_)
  rintro e w4 ⟨rfl, hf4⟩
  have HF4 := Lib.hid (HF3.out.trans hf4 (U := []) (by simp) (by simp))
  have hW4 := hf4.whole HW3.out (by simp)
  have y0 := hW4.cell 0
  have y1 := hW4.cell 1
  have y2 := hW4.cell 2
  have y3 := hW4.cell 3
  simp at y0 y1 y2 y3
  have HA4 := Lib.hid (hf4.whole HWA.out (by simp))
  clear hf4 hW4
  have hsn := sameNode_true ⟨#[]⟩ none 0 0 none 0 0 0 [] w4 ⟨by simp, by simp, .inl rfl⟩ ⟨by simp, by simp, .inl rfl⟩ rfl
  rw [show ((0 : Nat) : Int) = 0 from rfl] at hsn
  have HSN := Lib.hid hsn
  clear hsn
  go_wp2_with fail
  (with_reducible refine HSN.out.mono ?_)
  rintro e w5 ⟨rfl, hf5⟩
  have HF5 := Lib.hid (HF4.out.trans hf5 (U := []) (by simp) (by simp))
  have hA5 := hf5.whole HA4.out (by simp)
  have z1 := hA5.cell 1
  have z3 := hA5.cell 3
  simp at z1 z3
  clear hf5 hA5 HSN
  go_wp2_with fail
  (with_reducible refine (nil_delete _ _ _).mono ?_)
  rintro e w' ⟨rfl, rfl⟩
  go_wp2_with fail
  (with_reducible refine (nil_list _ _).mono ?_)
  rintro e w' ⟨rfl, rfl⟩
  go_wp2
  go_ret
  exact ⟨rfl, HF5.out.below (by simp) (Nat.le_refl _)⟩
end Go.Proofs.Ytchhbmhnjknhaaa
