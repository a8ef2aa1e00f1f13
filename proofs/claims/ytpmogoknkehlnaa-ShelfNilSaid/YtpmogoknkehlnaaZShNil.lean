/- ShelfNil: the walk. -/
import Derived.Test.YtpmogoknkehlnaaMC
import Derived.Test.YtpmogoknkehlnaaZInSa
namespace Go.Proofs.Ytpmogoknkehlnaa
open Go.RowKit
set_option maxRecDepth 100000
set_option maxHeartbeats 4000000 in
theorem shelfNil_walk (t : Sa) (w : World) (_h : SaOk w t) : Calls Try.prog 4 #[t.value] w fun e w' => e = .returned (.bool true) ∧ Below w.heap.size w w' := by
  obtain ⟨tk, tl, te, tr, tm, ts, da, dc, dd⟩ := t
  unfold Sa.value
  simp only
  obtain ⟨dn, hdn⟩ : ∃ dn, dn = dd.length := ⟨_, rfl⟩
  rw [← hdn]
  obtain ⟨w0, hw0⟩ : ∃ w0, w0 = w.alloc (.cells #[.int .u8 (tk : Nat), .int .u64 (tl : Nat), .int .u64 (te : Nat), .bool tr, .bool tm, .int .u64 (ts : Nat), .slice da dn dc] 45) := ⟨_, rfl⟩
  obtain ⟨g, hg⟩ : ∃ g, g = w.heap.size := ⟨_, rfl⟩
  have hW := Whole.made w 45 #[.int .u8 (tk : Nat), .int .u64 (tl : Nat), .int .u64 (te : Nat), .bool tr, .bool tm, .int .u64 (ts : Nat), .slice da dn dc]
  rw [← hw0, ← hg] at hW
  have hf0 : Frm [] w w0 := by rw [hw0]; exact (Frm.refl _ _).alloc _
  have HW := Lib.hid hW
  have HF := Lib.hid hf0
  have HW0 := Lib.hid hw0
  have HG := Lib.hid hg
  have HAW := Lib.hid (awake9_any w0)
  clear hdn hw0 hg hW hf0
  go_enter Try.func4, Try.ntmps4
  go_wp2_with fail
  rw [← HW0.out, ← HG.out]
  (with_reducible refine HAW.out.mono ?_)
  rintro e w1 ⟨rfl, hb⟩
  have hf1 := Frm.ofBelow hb
  have HF1 := Lib.hid (HF.out.trans hf1 (U := []) (by simp) (by simp))
  have hW1 := hf1.whole HW.out (by simp)
  have c1 := hW1.cell 1
  have c2 := hW1.cell 2
  simp at c1 c2
  have HW1 := Lib.hid hW1
  clear hb hf1 hW1 HAW
  go_wp2_with fail
  (with_reducible refine (nil_sfence _ _).mono ?_)
  rintro e w' ⟨rfl, rfl⟩
  go_wp2_with fail
  (with_reducible refine (nil_sread _ _ _).mono ?_)
  rintro e w' ⟨rfl, rfl⟩
  go_wp2_with fail
  (with_reducible refine (nil_sabout _ _).mono ?_)
  rintro e w' ⟨rfl, rfl⟩
  go_wp2_with fail
  (with_reducible refine (nil_sopen _).mono ?_)
  rintro e w2 ⟨rfl, hf2⟩
  have HF2 := Lib.hid (HF1.out.trans hf2 (U := []) (by simp) (by simp))
  have hW2 := hf2.whole HW1.out (by simp)
  have d1 := hW2.cell 1
  have d4 := hW2.cell 4
  have d5 := hW2.cell 5
  have d6 := hW2.cell 6
  simp at d1 d4 d5 d6
  have HW2 := Lib.hid hW2
  clear hf2 hW2 c1 c2
  go_wp2_with fail
  (with_reducible refine (nil_sadd _ 0 _ _ _ _ _ _).mono ?_)
  rintro e w3 ⟨rfl, hf3⟩
  have HF3 := Lib.hid (HF2.out.trans hf3 (U := []) (by simp) (by simp))
  have e1 := (hf3.whole HW2.out (by simp)).cell 1
  simp at e1
  clear hf3 d1 d4 d5 d6
  go_wp2_with fail
  (with_reducible refine (nil_sdrop _ _).mono ?_)
  rintro e w' ⟨rfl, rfl⟩
  go_wp2_with fail
  (with_reducible refine (nil_slist _ _).mono ?_)
  rintro e w' ⟨rfl, rfl⟩
  go_wp2
  go_ret
  exact ⟨rfl, HF3.out.below (by simp) (Nat.le_refl _)⟩
end Go.Proofs.Ytpmogoknkehlnaa
