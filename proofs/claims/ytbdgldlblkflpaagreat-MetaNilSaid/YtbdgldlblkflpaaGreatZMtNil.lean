/- MetaNil: the walk. -/
import Derived.Test.YtbdgldlblkflpaaGreatMF
import Derived.Test.YtbdgldlblkflpaaGreatZInCm
namespace Go.Proofs.YtbdgldlblkflpaaGreat
open Go.RowKit
set_option maxRecDepth 100000
set_option maxHeartbeats 4000000 in
theorem metaNil_walk (t : Cm) (w : World) (_h : CmOk w t) : Calls Tryz.prog 7 #[t.value] w fun e w' => e = .returned (.bool true) ∧ Below w.heap.size w w' := by
  obtain ⟨tk, tkey, va, vc, tv, tw, ts, tt⟩ := t
  unfold Cm.value
  simp only
  obtain ⟨vn, hvn⟩ : ∃ vn, vn = tv.length := ⟨_, rfl⟩
  rw [← hvn]
  obtain ⟨w0, hw0⟩ : ∃ w0, w0 = w.alloc (.cells #[.int .u8 (tk : Nat), .string tkey, .slice va vn vc, .int .u64 (tw : Nat), .int .u64 (ts : Nat), .int .u64 (tt : Nat)] 51) := ⟨_, rfl⟩
  obtain ⟨g, hg⟩ : ∃ g, g = w.heap.size := ⟨_, rfl⟩
  have hW := Whole.made w 51 #[.int .u8 (tk : Nat), .string tkey, .slice va vn vc, .int .u64 (tw : Nat), .int .u64 (ts : Nat), .int .u64 (tt : Nat)]
  rw [← hw0, ← hg] at hW
  have hf0 : Frm [] w w0 := by rw [hw0]; exact (Frm.refl _ _).alloc _
  have HW := Lib.hid hW
  have HF := Lib.hid hf0
  have HW0 := Lib.hid hw0
  have HG := Lib.hid hg
  have HAW := Lib.hid (awake8_any w0)
  have HND := Lib.hid (fun z => nil_kdo ⟨tk, tkey, tv, tw, ts, tt⟩ va vc z)
  unfold cmdV at HND
  simp only at HND
  rw [← hvn] at HND
  clear hvn hw0 hg hW hf0
  go_enter Tryz.func7, Tryz.ntmps7
  go_wp2_with fail
  rw [← HW0.out, ← HG.out]
  (with_reducible refine HAW.out.mono ?_)
  rintro e w1 ⟨rfl, hb⟩
  have hf1 := Frm.ofBelow hb
  have HF1 := Lib.hid (HF.out.trans hf1 (U := []) (by simp) (by simp))
  have hW1 := hf1.whole HW.out (by simp)
  have c0 := hW1.cell 0
  have c1 := hW1.cell 1
  have c2 := hW1.cell 2
  have c3 := hW1.cell 3
  have c4 := hW1.cell 4
  have c5 := hW1.cell 5
  simp at c0 c1 c2 c3 c4 c5
  have HW1 := Lib.hid hW1
  clear hb hf1 hW1 HAW
  go_wp2_with fail
  (with_reducible refine (HND.out _).mono ?_)
  rintro e w2 ⟨rfl, hf2⟩
  have d1 := (hf2.whole HW1.out (by simp)).cell 1
  simp at d1
  have HF2 := Lib.hid (HF1.out.trans hf2 (U := []) (by simp) (by simp))
  have HW2 := Lib.hid (hf2.whole HW1.out (by simp))
  clear c0 c1 c2 c3 c4 c5 hf2 HND
  go_wp2_with fail
  (with_reducible refine (nil_kget _ _).mono ?_)
  rintro e w3 ⟨rfl, hf3⟩
  obtain ⟨w4, hw4⟩ : ∃ w4, w4 = w3.alloc (.cells #[.string ⟨#[]⟩, .slice none 0 0, .int .u64 0, .int .u64 0] 59) := ⟨_, rfl⟩
  have HF4 := Lib.hid (show Frm [] w2 w4 from by rw [hw4]; exact hf3.alloc _)
  have HW4 := Lib.hid hw4
  clear hf3 hw4 d1
  go_wp2_with fail
  rw [← HW4.out]
  (with_reducible refine (nil_kopen _).mono ?_)
  rintro e w5 ⟨rfl, hf5⟩
  have hW5 := (HF4.out.trans hf5 (U := []) (by simp) (by simp)).whole HW2.out (by simp)
  have e4 := hW5.cell 4
  simp at e4
  have HF5 := Lib.hid ((HF2.out.trans HF4.out (U := []) (by simp) (by simp)).trans hf5 (U := []) (by simp) (by simp))
  clear hf5 hW5
  go_wp2_with fail
  (with_reducible refine (nil_klist _ _).mono ?_)
  rintro e w' ⟨rfl, rfl⟩
  go_wp2_with fail
  (with_reducible refine (nil_know _).mono ?_)
  rintro e w' ⟨rfl, rfl⟩
  go_wp2_with fail
  (with_reducible refine (nil_klive _ _).mono ?_)
  rintro e w' ⟨rfl, rfl⟩
  go_wp2
  go_ret
  exact ⟨rfl, HF5.out.below (by simp) (Nat.le_refl _)⟩
end Go.Proofs.YtbdgldlblkflpaaGreat
