/- OwnerNil: the walk. -/
import Derived.Test.YtcbpppdmkhpkkaaGreatMG
import Derived.Test.YtcbpppdmkhpkkaaGreatZInOa
namespace Go.Proofs.YtcbpppdmkhpkkaaGreat
open Go.RowKit
set_option maxRecDepth 100000
set_option maxHeartbeats 2000000 in
theorem ownerNil_walk (t : Oa) (w : World) (_ht : OaOk w t) (hk : t.key.size ≤ 140737488355328) :
    Calls Tryz.prog 5 #[t.value] w fun e w' => e = .returned (.bool true) ∧ Below w.heap.size w w' := by
  obtain ⟨k, ses, br, key, valA, valC, val⟩ := t
  unfold Oa.value
  simp only at hk ⊢
  obtain ⟨w1, hw1⟩ : ∃ w1, w1 = w.alloc (.cells #[.int .u8 (k : Nat), .int .u64 (ses : Nat), .int .u64 (br : Nat), .string key, .slice valA val.length valC] 38) := ⟨_, rfl⟩
  obtain ⟨g, hg⟩ : ∃ g, g = w.heap.size := ⟨_, rfl⟩
  have F1 : Hid (Frm [] w w1) := Lib.hid (by rw [hw1]; exact (Frm.refl _ _).alloc _)
  have B1 : Hid (Whole w1 g 38 #[.int .u8 (k : Nat), .int .u64 (ses : Nat), .int .u64 (br : Nat), .string key, .slice valA val.length valC]) := Lib.hid (by rw [hw1, hg]; exact Whole.made _ _ _)
  have A := Lib.hid (awake17_any w1)
  have NA := Lib.hid (fun z => nil_acq ses br key z)
  have NR := Lib.hid (fun z => nil_rel ses key z)
  have NH := Lib.hid (fun z => nil_hld key z hk)
  have HW := Lib.hid hw1
  have HG := Lib.hid hg
  clear hw1 hg hk _ht
  go_enter Tryz.func5, Tryz.ntmps5
  go_wp2_with fail
  rw [← HW.out, ← HG.out]
  (with_reducible refine A.out.mono ?_)
  rintro e w2 ⟨rfl, hf2⟩
  have b2 := hf2.whole B1.out (by simp)
  have F2 : Hid (Frm [] w w2) := Lib.hid (F1.out.trans hf2 (by simp) (by simp))
  have B2 := Lib.hid b2
  have c1 := b2.cell 1
  have c2 := b2.cell 2
  have c3 := b2.cell 3
  simp only [List.getElem?_toArray, List.getElem?_cons_zero, List.getElem?_cons_succ] at c1 c2 c3
  clear hf2 b2 A
  go_wp2_with fail
  (with_reducible refine (NA.out _).mono ?_)
  rintro e w3 ⟨rfl, rfl⟩
  go_wp2_with fail
  (with_reducible refine (NH.out _).mono ?_)
  rintro e w4 ⟨rfl, hf4⟩
  have b4 := hf4.whole B2.out (by simp)
  have F4 : Hid (Frm [] w w4) := Lib.hid (F2.out.trans hf4 (by simp) (by simp))
  have d1 := b4.cell 1
  have d3 := b4.cell 3
  simp only [List.getElem?_toArray, List.getElem?_cons_zero, List.getElem?_cons_succ] at d1 d3
  clear hf4 b4 c1 c2 c3
  go_wp2_with fail
  (with_reducible refine (NR.out _).mono ?_)
  rintro e w5 ⟨rfl, rfl⟩
  go_wp2
  go_ret
  exact ⟨rfl, F4.out.below (by simp) (Nat.le_refl _)⟩
end Go.Proofs.YtcbpppdmkhpkkaaGreat
