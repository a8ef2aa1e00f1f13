/- Contracts of the calls on a nil Map; the walk of BundleNil. -/
import Derived.Test.YtbdgmpfdcmmfhaaDoorBmAwake
import Derived.Test.YtbdgmpfdcmmfhaaDoorBaFew
namespace Go.Proofs.YtbdgmpfdcmmfhaaDoor
open Go.RowKit
set_option maxRecDepth 100000

set_option maxHeartbeats 1000000 in
theorem nil_bof (w : World) (k : Int) : Calls Tryd.prog 18 #[.pointer none, .int .i64 k] w fun e w' => e = .returned (.tuple #[.int .i64 0, .int .i64 0, .bool false]) ∧ w' = w := by
  have V0 : Hid (∀ (v4 v5 v6 : Value) (tm : Array Value), tm.getD 4 undef = v4 → tm.getD 5 undef = v5 → tm.getD 6 undef = v6 → (results Tryd.f18 tm).run Tryd.prog w = .ok (.tuple #[v4, v5, v6]) w) := Lib.hid (fun v4 v5 v6 tm h4 h5 h6 => by
    have h4' : tm[4]?.getD undef = v4 := by simpa using h4
    have h5' : tm[5]?.getD undef = v5 := by simpa using h5
    have h6' : tm[6]?.getD undef = v6 := by simpa using h6
    simp [results, Tryd.results18, go_sem, h4', h5', h6'])
  go_enter Tryd.func18, Tryd.ntmps18
  go_wp2
  refine bodyPost_ret (V0.out _ _ _ _ rfl rfl rfl) rfl ?_
  exact ⟨rfl, rfl⟩
set_option maxHeartbeats 1000000 in
theorem nil_bsplit (w : World) (k : Int) : Calls Tryd.prog 13 #[.pointer none, .int .i64 k] w fun e w' => e = .returned (.int .i64 1) ∧ w' = w := by
  go_enter Tryd.func13, Tryd.ntmps13
  go_wp2
  go_ret
  exact ⟨rfl, rfl⟩
set_option maxHeartbeats 1000000 in
theorem nil_bjoin (w : World) (k : Int) : Calls Tryd.prog 11 #[.pointer none, .int .i64 k] w fun e w' => e = .returned (.int .i64 1) ∧ w' = w := by
  go_enter Tryd.func11, Tryd.ntmps11
  go_wp2
  go_ret
  exact ⟨rfl, rfl⟩
set_option maxHeartbeats 1000000 in
theorem nil_ball (w : World) : Calls Tryd.prog 16 #[.pointer none] w fun e w' => e = .returned (.slice none 0 0) ∧ w' = w := by
  go_enter Tryd.func16, Tryd.ntmps16
  go_wp2
  go_ret
  exact ⟨rfl, rfl⟩

set_option maxRecDepth 100000 in
set_option maxHeartbeats 2000000 in
theorem bundleNil_walk (t : Ba) (w : World) (hT : Bt w) (h : BaOk w t) : Calls Tryd.prog 7 #[t.value] w fun e w' => e = .returned (.bool true) ∧ Below w.heap.size w w' := by
  obtain ⟨jn, k, raw⟩ := t
  unfold Ba.value
  obtain ⟨W0, hW0⟩ : ∃ W0, W0 = w.alloc (.cells #[.bool jn, .int .i64 k, .bool raw] 32) := ⟨_, rfl⟩
  obtain ⟨g, hg⟩ : ∃ g, g = w.heap.size := ⟨_, rfl⟩
  have HC := Lib.hid (fun (z : World) (hz : Frm [] W0 z) => (show z.cell? ⟨g, 1, none⟩ = some (.int .i64 k) from by
    have h0 : Whole W0 g 32 #[.bool jn, .int .i64 k, .bool raw] := by rw [hW0, hg]; exact Whole.made _ _ _
    exact (hz.whole h0 (by simp)).cell 1))
  have F0 : Hid (Frm [] w W0) := by rw [hW0]; exact Lib.hid ((Frm.refl _ _).alloc _)
  have HA := Lib.hid (awake16_any W0 (hT.keep F0.out (by simp)))
  have HW0 := Lib.hid hW0
  have HG := Lib.hid hg
  clear h hW0 hg
  go_enter Tryd.func7, Tryd.ntmps7
  go_wp2_with fail
  rw [← HW0.out, ← HG.out]
  (with_reducible refine HA.out.mono ?_)
  rintro e w1 ⟨rfl, hf1⟩
  have c1 := HC.out w1 hf1
  have FW : Hid (Below w.heap.size w w1) := Lib.hid ((F0.out.trans hf1 (U := []) (by simp) (by simp)).below (by simp) (Nat.le_refl _))
  clear hf1
  go_wp2_with fail
  (with_reducible refine (nil_bof w1 k).mono ?_)
  rintro e z ⟨rfl, hz⟩
  obtain rfl : w1 = z := hz.symm
  go_wp2_with fail
  (with_reducible refine (nil_bsplit w1 k).mono ?_)
  rintro e z ⟨rfl, hz⟩
  obtain rfl : w1 = z := hz.symm
  go_wp2_with fail
  (with_reducible refine (nil_bjoin w1 k).mono ?_)
  rintro e z ⟨rfl, hz⟩
  obtain rfl : w1 = z := hz.symm
  go_wp2_with fail
  (with_reducible refine (nil_ball w1).mono ?_)
  rintro e z ⟨rfl, hz⟩
  obtain rfl : w1 = z := hz.symm
  go_wp2
  go_ret
  exact ⟨rfl, FW.out⟩
end Go.Proofs.YtbdgmpfdcmmfhaaDoor
