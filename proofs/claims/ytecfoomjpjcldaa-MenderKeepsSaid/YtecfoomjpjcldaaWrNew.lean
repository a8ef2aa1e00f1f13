/- Contract of the writer's New. -/
import Derived.Test.YtecfoomjpjcldaaQuProg
namespace Go.Proofs.Ytecfoomjpjcldaa
open Go.RowKit
set_option maxRecDepth 100000
set_option maxHeartbeats 8000000 in
theorem wrnew_bad (p q a : Int) (w : World) (h : okQ p q a = false) :
    Calls Try.prog 11 #[quV p q a] w fun e w' => e = .returned (.tuple #[.pointer none, .int .i64 22]) ∧ Frm [] w w' := by
  have HC := Lib.hid (fun w1 => check_any p q a w1)
  unfold quV at HC ⊢
  rw [h] at HC
  go_enter Try.func11, Try.ntmps11
  go_wp2_with fail
  (refine (HC.out _).mono ?_)
  rintro e w1 ⟨rfl, hf1⟩
  have HF := Lib.hid hf1
  clear hf1
  go_wp2
  go_ret2
  exact ⟨rfl, ((Frm.refl [] w).alloc _).trans HF.out (by simp) (by simp)⟩
/-- One that waits, as it is made: no bytes, nobody has it. -/
def wrE : List Value := [.slice none 0 0, .bool false, .bool false, .bool false, .bool false, .bool false, .bool false, .bool false]
/-- The row of 64, as it is made. -/
def wrRow0 : List Value := (List.replicate 64 wrE).flatten
def wrZ : Array Value := (([Value.int .i64 0, .int .i64 0, .int .i64 0, .int .u64 0, .int .u64 0, .bool false] : List Value) ++ wrRow0).toArray
theorem wrZ_run (w : World) : (zeroValue 98).run Try.prog w = .ok (.agg wrZ) w := by kernel_rfl
theorem wrZ_size : wrZ.size = 518 := by kernel_rfl
/-- Cells of a writer: its quorum, sure, count, closed, the row. -/
def wrC (p q a : Int) (su co : Nat) (cl : Bool) (Y : List Value) : Array Value := ([Value.int .i64 p, .int .i64 q, .int .i64 a, .int .u64 (su : Nat), .int .u64 (co : Nat), .bool cl] ++ Y).toArray
theorem wrZ_set (p q a : Int) : ((wrZ.setIfInBounds 0 (Value.int .i64 p)).setIfInBounds 1 (Value.int .i64 q)).setIfInBounds 2 (Value.int .i64 a) = wrC p q a 0 0 false wrRow0 := by simp [wrZ, wrC]
set_option maxHeartbeats 8000000 in
theorem wrnew_ok (p q a : Int) (w : World) (h : okQ p q a = true) :
    Calls Try.prog 11 #[quV p q a] w fun e w' => ∃ b, e = .returned (.tuple #[.pointer (some ⟨b, 0, none⟩), .int .i64 0]) ∧ Frm [] w w' ∧ w.heap.size ≤ b ∧ Whole w' b 98 (wrC p q a 0 0 false wrRow0) := by
  have HC := Lib.hid (fun w1 => check_any p q a w1)
  unfold quV at HC ⊢
  rw [h] at HC
  obtain ⟨Z, hZ⟩ : ∃ Z, Z = wrZ := ⟨_, rfl⟩
  have hz := wrZ_run
  have hs := wrZ_size
  have hset := wrZ_set p q a
  rw [← hZ] at hz hs hset
  have hs3 : ¬ Z.size < 3 := by omega
  have HS := Lib.hid hset
  clear hset hZ hs
  go_enter Try.func11, Try.ntmps11
  go_wp2_with fail
  (refine (HC.out _).mono ?_)
  rintro e w1 ⟨rfl, hf1⟩
  have HF := Lib.hid hf1
  have hW := hf1.whole (Whole.made w 23 #[.int .i64 p, .int .i64 q, .int .i64 a]) (by simp)
  have c0 := hW.cell 0
  have c1 := hW.cell 1
  have c2 := hW.cell 2
  simp at c0 c1 c2
  clear hf1 hW
  go_wp2
  rw [HS.out]
  have hf : Frm [] w w1 := ((Frm.refl [] w).alloc _).trans HF.out (U := []) (by simp) (by simp)
  go_ret2
  exact ⟨w1.heap.size, rfl, hf.alloc _, hf.size, Whole.made _ _ _⟩
end Go.Proofs.Ytecfoomjpjcldaa
