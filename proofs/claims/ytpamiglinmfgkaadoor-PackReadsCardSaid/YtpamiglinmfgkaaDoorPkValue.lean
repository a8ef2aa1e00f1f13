/- Contract of pack.value: the number whose eight bytes they are. -/
import Derived.Test.YtpamiglinmfgkaaDoorPkDigits
namespace Go.Proofs.YtpamiglinmfgkaaDoor
open Go.RowKit

theorem join_u64 (x c : Nat) (hx : x < 72057594037927936) (hc : c < 256) : bits .or .u64 (IntKind.u64.wrap ((x : Int) * 256)) (c : Int) = ((x * 256 + c : Nat) : Int) := by
  have e : IntKind.u64.wrap ((x : Int) * 256) = ((x * 256 : Nat) : Int) := by
    simp [IntKind.wrap, IntKind.bits, IntKind.signed]; omega
  rw [e, u64_or_nat _ _ (by omega) (by omega), nat_join 8 _ _ (by omega) (by omega)]
theorem join_u64_0 (c : Nat) (hc : c < 256) : bits .or .u64 0 (c : Int) = (c : Int) := by
  have := u64_or_nat 0 c (by omega) (by omega)
  simpa using this

set_option maxHeartbeats 4000000 in
theorem value_any (c0 c1 c2 c3 c4 c5 c6 c7 : Nat) (w : World) (h0 : c0 < 256) (h1 : c1 < 256) (h2 : c2 < 256) (h3 : c3 < 256) (h4 : c4 < 256) (h5 : c5 < 256) (h6 : c6 < 256) (h7 : c7 < 256) :
    Calls Tryd.prog 39 #[.agg #[.int .u8 c0, .int .u8 c1, .int .u8 c2, .int .u8 c3, .int .u8 c4, .int .u8 c5, .int .u8 c6, .int .u8 c7]] w
      fun e w' => e = .returned (.int .u64 (val [c0, c1, c2, c3, c4, c5, c6, c7] : Nat)) ∧ Below w.heap.size w w' := by
  have i0 : ∀ w, (Instr.index 64 (.agg #[.int .u8 c0, .int .u8 c1, .int .u8 c2, .int .u8 c3, .int .u8 c4, .int .u8 c5, .int .u8 c6, .int .u8 c7]) (.int .i64 0)).run Tryd.prog w = .ok (.int .u8 c0) w := fun _ => by kernel_rfl
  have i1 : ∀ w, (Instr.index 64 (.agg #[.int .u8 c0, .int .u8 c1, .int .u8 c2, .int .u8 c3, .int .u8 c4, .int .u8 c5, .int .u8 c6, .int .u8 c7]) (.int .i64 1)).run Tryd.prog w = .ok (.int .u8 c1) w := fun _ => by kernel_rfl
  have i2 : ∀ w, (Instr.index 64 (.agg #[.int .u8 c0, .int .u8 c1, .int .u8 c2, .int .u8 c3, .int .u8 c4, .int .u8 c5, .int .u8 c6, .int .u8 c7]) (.int .i64 2)).run Tryd.prog w = .ok (.int .u8 c2) w := fun _ => by kernel_rfl
  have i3 : ∀ w, (Instr.index 64 (.agg #[.int .u8 c0, .int .u8 c1, .int .u8 c2, .int .u8 c3, .int .u8 c4, .int .u8 c5, .int .u8 c6, .int .u8 c7]) (.int .i64 3)).run Tryd.prog w = .ok (.int .u8 c3) w := fun _ => by kernel_rfl
  have i4 : ∀ w, (Instr.index 64 (.agg #[.int .u8 c0, .int .u8 c1, .int .u8 c2, .int .u8 c3, .int .u8 c4, .int .u8 c5, .int .u8 c6, .int .u8 c7]) (.int .i64 4)).run Tryd.prog w = .ok (.int .u8 c4) w := fun _ => by kernel_rfl
  have i5 : ∀ w, (Instr.index 64 (.agg #[.int .u8 c0, .int .u8 c1, .int .u8 c2, .int .u8 c3, .int .u8 c4, .int .u8 c5, .int .u8 c6, .int .u8 c7]) (.int .i64 5)).run Tryd.prog w = .ok (.int .u8 c5) w := fun _ => by kernel_rfl
  have i6 : ∀ w, (Instr.index 64 (.agg #[.int .u8 c0, .int .u8 c1, .int .u8 c2, .int .u8 c3, .int .u8 c4, .int .u8 c5, .int .u8 c6, .int .u8 c7]) (.int .i64 6)).run Tryd.prog w = .ok (.int .u8 c6) w := fun _ => by kernel_rfl
  have i7 : ∀ w, (Instr.index 64 (.agg #[.int .u8 c0, .int .u8 c1, .int .u8 c2, .int .u8 c3, .int .u8 c4, .int .u8 c5, .int .u8 c6, .int .u8 c7]) (.int .i64 7)).run Tryd.prog w = .ok (.int .u8 c7) w := fun _ => by kernel_rfl
  have f0 := join_u64_0 c0 h0
  obtain ⟨x0, e0⟩ : ∃ x, x = c0 := ⟨_, rfl⟩
  have b0 : x0 < 256 := by omega
  replace f0 : bits .or .u64 0 (c0 : Int) = (x0 : Int) := by rw [f0, e0]
  obtain ⟨x1, e1⟩ : ∃ x, x = x0 * 256 + c1 := ⟨_, rfl⟩
  have b1 : x1 < 65536 := by omega
  have f1 := join_u64 x0 c1 (by omega) h1
  rw [← e1] at f1
  obtain ⟨x2, e2⟩ : ∃ x, x = x1 * 256 + c2 := ⟨_, rfl⟩
  have b2 : x2 < 16777216 := by omega
  have f2 := join_u64 x1 c2 (by omega) h2
  rw [← e2] at f2
  obtain ⟨x3, e3⟩ : ∃ x, x = x2 * 256 + c3 := ⟨_, rfl⟩
  have b3 : x3 < 4294967296 := by omega
  have f3 := join_u64 x2 c3 (by omega) h3
  rw [← e3] at f3
  obtain ⟨x4, e4⟩ : ∃ x, x = x3 * 256 + c4 := ⟨_, rfl⟩
  have b4 : x4 < 1099511627776 := by omega
  have f4 := join_u64 x3 c4 (by omega) h4
  rw [← e4] at f4
  obtain ⟨x5, e5⟩ : ∃ x, x = x4 * 256 + c5 := ⟨_, rfl⟩
  have b5 : x5 < 281474976710656 := by omega
  have f5 := join_u64 x4 c5 (by omega) h5
  rw [← e5] at f5
  obtain ⟨x6, e6⟩ : ∃ x, x = x5 * 256 + c6 := ⟨_, rfl⟩
  have b6 : x6 < 72057594037927936 := by omega
  have f6 := join_u64 x5 c6 (by omega) h6
  rw [← e6] at f6
  obtain ⟨x7, e7⟩ : ∃ x, x = x6 * 256 + c7 := ⟨_, rfl⟩
  have b7 : x7 < 18446744073709551616 := by omega
  have f7 := join_u64 x6 c7 (by omega) h7
  rw [← e7] at f7
  have E : Hid (val [c0, c1, c2, c3, c4, c5, c6, c7] = x7) := by
    show val [c0, c1, c2, c3, c4, c5, c6, c7] = x7
    simp only [val, List.foldl]; omega
  clear b0 b1 b2 b3 b4 b5 b6 b7
  clear e7 e6 e5 e4 e3 e2 e1 e0
  go_enter Tryd.func39, Tryd.ntmps39
  go_wp2
  refine wp_loop_rounds 9 ?_
  iterate 9 (rw [rounds_succ]; go_wp2)
  go_ret
  exact ⟨ret_same (by rw [E.out]), (Below.refl _ _).alloc (Nat.le_refl _) _⟩
end Go.Proofs.YtpamiglinmfgkaaDoor
