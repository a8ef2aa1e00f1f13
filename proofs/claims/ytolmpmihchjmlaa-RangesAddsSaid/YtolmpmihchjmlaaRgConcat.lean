/- Contracts of slices.Grow (of nil) and slices.Concat over ranges, and of 'ends'. -/
import Derived.Test.YtolmpmihchjmlaaRgOwn
namespace Go.Proofs.Ytolmpmihchjmlaa
open Go.RowKit

/-- A row with no element yet. -/
def GrowR (w : World) (e : Ending) (w' : World) : Prop := ∃ a' cap', e = .returned (.slice a' 0 cap') ∧ OwnR w' w.heap.size a' cap' [] ∧ Frm [] w w'

set_option maxHeartbeats 1000000 in
theorem growR_any (n : Nat) (w : World) (hn : n ≤ 100000) : Calls Try.prog 68 #[.slice none 0 0, .int .i64 n] w (GrowR w) := by
  by_cases h0 : n = 0
  · subst h0
    go_enter Try.func68, Try.ntmps68
    go_wp2
    go_ret
    exact ⟨none, 0, rfl, OwnR.nil _ _, Frm.refl _ _⟩
  · obtain ⟨i0, hi, hz0, hz1, hz2⟩ := info_parts Try.info51
    have h1 : ¬ ((n : Int) < 0) := by omega
    have h4 : 0 < (n : Int) := by omega
    have hold : (Builtin.firstCells i0.size 0 (.slice none 0 0)).run Try.prog w.drew = .ok ([] : List Value).toArray w.drew := run_firstCells_none w.drew i0.size 0 0 0
    have hrz : ∀ ty, (Builtin.append_ #[44, 3] ty #[.slice none 0 0, .int .i64 (n : Int)]).run Try.prog w =
        .ok (.slice (some ⟨w.heap.size, 0, none⟩) n (grownCap w n 0 51)) (w.drew.alloc (.cells (#[] ++ Builtin.zeroCells #[.int .u64 0, .int .u64 0] n ++ Builtin.zeroCells #[.int .u64 0, .int .u64 0] (grownCap w n 0 51 - n)) 51)) := fun ty => by
      have h := Lib.run_append_grow_zeros w 44 3 ty 51 i0 (.agg #[.int .u64 0, .int .u64 0]) .i64 .i64 Try.underlying44 Try.underlying3 hi hz0 none 0 0 [] hold n (by omega) (by omega) (by omega) (by omega)
        (by rw [hz2]; omega)
        (by rw [hz2, Nat.zero_add]; exact growslice_fits (by omega) (by omega))
      rw [Nat.zero_add] at h
      exact h
    have hGn : n ≤ grownCap w n 0 51 := grownCap_ge w _ _ _
    have hGm := grownCap_le_maxLen w n 0 51 (by unfold maxLen; omega)
    obtain ⟨G, hG⟩ : ∃ G, G = grownCap w n 0 51 := ⟨_, rfl⟩
    rw [← hG] at hrz hGn hGm
    have hG63 : G ≤ 9223372036854775807 := by unfold maxLen at hGm; omega
    have hsz : (Builtin.zeroCells #[.int .u64 0, .int .u64 0] n ++ Builtin.zeroCells #[.int .u64 0, .int .u64 0] (G - n)).size = G * 2 := by
      rw [Array.size_append, size_zeroCells, size_zeroCells]
      show n * 2 + (G - n) * 2 = G * 2
      omega
    have HO : Hid (OwnR (w.alloc (.cells (Builtin.zeroCells #[.int .u64 0, .int .u64 0] n ++ Builtin.zeroCells #[.int .u64 0, .int .u64 0] (G - n)) 51)).drew w.heap.size (some ⟨w.heap.size, 0, none⟩) G []) := by
      have := World.ownsRow_made (base := w.heap.size) (e := 51) (size := 2) w.drew (Builtin.zeroCells #[.int .u64 0, .int .u64 0] n ++ Builtin.zeroCells #[.int .u64 0, .int .u64 0] (G - n)) G (Nat.le_refl _) hGm hsz
      exact this
    have HF : Hid (Frm [] w (w.alloc (.cells (Builtin.zeroCells #[.int .u64 0, .int .u64 0] n ++ Builtin.zeroCells #[.int .u64 0, .int .u64 0] (G - n)) 51)).drew) := ((Frm.refl _ _).alloc _).drew
    simp only [Array.empty_append] at hrz
    clear hold hG hsz hi hz0 hz1 hz2 h0 hGm
    go_enter Try.func68, Try.ntmps68
    go_wp2_with (at_builtin; refine Lib.wpList_append_run _ rfl _ _ _ _ rfl _ _ rfl rfl _ _ (hrz _) ?_)
    all_goals
      go_ret
      exact ⟨_, _, rfl, HO.out, HF.out⟩
end Go.Proofs.Ytolmpmihchjmlaa
