/- Contract of the law's few (of bundles); a Map that was just made. -/
import Derived.Test.YtbdgmpfdcmmfhaaDoorInBa
import Derived.Test.YtbdgmpfdcmmfhaaDoorMpBase
import Derived.IntWalk
namespace Go.Proofs.YtbdgmpfdcmmfhaaDoor
open Go.RowKit
set_option maxRecDepth 100000

/-- What few answers. -/
def fewB (t : Ba) : Int := if t.raw = true then t.pl else (((t.pl % 18446744073709551616).toNat % 24 * 3000 : Nat) : Int)
theorem fewB_wf (t : Ba) (h : (Lit.int .i64 t.pl).wf = true) : (Lit.int .i64 (fewB t)).wf = true := by
  unfold fewB
  split
  · exact h
  · simp [Lit.wf, IntKind.min, IntKind.max, IntKind.signed, IntKind.bits]
    omega
set_option maxHeartbeats 2000000 in
theorem fewB_any (t : Ba) (w : World) : Calls Tryd.prog 10 #[t.value] w (fun e w' => e = .returned (.int .i64 (fewB t)) ∧ Frm [] w w') := by
  obtain ⟨jn, k, raw⟩ := t
  unfold Ba.value fewB
  simp only
  have F1 : Hid (Frm [] w (w.alloc (.cells #[.bool jn, .int .i64 k, .bool raw] 32))) := Lib.hid ((Frm.refl _ _).alloc _)
  cases raw
  · obtain ⟨u, hu⟩ : ∃ u : Nat, u = (k % 18446744073709551616).toNat := ⟨_, rfl⟩
    have w1 : IntKind.u64.wrap k = (u : Int) := by
      simp [IntKind.wrap, IntKind.bits, IntKind.signed]; omega
    have hu64 : u < 18446744073709551616 := by omega
    rw [← hu]
    clear hu
    obtain ⟨r, hr⟩ : ∃ r : Nat, r = u % 24 := ⟨_, rfl⟩
    have r1 : (u : Int).tmod 24 = (r : Int) := by rw [Int.tmod_eq_emod_of_nonneg (by omega)]; omega
    have r2 : (u : Int) % 24 = (r : Int) := by omega
    have hr24 : r < 24 := by omega
    rw [← hr]
    clear hr
    have w2 : IntKind.u64.wrap (r : Int) = (r : Int) := by simp [IntKind.wrap, IntKind.bits, IntKind.signed]; omega
    have w3 : IntKind.i64.wrap (r : Int) = (r : Int) := by simp [IntKind.wrap, IntKind.bits, IntKind.signed]; omega
    obtain ⟨v, hv⟩ : ∃ v : Nat, v = r * 3000 := ⟨_, rfl⟩
    have m1 : (r : Int) * 3000 = (v : Int) := by omega
    have w4 : IntKind.i64.wrap (v : Int) = (v : Int) := by simp [IntKind.wrap, IntKind.bits, IntKind.signed]; omega
    rw [← hv]
    clear hv
    go_enter Tryd.func10, Tryd.ntmps10
    go_wp2
    go_ret
    exact ⟨rfl, F1.out⟩
  · go_enter Tryd.func10, Tryd.ntmps10
    go_wp2
    go_ret
    exact ⟨rfl, F1.out⟩
theorem Mp.made (w : World) (t : TypeId) : Mp (w.alloc (.cells (Array.replicate 65536 (.bool false)) t)) w.heap.size (fun _ => false) := by
  have h := Whole.made w t (Array.replicate 65536 (.bool false))
  refine ⟨fun i hi => ?_, fun i _ => h.free i⟩
  rw [h.cell i, Array.getElem?_replicate, if_pos hi]
theorem map_zero : (Tryd.prog.info? 30).bind (·.zero) = some (.agg (Array.replicate 65536 (.bool false))) := by kernel_rfl
end Go.Proofs.YtbdgmpfdcmmfhaaDoor
