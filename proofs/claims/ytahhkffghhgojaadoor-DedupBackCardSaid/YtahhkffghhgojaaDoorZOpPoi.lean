/- Values of api.Pos that came in, opened for the walks. -/
import Derived.Test.YtahhkffghhgojaaDoorZOpBase
import Derived.Test.YtahhkffghhgojaaDoorZInPoi
namespace Go.Proofs.YtahhkffghhgojaaDoor
open Go.ChangeShapes Go.WideShapes Go.ChangeAt Go.RowKit
set_option maxRecDepth 100000

theorem cellsPoi : Tryd.prog.cellsOf 29 = 2 := by kernel_rfl
theorem cellsPoi0 : Tryd.prog.cellsOf 27 = 1 := by kernel_rfl

set_option maxRecDepth 100000 in
/-- One that came in, by its cells. -/
theorem open_Poi {H : Type} {enc : TypeId × Value → H} {w : World} {held : Bool} {fuel : Nat} {cs : List Value} {y : DataW H × List MemPlace}
    (h : DataW.trod enc Tryd.prog w 0 (fun _ => true) held fuel 29 cs = some y) :
    ∃ t : Poi, cs = [.int .u64 (t.l : Nat), .int .u64 (t.e : Nat)] ∧ PoiOk w t := by
  obtain ⟨ys, n, _, _, hlen, hyl, hf⟩ := DataW.trod_struct Tryd.underlying29 h
  rw [cellsPoi] at hlen
  have hyl' : ys.length = 2 := hyl
  match cs, hlen, ys, hyl', hf with
  | [v0, v1], _, [y0, y1], _, hf =>
    have f0 : DataW.trod enc Tryd.prog w 0 (fun _ => true) held n 27 (([v0, v1].drop 0).take (Tryd.prog.cellsOf 27)) = [y0, y1][0]? := hf 0 _ rfl
    have f1 : DataW.trod enc Tryd.prog w 0 (fun _ => true) held n 27 (([v0, v1].drop 1).take (Tryd.prog.cellsOf 27)) = [y0, y1][1]? := hf 1 _ rfl
    rw [cellsPoi0] at f0 f1
    change DataW.trod _ _ _ _ _ _ _ _ [v0] = some y0 at f0
    change DataW.trod _ _ _ _ _ _ _ _ [v1] = some y1 at f1
    obtain ⟨x0, e0, _, g0⟩ := DataW.trod_int Tryd.underlying27 f0
    injection e0 with e0 _
    have r0 : 0 ≤ x0 ∧ x0 < 18446744073709551616 := by
      simp [Lit.wf, IntKind.min, IntKind.max, IntKind.signed, IntKind.bits] at g0
      omega
    have q0 : ((x0.toNat : Nat) : Int) = x0 := by omega
    obtain ⟨x1, e1, _, g1⟩ := DataW.trod_int Tryd.underlying27 f1
    injection e1 with e1 _
    have r1 : 0 ≤ x1 ∧ x1 < 18446744073709551616 := by
      simp [Lit.wf, IntKind.min, IntKind.max, IntKind.signed, IntKind.bits] at g1
      omega
    have q1 : ((x1.toNat : Nat) : Int) = x1 := by omega
    refine ⟨⟨x0.toNat, x1.toNat⟩, ?_, ⟨(by show x0.toNat < _; omega), (by show x1.toNat < _; omega)⟩⟩
    show (_ : List Value) = [.int .u64 (x0.toNat : Nat), .int .u64 (x1.toNat : Nat)]
    rw [e0, q0, e1, q1]

end Go.Proofs.YtahhkffghhgojaaDoor
