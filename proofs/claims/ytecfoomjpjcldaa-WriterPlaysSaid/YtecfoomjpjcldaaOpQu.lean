/- Values of api.Quorum that came in, opened for the walks. -/
import Derived.Test.YtecfoomjpjcldaaOpBase
import Derived.Test.YtecfoomjpjcldaaInQu
namespace Go.Proofs.Ytecfoomjpjcldaa
open Go.ChangeShapes Go.WideShapes Go.ChangeAt Go.RowKit
set_option maxRecDepth 100000

theorem cellsQu : Try.prog.cellsOf 23 = 3 := by kernel_rfl
theorem cellsQu0 : Try.prog.cellsOf 3 = 1 := by kernel_rfl

set_option maxRecDepth 100000 in
/-- One that came in, by its cells. -/
theorem open_Qu {H : Type} {enc : TypeId × Value → H} {w : World} {held : Bool} {fuel : Nat} {cs : List Value} {y : DataW H × List MemPlace}
    (h : DataW.trod enc Try.prog w 0 (fun _ => true) held fuel 23 cs = some y) :
    ∃ t : Qu, cs = [.int .i64 t.places, .int .i64 t.write, .int .i64 t.ack] ∧ QuOk w t := by
  obtain ⟨ys, n, _, _, hlen, hyl, hf⟩ := DataW.trod_struct Try.underlying23 h
  rw [cellsQu] at hlen
  have hyl' : ys.length = 3 := hyl
  match cs, hlen, ys, hyl', hf with
  | [v0, v1, v2], _, [y0, y1, y2], _, hf =>
    have f0 : DataW.trod enc Try.prog w 0 (fun _ => true) held n 3 (([v0, v1, v2].drop 0).take (Try.prog.cellsOf 3)) = [y0, y1, y2][0]? := hf 0 _ rfl
    have f1 : DataW.trod enc Try.prog w 0 (fun _ => true) held n 3 (([v0, v1, v2].drop 1).take (Try.prog.cellsOf 3)) = [y0, y1, y2][1]? := hf 1 _ rfl
    have f2 : DataW.trod enc Try.prog w 0 (fun _ => true) held n 3 (([v0, v1, v2].drop 2).take (Try.prog.cellsOf 3)) = [y0, y1, y2][2]? := hf 2 _ rfl
    rw [cellsQu0] at f0 f1 f2
    change DataW.trod _ _ _ _ _ _ _ _ [v0] = some y0 at f0
    change DataW.trod _ _ _ _ _ _ _ _ [v1] = some y1 at f1
    change DataW.trod _ _ _ _ _ _ _ _ [v2] = some y2 at f2
    obtain ⟨x0, e0, _, g0⟩ := DataW.trod_int Try.underlying3 f0
    injection e0 with e0 _
    obtain ⟨x1, e1, _, g1⟩ := DataW.trod_int Try.underlying3 f1
    injection e1 with e1 _
    obtain ⟨x2, e2, _, g2⟩ := DataW.trod_int Try.underlying3 f2
    injection e2 with e2 _
    refine ⟨⟨x0, x1, x2⟩, ?_, ⟨g0, g1, g2⟩⟩
    show (_ : List Value) = [.int .i64 x0, .int .i64 x1, .int .i64 x2]
    rw [e0, e1, e2]

/-- One by value that came in. -/
theorem open_Quv {H : Type} {enc : TypeId × Value → H} {w : World} {base : Nat} {held : Bool} {v : Value} {d : DataW H} {p : List MemPlace} (hval : Value.okWide Try.prog w .any base 23 v)
    (h : DataW.Trod enc Try.prog w 0 (fun _ => true) held 23 v d p) : ∃ t : Qu, v = t.value ∧ QuOk w t := by
  obtain ⟨cs, rfl, hsz⟩ := okWide_struct Try.underlying23 hval
  obtain ⟨fuel, hf⟩ := h
  obtain ⟨t, hr, hb⟩ := open_Qu (cs := cs.toList) (by simpa [Value.cells] using hf)
  refine ⟨t, ?_, hb⟩
  obtain ⟨l⟩ := cs
  simp only at hr
  subst hr
  rfl

end Go.Proofs.Ytecfoomjpjcldaa
