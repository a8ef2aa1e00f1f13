/- Values of mailcoachlaw16.Act that came in, opened for the walks. -/
import Derived.Test.YtbdgmpfdcmmfhaaDoorOpBase
import Derived.Test.YtbdgmpfdcmmfhaaDoorInBa
namespace Go.Proofs.YtbdgmpfdcmmfhaaDoor
open Go.ChangeShapes Go.WideShapes Go.ChangeAt Go.RowKit
set_option maxRecDepth 100000

theorem cellsBa : Tryd.prog.cellsOf 32 = 3 := by kernel_rfl
theorem cellsBa0 : Tryd.prog.cellsOf 4 = 1 := by kernel_rfl
theorem cellsBa1 : Tryd.prog.cellsOf 3 = 1 := by kernel_rfl

set_option maxRecDepth 100000 in
/-- One that came in, by its cells. -/
theorem open_Ba {H : Type} {enc : TypeId × Value → H} {w : World} {held : Bool} {fuel : Nat} {cs : List Value} {y : DataW H × List MemPlace}
    (h : DataW.trod enc Tryd.prog w 0 (fun _ => true) held fuel 32 cs = some y) :
    ∃ t : Ba, cs = [.bool t.jn, .int .i64 t.pl, .bool t.raw] ∧ BaOk w t := by
  obtain ⟨ys, n, _, _, hlen, hyl, hf⟩ := DataW.trod_struct Tryd.underlying32 h
  rw [cellsBa] at hlen
  have hyl' : ys.length = 3 := hyl
  match cs, hlen, ys, hyl', hf with
  | [v0, v1, v2], _, [y0, y1, y2], _, hf =>
    have f0 : DataW.trod enc Tryd.prog w 0 (fun _ => true) held n 4 (([v0, v1, v2].drop 0).take (Tryd.prog.cellsOf 4)) = [y0, y1, y2][0]? := hf 0 _ rfl
    have f1 : DataW.trod enc Tryd.prog w 0 (fun _ => true) held n 3 (([v0, v1, v2].drop 1).take (Tryd.prog.cellsOf 3)) = [y0, y1, y2][1]? := hf 1 _ rfl
    have f2 : DataW.trod enc Tryd.prog w 0 (fun _ => true) held n 4 (([v0, v1, v2].drop 2).take (Tryd.prog.cellsOf 4)) = [y0, y1, y2][2]? := hf 2 _ rfl
    rw [cellsBa0] at f0 f2
    rw [cellsBa1] at f1
    change DataW.trod _ _ _ _ _ _ _ _ [v0] = some y0 at f0
    change DataW.trod _ _ _ _ _ _ _ _ [v1] = some y1 at f1
    change DataW.trod _ _ _ _ _ _ _ _ [v2] = some y2 at f2
    obtain ⟨x0, e0, _⟩ := DataW.trod_bool Tryd.underlying4 f0
    injection e0 with e0 _
    obtain ⟨x1, e1, _, g1⟩ := DataW.trod_int Tryd.underlying3 f1
    injection e1 with e1 _
    obtain ⟨x2, e2, _⟩ := DataW.trod_bool Tryd.underlying4 f2
    injection e2 with e2 _
    refine ⟨⟨x0, x1, x2⟩, ?_, ⟨g1⟩⟩
    show (_ : List Value) = [.bool x0, .int .i64 x1, .bool x2]
    rw [e0, e1, e2]

/-- One by value that came in. -/
theorem open_Bav {H : Type} {enc : TypeId × Value → H} {w : World} {base : Nat} {held : Bool} {v : Value} {d : DataW H} {p : List MemPlace} (hval : Value.okWide Tryd.prog w .any base 32 v)
    (h : DataW.Trod enc Tryd.prog w 0 (fun _ => true) held 32 v d p) : ∃ t : Ba, v = t.value ∧ BaOk w t := by
  obtain ⟨cs, rfl, hsz⟩ := okWide_struct Tryd.underlying32 hval
  obtain ⟨fuel, hf⟩ := h
  obtain ⟨t, hr, hb⟩ := open_Ba (cs := cs.toList) (by simpa [Value.cells] using hf)
  refine ⟨t, ?_, hb⟩
  obtain ⟨l⟩ := cs
  simp only at hr
  subst hr
  rfl

/-- A slice of such that came in. -/
theorem open_Bas {H : Type} {enc : TypeId × Value → H} {w : World} {held : Bool} {a : Option Addr} {len cap : Nat} {d : DataW H} {p : List MemPlace}
    (h : DataW.Trod enc Tryd.prog w 0 (fun _ => true) held 22 (.slice a len cap) d p) : ∃ ts : List Ba, Bas w a ts ∧ len = ts.length ∧ len ≤ 9223372036854775807 := by
  obtain ⟨fuel, hf⟩ := h
  rcases Go.Deep.open_slice Tryd.underlying22 hf with ⟨hcs, _⟩ | ⟨x, l, c, m, n, D, Pl, hcs, _, hl, hm, hmm, _, hi⟩
  · simp [Value.cells] at hcs
    obtain ⟨rfl, rfl, rfl⟩ := hcs
    exact ⟨[], fun h => absurd h (by simp), rfl, by omega⟩
  · simp [Value.cells] at hcs
    obtain ⟨rfl, rfl, rfl⟩ := hcs
    rw [if_pos rfl] at hmm
    obtain ⟨b, off, spot⟩ := x
    unfold maxLen at hm
    rw [cellsBa] at hi
    have hspot : 0 < len → spot = none := fun h0 => by
      obtain ⟨cs', hc, ht⟩ := hi 0 (by omega)
      obtain ⟨_, hcl, hat⟩ := World.cells?_some hc
      obtain ⟨t, rfl, _⟩ := open_Ba ht
      have c0 := hat 0 (by omega)
      simp at c0
      simpa [Addr.add] using World.cell?_spot c0
    have each : ∀ i, ∃ t : Ba, i < len → spot = none ∧ BaIn w b (off + i * 3) t := by
      intro i
      by_cases hil : i < len
      · obtain ⟨cs', hc, ht⟩ := hi i (by omega)
        obtain ⟨_, hcl, hat⟩ := World.cells?_some hc
        obtain ⟨t, rfl, hok⟩ := open_Ba ht
        have c0 := hat 0 (by omega)
        have c1 := hat 1 (by omega)
        have c2 := hat 2 (by omega)
        rw [Go.Deep.add_add] at c0 c1 c2
        have hspot := hspot (by omega)
        subst hspot
        rw [addr_add] at c0 c1 c2
        exact ⟨t, fun _ => ⟨rfl, c0, (by rw [Nat.add_assoc]; exact c1), (by rw [Nat.add_assoc]; exact c2), hok⟩⟩
      · exact ⟨default, fun h => absurd h hil⟩
    obtain ⟨f, hf'⟩ := Classical.axiomOfChoice each
    refine ⟨(List.range len).map f, fun h0 => ?_, by simp, by omega⟩
    have h0' : 0 < len := by simpa using h0
    have hs := (hf' 0 h0').1
    subst hs
    refine ⟨b, off, rfl, fun i hil => ?_⟩
    have hil' : i < len := by simpa using hil
    have e : ((List.range len).map f).getD i default = f i := by simp [hil']
    rw [e]
    exact (hf' i hil').2
end Go.Proofs.YtbdgmpfdcmmfhaaDoor
