/- Values of mailcoachlaw11.Act that came in, opened for the walks. -/
import Derived.Test.YtecfoomjpjcldaaOpBase
import Derived.Test.YtecfoomjpjcldaaInWa
namespace Go.Proofs.Ytecfoomjpjcldaa
open Go.ChangeShapes Go.WideShapes Go.ChangeAt Go.RowKit
set_option maxRecDepth 100000

theorem cellsWa : Try.prog.cellsOf 41 = 5 := by kernel_rfl
theorem cellsWa0 : Try.prog.cellsOf 5 = 1 := by kernel_rfl
theorem cellsWa1 : Try.prog.cellsOf 38 = 1 := by kernel_rfl
theorem cellsWa2 : Try.prog.cellsOf 3 = 1 := by kernel_rfl
theorem cellsWa3 : Try.prog.cellsOf 39 = 1 := by kernel_rfl
theorem cellsWa4 : Try.prog.cellsOf 4 = 1 := by kernel_rfl

set_option maxRecDepth 100000 in
/-- One that came in, by its cells. -/
theorem open_Wa {H : Type} {enc : TypeId × Value → H} {w : World} {held : Bool} {fuel : Nat} {cs : List Value} {y : DataW H × List MemPlace}
    (h : DataW.trod enc Try.prog w 0 (fun _ => true) held fuel 41 cs = some y) :
    ∃ t : Wa, cs = [.int .u8 (t.k : Nat), .slice t.dataA t.data.length t.dataC, .int .i64 t.place, .int .u64 (t.entry : Nat), .bool t.raw] ∧ WaOk w t := by
  obtain ⟨ys, n, _, _, hlen, hyl, hf⟩ := DataW.trod_struct Try.underlying41 h
  rw [cellsWa] at hlen
  have hyl' : ys.length = 5 := hyl
  match cs, hlen, ys, hyl', hf with
  | [v0, v1, v2, v3, v4], _, [y0, y1, y2, y3, y4], _, hf =>
    have f0 : DataW.trod enc Try.prog w 0 (fun _ => true) held n 5 (([v0, v1, v2, v3, v4].drop 0).take (Try.prog.cellsOf 5)) = [y0, y1, y2, y3, y4][0]? := hf 0 _ rfl
    have f1 : DataW.trod enc Try.prog w 0 (fun _ => true) held n 38 (([v0, v1, v2, v3, v4].drop 1).take (Try.prog.cellsOf 38)) = [y0, y1, y2, y3, y4][1]? := hf 1 _ rfl
    have f2 : DataW.trod enc Try.prog w 0 (fun _ => true) held n 3 (([v0, v1, v2, v3, v4].drop 2).take (Try.prog.cellsOf 3)) = [y0, y1, y2, y3, y4][2]? := hf 2 _ rfl
    have f3 : DataW.trod enc Try.prog w 0 (fun _ => true) held n 39 (([v0, v1, v2, v3, v4].drop 3).take (Try.prog.cellsOf 39)) = [y0, y1, y2, y3, y4][3]? := hf 3 _ rfl
    have f4 : DataW.trod enc Try.prog w 0 (fun _ => true) held n 4 (([v0, v1, v2, v3, v4].drop 4).take (Try.prog.cellsOf 4)) = [y0, y1, y2, y3, y4][4]? := hf 4 _ rfl
    rw [cellsWa0] at f0
    rw [cellsWa1] at f1
    rw [cellsWa2] at f2
    rw [cellsWa3] at f3
    rw [cellsWa4] at f4
    change DataW.trod _ _ _ _ _ _ _ _ [v0] = some y0 at f0
    change DataW.trod _ _ _ _ _ _ _ _ [v1] = some y1 at f1
    change DataW.trod _ _ _ _ _ _ _ _ [v2] = some y2 at f2
    change DataW.trod _ _ _ _ _ _ _ _ [v3] = some y3 at f3
    change DataW.trod _ _ _ _ _ _ _ _ [v4] = some y4 at f4
    obtain ⟨x0, e0, _, g0⟩ := DataW.trod_int Try.underlying5 f0
    injection e0 with e0 _
    have r0 : 0 ≤ x0 ∧ x0 < 256 := by
      simp [Lit.wf, IntKind.min, IntKind.max, IntKind.signed, IntKind.bits] at g0
      omega
    have q0 : ((x0.toNat : Nat) : Int) = x0 := by omega
    obtain ⟨a1, c1, l1, e1, b1⟩ := open_bytesc f1
    obtain ⟨x2, e2, _, g2⟩ := DataW.trod_int Try.underlying3 f2
    injection e2 with e2 _
    obtain ⟨x3, e3, _, g3⟩ := DataW.trod_int Try.underlying39 f3
    injection e3 with e3 _
    have r3 : 0 ≤ x3 ∧ x3 < 18446744073709551616 := by
      simp [Lit.wf, IntKind.min, IntKind.max, IntKind.signed, IntKind.bits] at g3
      omega
    have q3 : ((x3.toNat : Nat) : Int) = x3 := by omega
    obtain ⟨x4, e4, _⟩ := DataW.trod_bool Try.underlying4 f4
    injection e4 with e4 _
    refine ⟨⟨x0.toNat, a1, c1, l1, x2, x3.toNat, x4⟩, ?_, ⟨(by show x0.toNat < _; omega), b1.1, b1.2.1, b1.2.2, g2, (by show x3.toNat < _; omega)⟩⟩
    show (_ : List Value) = [.int .u8 (x0.toNat : Nat), .slice a1 l1.length c1, .int .i64 x2, .int .u64 (x3.toNat : Nat), .bool x4]
    rw [e0, q0, e1, e2, e3, q3, e4]

/-- One by value that came in. -/
theorem open_Wav {H : Type} {enc : TypeId × Value → H} {w : World} {base : Nat} {held : Bool} {v : Value} {d : DataW H} {p : List MemPlace} (hval : Value.okWide Try.prog w .any base 41 v)
    (h : DataW.Trod enc Try.prog w 0 (fun _ => true) held 41 v d p) : ∃ t : Wa, v = t.value ∧ WaOk w t := by
  obtain ⟨cs, rfl, hsz⟩ := okWide_struct Try.underlying41 hval
  obtain ⟨fuel, hf⟩ := h
  obtain ⟨t, hr, hb⟩ := open_Wa (cs := cs.toList) (by simpa [Value.cells] using hf)
  refine ⟨t, ?_, hb⟩
  obtain ⟨l⟩ := cs
  simp only at hr
  subst hr
  rfl

/-- A slice of such that came in. -/
theorem open_Was {H : Type} {enc : TypeId × Value → H} {w : World} {held : Bool} {a : Option Addr} {len cap : Nat} {d : DataW H} {p : List MemPlace}
    (h : DataW.Trod enc Try.prog w 0 (fun _ => true) held 25 (.slice a len cap) d p) : ∃ ts : List Wa, Was w a ts ∧ len = ts.length ∧ len ≤ 9223372036854775807 := by
  obtain ⟨fuel, hf⟩ := h
  rcases Go.Deep.open_slice Try.underlying25 hf with ⟨hcs, _⟩ | ⟨x, l, c, m, n, D, Pl, hcs, _, hl, hm, hmm, _, hi⟩
  · simp [Value.cells] at hcs
    obtain ⟨rfl, rfl, rfl⟩ := hcs
    exact ⟨[], fun h => absurd h (by simp), rfl, by omega⟩
  · simp [Value.cells] at hcs
    obtain ⟨rfl, rfl, rfl⟩ := hcs
    rw [if_pos rfl] at hmm
    obtain ⟨b, off, spot⟩ := x
    unfold maxLen at hm
    rw [cellsWa] at hi
    have hspot : 0 < len → spot = none := fun h0 => by
      obtain ⟨cs', hc, ht⟩ := hi 0 (by omega)
      obtain ⟨_, hcl, hat⟩ := World.cells?_some hc
      obtain ⟨t, rfl, _⟩ := open_Wa ht
      have c0 := hat 0 (by omega)
      simp at c0
      simpa [Addr.add] using World.cell?_spot c0
    have each : ∀ i, ∃ t : Wa, i < len → spot = none ∧ WaIn w b (off + i * 5) t := by
      intro i
      by_cases hil : i < len
      · obtain ⟨cs', hc, ht⟩ := hi i (by omega)
        obtain ⟨_, hcl, hat⟩ := World.cells?_some hc
        obtain ⟨t, rfl, hok⟩ := open_Wa ht
        have c0 := hat 0 (by omega)
        have c1 := hat 1 (by omega)
        have c2 := hat 2 (by omega)
        have c3 := hat 3 (by omega)
        have c4 := hat 4 (by omega)
        rw [Go.Deep.add_add] at c0 c1 c2 c3 c4
        have hspot := hspot (by omega)
        subst hspot
        rw [addr_add] at c0 c1 c2 c3 c4
        exact ⟨t, fun _ => ⟨rfl, c0, (by rw [Nat.add_assoc]; exact c1), (by rw [Nat.add_assoc]; exact c2), (by rw [Nat.add_assoc]; exact c3), (by rw [Nat.add_assoc]; exact c4), hok⟩⟩
      · exact ⟨default, fun h => absurd h hil⟩
    obtain ⟨f, hf'⟩ := Classical.axiomOfChoice each
    refine ⟨(List.range len).map f, fun h0 => ?_, by simp, by omega⟩
    have h0' : 0 < len := by simpa using h0
    have hs := (hf' 0 h0').1
    subst hs
    refine ⟨b, off, rfl, fun i hil => ?_⟩
    have hil' : i < len := by simpa using hil
    have e : ((List.range len).map f).getD i default = f i := by simp [hil']
    rw [e]
    exact (hf' i hil').2
end Go.Proofs.Ytecfoomjpjcldaa
