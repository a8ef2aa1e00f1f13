/- Values of mailcoachlaw12.Act that came in, opened for the walks. -/
import Derived.Test.YtecfoomjpjcldaaOpBase
import Derived.Test.YtecfoomjpjcldaaInKa
namespace Go.Proofs.Ytecfoomjpjcldaa
open Go.ChangeShapes Go.WideShapes Go.ChangeAt Go.RowKit
set_option maxRecDepth 100000

theorem cellsKa : Try.prog.cellsOf 83 = 4 := by kernel_rfl
theorem cellsKa0 : Try.prog.cellsOf 5 = 1 := by kernel_rfl
theorem cellsKa1 : Try.prog.cellsOf 4 = 1 := by kernel_rfl

set_option maxRecDepth 100000 in
/-- One that came in, by its cells. -/
theorem open_Ka {H : Type} {enc : TypeId × Value → H} {w : World} {held : Bool} {fuel : Nat} {cs : List Value} {y : DataW H × List MemPlace}
    (h : DataW.trod enc Try.prog w 0 (fun _ => true) held fuel 83 cs = some y) :
    ∃ t : Ka, cs = [.int .u8 (t.k : Nat), .int .u8 (t.p : Nat), .int .u8 (t.x : Nat), .bool t.lost] ∧ KaOk w t := by
  obtain ⟨ys, n, _, _, hlen, hyl, hf⟩ := DataW.trod_struct Try.underlying83 h
  rw [cellsKa] at hlen
  have hyl' : ys.length = 4 := hyl
  match cs, hlen, ys, hyl', hf with
  | [v0, v1, v2, v3], _, [y0, y1, y2, y3], _, hf =>
    have f0 : DataW.trod enc Try.prog w 0 (fun _ => true) held n 5 (([v0, v1, v2, v3].drop 0).take (Try.prog.cellsOf 5)) = [y0, y1, y2, y3][0]? := hf 0 _ rfl
    have f1 : DataW.trod enc Try.prog w 0 (fun _ => true) held n 5 (([v0, v1, v2, v3].drop 1).take (Try.prog.cellsOf 5)) = [y0, y1, y2, y3][1]? := hf 1 _ rfl
    have f2 : DataW.trod enc Try.prog w 0 (fun _ => true) held n 5 (([v0, v1, v2, v3].drop 2).take (Try.prog.cellsOf 5)) = [y0, y1, y2, y3][2]? := hf 2 _ rfl
    have f3 : DataW.trod enc Try.prog w 0 (fun _ => true) held n 4 (([v0, v1, v2, v3].drop 3).take (Try.prog.cellsOf 4)) = [y0, y1, y2, y3][3]? := hf 3 _ rfl
    rw [cellsKa0] at f0 f1 f2
    rw [cellsKa1] at f3
    change DataW.trod _ _ _ _ _ _ _ _ [v0] = some y0 at f0
    change DataW.trod _ _ _ _ _ _ _ _ [v1] = some y1 at f1
    change DataW.trod _ _ _ _ _ _ _ _ [v2] = some y2 at f2
    change DataW.trod _ _ _ _ _ _ _ _ [v3] = some y3 at f3
    obtain ⟨x0, e0, _, g0⟩ := DataW.trod_int Try.underlying5 f0
    injection e0 with e0 _
    have r0 : 0 ≤ x0 ∧ x0 < 256 := by
      simp [Lit.wf, IntKind.min, IntKind.max, IntKind.signed, IntKind.bits] at g0
      omega
    have q0 : ((x0.toNat : Nat) : Int) = x0 := by omega
    obtain ⟨x1, e1, _, g1⟩ := DataW.trod_int Try.underlying5 f1
    injection e1 with e1 _
    have r1 : 0 ≤ x1 ∧ x1 < 256 := by
      simp [Lit.wf, IntKind.min, IntKind.max, IntKind.signed, IntKind.bits] at g1
      omega
    have q1 : ((x1.toNat : Nat) : Int) = x1 := by omega
    obtain ⟨x2, e2, _, g2⟩ := DataW.trod_int Try.underlying5 f2
    injection e2 with e2 _
    have r2 : 0 ≤ x2 ∧ x2 < 256 := by
      simp [Lit.wf, IntKind.min, IntKind.max, IntKind.signed, IntKind.bits] at g2
      omega
    have q2 : ((x2.toNat : Nat) : Int) = x2 := by omega
    obtain ⟨x3, e3, _⟩ := DataW.trod_bool Try.underlying4 f3
    injection e3 with e3 _
    refine ⟨⟨x0.toNat, x1.toNat, x2.toNat, x3⟩, ?_, ⟨(by show x0.toNat < _; omega), (by show x1.toNat < _; omega), (by show x2.toNat < _; omega)⟩⟩
    show (_ : List Value) = [.int .u8 (x0.toNat : Nat), .int .u8 (x1.toNat : Nat), .int .u8 (x2.toNat : Nat), .bool x3]
    rw [e0, q0, e1, q1, e2, q2, e3]

/-- One by value that came in. -/
theorem open_Kav {H : Type} {enc : TypeId × Value → H} {w : World} {base : Nat} {held : Bool} {v : Value} {d : DataW H} {p : List MemPlace} (hval : Value.okWide Try.prog w .any base 83 v)
    (h : DataW.Trod enc Try.prog w 0 (fun _ => true) held 83 v d p) : ∃ t : Ka, v = t.value ∧ KaOk w t := by
  obtain ⟨cs, rfl, hsz⟩ := okWide_struct Try.underlying83 hval
  obtain ⟨fuel, hf⟩ := h
  obtain ⟨t, hr, hb⟩ := open_Ka (cs := cs.toList) (by simpa [Value.cells] using hf)
  refine ⟨t, ?_, hb⟩
  obtain ⟨l⟩ := cs
  simp only at hr
  subst hr
  rfl

/-- A slice of such that came in. -/
theorem open_Kas {H : Type} {enc : TypeId × Value → H} {w : World} {held : Bool} {a : Option Addr} {len cap : Nat} {d : DataW H} {p : List MemPlace}
    (h : DataW.Trod enc Try.prog w 0 (fun _ => true) held 78 (.slice a len cap) d p) : ∃ ts : List Ka, Kas w a ts ∧ len = ts.length ∧ len ≤ 9223372036854775807 := by
  obtain ⟨fuel, hf⟩ := h
  rcases Go.Deep.open_slice Try.underlying78 hf with ⟨hcs, _⟩ | ⟨x, l, c, m, n, D, Pl, hcs, _, hl, hm, hmm, _, hi⟩
  · simp [Value.cells] at hcs
    obtain ⟨rfl, rfl, rfl⟩ := hcs
    exact ⟨[], fun h => absurd h (by simp), rfl, by omega⟩
  · simp [Value.cells] at hcs
    obtain ⟨rfl, rfl, rfl⟩ := hcs
    rw [if_pos rfl] at hmm
    obtain ⟨b, off, spot⟩ := x
    unfold maxLen at hm
    rw [cellsKa] at hi
    have hspot : 0 < len → spot = none := fun h0 => by
      obtain ⟨cs', hc, ht⟩ := hi 0 (by omega)
      obtain ⟨_, hcl, hat⟩ := World.cells?_some hc
      obtain ⟨t, rfl, _⟩ := open_Ka ht
      have c0 := hat 0 (by omega)
      simp at c0
      simpa [Addr.add] using World.cell?_spot c0
    have each : ∀ i, ∃ t : Ka, i < len → spot = none ∧ KaIn w b (off + i * 4) t := by
      intro i
      by_cases hil : i < len
      · obtain ⟨cs', hc, ht⟩ := hi i (by omega)
        obtain ⟨_, hcl, hat⟩ := World.cells?_some hc
        obtain ⟨t, rfl, hok⟩ := open_Ka ht
        have c0 := hat 0 (by omega)
        have c1 := hat 1 (by omega)
        have c2 := hat 2 (by omega)
        have c3 := hat 3 (by omega)
        rw [Go.Deep.add_add] at c0 c1 c2 c3
        have hspot := hspot (by omega)
        subst hspot
        rw [addr_add] at c0 c1 c2 c3
        exact ⟨t, fun _ => ⟨rfl, c0, (by rw [Nat.add_assoc]; exact c1), (by rw [Nat.add_assoc]; exact c2), (by rw [Nat.add_assoc]; exact c3), hok⟩⟩
      · exact ⟨default, fun h => absurd h hil⟩
    obtain ⟨f, hf'⟩ := Classical.axiomOfChoice each
    refine ⟨(List.range len).map f, fun h0 => ?_, by simp, by omega⟩
    have h0' : 0 < len := by simpa using h0
    have hs := (hf' 0 h0').1
    subst hs
    refine ⟨b, off, rfl, fun i hil => ?_⟩
    have hil' : i < len := by simpa using hil
    have e : ((List.range len).map f).getD i default = f i := by simp [hil']
    rw [e]
    exact (hf' i hil').2
end Go.Proofs.Ytecfoomjpjcldaa
