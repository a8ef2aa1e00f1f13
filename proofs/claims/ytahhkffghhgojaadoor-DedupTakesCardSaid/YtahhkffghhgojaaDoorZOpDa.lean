/- Values of mailcoachlaw15.Act that came in, opened for the walks. -/
import Derived.Test.YtahhkffghhgojaaDoorZOpBase
import Derived.Test.YtahhkffghhgojaaDoorZInDa
import Derived.Test.YtahhkffghhgojaaDoorZOpPoi
namespace Go.Proofs.YtahhkffghhgojaaDoor
open Go.ChangeShapes Go.WideShapes Go.ChangeAt Go.RowKit
set_option maxRecDepth 100000

theorem cellsDa : Tryd.prog.cellsOf 31 = 6 := by kernel_rfl
theorem cellsDa0 : Tryd.prog.cellsOf 5 = 1 := by kernel_rfl
theorem cellsDa1 : Tryd.prog.cellsOf 9 = 1 := by kernel_rfl
theorem cellsDa2 : Tryd.prog.cellsOf 27 = 1 := by kernel_rfl
theorem cellsDa3 : Tryd.prog.cellsOf 29 = 2 := by kernel_rfl
theorem cellsDa4 : Tryd.prog.cellsOf 4 = 1 := by kernel_rfl

set_option maxRecDepth 100000 in
/-- One that came in, by its cells. -/
theorem open_Da {H : Type} {enc : TypeId × Value → H} {w : World} {held : Bool} {fuel : Nat} {cs : List Value} {y : DataW H × List MemPlace}
    (h : DataW.trod enc Tryd.prog w 0 (fun _ => true) held fuel 31 cs = some y) :
    ∃ t : Da, cs = [.int .u8 (t.k : Nat), .string t.nm, .int .u64 (t.seq : Nat), .int .u64 (t.atL : Nat), .int .u64 (t.atE : Nat), .bool t.raw] ∧ DaOk w t := by
  obtain ⟨ys, n, _, _, hlen, hyl, hf⟩ := DataW.trod_struct Tryd.underlying31 h
  rw [cellsDa] at hlen
  have hyl' : ys.length = 5 := hyl
  match cs, hlen, ys, hyl', hf with
  | [v0, v1, v2, v3, v3b, v4], _, [y0, y1, y2, y3, y4], _, hf =>
    have f0 : DataW.trod enc Tryd.prog w 0 (fun _ => true) held n 5 (([v0, v1, v2, v3, v3b, v4].drop 0).take (Tryd.prog.cellsOf 5)) = [y0, y1, y2, y3, y4][0]? := hf 0 _ rfl
    have f1 : DataW.trod enc Tryd.prog w 0 (fun _ => true) held n 9 (([v0, v1, v2, v3, v3b, v4].drop 1).take (Tryd.prog.cellsOf 9)) = [y0, y1, y2, y3, y4][1]? := hf 1 _ rfl
    have f2 : DataW.trod enc Tryd.prog w 0 (fun _ => true) held n 27 (([v0, v1, v2, v3, v3b, v4].drop 2).take (Tryd.prog.cellsOf 27)) = [y0, y1, y2, y3, y4][2]? := hf 2 _ rfl
    have f3 : DataW.trod enc Tryd.prog w 0 (fun _ => true) held n 29 (([v0, v1, v2, v3, v3b, v4].drop 3).take (Tryd.prog.cellsOf 29)) = [y0, y1, y2, y3, y4][3]? := hf 3 _ rfl
    have f4 : DataW.trod enc Tryd.prog w 0 (fun _ => true) held n 4 (([v0, v1, v2, v3, v3b, v4].drop 5).take (Tryd.prog.cellsOf 4)) = [y0, y1, y2, y3, y4][4]? := hf 4 _ rfl
    rw [cellsDa0] at f0
    rw [cellsDa1] at f1
    rw [cellsDa2] at f2
    rw [cellsDa3] at f3
    rw [cellsDa4] at f4
    change DataW.trod _ _ _ _ _ _ _ _ [v0] = some y0 at f0
    change DataW.trod _ _ _ _ _ _ _ _ [v1] = some y1 at f1
    change DataW.trod _ _ _ _ _ _ _ _ [v2] = some y2 at f2
    change DataW.trod _ _ _ _ _ _ _ _ [v3, v3b] = some y3 at f3
    change DataW.trod _ _ _ _ _ _ _ _ [v4] = some y4 at f4
    obtain ⟨x0, e0, _, g0⟩ := DataW.trod_int Tryd.underlying5 f0
    injection e0 with e0 _
    have r0 : 0 ≤ x0 ∧ x0 < 256 := by
      simp [Lit.wf, IntKind.min, IntKind.max, IntKind.signed, IntKind.bits] at g0
      omega
    have q0 : ((x0.toNat : Nat) : Int) = x0 := by omega
    obtain ⟨x1, e1, _, g1⟩ := DataW.trod_string Tryd.underlying9 f1
    injection e1 with e1 _
    unfold maxLen at g1
    obtain ⟨x2, e2, _, g2⟩ := DataW.trod_int Tryd.underlying27 f2
    injection e2 with e2 _
    have r2 : 0 ≤ x2 ∧ x2 < 18446744073709551616 := by
      simp [Lit.wf, IntKind.min, IntKind.max, IntKind.signed, IntKind.bits] at g2
      omega
    have q2 : ((x2.toNat : Nat) : Int) = x2 := by omega
    obtain ⟨x3, e3, o3⟩ := open_Poi f3
    injection e3 with e3 e3b
    injection e3b with e3b _
    obtain ⟨x4, e4, _⟩ := DataW.trod_bool Tryd.underlying4 f4
    injection e4 with e4 _
    refine ⟨⟨x0.toNat, x1, x2.toNat, x3.l, x3.e, x4⟩, ?_, ⟨(by show x0.toNat < _; omega), (by show x1.size ≤ _; omega), (by show x2.toNat < _; omega), o3.l_lt, o3.e_lt⟩⟩
    show (_ : List Value) = [.int .u8 (x0.toNat : Nat), .string x1, .int .u64 (x2.toNat : Nat), .int .u64 (x3.l : Nat), .int .u64 (x3.e : Nat), .bool x4]
    rw [e0, q0, e1, e2, q2, e3, e3b, e4]

/-- A slice of such that came in. -/
theorem open_Das {H : Type} {enc : TypeId × Value → H} {w : World} {held : Bool} {a : Option Addr} {len cap : Nat} {d : DataW H} {p : List MemPlace}
    (h : DataW.Trod enc Tryd.prog w 0 (fun _ => true) held 23 (.slice a len cap) d p) : ∃ ts : List Da, Das w a ts ∧ len = ts.length ∧ len ≤ 9223372036854775807 := by
  obtain ⟨fuel, hf⟩ := h
  rcases Go.Deep.open_slice Tryd.underlying23 hf with ⟨hcs, _⟩ | ⟨x, l, c, m, n, D, Pl, hcs, _, hl, hm, hmm, _, hi⟩
  · simp [Value.cells] at hcs
    obtain ⟨rfl, rfl, rfl⟩ := hcs
    exact ⟨[], fun h => absurd h (by simp), rfl, by omega⟩
  · simp [Value.cells] at hcs
    obtain ⟨rfl, rfl, rfl⟩ := hcs
    rw [if_pos rfl] at hmm
    obtain ⟨b, off, spot⟩ := x
    unfold maxLen at hm
    rw [cellsDa] at hi
    have hspot : 0 < len → spot = none := fun h0 => by
      obtain ⟨cs', hc, ht⟩ := hi 0 (by omega)
      obtain ⟨_, hcl, hat⟩ := World.cells?_some hc
      obtain ⟨t, rfl, _⟩ := open_Da ht
      have c0 := hat 0 (by omega)
      simp at c0
      simpa [Addr.add] using World.cell?_spot c0
    have each : ∀ i, ∃ t : Da, i < len → spot = none ∧ DaIn w b (off + i * 6) t := by
      intro i
      by_cases hil : i < len
      · obtain ⟨cs', hc, ht⟩ := hi i (by omega)
        obtain ⟨_, hcl, hat⟩ := World.cells?_some hc
        obtain ⟨t, rfl, hok⟩ := open_Da ht
        have c0 := hat 0 (by omega)
        have c1 := hat 1 (by omega)
        have c2 := hat 2 (by omega)
        have c3 := hat 3 (by omega)
        have c4 := hat 4 (by omega)
        have c5 := hat 5 (by omega)
        rw [Go.Deep.add_add] at c0 c1 c2 c3 c4 c5
        have hspot := hspot (by omega)
        subst hspot
        rw [addr_add] at c0 c1 c2 c3 c4 c5
        exact ⟨t, fun _ => ⟨rfl, c0, (by rw [Nat.add_assoc]; exact c1), (by rw [Nat.add_assoc]; exact c2), (by rw [Nat.add_assoc]; exact c3), (by rw [Nat.add_assoc]; exact c4), (by rw [Nat.add_assoc]; exact c5), hok⟩⟩
      · exact ⟨default, fun h => absurd h hil⟩
    obtain ⟨f, hf'⟩ := Classical.axiomOfChoice each
    refine ⟨(List.range len).map f, fun h0 => ?_, by simp, by omega⟩
    have h0' : 0 < len := by simpa using h0
    have hs := (hf' 0 h0').1
    subst hs
    refine ⟨b, off, rfl, fun i hil => ?_⟩
    have hil' : i < len := by simpa using hil
    have e : ((List.range len).map f).getD i default = f i := by simp [hil']
    rw [e]
    exact (hf' i hil').2
end Go.Proofs.YtahhkffghhgojaaDoor
