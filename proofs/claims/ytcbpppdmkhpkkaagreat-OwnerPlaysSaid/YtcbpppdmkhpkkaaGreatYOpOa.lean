/- Values of mailcoachlaw17.Act that came in, opened for the walks. -/
import Derived.Test.YtcbpppdmkhpkkaaGreatYOpBase
import Derived.Test.YtcbpppdmkhpkkaaGreatYInOa
namespace Go.Proofs.YtcbpppdmkhpkkaaGreat
open Go.ChangeShapes Go.WideShapes Go.ChangeAt Go.RowKit
set_option maxRecDepth 100000

theorem cellsOa : Tryz.prog.cellsOf 38 = 5 := by kernel_rfl
theorem cellsOa0 : Tryz.prog.cellsOf 5 = 1 := by kernel_rfl
theorem cellsOa1 : Tryz.prog.cellsOf 27 = 1 := by kernel_rfl
theorem cellsOa2 : Tryz.prog.cellsOf 9 = 1 := by kernel_rfl
theorem cellsOa3 : Tryz.prog.cellsOf 36 = 1 := by kernel_rfl

set_option maxRecDepth 100000 in
/-- One that came in, by its cells. -/
theorem open_Oa {H : Type} {enc : TypeId × Value → H} {w : World} {held : Bool} {fuel : Nat} {cs : List Value} {y : DataW H × List MemPlace}
    (h : DataW.trod enc Tryz.prog w 0 (fun _ => true) held fuel 38 cs = some y) :
    ∃ t : Oa, cs = [.int .u8 (t.k : Nat), .int .u64 (t.ses : Nat), .int .u64 (t.br : Nat), .string t.key, .slice t.valA t.val.length t.valC] ∧ OaOk w t := by
  obtain ⟨ys, n, _, _, hlen, hyl, hf⟩ := DataW.trod_struct Tryz.underlying38 h
  rw [cellsOa] at hlen
  have hyl' : ys.length = 5 := hyl
  match cs, hlen, ys, hyl', hf with
  | [v0, v1, v2, v3, v4], _, [y0, y1, y2, y3, y4], _, hf =>
    have f0 : DataW.trod enc Tryz.prog w 0 (fun _ => true) held n 5 (([v0, v1, v2, v3, v4].drop 0).take (Tryz.prog.cellsOf 5)) = [y0, y1, y2, y3, y4][0]? := hf 0 _ rfl
    have f1 : DataW.trod enc Tryz.prog w 0 (fun _ => true) held n 27 (([v0, v1, v2, v3, v4].drop 1).take (Tryz.prog.cellsOf 27)) = [y0, y1, y2, y3, y4][1]? := hf 1 _ rfl
    have f2 : DataW.trod enc Tryz.prog w 0 (fun _ => true) held n 27 (([v0, v1, v2, v3, v4].drop 2).take (Tryz.prog.cellsOf 27)) = [y0, y1, y2, y3, y4][2]? := hf 2 _ rfl
    have f3 : DataW.trod enc Tryz.prog w 0 (fun _ => true) held n 9 (([v0, v1, v2, v3, v4].drop 3).take (Tryz.prog.cellsOf 9)) = [y0, y1, y2, y3, y4][3]? := hf 3 _ rfl
    have f4 : DataW.trod enc Tryz.prog w 0 (fun _ => true) held n 36 (([v0, v1, v2, v3, v4].drop 4).take (Tryz.prog.cellsOf 36)) = [y0, y1, y2, y3, y4][4]? := hf 4 _ rfl
    rw [cellsOa0] at f0
    rw [cellsOa1] at f1 f2
    rw [cellsOa2] at f3
    rw [cellsOa3] at f4
    change DataW.trod _ _ _ _ _ _ _ _ [v0] = some y0 at f0
    change DataW.trod _ _ _ _ _ _ _ _ [v1] = some y1 at f1
    change DataW.trod _ _ _ _ _ _ _ _ [v2] = some y2 at f2
    change DataW.trod _ _ _ _ _ _ _ _ [v3] = some y3 at f3
    change DataW.trod _ _ _ _ _ _ _ _ [v4] = some y4 at f4
    obtain ⟨x0, e0, _, g0⟩ := DataW.trod_int Tryz.underlying5 f0
    injection e0 with e0 _
    have r0 : 0 ≤ x0 ∧ x0 < 256 := by
      simp [Lit.wf, IntKind.min, IntKind.max, IntKind.signed, IntKind.bits] at g0
      omega
    have q0 : ((x0.toNat : Nat) : Int) = x0 := by omega
    obtain ⟨x1, e1, _, g1⟩ := DataW.trod_int Tryz.underlying27 f1
    injection e1 with e1 _
    have r1 : 0 ≤ x1 ∧ x1 < 18446744073709551616 := by
      simp [Lit.wf, IntKind.min, IntKind.max, IntKind.signed, IntKind.bits] at g1
      omega
    have q1 : ((x1.toNat : Nat) : Int) = x1 := by omega
    obtain ⟨x2, e2, _, g2⟩ := DataW.trod_int Tryz.underlying27 f2
    injection e2 with e2 _
    have r2 : 0 ≤ x2 ∧ x2 < 18446744073709551616 := by
      simp [Lit.wf, IntKind.min, IntKind.max, IntKind.signed, IntKind.bits] at g2
      omega
    have q2 : ((x2.toNat : Nat) : Int) = x2 := by omega
    obtain ⟨x3, e3, _, g3⟩ := DataW.trod_string Tryz.underlying9 f3
    injection e3 with e3 _
    unfold maxLen at g3
    obtain ⟨a4, c4, l4, e4, b4⟩ := open_bytesc f4
    refine ⟨⟨x0.toNat, x1.toNat, x2.toNat, x3, a4, c4, l4⟩, ?_, ⟨(by show x0.toNat < _; omega), (by show x1.toNat < _; omega), (by show x2.toNat < _; omega), (by show x3.size ≤ _; omega), b4.1, b4.2.1, b4.2.2⟩⟩
    show (_ : List Value) = [.int .u8 (x0.toNat : Nat), .int .u64 (x1.toNat : Nat), .int .u64 (x2.toNat : Nat), .string x3, .slice a4 l4.length c4]
    rw [e0, q0, e1, q1, e2, q2, e3, e4]

/-- A slice of such that came in. -/
theorem open_Oas {H : Type} {enc : TypeId × Value → H} {w : World} {held : Bool} {a : Option Addr} {len cap : Nat} {d : DataW H} {p : List MemPlace}
    (h : DataW.Trod enc Tryz.prog w 0 (fun _ => true) held 22 (.slice a len cap) d p) : ∃ ts : List Oa, Oas w a ts ∧ len = ts.length ∧ len ≤ 9223372036854775807 := by
  obtain ⟨fuel, hf⟩ := h
  rcases Go.Deep.open_slice Tryz.underlying22 hf with ⟨hcs, _⟩ | ⟨x, l, c, m, n, D, Pl, hcs, _, hl, hm, hmm, _, hi⟩
  · simp [Value.cells] at hcs
    obtain ⟨rfl, rfl, rfl⟩ := hcs
    exact ⟨[], fun h => absurd h (by simp), rfl, by omega⟩
  · simp [Value.cells] at hcs
    obtain ⟨rfl, rfl, rfl⟩ := hcs
    rw [if_pos rfl] at hmm
    obtain ⟨b, off, spot⟩ := x
    unfold maxLen at hm
    rw [cellsOa] at hi
    have hspot : 0 < len → spot = none := fun h0 => by
      obtain ⟨cs', hc, ht⟩ := hi 0 (by omega)
      obtain ⟨_, hcl, hat⟩ := World.cells?_some hc
      obtain ⟨t, rfl, _⟩ := open_Oa ht
      have c0 := hat 0 (by omega)
      simp at c0
      simpa [Addr.add] using World.cell?_spot c0
    have each : ∀ i, ∃ t : Oa, i < len → spot = none ∧ OaIn w b (off + i * 5) t := by
      intro i
      by_cases hil : i < len
      · obtain ⟨cs', hc, ht⟩ := hi i (by omega)
        obtain ⟨_, hcl, hat⟩ := World.cells?_some hc
        obtain ⟨t, rfl, hok⟩ := open_Oa ht
        have c0 := hat 0 (by omega)
        have c1 := hat 1 (by omega)
        have c2 := hat 2 (by omega)
        have c3 := hat 3 (by omega)
        have c4 := hat 4 (by omega)
        rw [Go.Deep.add_add] at c0 c1 c2 c3 c4
        have hspot := hspot (by omega)
        subst hspot
        rw [addr_add] at c0 c1 c2 c3 c4
        exact ⟨t, fun _ => ⟨rfl, c0, (by rw [Nat.add_assoc]; exact c1), (by rw [Nat.add_assoc]; exact c2), (by rw [Nat.add_assoc]; exact c3), (by rw [Nat.add_assoc]; exact c4), hok⟩⟩
      · exact ⟨default, fun h => absurd h hil⟩
    obtain ⟨f, hf'⟩ := Classical.axiomOfChoice each
    refine ⟨(List.range len).map f, fun h0 => ?_, by simp, by omega⟩
    have h0' : 0 < len := by simpa using h0
    have hs := (hf' 0 h0').1
    subst hs
    refine ⟨b, off, rfl, fun i hil => ?_⟩
    have hil' : i < len := by simpa using hil
    have e : ((List.range len).map f).getD i default = f i := by simp [hil']
    rw [e]
    exact (hf' i hil').2
end Go.Proofs.YtcbpppdmkhpkkaaGreat
