/- Values of api.Cmd that came in, opened for the walks. -/
import Derived.Test.YtomgiockelhfiaaGreatMX
import Derived.Test.YtomgiockelhfiaaGreatZOpBase
import Derived.Test.YtomgiockelhfiaaGreatZInCm
namespace Go.Proofs.YtomgiockelhfiaaGreat
open Go.ChangeShapes Go.WideShapes Go.ChangeAt Go.RowKit
set_option maxRecDepth 100000

theorem cellsCm : Tryz.prog.cellsOf 51 = 6 := by kernel_rfl
theorem cellsCm0 : Tryz.prog.cellsOf 49 = 1 := by kernel_rfl
theorem cellsCm1 : Tryz.prog.cellsOf 9 = 1 := by kernel_rfl
theorem cellsCm2 : Tryz.prog.cellsOf 35 = 1 := by kernel_rfl
theorem cellsCm3 : Tryz.prog.cellsOf 38 = 1 := by kernel_rfl

set_option maxRecDepth 100000 in
/-- One that came in, by its cells. -/
theorem open_Cm {H : Type} {enc : TypeId × Value → H} {w : World} {held : Bool} {fuel : Nat} {cs : List Value} {y : DataW H × List MemPlace}
    (h : DataW.trod enc Tryz.prog w 0 (fun _ => true) held fuel 51 cs = some y) :
    ∃ t : Cm, cs = [.int .u8 (t.k : Nat), .string t.key, .slice t.valA t.val.length t.valC, .int .u64 (t.want : Nat), .int .u64 (t.ses : Nat), .int .u64 (t.ticks : Nat)] ∧ CmOk w t := by
  obtain ⟨ys, n, _, _, hlen, hyl, hf⟩ := DataW.trod_struct Tryz.underlying51 h
  rw [cellsCm] at hlen
  have hyl' : ys.length = 6 := hyl
  match cs, hlen, ys, hyl', hf with
  | [v0, v1, v2, v3, v4, v5], _, [y0, y1, y2, y3, y4, y5], _, hf =>
    have f0 : DataW.trod enc Tryz.prog w 0 (fun _ => true) held n 49 (([v0, v1, v2, v3, v4, v5].drop 0).take (Tryz.prog.cellsOf 49)) = [y0, y1, y2, y3, y4, y5][0]? := hf 0 _ rfl
    have f1 : DataW.trod enc Tryz.prog w 0 (fun _ => true) held n 9 (([v0, v1, v2, v3, v4, v5].drop 1).take (Tryz.prog.cellsOf 9)) = [y0, y1, y2, y3, y4, y5][1]? := hf 1 _ rfl
    have f2 : DataW.trod enc Tryz.prog w 0 (fun _ => true) held n 35 (([v0, v1, v2, v3, v4, v5].drop 2).take (Tryz.prog.cellsOf 35)) = [y0, y1, y2, y3, y4, y5][2]? := hf 2 _ rfl
    have f3 : DataW.trod enc Tryz.prog w 0 (fun _ => true) held n 38 (([v0, v1, v2, v3, v4, v5].drop 3).take (Tryz.prog.cellsOf 38)) = [y0, y1, y2, y3, y4, y5][3]? := hf 3 _ rfl
    have f4 : DataW.trod enc Tryz.prog w 0 (fun _ => true) held n 38 (([v0, v1, v2, v3, v4, v5].drop 4).take (Tryz.prog.cellsOf 38)) = [y0, y1, y2, y3, y4, y5][4]? := hf 4 _ rfl
    have f5 : DataW.trod enc Tryz.prog w 0 (fun _ => true) held n 38 (([v0, v1, v2, v3, v4, v5].drop 5).take (Tryz.prog.cellsOf 38)) = [y0, y1, y2, y3, y4, y5][5]? := hf 5 _ rfl
    rw [cellsCm0] at f0
    rw [cellsCm1] at f1
    rw [cellsCm2] at f2
    rw [cellsCm3] at f3 f4 f5
    change DataW.trod _ _ _ _ _ _ _ _ [v0] = some y0 at f0
    change DataW.trod _ _ _ _ _ _ _ _ [v1] = some y1 at f1
    change DataW.trod _ _ _ _ _ _ _ _ [v2] = some y2 at f2
    change DataW.trod _ _ _ _ _ _ _ _ [v3] = some y3 at f3
    change DataW.trod _ _ _ _ _ _ _ _ [v4] = some y4 at f4
    change DataW.trod _ _ _ _ _ _ _ _ [v5] = some y5 at f5
    obtain ⟨x0, e0, _, g0⟩ := DataW.trod_int Tryz.underlying49 f0
    injection e0 with e0 _
    have r0 : 0 ≤ x0 ∧ x0 < 256 := by
      simp [Lit.wf, IntKind.min, IntKind.max, IntKind.signed, IntKind.bits] at g0
      omega
    have q0 : ((x0.toNat : Nat) : Int) = x0 := by omega
    obtain ⟨x1, e1, _, g1⟩ := DataW.trod_string Tryz.underlying9 f1
    injection e1 with e1 _
    unfold maxLen at g1
    obtain ⟨a2, c2, l2, e2, b2⟩ := open_bytesc f2
    obtain ⟨x3, e3, _, g3⟩ := DataW.trod_int Tryz.underlying38 f3
    injection e3 with e3 _
    have r3 : 0 ≤ x3 ∧ x3 < 18446744073709551616 := by
      simp [Lit.wf, IntKind.min, IntKind.max, IntKind.signed, IntKind.bits] at g3
      omega
    have q3 : ((x3.toNat : Nat) : Int) = x3 := by omega
    obtain ⟨x4, e4, _, g4⟩ := DataW.trod_int Tryz.underlying38 f4
    injection e4 with e4 _
    have r4 : 0 ≤ x4 ∧ x4 < 18446744073709551616 := by
      simp [Lit.wf, IntKind.min, IntKind.max, IntKind.signed, IntKind.bits] at g4
      omega
    have q4 : ((x4.toNat : Nat) : Int) = x4 := by omega
    obtain ⟨x5, e5, _, g5⟩ := DataW.trod_int Tryz.underlying38 f5
    injection e5 with e5 _
    have r5 : 0 ≤ x5 ∧ x5 < 18446744073709551616 := by
      simp [Lit.wf, IntKind.min, IntKind.max, IntKind.signed, IntKind.bits] at g5
      omega
    have q5 : ((x5.toNat : Nat) : Int) = x5 := by omega
    refine ⟨⟨x0.toNat, x1, a2, c2, l2, x3.toNat, x4.toNat, x5.toNat⟩, ?_, ⟨(by show x0.toNat < _; omega), (by show x1.size ≤ _; omega), b2.1, b2.2.1, b2.2.2, (by show x3.toNat < _; omega), (by show x4.toNat < _; omega), (by show x5.toNat < _; omega)⟩⟩
    show (_ : List Value) = [.int .u8 (x0.toNat : Nat), .string x1, .slice a2 l2.length c2, .int .u64 (x3.toNat : Nat), .int .u64 (x4.toNat : Nat), .int .u64 (x5.toNat : Nat)]
    rw [e0, q0, e1, e2, e3, q3, e4, q4, e5, q5]

/-- A slice of such that came in. -/
theorem open_Cms {H : Type} {enc : TypeId × Value → H} {w : World} {held : Bool} {a : Option Addr} {len cap : Nat} {d : DataW H} {p : List MemPlace}
    (h : DataW.Trod enc Tryz.prog w 0 (fun _ => true) held 23 (.slice a len cap) d p) : ∃ ts : List Cm, Cms w a ts ∧ len = ts.length ∧ len ≤ 9223372036854775807 := by
  obtain ⟨fuel, hf⟩ := h
  rcases Go.Deep.open_slice Tryz.underlying23 hf with ⟨hcs, _⟩ | ⟨x, l, c, m, n, D, Pl, hcs, _, hl, hm, hmm, _, hi⟩
  · simp [Value.cells] at hcs
    obtain ⟨rfl, rfl, rfl⟩ := hcs
    exact ⟨[], fun h => absurd h (by simp), rfl, by omega⟩
  · simp [Value.cells] at hcs
    obtain ⟨rfl, rfl, rfl⟩ := hcs
    rw [if_pos rfl] at hmm
    obtain ⟨b, off, spot⟩ := x
    unfold maxLen at hm
    rw [cellsCm] at hi
    have hspot : 0 < len → spot = none := fun h0 => by
      obtain ⟨cs', hc, ht⟩ := hi 0 (by omega)
      obtain ⟨_, hcl, hat⟩ := World.cells?_some hc
      obtain ⟨t, rfl, _⟩ := open_Cm ht
      have c0 := hat 0 (by omega)
      simp at c0
      simpa [Addr.add] using World.cell?_spot c0
    have each : ∀ i, ∃ t : Cm, i < len → spot = none ∧ CmIn w b (off + i * 6) t := by
      intro i
      by_cases hil : i < len
      · obtain ⟨cs', hc, ht⟩ := hi i (by omega)
        obtain ⟨_, hcl, hat⟩ := World.cells?_some hc
        obtain ⟨t, rfl, hok⟩ := open_Cm ht
        have c0 := hat 0 (by omega)
        have c1 := hat 1 (by omega)
        have c2 := hat 2 (by omega)
        have c3 := hat 3 (by omega)
        have c4 := hat 4 (by omega)
        have c5 := hat 5 (by omega)
        rw [Go.Deep.add_add] at c0 c1 c2 c3 c4 c5
        have hspot := hspot (by omega)
        subst hspot
        rw [addr_add] at c0 c1 c2 c3 c4 c5
        exact ⟨t, fun _ => ⟨rfl, c0, (by rw [Nat.add_assoc]; exact c1), (by rw [Nat.add_assoc]; exact c2), (by rw [Nat.add_assoc]; exact c3), (by rw [Nat.add_assoc]; exact c4), (by rw [Nat.add_assoc]; exact c5), hok⟩⟩
      · exact ⟨default, fun h => absurd h hil⟩
    obtain ⟨f, hf'⟩ := Classical.axiomOfChoice each
    refine ⟨(List.range len).map f, fun h0 => ?_, by simp, by omega⟩
    have h0' : 0 < len := by simpa using h0
    have hs := (hf' 0 h0').1
    subst hs
    refine ⟨b, off, rfl, fun i hil => ?_⟩
    have hil' : i < len := by simpa using hil
    have e : ((List.range len).map f).getD i default = f i := by simp [hil']
    rw [e]
    exact (hf' i hil').2
end Go.Proofs.YtomgiockelhfiaaGreat
