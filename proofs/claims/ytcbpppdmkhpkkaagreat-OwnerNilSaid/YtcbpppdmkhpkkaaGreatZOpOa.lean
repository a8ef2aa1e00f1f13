/- Values of mailcoachlaw17.Act that came in, opened for the walks. -/
import Derived.Test.YtcbpppdmkhpkkaaGreatZOpBase
import Derived.Test.YtcbpppdmkhpkkaaGreatZInOa
namespace Go.Proofs.YtcbpppdmkhpkkaaGreat
open Go.ChangeShapes Go.WideShapes Go.ChangeAt Go.RowKit
set_option maxRecDepth 100000

theorem cellsOa : Tryz.prog.cellsOf 38 = 5 := by kernel_rfl
theorem cellsOa0 : Tryz.prog.cellsOf 5 = 1 := by kernel_rfl
theorem cellsOa1 : Tryz.prog.cellsOf 27 = 1 := by kernel_rfl
theorem cellsOa2 : Tryz.prog.cellsOf 9 = 1 := by kernel_rfl
theorem cellsOa3 : Tryz.prog.cellsOf 36 = 1 := by kernel_rfl

set_option maxRecDepth 100000 in
/-- One that came in, by its cells. -/
theorem open_Oa {H : Type} {enc : TypeId × Value → H} {w : World} {held : Bool} {fuel : Nat} {cs : List Value} {y : DataW H × List MemPlace}
    (h : DataW.trod enc Tryz.prog w 0 (fun _ => true) held fuel 38 cs = some y) :
    ∃ t : Oa, cs = [.int .u8 (t.k : Nat), .int .u64 (t.ses : Nat), .int .u64 (t.br : Nat), .string t.key, .slice t.valA t.val.length t.valC] ∧ OaOk w t := by
  obtain ⟨ys, n, _, _, hlen, hyl, hf⟩ := DataW.trod_struct Tryz.underlying38 h
  rw [cellsOa] at hlen
  have hyl' : ys.length = 5 := hyl
  match cs, hlen, ys, hyl', hf with
  | [v0, v1, v2, v3, v4], _, [y0, y1, y2, y3, y4], _, hf =>
    have f0 : DataW.trod enc Tryz.prog w 0 (fun _ => true) held n 5 (([v0, v1, v2, v3, v4].drop 0).take (Tryz.prog.cellsOf 5)) = [y0, y1, y2, y3, y4][0]? := hf 0 _ rfl
    have f1 : DataW.trod enc Tryz.prog w 0 (fun _ => true) held n 27 (([v0, v1, v2, v3, v4].drop 1).take (Tryz.prog.cellsOf 27)) = [y0, y1, y2, y3, y4][1]? := hf 1 _ rfl
    have f2 : DataW.trod enc Tryz.prog w 0 (fun _ => true) held n 27 (([v0, v1, v2, v3, v4].drop 2).take (Tryz.prog.cellsOf 27)) = [y0, y1, y2, y3, y4][2]? := hf 2 _ rfl
    have f3 : DataW.trod enc Tryz.prog w 0 (fun _ => true) held n 9 (([v0, v1, v2, v3, v4].drop 3).take (Tryz.prog.cellsOf 9)) = [y0, y1, y2, y3, y4][3]? := hf 3 _ rfl
    have f4 : DataW.trod enc Tryz.prog w 0 (fun _ => true) held n 36 (([v0, v1, v2, v3, v4].drop 4).take (Tryz.prog.cellsOf 36)) = [y0, y1, y2, y3, y4][4]? := hf 4 _ rfl
    rw [cellsOa0] at f0
    rw [cellsOa1] at f1 f2
    rw [cellsOa2] at f3
    rw [cellsOa3] at f4
    change DataW.trod _ _ _ _ _ _ _ _ [v0] = some y0 at f0
    change DataW.trod _ _ _ _ _ _ _ _ [v1] = some y1 at f1
    change DataW.trod _ _ _ _ _ _ _ _ [v2] = some y2 at f2
    change DataW.trod _ _ _ _ _ _ _ _ [v3] = some y3 at f3
    change DataW.trod _ _ _ _ _ _ _ _ [v4] = some y4 at f4
    obtain ⟨x0, e0, _, g0⟩ := DataW.trod_int Tryz.underlying5 f0
    injection e0 with e0 _
    have r0 : 0 ≤ x0 ∧ x0 < 256 := by
      simp [Lit.wf, IntKind.min, IntKind.max, IntKind.signed, IntKind.bits] at g0
      omega
    have q0 : ((x0.toNat : Nat) : Int) = x0 := by omega
    obtain ⟨x1, e1, _, g1⟩ := DataW.trod_int Tryz.underlying27 f1
    injection e1 with e1 _
    have r1 : 0 ≤ x1 ∧ x1 < 18446744073709551616 := by
      simp [Lit.wf, IntKind.min, IntKind.max, IntKind.signed, IntKind.bits] at g1
      omega
    have q1 : ((x1.toNat : Nat) : Int) = x1 := by omega
    obtain ⟨x2, e2, _, g2⟩ := DataW.trod_int Tryz.underlying27 f2
    injection e2 with e2 _
    have r2 : 0 ≤ x2 ∧ x2 < 18446744073709551616 := by
      simp [Lit.wf, IntKind.min, IntKind.max, IntKind.signed, IntKind.bits] at g2
      omega
    have q2 : ((x2.toNat : Nat) : Int) = x2 := by omega
    obtain ⟨x3, e3, _, g3⟩ := DataW.trod_string Tryz.underlying9 f3
    injection e3 with e3 _
    unfold maxLen at g3
    obtain ⟨a4, c4, l4, e4, b4⟩ := open_bytesc f4
    refine ⟨⟨x0.toNat, x1.toNat, x2.toNat, x3, a4, c4, l4⟩, ?_, ⟨(by show x0.toNat < _; omega), (by show x1.toNat < _; omega), (by show x2.toNat < _; omega), (by show x3.size ≤ _; omega), b4.1, b4.2.1, b4.2.2⟩⟩
    show (_ : List Value) = [.int .u8 (x0.toNat : Nat), .int .u64 (x1.toNat : Nat), .int .u64 (x2.toNat : Nat), .string x3, .slice a4 l4.length c4]
    rw [e0, q0, e1, q1, e2, q2, e3, e4]

/-- One by value that came in. -/
theorem open_Oav {H : Type} {enc : TypeId × Value → H} {w : World} {base : Nat} {held : Bool} {v : Value} {d : DataW H} {p : List MemPlace} (hval : Value.okWide Tryz.prog w .any base 38 v)
    (h : DataW.Trod enc Tryz.prog w 0 (fun _ => true) held 38 v d p) : ∃ t : Oa, v = t.value ∧ OaOk w t := by
  obtain ⟨cs, rfl, hsz⟩ := okWide_struct Tryz.underlying38 hval
  obtain ⟨fuel, hf⟩ := h
  obtain ⟨t, hr, hb⟩ := open_Oa (cs := cs.toList) (by simpa [Value.cells] using hf)
  refine ⟨t, ?_, hb⟩
  obtain ⟨l⟩ := cs
  simp only at hr
  subst hr
  rfl

end Go.Proofs.YtcbpppdmkhpkkaaGreat
