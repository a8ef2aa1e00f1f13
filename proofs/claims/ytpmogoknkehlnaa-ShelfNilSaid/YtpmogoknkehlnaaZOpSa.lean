/- Values of mailcoachlaw09.Act that came in, opened for the walks. -/
import Derived.Test.YtpmogoknkehlnaaZOpBase
import Derived.Test.YtpmogoknkehlnaaZInSa
namespace Go.Proofs.Ytpmogoknkehlnaa
open Go.ChangeShapes Go.WideShapes Go.ChangeAt Go.RowKit
set_option maxRecDepth 100000

theorem cellsSa : Try.prog.cellsOf 45 = 7 := by kernel_rfl
theorem cellsSa0 : Try.prog.cellsOf 5 = 1 := by kernel_rfl
theorem cellsSa1 : Try.prog.cellsOf 31 = 1 := by kernel_rfl
theorem cellsSa2 : Try.prog.cellsOf 4 = 1 := by kernel_rfl
theorem cellsSa3 : Try.prog.cellsOf 32 = 1 := by kernel_rfl

set_option maxRecDepth 100000 in
/-- One that came in, by its cells. -/
theorem open_Sa {H : Type} {enc : TypeId × Value → H} {w : World} {held : Bool} {fuel : Nat} {cs : List Value} {y : DataW H × List MemPlace}
    (h : DataW.trod enc Try.prog w 0 (fun _ => true) held fuel 45 cs = some y) :
    ∃ t : Sa, cs = [.int .u8 (t.kind : Nat), .int .u64 (t.led : Nat), .int .u64 (t.ent : Nat), .bool t.raw, .bool t.mends, .int .u64 (t.sure : Nat), .slice t.dataA t.data.length t.dataC] ∧ SaOk w t := by
  obtain ⟨ys, n, _, _, hlen, hyl, hf⟩ := DataW.trod_struct Try.underlying45 h
  rw [cellsSa] at hlen
  have hyl' : ys.length = 7 := hyl
  match cs, hlen, ys, hyl', hf with
  | [v0, v1, v2, v3, v4, v5, v6], _, [y0, y1, y2, y3, y4, y5, y6], _, hf =>
    have f0 : DataW.trod enc Try.prog w 0 (fun _ => true) held n 5 (([v0, v1, v2, v3, v4, v5, v6].drop 0).take (Try.prog.cellsOf 5)) = [y0, y1, y2, y3, y4, y5, y6][0]? := hf 0 _ rfl
    have f1 : DataW.trod enc Try.prog w 0 (fun _ => true) held n 31 (([v0, v1, v2, v3, v4, v5, v6].drop 1).take (Try.prog.cellsOf 31)) = [y0, y1, y2, y3, y4, y5, y6][1]? := hf 1 _ rfl
    have f2 : DataW.trod enc Try.prog w 0 (fun _ => true) held n 31 (([v0, v1, v2, v3, v4, v5, v6].drop 2).take (Try.prog.cellsOf 31)) = [y0, y1, y2, y3, y4, y5, y6][2]? := hf 2 _ rfl
    have f3 : DataW.trod enc Try.prog w 0 (fun _ => true) held n 4 (([v0, v1, v2, v3, v4, v5, v6].drop 3).take (Try.prog.cellsOf 4)) = [y0, y1, y2, y3, y4, y5, y6][3]? := hf 3 _ rfl
    have f4 : DataW.trod enc Try.prog w 0 (fun _ => true) held n 4 (([v0, v1, v2, v3, v4, v5, v6].drop 4).take (Try.prog.cellsOf 4)) = [y0, y1, y2, y3, y4, y5, y6][4]? := hf 4 _ rfl
    have f5 : DataW.trod enc Try.prog w 0 (fun _ => true) held n 31 (([v0, v1, v2, v3, v4, v5, v6].drop 5).take (Try.prog.cellsOf 31)) = [y0, y1, y2, y3, y4, y5, y6][5]? := hf 5 _ rfl
    have f6 : DataW.trod enc Try.prog w 0 (fun _ => true) held n 32 (([v0, v1, v2, v3, v4, v5, v6].drop 6).take (Try.prog.cellsOf 32)) = [y0, y1, y2, y3, y4, y5, y6][6]? := hf 6 _ rfl
    rw [cellsSa0] at f0
    rw [cellsSa1] at f1 f2 f5
    rw [cellsSa2] at f3 f4
    rw [cellsSa3] at f6
    change DataW.trod _ _ _ _ _ _ _ _ [v0] = some y0 at f0
    change DataW.trod _ _ _ _ _ _ _ _ [v1] = some y1 at f1
    change DataW.trod _ _ _ _ _ _ _ _ [v2] = some y2 at f2
    change DataW.trod _ _ _ _ _ _ _ _ [v3] = some y3 at f3
    change DataW.trod _ _ _ _ _ _ _ _ [v4] = some y4 at f4
    change DataW.trod _ _ _ _ _ _ _ _ [v5] = some y5 at f5
    change DataW.trod _ _ _ _ _ _ _ _ [v6] = some y6 at f6
    obtain ⟨x0, e0, _, g0⟩ := DataW.trod_int Try.underlying5 f0
    injection e0 with e0 _
    have r0 : 0 ≤ x0 ∧ x0 < 256 := by
      simp [Lit.wf, IntKind.min, IntKind.max, IntKind.signed, IntKind.bits] at g0
      omega
    have q0 : ((x0.toNat : Nat) : Int) = x0 := by omega
    obtain ⟨x1, e1, _, g1⟩ := DataW.trod_int Try.underlying31 f1
    injection e1 with e1 _
    have r1 : 0 ≤ x1 ∧ x1 < 18446744073709551616 := by
      simp [Lit.wf, IntKind.min, IntKind.max, IntKind.signed, IntKind.bits] at g1
      omega
    have q1 : ((x1.toNat : Nat) : Int) = x1 := by omega
    obtain ⟨x2, e2, _, g2⟩ := DataW.trod_int Try.underlying31 f2
    injection e2 with e2 _
    have r2 : 0 ≤ x2 ∧ x2 < 18446744073709551616 := by
      simp [Lit.wf, IntKind.min, IntKind.max, IntKind.signed, IntKind.bits] at g2
      omega
    have q2 : ((x2.toNat : Nat) : Int) = x2 := by omega
    obtain ⟨x3, e3, _⟩ := DataW.trod_bool Try.underlying4 f3
    injection e3 with e3 _
    obtain ⟨x4, e4, _⟩ := DataW.trod_bool Try.underlying4 f4
    injection e4 with e4 _
    obtain ⟨x5, e5, _, g5⟩ := DataW.trod_int Try.underlying31 f5
    injection e5 with e5 _
    have r5 : 0 ≤ x5 ∧ x5 < 18446744073709551616 := by
      simp [Lit.wf, IntKind.min, IntKind.max, IntKind.signed, IntKind.bits] at g5
      omega
    have q5 : ((x5.toNat : Nat) : Int) = x5 := by omega
    obtain ⟨a6, c6, l6, e6, b6⟩ := open_bytesc f6
    refine ⟨⟨x0.toNat, x1.toNat, x2.toNat, x3, x4, x5.toNat, a6, c6, l6⟩, ?_, ⟨(by show x0.toNat < _; omega), (by show x1.toNat < _; omega), (by show x2.toNat < _; omega), (by show x5.toNat < _; omega), b6.1, b6.2.1, b6.2.2⟩⟩
    show (_ : List Value) = [.int .u8 (x0.toNat : Nat), .int .u64 (x1.toNat : Nat), .int .u64 (x2.toNat : Nat), .bool x3, .bool x4, .int .u64 (x5.toNat : Nat), .slice a6 l6.length c6]
    rw [e0, q0, e1, q1, e2, q2, e3, e4, e5, q5, e6]

/-- One by value that came in. -/
theorem open_Sav {H : Type} {enc : TypeId × Value → H} {w : World} {base : Nat} {held : Bool} {v : Value} {d : DataW H} {p : List MemPlace} (hval : Value.okWide Try.prog w .any base 45 v)
    (h : DataW.Trod enc Try.prog w 0 (fun _ => true) held 45 v d p) : ∃ t : Sa, v = t.value ∧ SaOk w t := by
  obtain ⟨cs, rfl, hsz⟩ := okWide_struct Try.underlying45 hval
  obtain ⟨fuel, hf⟩ := h
  obtain ⟨t, hr, hb⟩ := open_Sa (cs := cs.toList) (by simpa [Value.cells] using hf)
  refine ⟨t, ?_, hb⟩
  obtain ⟨l⟩ := cs
  simp only at hr
  subst hr
  rfl

end Go.Proofs.Ytpmogoknkehlnaa
