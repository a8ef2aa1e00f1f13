/- Values of api.Node that came in, opened for the walks. -/
import Derived.Test.YtchhbmhnjknhaaaOpBase
import Derived.Test.YtchhbmhnjknhaaaInTn
namespace Go.Proofs.Ytchhbmhnjknhaaa
open Go.ChangeShapes Go.WideShapes Go.ChangeAt Go.RowKit

theorem cellsTn : Try.prog.cellsOf 44 = 4 := by kernel_rfl
theorem cellsTn0 : Try.prog.cellsOf 9 = 1 := by kernel_rfl
theorem cellsTn1 : Try.prog.cellsOf 30 = 1 := by kernel_rfl
theorem cellsTn2 : Try.prog.cellsOf 31 = 1 := by kernel_rfl

set_option maxRecDepth 100000 in
/-- One that came in, by its cells. -/
theorem open_Tn {H : Type} {enc : TypeId × Value → H} {w : World} {held : Bool} {fuel : Nat} {cs : List Value} {y : DataW H × List MemPlace}
    (h : DataW.trod enc Try.prog w 0 (fun _ => true) held fuel 44 cs = some y) :
    ∃ t : Tn, cs = [.string t.key, .slice t.valA t.val.length t.valC, .int .u64 (t.ver : Nat), .int .u64 (t.own : Nat)] ∧ TnOk w t := by
  obtain ⟨ys, n, _, _, hlen, hyl, hf⟩ := DataW.trod_struct Try.underlying44 h
  rw [cellsTn] at hlen
  have hyl' : ys.length = 4 := hyl
  match cs, hlen, ys, hyl', hf with
  | [v0, v1, v2, v3], _, [y0, y1, y2, y3], _, hf =>
    have f0 : DataW.trod enc Try.prog w 0 (fun _ => true) held n 9 (([v0, v1, v2, v3].drop 0).take (Try.prog.cellsOf 9)) = [y0, y1, y2, y3][0]? := hf 0 _ rfl
    have f1 : DataW.trod enc Try.prog w 0 (fun _ => true) held n 30 (([v0, v1, v2, v3].drop 1).take (Try.prog.cellsOf 30)) = [y0, y1, y2, y3][1]? := hf 1 _ rfl
    have f2 : DataW.trod enc Try.prog w 0 (fun _ => true) held n 31 (([v0, v1, v2, v3].drop 2).take (Try.prog.cellsOf 31)) = [y0, y1, y2, y3][2]? := hf 2 _ rfl
    have f3 : DataW.trod enc Try.prog w 0 (fun _ => true) held n 31 (([v0, v1, v2, v3].drop 3).take (Try.prog.cellsOf 31)) = [y0, y1, y2, y3][3]? := hf 3 _ rfl
    rw [cellsTn0] at f0
    rw [cellsTn1] at f1
    rw [cellsTn2] at f2 f3
    change DataW.trod _ _ _ _ _ _ _ _ [v0] = some y0 at f0
    change DataW.trod _ _ _ _ _ _ _ _ [v1] = some y1 at f1
    change DataW.trod _ _ _ _ _ _ _ _ [v2] = some y2 at f2
    change DataW.trod _ _ _ _ _ _ _ _ [v3] = some y3 at f3
    obtain ⟨x0, e0, _, g0⟩ := DataW.trod_string Try.underlying9 f0
    injection e0 with e0 _
    unfold maxLen at g0
    obtain ⟨a1, c1, l1, e1, b1⟩ := open_bytesc f1
    obtain ⟨x2, e2, _, g2⟩ := DataW.trod_int Try.underlying31 f2
    injection e2 with e2 _
    have r2 : 0 ≤ x2 ∧ x2 < 18446744073709551616 := by
      simp [Lit.wf, IntKind.min, IntKind.max, IntKind.signed, IntKind.bits] at g2
      omega
    have q2 : ((x2.toNat : Nat) : Int) = x2 := by omega
    obtain ⟨x3, e3, _, g3⟩ := DataW.trod_int Try.underlying31 f3
    injection e3 with e3 _
    have r3 : 0 ≤ x3 ∧ x3 < 18446744073709551616 := by
      simp [Lit.wf, IntKind.min, IntKind.max, IntKind.signed, IntKind.bits] at g3
      omega
    have q3 : ((x3.toNat : Nat) : Int) = x3 := by omega
    refine ⟨⟨x0, a1, c1, l1, x2.toNat, x3.toNat⟩, ?_, ⟨(by show x0.size ≤ _; omega), b1.1, b1.2.1, b1.2.2, (by show x2.toNat < _; omega), (by show x3.toNat < _; omega)⟩⟩
    show (_ : List Value) = [.string x0, .slice a1 l1.length c1, .int .u64 (x2.toNat : Nat), .int .u64 (x3.toNat : Nat)]
    rw [e0, e1, e2, q2, e3, q3]

/-- One by value that came in. -/
theorem open_Tnv {H : Type} {enc : TypeId × Value → H} {w : World} {base : Nat} {held : Bool} {v : Value} {d : DataW H} {p : List MemPlace} (hval : Value.okWide Try.prog w .any base 44 v)
    (h : DataW.Trod enc Try.prog w 0 (fun _ => true) held 44 v d p) : ∃ t : Tn, v = t.value ∧ TnOk w t := by
  obtain ⟨cs, rfl, hsz⟩ := okWide_struct Try.underlying44 hval
  obtain ⟨fuel, hf⟩ := h
  obtain ⟨t, hr, hb⟩ := open_Tn (cs := cs.toList) (by simpa [Value.cells] using hf)
  refine ⟨t, ?_, hb⟩
  obtain ⟨l⟩ := cs
  simp only at hr
  subst hr
  rfl

/-- A slice of such that came in. -/
theorem open_Tns {H : Type} {enc : TypeId × Value → H} {w : World} {held : Bool} {a : Option Addr} {len cap : Nat} {d : DataW H} {p : List MemPlace}
    (h : DataW.Trod enc Try.prog w 0 (fun _ => true) held 27 (.slice a len cap) d p) : ∃ ts : List Tn, Tns w a ts ∧ len = ts.length ∧ len ≤ 9223372036854775807 := by
  obtain ⟨fuel, hf⟩ := h
  rcases Go.Deep.open_slice Try.underlying27 hf with ⟨hcs, _⟩ | ⟨x, l, c, m, n, D, Pl, hcs, _, hl, hm, hmm, _, hi⟩
  · simp [Value.cells] at hcs
    obtain ⟨rfl, rfl, rfl⟩ := hcs
    exact ⟨[], fun h => absurd h (by simp), rfl, by omega⟩
  · simp [Value.cells] at hcs
    obtain ⟨rfl, rfl, rfl⟩ := hcs
    rw [if_pos rfl] at hmm
    obtain ⟨b, off, spot⟩ := x
    unfold maxLen at hm
    rw [cellsTn] at hi
    have hspot : 0 < len → spot = none := fun h0 => by
      obtain ⟨cs', hc, ht⟩ := hi 0 (by omega)
      obtain ⟨_, hcl, hat⟩ := World.cells?_some hc
      obtain ⟨t, rfl, _⟩ := open_Tn ht
      have c0 := hat 0 (by omega)
      simp at c0
      simpa [Addr.add] using World.cell?_spot c0
    have each : ∀ i, ∃ t : Tn, i < len → spot = none ∧ TnIn w b (off + i * 4) t := by
      intro i
      by_cases hil : i < len
      · obtain ⟨cs', hc, ht⟩ := hi i (by omega)
        obtain ⟨_, hcl, hat⟩ := World.cells?_some hc
        obtain ⟨t, rfl, hok⟩ := open_Tn ht
        have c0 := hat 0 (by omega)
        have c1 := hat 1 (by omega)
        have c2 := hat 2 (by omega)
        have c3 := hat 3 (by omega)
        rw [Go.Deep.add_add] at c0 c1 c2 c3
        have hspot := hspot (by omega)
        subst hspot
        rw [addr_add] at c0 c1 c2 c3
        exact ⟨t, fun _ => ⟨rfl, c0, (by rw [Nat.add_assoc]; exact c1), (by rw [Nat.add_assoc]; exact c2), (by rw [Nat.add_assoc]; exact c3), hok⟩⟩
      · exact ⟨default, fun h => absurd h hil⟩
    obtain ⟨f, hf'⟩ := Classical.axiomOfChoice each
    refine ⟨(List.range len).map f, fun h0 => ?_, by simp, by omega⟩
    have h0' : 0 < len := by simpa using h0
    have hs := (hf' 0 h0').1
    subst hs
    refine ⟨b, off, rfl, fun i hil => ?_⟩
    have hil' : i < len := by simpa using hil
    have e : ((List.range len).map f).getD i default = f i := by simp [hil']
    rw [e]
    exact (hf' i hil').2
end Go.Proofs.Ytchhbmhnjknhaaa
