/- Slices of [2][]byte that came in, opened for the walks. -/
import Derived.Test.YteidfplenleogaaZOpBase
import Derived.Test.YteidfplenleogaaZInBp
namespace Go.Proofs.Yteidfplenleogaa
open Go.ChangeShapes Go.WideShapes Go.ChangeAt Go.RowKit

theorem cellsBp : Try.prog.cellsOf 47 = 2 := by kernel_rfl
theorem cellsBpI : Try.prog.cellsOf 22 = 1 := by kernel_rfl
/-- The value's two cells; what they read as. -/
def BpOk (w : World) (cs : List Value) (t : Bp) : Prop := cs = [.slice t.xA t.x.length t.xC, .slice t.yA t.y.length t.yC] ∧ Bytes w t.xA t.x ∧ Bytes w t.yA t.y ∧ (t.xA = none → t.xC = 0) ∧ (t.yA = none → t.yC = 0)
theorem open_bp {H : Type} {enc : TypeId × Value → H} {w : World} {held : Bool} {fuel : Nat} {cs : List Value} {y : DataW H × List MemPlace}
    (h : DataW.trod enc Try.prog w 0 (fun _ => true) held fuel 47 cs = some y) : ∃ t : Bp, BpOk w cs t := by
  obtain ⟨ys, n, _, _, hlen, hyl, hf⟩ := DataW.trod_array Try.underlying47 h
  rw [cellsBp] at hlen
  match cs, hlen, ys, hyl, hf with
  | [v0, v1], _, [y0, y1], _, hf =>
    have f0 := hf 0 (by omega)
    have f1 := hf 1 (by omega)
    rw [cellsBpI] at f0 f1
    change DataW.trod _ _ _ _ _ _ _ _ [v0] = some y0 at f0
    change DataW.trod _ _ _ _ _ _ _ _ [v1] = some y1 at f1
    obtain ⟨a0, c0, l0, e0, b0, _, z0⟩ := open_bytesc f0
    obtain ⟨a1, c1, l1, e1, b1, _, z1⟩ := open_bytesc f1
    exact ⟨⟨a0, c0, l0, a1, c1, l1⟩, by rw [e0, e1], b0, b1, z0, z1⟩
theorem open_bps {H : Type} {enc : TypeId × Value → H} {w : World} {held : Bool} {a : Option Addr} {len cap : Nat} {d : DataW H} {p : List MemPlace}
    (h : DataW.Trod enc Try.prog w 0 (fun _ => true) held 46 (.slice a len cap) d p) : ∃ ts : List Bp, Bps w a ts ∧ len = ts.length ∧ len ≤ 9223372036854775807 := by
  obtain ⟨fuel, hf⟩ := h
  rcases Go.Deep.open_slice Try.underlying46 hf with ⟨hcs, _⟩ | ⟨x, l, c, m, n, D, Pl, hcs, _, hl, hm, hmm, _, hi⟩
  · simp [Value.cells] at hcs
    obtain ⟨rfl, rfl, rfl⟩ := hcs
    exact ⟨[], fun h => absurd h (by simp), rfl, by omega⟩
  · simp [Value.cells] at hcs
    obtain ⟨rfl, rfl, rfl⟩ := hcs
    rw [if_pos rfl] at hmm
    obtain ⟨b, off, spot⟩ := x
    unfold maxLen at hm
    rw [cellsBp] at hi
    have hspot : 0 < len → spot = none := fun h0 => by
      obtain ⟨cs', hc, ht⟩ := hi 0 (by omega)
      obtain ⟨_, hcl, hat⟩ := World.cells?_some hc
      obtain ⟨t, rfl, _⟩ := open_bp ht
      have c0 := hat 0 (by omega)
      simp at c0
      simpa [Addr.add] using World.cell?_spot c0
    have each : ∀ i, ∃ t : Bp, i < len → spot = none ∧ BpIn w b (off + i * 2) t := by
      intro i
      by_cases hil : i < len
      · obtain ⟨cs', hc, ht⟩ := hi i (by omega)
        obtain ⟨_, hcl, hat⟩ := World.cells?_some hc
        obtain ⟨t, rfl, b0, b1, z0, z1⟩ := open_bp ht
        have c0 := hat 0 (by omega)
        have c1 := hat 1 (by omega)
        rw [Go.Deep.add_add] at c0 c1
        have hspot := hspot (by omega)
        subst hspot
        rw [addr_add] at c0 c1
        exact ⟨t, fun _ => ⟨rfl, c0, (by rw [Nat.add_assoc]; exact c1), b0, b1, z0, z1⟩⟩
      · exact ⟨default, fun h => absurd h hil⟩
    obtain ⟨f, hf'⟩ := Classical.axiomOfChoice each
    refine ⟨(List.range len).map f, fun h0 => ?_, by simp, by omega⟩
    have h0' : 0 < len := by simpa using h0
    have hs := (hf' 0 h0').1
    subst hs
    refine ⟨b, off, rfl, fun i hil => ?_⟩
    have hil' : i < len := by simpa using hil
    have e : ((List.range len).map f).getD i default = f i := by simp [hil']
    rw [e]
    exact (hf' i hil').2
end Go.Proofs.Yteidfplenleogaa
