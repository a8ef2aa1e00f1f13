/- Slices of [2]int that came in, opened for the walks. -/
import Derived.Test.YtibaloloheakpaaOpBase
import Derived.Test.YtibaloloheakpaaInPr
namespace Go.Proofs.Ytibaloloheakpaa
open Go.ChangeShapes Go.WideShapes Go.ChangeAt Go.RowKit

theorem cellsPr : Try.prog.cellsOf 45 = 2 := by kernel_rfl
theorem cellsPrI : Try.prog.cellsOf 3 = 1 := by kernel_rfl
theorem open_pr {H : Type} {enc : TypeId × Value → H} {w : World} {held : Bool} {fuel : Nat} {cs : List Value} {y : DataW H × List MemPlace}
    (h : DataW.trod enc Try.prog w 0 (fun _ => true) held fuel 45 cs = some y) : ∃ t : Int × Int, cs = [.int .i64 t.1, .int .i64 t.2] := by
  obtain ⟨ys, n, _, _, hlen, hyl, hf⟩ := DataW.trod_array Try.underlying45 h
  rw [cellsPr] at hlen
  match cs, hlen, ys, hyl, hf with
  | [v0, v1], _, [y0, y1], _, hf =>
    have f0 := hf 0 (by omega)
    have f1 := hf 1 (by omega)
    rw [cellsPrI] at f0 f1
    change DataW.trod _ _ _ _ _ _ _ _ [v0] = some y0 at f0
    change DataW.trod _ _ _ _ _ _ _ _ [v1] = some y1 at f1
    obtain ⟨x0, e0, _⟩ := DataW.trod_int Try.underlying3 f0
    obtain ⟨x1, e1, _⟩ := DataW.trod_int Try.underlying3 f1
    injection e0 with e0 _
    injection e1 with e1 _
    exact ⟨(x0, x1), by rw [e0, e1]⟩
theorem open_prs {H : Type} {enc : TypeId × Value → H} {w : World} {held : Bool} {a : Option Addr} {len cap : Nat} {d : DataW H} {p : List MemPlace}
    (h : DataW.Trod enc Try.prog w 0 (fun _ => true) held 44 (.slice a len cap) d p) : ∃ ts : List (Int × Int), Prs w a ts ∧ len = ts.length ∧ len ≤ 9223372036854775807 := by
  obtain ⟨fuel, hf⟩ := h
  rcases Go.Deep.open_slice Try.underlying44 hf with ⟨hcs, _⟩ | ⟨x, l, c, m, n, D, Pl, hcs, _, hl, hm, hmm, _, hi⟩
  · simp [Value.cells] at hcs
    obtain ⟨rfl, rfl, rfl⟩ := hcs
    exact ⟨[], fun h => absurd h (by simp), rfl, by omega⟩
  · simp [Value.cells] at hcs
    obtain ⟨rfl, rfl, rfl⟩ := hcs
    rw [if_pos rfl] at hmm
    obtain ⟨b, off, spot⟩ := x
    unfold maxLen at hm
    rw [cellsPr] at hi
    have hspot : 0 < len → spot = none := fun h0 => by
      obtain ⟨cs', hc, ht⟩ := hi 0 (by omega)
      obtain ⟨_, hcl, hat⟩ := World.cells?_some hc
      obtain ⟨t, rfl⟩ := open_pr ht
      have c0 := hat 0 (by omega)
      simp at c0
      simpa [Addr.add] using World.cell?_spot c0
    have each : ∀ i, ∃ t : Int × Int, i < len → spot = none ∧ w.cell? ⟨b, off + i * 2, none⟩ = some (.int .i64 t.1) ∧ w.cell? ⟨b, off + i * 2 + 1, none⟩ = some (.int .i64 t.2) := by
      intro i
      by_cases hil : i < len
      · obtain ⟨cs', hc, ht⟩ := hi i (by omega)
        obtain ⟨_, hcl, hat⟩ := World.cells?_some hc
        obtain ⟨t, rfl⟩ := open_pr ht
        have c0 := hat 0 (by omega)
        have c1 := hat 1 (by omega)
        rw [Go.Deep.add_add] at c0 c1
        have hspot := hspot (by omega)
        subst hspot
        rw [addr_add] at c0 c1
        exact ⟨t, fun _ => ⟨rfl, c0, (by rw [Nat.add_assoc]; exact c1)⟩⟩
      · exact ⟨default, fun h => absurd h hil⟩
    obtain ⟨f, hf'⟩ := Classical.axiomOfChoice each
    refine ⟨(List.range len).map f, fun h0 => ?_, by simp, by omega⟩
    have h0' : 0 < len := by simpa using h0
    have hs := (hf' 0 h0').1
    subst hs
    refine ⟨b, off, rfl, fun i hil => ?_⟩
    have hil' : i < len := by simpa using hil
    have e : ((List.range len).map f).getD i (0, 0) = f i := by simp [hil']
    rw [e]
    exact (hf' i hil').2
end Go.Proofs.Ytibaloloheakpaa
