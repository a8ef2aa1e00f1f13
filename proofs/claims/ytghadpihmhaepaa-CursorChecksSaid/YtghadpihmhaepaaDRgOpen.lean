/- Slices of ranges, ranges and numbers that came in, in the words of the walks. -/
import Derived.Test.YtghadpihmhaepaaRows
import Derived.Test.YtghadpihmhaepaaDRgJoin
import Derived.ProofKit
import Derived.OpenShut
import Derived.ShutString
import Derived.ChangeOld
import Derived.Below
import Derived.Deep.Slices
import Derived.ChangeSame
namespace Go.Proofs.Ytghadpihmhaepaa
open Go.ChangeShapes Go.WideShapes Go.ChangeAt Go.RowKit
set_option maxRecDepth 100000

theorem cellsRg : Try.prog.cellsOf 71 = 2 := by kernel_rfl
theorem cellsU64 : Try.prog.cellsOf 23 = 1 := by kernel_rfl
theorem wf_u64 {n : Int} (h : (Lit.int .u64 n).wf = true) : 0 ≤ n ∧ n < 18446744073709551616 := by
  simp [Lit.wf, IntKind.min, IntKind.max, IntKind.signed, IntKind.bits] at h
  omega

/-- A range that came in, by its two cells. -/
theorem open_rg {H : Type} {enc : TypeId × Value → H} {W : World} {held : Bool} {fuel : Nat} {cs : List Value} {y : DataW H × List MemPlace}
    (h : DataW.trod enc Try.prog W 0 (fun _ => true) held fuel 71 cs = some y) :
    ∃ r : Rg, cs = [.int .u64 (r.1 : Nat), .int .u64 (r.2 : Nat)] ∧ r.1 < 18446744073709551616 ∧ r.2 < 18446744073709551616 := by
  obtain ⟨ys, n, _, _, hlen, hyl, hf⟩ := DataW.trod_struct Try.underlying71 h
  rw [cellsRg] at hlen
  have hyl' : ys.length = 2 := hyl
  match cs, hlen, ys, hyl', hf with
  | [v0, v1], _, [y0, y1], _, hf =>
    have f0 : DataW.trod enc Try.prog W 0 (fun _ => true) held n 23 (([v0, v1].drop 0).take (Try.prog.cellsOf 23)) = [y0, y1][0]? := hf 0 _ rfl
    have f1 : DataW.trod enc Try.prog W 0 (fun _ => true) held n 23 (([v0, v1].drop 1).take (Try.prog.cellsOf 23)) = [y0, y1][1]? := hf 1 _ rfl
    rw [cellsU64] at f0 f1
    change DataW.trod _ _ _ _ _ _ _ _ [v0] = some y0 at f0
    change DataW.trod _ _ _ _ _ _ _ _ [v1] = some y1 at f1
    obtain ⟨k, hk, _, hkw⟩ := DataW.trod_int Try.underlying23 f0
    obtain ⟨m, hm, _, hmw⟩ := DataW.trod_int Try.underlying23 f1
    injection hk with hk _; injection hm with hm _
    subst hk hm
    have h1 := wf_u64 hkw
    have h2 := wf_u64 hmw
    refine ⟨(k.toNat, m.toNat), ?_, by show k.toNat < _; omega, by show m.toNat < _; omega⟩
    have e1 : ((k.toNat : Nat) : Int) = k := by omega
    have e2 : ((m.toNat : Nat) : Int) = m := by omega
    show ([Value.int .u64 k, .int .u64 m] : List Value) = [.int .u64 ((k.toNat : Nat) : Int), .int .u64 ((m.toNat : Nat) : Int)]
    rw [e1, e2]

/-- A slice of ranges that came in. -/
theorem open_rgs {H : Type} {enc : TypeId × Value → H} {W : World} {held : Bool} {a : Option Addr} {len cap : Nat} {d : DataW H} {p : List MemPlace}
    (h : DataW.Trod enc Try.prog W 0 (fun _ => true) held 53 (.slice a len cap) d p) : ∃ l : List Rg, SlIn W ⟨a, cap, l⟩ ∧ len = l.length := by
  obtain ⟨fuel, hf⟩ := h
  rcases Go.Deep.open_slice Try.underlying53 hf with ⟨hcs, _⟩ | ⟨x, l, c, m, n, D, Pl, hcs, _, hl, hm, hmm, _, hi⟩
  · simp [Value.cells] at hcs
    obtain ⟨rfl, rfl, rfl⟩ := hcs
    exact ⟨[], ⟨Rr.nil _ _, fun _ => rfl, by simp, by simp⟩, rfl⟩
  · simp [Value.cells] at hcs
    obtain ⟨rfl, rfl, rfl⟩ := hcs
    rw [if_pos rfl] at hmm
    obtain ⟨b, off, spot⟩ := x
    unfold maxLen at hm
    rw [cellsRg] at hi
    have hspot : 0 < len → spot = none := fun h0 => by
      obtain ⟨cs', hc, ht⟩ := hi 0 (by omega)
      obtain ⟨_, hcl, hat⟩ := World.cells?_some hc
      obtain ⟨t, rfl, _⟩ := open_rg ht
      have c0 : _ = some (Value.int .u64 (t.1 : Nat)) := hat 0 (by omega)
      simpa [Addr.add] using World.cell?_spot c0
    have each : ∀ i, ∃ t : Rg, (t.1 < 18446744073709551616 ∧ t.2 < 18446744073709551616) ∧ (i < len → spot = none ∧ W.cell? ⟨b, off + i * 2, none⟩ = some (.int .u64 (t.1 : Nat)) ∧ W.cell? ⟨b, off + i * 2 + 1, none⟩ = some (.int .u64 (t.2 : Nat))) := by
      intro i
      by_cases hil : i < len
      · obtain ⟨cs', hc, ht⟩ := hi i (by omega)
        obtain ⟨_, hcl, hat⟩ := World.cells?_some hc
        obtain ⟨t, rfl, h1, h2⟩ := open_rg ht
        have c0 := hat 0 (by omega)
        have c1 := hat 1 (by omega)
        rw [Go.Deep.add_add] at c0 c1
        have hspot := hspot (by omega)
        subst hspot
        rw [addr_add] at c0 c1
        exact ⟨t, ⟨h1, h2⟩, fun _ => ⟨rfl, c0, by rw [Nat.add_assoc]; exact c1⟩⟩
      · exact ⟨(0, 0), by simp, fun h => absurd h hil⟩
    obtain ⟨f, hf'⟩ := Classical.axiomOfChoice each
    refine ⟨(List.range len).map f, ⟨⟨fun p hp => ?_, fun h0 => ?_⟩, fun h => by simp at h, by simpa using hl, by show cap ≤ _; omega⟩, by simp⟩
    · obtain ⟨i, _, rfl⟩ := List.mem_map.1 hp
      exact (hf' i).1
    · have h0' : 0 < len := by simpa using h0
      have hs := ((hf' 0).2 h0').1
      subst hs
      refine ⟨b, off, rfl, fun i hil => ?_⟩
      have hil' : i < len := by simpa using hil
      have e : ((List.range len).map f).getD i (0, 0) = f i := by simp [hil']
      rw [e]
      exact ((hf' i).2 hil').2

end Go.Proofs.Ytghadpihmhaepaa
