/- Contracts of the reference's Get, and of Put where it refuses. -/
import Derived.Test.YtchhbmhnjknhaaaRtSame
namespace Go.Proofs.Ytchhbmhnjknhaaa
open Go.RowKit

def GetEnd (w : World) (X : List Nx) (s : ByteArray) (e : Ending) (w' : World) : Prop :=
  e = .returned (.tuple #[(X.getD (atN X s) default).val, .bool (decide (atN X s < X.length))]) ∧ Frm [] w w'

set_option maxRecDepth 100000 in
set_option maxHeartbeats 1000000 in
theorem rget_any {w : World} {B p : Nat} {F : List Nat} {a : Option Addr} {cap : Nat} {X : List Nx} (s : ByteArray) (h : Rt w B p F a cap X) :
    Calls Try.prog 20 #[.pointer (some ⟨p, 0, none⟩), .string s] w (GetEnd w X s) := by
  have hf := (Frm.refl [] w).alloc (.cells #[.string ⟨#[]⟩, .slice none 0 0, .int .u64 0, .int .u64 0] 44)
  have hn := h.few
  have hle := atN_le X s
  obtain ⟨wA, hA⟩ : ∃ wA, wA = w.alloc (.cells #[.string ⟨#[]⟩, .slice none 0 0, .int .u64 0, .int .u64 0] 44) := ⟨_, rfl⟩
  rw [← hA] at hf
  have h1 : Rt wA B p F a cap X := ⟨hf.whole h.tree (by simp), h.row.keep hf (by simp) (fun x h => .inl h), h.hp, h.out, h.few⟩
  have hR := Lib.hid (rat_any s h1)
  have hcell := Whole.made w 44 #[.string ⟨#[]⟩, .slice none 0 0, .int .u64 0, .int .u64 0]
  rw [← hA] at hcell
  have c0 := h1.tree.cell 0
  simp at c0
  obtain ⟨g, hg⟩ : ∃ g, g = w.heap.size := ⟨_, rfl⟩
  have hgp : p ≠ g := by have := h.tree.lt; omega
  rw [← hg] at hcell
  obtain ⟨n, hnn⟩ : ∃ n, n = X.length := ⟨_, rfl⟩
  rw [← hnn] at c0 hn hle
  obtain ⟨q, hq⟩ : ∃ q, q = atN X s := ⟨_, rfl⟩
  rw [← hq] at hle
  by_cases hin : q < n
  · obtain ⟨b, off, rfl, p0, p1, p2, p3, _⟩ := h1.row.nl.at (i := q) (by omega)
    have hat : atI X s = (q : Int) := by unfold atI; rw [← hq, ← hnn, if_pos hin]
    have hE : GetEnd w X s (.returned (.tuple #[.agg #[.string (X.getD q default).t.k, .slice (X.getD q default).a (X.getD q default).t.v.length (X.getD q default).c, .int .u64 ((X.getD q default).t.ver : Nat), .int .u64 ((X.getD q default).t.own : Nat)], .bool true])) = fun w' => Frm [] w w' := by
      funext w'
      unfold GetEnd Nx.val
      rw [← hq, ← hnn]
      simp [hin]
    have HE := Lib.hid hE
    generalize X.getD q default = x at p0 p1 p2 p3 HE
    obtain ⟨⟨xk, xv, xver, xown⟩, xa, xc⟩ := x
    simp only at p0 p1 p2 p3 HE
    obtain ⟨m, hm⟩ : ∃ m, m = xv.length := ⟨_, rfl⟩
    rw [← hm] at p1 HE
    have HAT := Lib.hid hat
    have HG := Lib.hid hg
    have HA := Lib.hid hA
    have HF := Lib.hid hf
    have f0 := hcell.free 0
    have f1 := hcell.free 1
    have f2 := hcell.free 2
    have f3 := hcell.free 3
    have z0 := hcell.cell 0
    have z1 := hcell.cell 1
    have z2 := hcell.cell 2
    have z3 := hcell.cell 3
    simp at z0 z1 z2 z3
    have HC := Lib.hid hcell
    clear hE h1 h hat hg hA hf hq hnn hm hcell
    go_enter Try.func20, Try.ntmps20
    go_wp2_with fail
    rw [← HA.out, ← HG.out]
    refine hR.out.mono ?_
    rintro e w' ⟨rfl, rfl⟩
    rw [HAT.out]
    go_wp2
    obtain ⟨wZ, hZ⟩ : ∃ wZ, wZ = ((((wA.setCell ⟨g, 0, none⟩ (.string xk)).setCell ⟨g, 1, none⟩ (.slice xa m xc)).setCell ⟨g, 2, none⟩ (.int .u64 (xver : Nat))).setCell ⟨g, 3, none⟩ (.int .u64 (xown : Nat))) := ⟨_, rfl⟩
    have hw : Whole wZ g 44 #[.string xk, .slice xa m xc, .int .u64 (xver : Nat), .int .u64 (xown : Nat)] := by
      have := (((HC.out.put 0 (.string xk)).put 1 (.slice xa m xc)).put 2 (.int .u64 (xver : Nat))).put 3 (.int .u64 (xown : Nat))
      rw [hZ]; simpa using this
    have hfz : Frm [] w wZ := by
      have hg : w.heap.size ≤ g := by have := HG.out; omega
      rw [hZ]; exact (((HF.out.setCell (.inr hg) _).setCell (.inr hg) _).setCell (.inr hg) _).setCell (.inr hg) _
    rw [← hZ]
    have y0 := hw.cell 0
    have y1 := hw.cell 1
    have y2 := hw.cell 2
    have y3 := hw.cell 3
    simp at y0 y1 y2 y3
    refine bodyPost_ret (v := .tuple #[.agg #[.string xk, .slice xa m xc, .int .u64 (xver : Nat), .int .u64 (xown : Nat)], .bool true]) ?_ rfl ?_
    · simp [results, Try.results20, go_sem, y0, y1, y2, y3]
    · rw [HE.out]
      exact hfz
  · have hat : atI X s = -1 := by unfold atI; rw [← hq, ← hnn, if_neg hin]
    have hqn : q = n := by omega
    have hdf : X.getD q default = default := by simp [List.getD, hqn, hnn]
    have hE : GetEnd w X s (.returned (.tuple #[.agg #[.string ⟨#[]⟩, .slice none 0 0, .int .u64 0, .int .u64 0], .bool false])) = fun w' => Frm [] w w' := by
      funext w'
      unfold GetEnd Nx.val
      rw [← hq, ← hnn, hdf, nx_default]
      simp [hin]
    have HE := Lib.hid hE
    have HAT := Lib.hid hat
    have HG := Lib.hid hg
    have HA := Lib.hid hA
    have HF := Lib.hid hf
    have f0 := hcell.free 0
    have f1 := hcell.free 1
    have f2 := hcell.free 2
    have f3 := hcell.free 3
    have z0 := hcell.cell 0
    have z1 := hcell.cell 1
    have z2 := hcell.cell 2
    have z3 := hcell.cell 3
    simp at z0 z1 z2 z3
    have HC := Lib.hid hcell
    clear hE h1 h hat hg hA hf hq hnn hcell hdf hqn
    go_enter Try.func20, Try.ntmps20
    go_wp2_with fail
    rw [← HA.out, ← HG.out]
    refine hR.out.mono ?_
    rintro e w' ⟨rfl, rfl⟩
    rw [HAT.out]
    go_wp2
    obtain ⟨wZ, hZ⟩ : ∃ wZ, wZ = ((((wA.setCell ⟨g, 0, none⟩ (.string ⟨#[]⟩)).setCell ⟨g, 1, none⟩ (.slice none 0 0)).setCell ⟨g, 2, none⟩ (.int .u64 0)).setCell ⟨g, 3, none⟩ (.int .u64 0)) := ⟨_, rfl⟩
    have hw : Whole wZ g 44 #[.string ⟨#[]⟩, .slice none 0 0, .int .u64 0, .int .u64 0] := by
      have := (((HC.out.put 0 (.string ⟨#[]⟩)).put 1 (.slice none 0 0)).put 2 (.int .u64 0)).put 3 (.int .u64 0)
      rw [hZ]; simpa using this
    have hfz : Frm [] w wZ := by
      have hg : w.heap.size ≤ g := by have := HG.out; omega
      rw [hZ]; exact (((HF.out.setCell (.inr hg) _).setCell (.inr hg) _).setCell (.inr hg) _).setCell (.inr hg) _
    rw [← hZ]
    have y0 := hw.cell 0
    have y1 := hw.cell 1
    have y2 := hw.cell 2
    have y3 := hw.cell 3
    simp at y0 y1 y2 y3
    refine bodyPost_ret (v := .tuple #[.agg #[.string ⟨#[]⟩, .slice none 0 0, .int .u64 0, .int .u64 0], .bool false]) ?_ rfl ?_
    · simp [results, Try.results20, go_sem, y0, y1, y2, y3]
    · rw [HE.out]
      exact hfz
end Go.Proofs.Ytchhbmhnjknhaaa
