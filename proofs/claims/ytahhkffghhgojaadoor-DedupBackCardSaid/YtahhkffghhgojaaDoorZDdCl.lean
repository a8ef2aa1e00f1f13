/- Contracts of strings.Clone, alone. -/
import Derived.Test.YtahhkffghhgojaaDoorZDdPut
import Derived.Test.YtahhkffghhgojaaDoorShelf
namespace Go.Proofs.YtahhkffghhgojaaDoor
open Go.RowKit
set_option maxRecDepth 100000

theorem dclone_any (s : ByteArray) (w : World) (hs : s.size ≤ 281474976710656) :
    Calls Tryd.prog 22 #[.string s] w fun e w' => e = .returned (.string s) ∧ Frm [] w w' := by
  have h := Lib.hid (fun w => Tryd.stringslite_Clone s w hs)
  clear hs
  go_enter Tryd.func22, Tryd.ntmps22
  go_wp2_with ((with_reducible refine (h.out _).mono ?_); rintro e w' ⟨rfl, hb⟩)
  go_ret
  exact ⟨rfl, Frm.ofBelow hb⟩

/-- A line's name in memory of its own. -/
theorem dalone_any (x : Ln) (w : World) (hs : x.nm.size ≤ 281474976710656) :
    Calls Tryd.prog 37 #[x.val] w fun e w' => e = .returned x.val ∧ Frm [] w w' := by
  obtain ⟨xn, xt, xd, xl, xe⟩ := x
  simp only [Ln.val] at hs ⊢
  have HC := Lib.hid (fun w => dclone_any xn w hs)
  have V0 : Hid (∀ (z : World) (tm : Array Value), tm.getD 2 undef = .pointer (some ⟨w.heap.size + 1, 0, none⟩) → Whole z (w.heap.size + 1) 56 #[.string xn, .int .u64 (xt : Nat), .int .u64 (xd : Nat), .int .u64 (xl : Nat), .int .u64 (xe : Nat)] → (results Tryd.f37 tm).run Tryd.prog z = .ok (.agg #[.string xn, .int .u64 (xt : Nat), .int .u64 (xd : Nat), .int .u64 (xl : Nat), .int .u64 (xe : Nat)]) z) := Lib.hid (fun z tm h6 hw => by
    have c0 := hw.cell 0
    have c1 := hw.cell 1
    have c2 := hw.cell 2
    have c3 := hw.cell 3
    have c4 := hw.cell 4
    simp at c0 c1 c2 c3 c4
    have h6' : tm[2]?.getD undef = .pointer (some ⟨w.heap.size + 1, 0, none⟩) := by simpa using h6
    simp [results, Tryd.results37, go_sem, c0, c1, c2, c3, c4, h6'])
  clear hs
  go_enter Tryd.func37, Tryd.ntmps37
  go_wp2_with (fail)
  (with_reducible refine (HC.out _).mono ?_)
  rintro e w2 ⟨rfl, hf2⟩
  have hf := Frm.trans (S := []) (U := []) (((Frm.refl [] w).alloc (.cells #[.string xn, .int .u64 (xt : Nat), .int .u64 (xd : Nat), .int .u64 (xl : Nat), .int .u64 (xe : Nat)] 56)).alloc (.cells #[.string ⟨#[]⟩, .int .u64 0, .int .u64 0, .int .u64 0, .int .u64 0] 56)) hf2 (by simp) (by simp)
  have t1 := hf2.whole ((Whole.made w 56 #[.string xn, .int .u64 (xt : Nat), .int .u64 (xd : Nat), .int .u64 (xl : Nat), .int .u64 (xe : Nat)]).alloc _) (by simp)
  have t2 := hf2.whole (Whole.made (w.alloc (.cells #[.string xn, .int .u64 (xt : Nat), .int .u64 (xd : Nat), .int .u64 (xl : Nat), .int .u64 (xe : Nat)] 56)) 56 #[.string ⟨#[]⟩, .int .u64 0, .int .u64 0, .int .u64 0, .int .u64 0]) (by simp)
  simp at t2
  have HF := Lib.hid hf
  have d0 := t1.cell 0
  have d1 := t1.cell 1
  have d2 := t1.cell 2
  have d3 := t1.cell 3
  have d4 := t1.cell 4
  have e0 := t1.free 0
  have g0 := t2.cell 0
  have g1 := t2.cell 1
  have g2 := t2.cell 2
  have g3 := t2.cell 3
  have g4 := t2.cell 4
  simp at d0 d1 d2 d3 d4 g0 g1 g2 g3 g4
  have k0 := t2.free 0
  have k1 := t2.free 1
  have k2 := t2.free 2
  have k3 := t2.free 3
  have k4 := t2.free 4
  have hne : w.heap.size + 1 ≠ w.heap.size := by omega
  have T2 := Lib.hid ((((((t2.other (p := ⟨w.heap.size, 0, none⟩) hne (.string xn)).put 0 (.string xn)).put 1 (.int .u64 (xt : Nat))).put 2 (.int .u64 (xd : Nat))).put 3 (.int .u64 (xl : Nat))).put 4 (.int .u64 (xe : Nat)))
  clear t1 t2 hf hf2 hne
  go_wp2
  refine bodyPost_ret (V0.out _ _ rfl (by simpa using T2.out)) rfl ?_
  refine ⟨rfl, ?_⟩
  refine Frm.setCell ?_ (.inr (by simp)) _
  refine Frm.setCell ?_ (.inr (by simp)) _
  refine Frm.setCell ?_ (.inr (by simp)) _
  refine Frm.setCell ?_ (.inr (by simp)) _
  refine Frm.setCell ?_ (.inr (by simp)) _
  refine Frm.setCell ?_ (.inr (by simp)) _
  exact HF.out
end Go.Proofs.YtahhkffghhgojaaDoor
