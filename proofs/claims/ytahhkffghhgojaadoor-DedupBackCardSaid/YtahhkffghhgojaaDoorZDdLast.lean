/- Contract of Last; the calls on a nil table; New. -/
import Derived.Test.YtahhkffghhgojaaDoorZDdCl
import Derived.Test.YtahhkffghhgojaaDoorZDdMath
namespace Go.Proofs.YtahhkffghhgojaaDoor
open Go.RowKit
set_option maxRecDepth 100000

set_option maxHeartbeats 4000000 in
theorem dlast_any {w : World} {g : Nat} {m : Option Nat} {X : List Ln} (h : Dd w g m X) (s : ByteArray) (hs : s.size ≤ maxLen) (hX : ∀ x ∈ X, x.nm.size ≤ 281474976710656) :
    Calls Tryd.prog 20 #[.pointer (some ⟨g, 0, none⟩), .string s] w fun e w' => e = .returned (.tuple #[(lnOf X s).val, .bool (hasL X s)]) ∧ Frm [] w w' := by
  have hlt := h.tab.lt
  have hmm := h.map
  have c0 := h.tab.cell 0
  simp at c0
  have hlv := lnOf_val X s
  have hal := fun w => dalone_any (lnOf X s) w (lnOf_size (k := 281474976710656) hX s)
  have hhb : (lookL X s).isSome = hasL X s := rfl
  have hmx := Lib.hid hs
  obtain ⟨x, hx⟩ : ∃ x, x = lnOf X s := ⟨_, rfl⟩
  obtain ⟨b, hb⟩ : ∃ b, b = hasL X s := ⟨_, rfl⟩
  rw [← hx] at hlv hal ⊢
  rw [← hb] at hhb ⊢
  obtain ⟨xn, xt, xd, xl, xe⟩ := x
  simp only [Ln.val] at hlv hal ⊢
  have HLV := Lib.hid hlv
  have HHB := Lib.hid hhb
  have HAL := Lib.hid hal
  have HM1 : Hid (MapSl Tryd.prog KS (w.alloc (.cells #[.string ⟨#[]⟩, .int .u64 0, .int .u64 0, .int .u64 0, .int .u64 0] 56)) m X.length X) := Lib.hid (hmm.keep (S := []) ((Frm.refl _ _).alloc _) (by simp))
  have V0 : Hid (∀ (z : World) (tm : Array Value), tm.getD 4 undef = .pointer (some ⟨w.heap.size, 0, none⟩) → tm.getD 5 undef = .bool b → Whole z w.heap.size 56 #[.string xn, .int .u64 (xt : Nat), .int .u64 (xd : Nat), .int .u64 (xl : Nat), .int .u64 (xe : Nat)] → (results Tryd.f20 tm).run Tryd.prog z = .ok (.tuple #[.agg #[.string xn, .int .u64 (xt : Nat), .int .u64 (xd : Nat), .int .u64 (xl : Nat), .int .u64 (xe : Nat)], .bool b]) z) := Lib.hid (fun z tm h6 h7 hw => by
    have c0 := hw.cell 0
    have c1 := hw.cell 1
    have c2 := hw.cell 2
    have c3 := hw.cell 3
    have c4 := hw.cell 4
    simp at c0 c1 c2 c3 c4
    have h6' : tm[4]?.getD undef = .pointer (some ⟨w.heap.size, 0, none⟩) := by simpa using h6
    have h7' : tm[5]?.getD undef = .bool b := by simpa using h7
    simp [results, Tryd.results20, go_sem, c0, c1, c2, c3, c4, h6', h7'])
  clear hlv hhb hal hx hb hmm h hs hX
  go_enter Tryd.func20, Tryd.ntmps20
  go_wp2_with (at_lookup; refine wpList_lookS _ rfl _ _ 62 56 rfl keyKS undDd (zeroDd _) m X.length X rfl HM1.out s hmx.out rfl ?_; rw [HLV.out, HHB.out])
  (with_reducible refine (HAL.out _).mono ?_)
  rintro e w2 ⟨rfl, hf2⟩
  have hf := Frm.trans (S := []) (U := []) (((Frm.refl [] w).alloc (.cells #[.string ⟨#[]⟩, .int .u64 0, .int .u64 0, .int .u64 0, .int .u64 0] 56)).alloc (.cells #[.string xn, .int .u64 (xt : Nat), .int .u64 (xd : Nat), .int .u64 (xl : Nat), .int .u64 (xe : Nat)] 56)) hf2 (by simp) (by simp)
  have t1 := hf2.whole ((Whole.made w 56 #[.string ⟨#[]⟩, .int .u64 0, .int .u64 0, .int .u64 0, .int .u64 0]).alloc _) (by simp)
  have HF := Lib.hid hf
  have d0 := t1.cell 0
  have d1 := t1.cell 1
  have d2 := t1.cell 2
  have d3 := t1.cell 3
  have d4 := t1.cell 4
  simp at d0 d1 d2 d3 d4
  have k0 := t1.free 0
  have k1 := t1.free 1
  have k2 := t1.free 2
  have k3 := t1.free 3
  have k4 := t1.free 4
  have T1 := Lib.hid (((((t1.put 0 (.string xn)).put 1 (.int .u64 (xt : Nat))).put 2 (.int .u64 (xd : Nat))).put 3 (.int .u64 (xl : Nat))).put 4 (.int .u64 (xe : Nat)))
  clear t1 hf hf2 c0 hlt
  go_wp2
  refine bodyPost_ret (V0.out _ _ rfl rfl (by simpa using T1.out)) rfl ?_
  refine ⟨rfl, ?_⟩
  refine Frm.setCell ?_ (.inr (by simp)) _
  refine Frm.setCell ?_ (.inr (by simp)) _
  refine Frm.setCell ?_ (.inr (by simp)) _
  refine Frm.setCell ?_ (.inr (by simp)) _
  refine Frm.setCell ?_ (.inr (by simp)) _
  exact HF.out

theorem dnew_any (w : World) : Calls Tryd.prog 7 #[] w fun e w' => e = .returned (.pointer (some ⟨w.heap.size, 0, none⟩)) ∧ w' = w.alloc (.cells #[.map none] 64) := by
  go_enter Tryd.func7, Tryd.ntmps7
  go_wp2
  go_ret
  exact ⟨rfl, rfl⟩
theorem Dd.new (w : World) : Dd (w.alloc (.cells #[.map none] 64)) w.heap.size none [] :=
  ⟨Whole.made _ _ _, .inl ⟨rfl, rfl⟩, by simp⟩
end Go.Proofs.YtahhkffghhgojaaDoor
