/- Contracts of strings.Clone, strings.HasPrefix (the library's own contracts, laid at this program), of alone. -/
import Derived.Test.YtchhbmhnjknhaaaTrBase
import Derived.Test.YtchhbmhnjknhaaaPkClone
import Derived.Test.YtchhbmhnjknhaaaShelf
namespace Go.Proofs.Ytchhbmhnjknhaaa
open Go.RowKit

theorem sclone_any (s : ByteArray) (w : World) (hs : s.size ≤ 281474976710656) :
    Calls Try.prog 49 #[.string s] w fun e w' => e = .returned (.string s) ∧ Frm [] w w' := by
  have h := Lib.hid (fun w => Try.stringslite_Clone s w hs)
  clear hs
  go_enter Try.func49, Try.ntmps49
  go_wp2_with ((with_reducible refine (h.out _).mono ?_); rintro e w' ⟨rfl, hb⟩)
  go_ret
  exact ⟨rfl, Frm.ofBelow hb⟩
theorem prefix_any (s p : ByteArray) (w : World) :
    Calls Try.prog 27 #[.string s, .string p] w fun e w' => e = .returned (.bool (pfx p s)) ∧ w = w' :=
  (Try.strings_HasPrefix s p w).mono fun _ _ h => ⟨h.1, h.2.symm⟩

/-- A node in memory of its own. -/
def AloneEnd (w : World) (k : ByteArray) (v : List Nat) (n ver own : Nat) (e : Ending) (w' : World) : Prop :=
  ∃ a' c', e = .returned (.agg #[.string k, .slice a' n c', .int .u64 (ver : Nat), .int .u64 (own : Nat)]) ∧ Bytes w' a' v ∧ (a' = none → c' = 0) ∧ (∀ q, a' = some q → w.heap.size ≤ q.block) ∧ Frm [] w w'

set_option maxRecDepth 100000 in
set_option maxHeartbeats 2000000 in
theorem alone_any (k : ByteArray) (a : Option Addr) (n c ver own : Nat) (v : List Nat) (w : World) (hb : Bytes w a v) (hn : n = v.length) (hnil : a = none → c = 0) (hk : k.size ≤ 281474976710656) (hfit : n ≤ 140737488355328) :
    Calls Try.prog 32 #[.agg #[.string k, .slice a n c, .int .u64 (ver : Nat), .int .u64 (own : Nat)]] w (AloneEnd w k v n ver own) := by
  obtain ⟨g1, hg1⟩ : ∃ g, g = w.heap.size := ⟨_, rfl⟩
  obtain ⟨wA, hA⟩ : ∃ wA, wA = w.alloc (.cells #[.string k, .slice a n c, .int .u64 (ver : Nat), .int .u64 (own : Nat)] 44) := ⟨_, rfl⟩
  obtain ⟨g2, hg2⟩ : ∃ g, g = wA.heap.size := ⟨_, rfl⟩
  obtain ⟨wB, hB⟩ : ∃ wB, wB = wA.alloc (.cells #[.string ⟨#[]⟩, .slice none 0 0, .int .u64 0, .int .u64 0] 44) := ⟨_, rfl⟩
  have hcA := Whole.made w 44 #[.string k, .slice a n c, .int .u64 (ver : Nat), .int .u64 (own : Nat)]
  rw [← hA, ← hg1] at hcA
  have hcB := Whole.made wA 44 #[.string ⟨#[]⟩, .slice none 0 0, .int .u64 0, .int .u64 0]
  rw [← hB, ← hg2] at hcB
  have hfAB : Frm [] wA wB := by rw [hB]; exact (Frm.refl _ _).alloc _
  have hfB : Frm [] w wB := by rw [hB, hA]; exact ((Frm.refl _ _).alloc _).alloc _
  have hcA' := hfAB.whole hcA (by simp)
  have h12 : g1 < g2 := by have := hcA.lt; omega
  have hgs : w.heap.size ≤ g1 := by omega
  obtain rfl : g2 = g1 + 1 := by rw [hg2, hA, hg1]; simp
  have HK := Lib.hid (fun w => sclone_any k w hk)
  have HB := Lib.hid hb
  have HN := Lib.hid hn
  have HNIL := Lib.hid hnil
  have HA := Lib.hid hA
  have HBB := Lib.hid hB
  have HG1 := Lib.hid hg1
  have HG2 := Lib.hid hg2
  have HFB := Lib.hid hfB
  have HCA := Lib.hid hcA'
  have HCB := Lib.hid hcB
  have c0 := hcA'.cell 0
  simp at c0
  have f0 := hcA'.free 0
  clear hb hn hnil hk hA hB hg1 hg2 hcA hcB hfAB hfB hcA'
  go_enter Try.func32, Try.ntmps32
  go_wp2_with fail
  rw [← HA.out, ← HBB.out, ← HG1.out]
  refine (HK.out wB).mono ?_
  rintro e w1 ⟨rfl, hf1⟩
  have hcA1 := hf1.whole HCA.out (by simp)
  have c0 := hcA1.cell 0
  have f0 := hcA1.free 0
  simp at c0
  obtain ⟨w2, hw2⟩ : ∃ w2, w2 = w1.setCell ⟨g1, 0, none⟩ (.string k) := ⟨_, rfl⟩
  have hcA2 : Whole w2 g1 44 #[.string k, .slice a n c, .int .u64 (ver : Nat), .int .u64 (own : Nat)] := by
    have := hcA1.put 0 (.string k); rw [hw2]; simpa using this
  have hf2 : Frm [] w w2 := by rw [hw2]; exact (HFB.out.trans hf1 (U := []) (by simp) (by simp)).setCell (.inr hgs) _
  have hcB2 : Whole w2 (g1 + 1) 44 #[.string ⟨#[]⟩, .slice none 0 0, .int .u64 0, .int .u64 0] := by
    rw [hw2]; exact (hf1.whole HCB.out (by simp)).other (p := ⟨g1, 0, none⟩) (by show (g1 + 1) ≠ g1; omega) _
  have HB2 := Lib.hid (clone_any a n c v w2 (hf2.bytes HB.out (by simp)) HN.out HNIL.out hfit)
  have HW2 := Lib.hid hw2
  have HF2 := Lib.hid hf2
  have HCA2 := Lib.hid hcA2
  have HCB2 := Lib.hid hcB2
  have d1 := hcA2.cell 1
  simp at d1
  rw [hw2] at d1
  clear hcA1 hcA2 hcB2 hf2 hw2 hf1
  go_wp2_with fail
  rw [← HW2.out]
  refine HB2.out.mono ?_
  rintro e w3 ⟨av, cv, rfl, hown, hf3⟩
  rw [← HN.out] at hown ⊢
  have hbv := own_bytes (by rw [HN.out] at hown; exact hown) HB.out.1
  have hlv : ∀ q, av = some q → w2.heap.size ≤ q.block := fun q hq => (World.ownsRow.lt hown q.block (by rw [hq]; rfl)).1
  have hcA3 := hf3.whole HCA2.out (by simp)
  have hcB3 := hf3.whole HCB2.out (by simp)
  have e1 := hcA3.free 1
  have ec1 := hcA3.cell 1
  simp at ec1
  obtain ⟨w4, hw4⟩ : ∃ w4, w4 = w3.setCell ⟨g1, 1, none⟩ (.slice av n cv) := ⟨_, rfl⟩
  have hcA4 : Whole w4 g1 44 #[.string k, .slice av n cv, .int .u64 (ver : Nat), .int .u64 (own : Nat)] := by
    have := hcA3.put 1 (.slice av n cv); rw [hw4]; simpa using this
  have hcB4 : Whole w4 (g1 + 1) 44 #[.string ⟨#[]⟩, .slice none 0 0, .int .u64 0, .int .u64 0] := by
    rw [hw4]; exact hcB3.other (p := ⟨g1, 1, none⟩) (by show (g1 + 1) ≠ g1; omega) _
  have HW4 := Lib.hid hw4
  have m0 := hcA4.cell 0
  have m1 := hcA4.cell 1
  have m2 := hcA4.cell 2
  have m3 := hcA4.cell 3
  have b0 := hcB4.cell 0
  have b1 := hcB4.cell 1
  have b2 := hcB4.cell 2
  have b3 := hcB4.cell 3
  have k0 := hcB4.free 0
  have k1 := hcB4.free 1
  have k2 := hcB4.free 2
  have k3 := hcB4.free 3
  simp at m0 m1 m2 m3 b0 b1 b2 b3
  obtain ⟨wZ, hZ⟩ : ∃ wZ, wZ = ((((w4.setCell ⟨g1 + 1, 0, none⟩ (.string k)).setCell ⟨g1 + 1, 1, none⟩ (.slice av n cv)).setCell ⟨g1 + 1, 2, none⟩ (.int .u64 (ver : Nat))).setCell ⟨g1 + 1, 3, none⟩ (.int .u64 (own : Nat))) := ⟨_, rfl⟩
  have hwz : Whole wZ (g1 + 1) 44 #[.string k, .slice av n cv, .int .u64 (ver : Nat), .int .u64 (own : Nat)] := by
    have := (((hcB4.put 0 (.string k)).put 1 (.slice av n cv)).put 2 (.int .u64 (ver : Nat))).put 3 (.int .u64 (own : Nat))
    rw [hZ]; simpa using this
  have hg2w2 : (g1 + 1) < w2.heap.size := HCB2.out.lt
  have hf43 : Frm [g1] w3 w4 := by rw [hw4]; exact (Frm.refl _ _).setCell (.inl (by simp)) _
  have hf4Z : Frm [(g1 + 1)] w4 wZ := by
    rw [hZ]; exact ((((Frm.refl _ _).setCell (.inl (by simp)) _).setCell (.inl (by simp)) _).setCell (.inl (by simp)) _).setCell (.inl (by simp)) _
  have hf3Z : Frm [g1, (g1 + 1)] w3 wZ := hf43.trans hf4Z (by simp) (by simp)
  have hEND : AloneEnd w k v n ver own (.returned (.agg #[.string k, .slice av n cv, .int .u64 (ver : Nat), .int .u64 (own : Nat)])) wZ := by
    refine ⟨av, cv, rfl, hf3Z.bytes hbv.1 (fun q hq hm => ?_), hbv.2, fun q hq => Nat.le_trans HF2.out.size (hlv q hq), (HF2.out.trans hf3 (U := []) (by simp) (by simp)).trans hf3Z (by simp) (fun x hx => ?_)⟩
    · have := hlv q hq; simp at hm; omega
    · right
      simp at hx; omega
  have HEND := Lib.hid hEND
  have HZ := Lib.hid hZ
  have HG := Lib.hid HG2.out
  have y0 := hwz.cell 0
  have y1 := hwz.cell 1
  have y2 := hwz.cell 2
  have y3 := hwz.cell 3
  simp at y0 y1 y2 y3
  rw [hw4] at m0 m1 m2 m3 b0 b1 b2 b3 k0 k1 k2 k3
  clear hcA3 hcB3 hcA4 hcB4 hwz hf43 hf4Z hf3Z hEND hZ hbv hlv hown hf3 hw4
  go_wp2
  rw [← HW4.out, ← HZ.out]
  refine bodyPost_ret (v := .agg #[.string k, .slice av n cv, .int .u64 (ver : Nat), .int .u64 (own : Nat)]) ?_ rfl ?_
  · simp [results, Try.results32, go_sem, y0, y1, y2, y3]
  · exact HEND.out
end Go.Proofs.Ytchhbmhnjknhaaa
