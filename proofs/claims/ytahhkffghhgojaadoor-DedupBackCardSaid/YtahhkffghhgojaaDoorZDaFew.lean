/- Contracts of the law's few, has. -/
import Derived.Test.YtahhkffghhgojaaDoorZInDa
import Derived.Test.YtahhkffghhgojaaDoorMA
import Derived.Test.YtahhkffghhgojaaDoorZTbSame
import Derived.Deep.DeepCutAuto
import Derived.Deep.CutBlock
import Derived.IntWalk
namespace Go.Proofs.YtahhkffghhgojaaDoor
open Go.RowKit
set_option maxRecDepth 100000

/-- An act behind few. -/
structure DaFew (t t' : Da) : Prop where
  k : t'.k = t.k
  atL : t'.atL = t.atL
  atE : t'.atE = t.atE
  raw : t.raw = true → t' = t
  few : t.raw = false → t'.nm.size = 2
  seq : t'.seq < 18446744073709551616
  size : t'.nm.size ≤ 9223372036854775807
def FewEnd (w : World) (t : Da) (e : Ending) (w' : World) : Prop := ∃ t' : Da, e = .returned t'.value ∧ DaFew t t' ∧ Frm [] w w'
set_option maxHeartbeats 4000000 in
theorem few_any (t : Da) (w : World) (h : DaOk w t) : Calls Tryd.prog 8 #[t.value] w (FewEnd w t) := by
  have H := Lib.hid h
  obtain ⟨k, nm, seq, al, ae, raw⟩ := t
  unfold Da.value
  simp only
  obtain ⟨w1, hw1⟩ : ∃ w1, w1 = (w.alloc (.cells #[.int .u8 (k : Nat), .string nm, .int .u64 (seq : Nat), .int .u64 (al : Nat), .int .u64 (ae : Nat), .bool raw] 31)).alloc (.cells #[.int .u8 0, .string ⟨#[]⟩, .int .u64 0, .int .u64 0, .int .u64 0, .bool false] 31) := ⟨_, rfl⟩
  obtain ⟨g, hg⟩ : ∃ g, g = w.heap.size := ⟨_, rfl⟩
  have F1 : Hid (Frm [] w w1) := Lib.hid (by rw [hw1]; exact ((Frm.refl _ _).alloc _).alloc _)
  have B0 : Hid (Whole w1 g 31 #[.int .u8 (k : Nat), .string nm, .int .u64 (seq : Nat), .int .u64 (al : Nat), .int .u64 (ae : Nat), .bool raw]) := Lib.hid (by rw [hw1, hg]; exact (Whole.made _ _ _).alloc _)
  have B1 : Hid (Whole w1 (g + 1) 31 #[.int .u8 0, .string ⟨#[]⟩, .int .u64 0, .int .u64 0, .int .u64 0, .bool false]) := Lib.hid (by
    rw [hw1, hg]
    have := Whole.made (w.alloc (.cells #[.int .u8 (k : Nat), .string nm, .int .u64 (seq : Nat), .int .u64 (al : Nat), .int .u64 (ae : Nat), .bool raw] 31)) 31 #[.int .u8 0, .string ⟨#[]⟩, .int .u64 0, .int .u64 0, .int .u64 0, .bool false]
    rwa [World.size_alloc] at this)
  have V0 : Hid (∀ (z : World) (k' : Nat) (nm' : ByteArray) (q' l' e' : Nat) (r' : Bool) (tm : Array Value), tm.getD 2 undef = .pointer (some ⟨g + 1, 0, none⟩) → Whole z (g + 1) 31 #[.int .u8 (k' : Nat), .string nm', .int .u64 (q' : Nat), .int .u64 (l' : Nat), .int .u64 (e' : Nat), .bool r'] → (results Tryd.f8 tm).run Tryd.prog z = .ok (.agg #[.int .u8 (k' : Nat), .string nm', .int .u64 (q' : Nat), .int .u64 (l' : Nat), .int .u64 (e' : Nat), .bool r']) z) := Lib.hid (fun z k' nm' q' l' e' r' tm h6 hw => by
    have c0 := hw.cell 0
    have c1 := hw.cell 1
    have c2 := hw.cell 2
    have c3 := hw.cell 3
    have c4 := hw.cell 4
    have c5 := hw.cell 5
    simp at c0 c1 c2 c3 c4 c5
    have h6' : tm[2]?.getD undef = .pointer (some ⟨g + 1, 0, none⟩) := by simpa using h6
    simp [results, Tryd.results8, go_sem, c0, c1, c2, c3, c4, c5, h6'])
  have HW1 := Lib.hid hw1; clear hw1
  have HG := Lib.hid hg; clear hg h
  have DONE : Hid (∀ (z : World) (nm' : ByteArray) (q' : Nat), Whole z g 31 #[.int .u8 (k : Nat), .string nm', .int .u64 (q' : Nat), .int .u64 (al : Nat), .int .u64 (ae : Nat), .bool raw] → Whole z (g + 1) 31 #[.int .u8 0, .string ⟨#[]⟩, .int .u64 0, .int .u64 0, .int .u64 0, .bool false] → Frm [] w z →
      Whole ((((((z.setCell ⟨g + 1, 0, none⟩ (.int .u8 (k : Nat))).setCell ⟨g + 1, 1, none⟩ (.string nm')).setCell ⟨g + 1, 2, none⟩ (.int .u64 (q' : Nat))).setCell ⟨g + 1, 3, none⟩ (.int .u64 (al : Nat))).setCell ⟨g + 1, 4, none⟩ (.int .u64 (ae : Nat))).setCell ⟨g + 1, 5, none⟩ (.bool raw)) (g + 1) 31 #[.int .u8 (k : Nat), .string nm', .int .u64 (q' : Nat), .int .u64 (al : Nat), .int .u64 (ae : Nat), .bool raw] ∧
      Frm [] w ((((((z.setCell ⟨g + 1, 0, none⟩ (.int .u8 (k : Nat))).setCell ⟨g + 1, 1, none⟩ (.string nm')).setCell ⟨g + 1, 2, none⟩ (.int .u64 (q' : Nat))).setCell ⟨g + 1, 3, none⟩ (.int .u64 (al : Nat))).setCell ⟨g + 1, 4, none⟩ (.int .u64 (ae : Nat))).setCell ⟨g + 1, 5, none⟩ (.bool raw))) := Lib.hid (fun z nm' q' _ h1 hf => by
    refine ⟨?_, ?_⟩
    · have := (((((h1.put 0 (.int .u8 (k : Nat))).put 1 (.string nm')).put 2 (.int .u64 (q' : Nat))).put 3 (.int .u64 (al : Nat))).put 4 (.int .u64 (ae : Nat))).put 5 (.bool raw)
      simpa using this
    · have h3 : Frm [g + 1] z ((((((z.setCell ⟨g + 1, 0, none⟩ (.int .u8 (k : Nat))).setCell ⟨g + 1, 1, none⟩ (.string nm')).setCell ⟨g + 1, 2, none⟩ (.int .u64 (q' : Nat))).setCell ⟨g + 1, 3, none⟩ (.int .u64 (al : Nat))).setCell ⟨g + 1, 4, none⟩ (.int .u64 (ae : Nat))).setCell ⟨g + 1, 5, none⟩ (.bool raw)) := ((((((Frm.refl _ _).setCell (.inl (by simp)) _).setCell (.inl (by simp)) _).setCell (.inl (by simp)) _).setCell (.inl (by simp)) _).setCell (.inl (by simp)) _).setCell (.inl (by simp)) _
      exact hf.trans h3 (by simp) (fun x hx => .inr (by have := HG.out; simp at hx; omega)))
  go_enter Tryd.func8, Tryd.ntmps8
  go_upto_region 1 with (fail)
  rw [← HW1.out, ← HG.out]
  have x5 := B0.out.cell 5
  simp at x5
  cases raw
  · have x2 := B0.out.cell 2
    have f2 := B0.out.free 2
    simp at x2
    obtain ⟨q, hq⟩ : ∃ q, q = seq % 9 := ⟨_, rfl⟩
    have wq : (seq : Int).tmod 9 = (q : Int) := by rw [Int.tmod_eq_emod_of_nonneg (by omega)]; omega
    have wq2 : (seq : Int) % 9 = (q : Int) := by omega
    have wq3 : IntKind.u64.wrap (q : Int) = (q : Int) := by simp [IntKind.wrap, IntKind.bits, IntKind.signed]; omega
    have Q9 : Hid (q < 9) := Lib.hid (by omega)
    obtain ⟨w2, hw2⟩ : ∃ w2, w2 = w1.setCell ⟨g, 2, none⟩ (.int .u64 (q : Nat)) := ⟨_, rfl⟩
    have B02 : Hid (Whole w2 g 31 #[.int .u8 (k : Nat), .string nm, .int .u64 (q : Nat), .int .u64 (al : Nat), .int .u64 (ae : Nat), .bool false]) := Lib.hid (by rw [hw2]; simpa using B0.out.put 2 (.int .u64 (q : Nat)))
    have F12 : Hid (Frm [g] w1 w2) := Lib.hid (by rw [hw2]; exact (Frm.refl _ _).setCell (.inl (by simp)) _)
    have B12 : Hid (Whole w2 (g + 1) 31 #[.int .u8 0, .string ⟨#[]⟩, .int .u64 0, .int .u64 0, .int .u64 0, .bool false]) := Lib.hid (F12.out.whole B1.out (by simp))
    have F2 : Hid (Frm [] w w2) := Lib.hid (F1.out.trans F12.out (by simp) (fun x hx => .inr (by have := HG.out; simp at hx; omega)))
    clear hq
    go_upto_region 3 with (fail)
    rw [← hw2]
    have HW2 := Lib.hid hw2; clear hw2 x2 f2 wq wq2 wq3
    have x1 := B02.out.cell 1
    have f1 := B02.out.free 1
    simp at x1
    have hnm := H.out.nm_le
    simp only at hnm
    obtain ⟨r, hr⟩ : ∃ r, r = nm.size % 3 := ⟨_, rfl⟩
    have wr1 : (nm.size : Int).tmod 3 = (r : Int) := by rw [Int.tmod_eq_emod_of_nonneg (by omega)]; omega
    have wr2 : (nm.size : Int) % 3 = (r : Int) := by omega
    have wr3 : IntKind.i64.wrap (r : Int) = (r : Int) := by simp [IntKind.wrap, IntKind.bits, IntKind.signed]; omega
    obtain ⟨c, hc⟩ : ∃ c, c = 97 + r := ⟨_, rfl⟩
    have wc1 : (97 : Int) + (r : Int) = (c : Int) := by omega
    have wc2 : IntKind.i64.wrap (c : Int) = (c : Int) := by simp [IntKind.wrap, IntKind.bits, IntKind.signed]; omega
    have wc3 : IntKind.u8.wrap (c : Int) = (c : Int) := by simp [IntKind.wrap, IntKind.bits, IntKind.signed]; omega
    have C256 : Hid (c < 256) := Lib.hid (by omega)
    have hcv : (convert 22 9 (.slice (some ⟨w2.heap.size, 0, none⟩) 1 1)).run Tryd.prog (w2.alloc (.cells #[.int .u8 (c : Nat)] 5)) = .ok (.string (strOf [c])) (w2.alloc (.cells #[.int .u8 (c : Nat)] 5)) :=
      run_to_string Tryd.underlying22 Tryd.underlying5 Tryd.underlying9 (l := [c]) ⟨by have := C256.out; simpa using this, by simp, .inr ⟨_, _, rfl, fun i hi => by
        have h0 : i = 0 := by simpa using hi
        subst h0
        simp⟩⟩ rfl
    obtain ⟨nf, hnf⟩ : ∃ nf, nf = (⟨#[112]⟩ ++ strOf [c] : ByteArray) := ⟨_, rfl⟩
    have NF : Hid (nf.size = 2) := Lib.hid (by rw [hnf, ByteArray.size_append, strOf_size]; rfl)
    obtain ⟨w4, hw4⟩ : ∃ w4, w4 = (w2.alloc (.cells #[.int .u8 (c : Nat)] 5)).setCell ⟨g, 1, none⟩ (.string nf) := ⟨_, rfl⟩
    have x1' := (B02.out.alloc (.cells #[.int .u8 (c : Nat)] 5)).cell 1
    simp only [List.getElem?_toArray, List.getElem?_cons_zero, List.getElem?_cons_succ] at x1'
    have f1' := (B02.out.alloc (.cells #[.int .u8 (c : Nat)] 5)).free 1
    have F24 : Hid (Frm [g] w2 w4) := Lib.hid (by rw [hw4]; exact ((Frm.refl _ _).alloc _).setCell (.inl (by simp)) _)
    have B04 : Hid (Whole w4 g 31 #[.int .u8 (k : Nat), .string nf, .int .u64 (q : Nat), .int .u64 (al : Nat), .int .u64 (ae : Nat), .bool false]) := Lib.hid (by
      rw [hw4]
      simpa using (B02.out.alloc (.cells #[.int .u8 (c : Nat)] 5)).put 1 (.string nf))
    have B14 : Hid (Whole w4 (g + 1) 31 #[.int .u8 0, .string ⟨#[]⟩, .int .u64 0, .int .u64 0, .int .u64 0, .bool false]) := Lib.hid (F24.out.whole B12.out (by simp))
    have F4 : Hid (Frm [] w w4) := Lib.hid (F2.out.trans F24.out (by simp) (fun x hx => .inr (by have := HG.out; simp at hx; omega)))
    clear hr hc
    go_upto_region 4 with (fail)
    rw [← hnf, ← hw4]
    have HW4 := Lib.hid hw4; clear hw4 x1 x1' f1 f1' hcv wr1 wr2 wr3 wc1 wc2 wc3 x5
    have HNF := Lib.hid hnf; clear hnf
    have x0 := B04.out.cell 0
    have x1 := B04.out.cell 1
    have x2 := B04.out.cell 2
    have x3 := B04.out.cell 3
    have x4 := B04.out.cell 4
    have x5 := B04.out.cell 5
    have y0 := B14.out.cell 0
    have y1 := B14.out.cell 1
    have y2 := B14.out.cell 2
    have y3 := B14.out.cell 3
    have y4 := B14.out.cell 4
    have y5 := B14.out.cell 5
    have k0 := B14.out.free 0
    have k1 := B14.out.free 1
    have k2 := B14.out.free 2
    have k3 := B14.out.free 3
    have k4 := B14.out.free 4
    have k5 := B14.out.free 5
    simp only [List.getElem?_toArray, List.getElem?_cons_zero, List.getElem?_cons_succ] at x0 x1 x2 x3 x4 x5 y0 y1 y2 y3 y4 y5
    have D := Lib.hid (DONE.out w4 nf q B04.out B14.out F4.out)
    have FIN : Hid (FewEnd w ⟨k, nm, seq, al, ae, false⟩ (.returned (.agg #[.int .u8 (k : Nat), .string nf, .int .u64 (q : Nat), .int .u64 (al : Nat), .int .u64 (ae : Nat), .bool false])) _) := Lib.hid ⟨⟨k, nf, q, al, ae, false⟩, rfl, ⟨rfl, rfl, rfl, (fun h => by cases h), (fun _ => NF.out), (by have := Q9.out; show q < _; omega), (by show nf.size ≤ _; have := NF.out; omega)⟩, D.out.2⟩
    go_wp2
    refine bodyPost_ret (V0.out _ k nf q al ae false _ rfl D.out.1) rfl ?_
    exact FIN.out
  · have x0 := B0.out.cell 0
    have x1 := B0.out.cell 1
    have x2 := B0.out.cell 2
    have x3 := B0.out.cell 3
    have x4 := B0.out.cell 4
    have y0 := B1.out.cell 0
    have y1 := B1.out.cell 1
    have y2 := B1.out.cell 2
    have y3 := B1.out.cell 3
    have y4 := B1.out.cell 4
    have y5 := B1.out.cell 5
    have k0 := B1.out.free 0
    have k1 := B1.out.free 1
    have k2 := B1.out.free 2
    have k3 := B1.out.free 3
    have k4 := B1.out.free 4
    have k5 := B1.out.free 5
    simp only [List.getElem?_toArray, List.getElem?_cons_zero, List.getElem?_cons_succ] at x0 x1 x2 x3 x4 y0 y1 y2 y3 y4 y5
    have D := Lib.hid (DONE.out w1 nm seq B0.out B1.out F1.out)
    have FIN : Hid (FewEnd w ⟨k, nm, seq, al, ae, true⟩ (.returned (.agg #[.int .u8 (k : Nat), .string nm, .int .u64 (seq : Nat), .int .u64 (al : Nat), .int .u64 (ae : Nat), .bool true])) _) := Lib.hid ⟨⟨k, nm, seq, al, ae, true⟩, rfl, ⟨rfl, rfl, rfl, fun _ => rfl, (fun h => by cases h), H.out.seq_lt, H.out.nm_le⟩, D.out.2⟩
    go_wp2
    refine bodyPost_ret (V0.out _ k nm seq al ae true _ rfl D.out.1) rfl ?_
    exact FIN.out
end Go.Proofs.YtahhkffghhgojaaDoor
