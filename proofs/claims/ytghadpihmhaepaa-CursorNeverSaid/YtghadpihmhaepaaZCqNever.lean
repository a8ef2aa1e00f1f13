/- The walk of CursorNever. Written by wip/mk-cqnever.py. -/
import Derived.Test.YtghadpihmhaepaaZCqAk
import Derived.Test.YtghadpihmhaepaaZCqCheck
import Derived.Test.YtghadpihmhaepaaZTail
namespace Go.Proofs.Ytghadpihmhaepaa
open Go.RowKit
set_option maxRecDepth 100000

set_option maxHeartbeats 16000000 in
theorem cursorNever_walk (ac : Option Addr) (n capc : Nat) (cs : List Nat) (op : Bool) (ob : Nat) (cu : Ps × Option Addr × Nat × Nat × List Hx) (p q : Ps) (all : Bool) (w : World) (hn : n = cs.length) (hb : Bytes w ac cs) (_hc1 : n ≤ capc) (_hc2 : ac = none → capc = 0) (_hob : ob < 256) (hcu : CrsIn w cu.1 cu.2.1 cu.2.2.1 cu.2.2.2.1 cu.2.2.2.2) (hp : p.fits) (hq : q.fits) :
    Calls Try.prog 6 #[.slice ac n capc, .bool op, .int .u8 (ob : Nat), crsV cu.1 cu.2.1 cu.2.2.1 cu.2.2.2.1, p.val, q.val, .bool all] w (LTrue w) := by
  obtain ⟨m, ah, nh, ch, Y⟩ := cu
  simp only at hcu ⊢
  obtain ⟨w1, hw1⟩ : ∃ w1, w1 = ((w.alloc (.cells #[.int .u64 (m.l : Nat), .int .u64 (m.e : Nat), .slice ah nh ch] 28)).alloc (.cells #[.int .u64 (p.l : Nat), .int .u64 (p.e : Nat)] 25)).alloc (.cells #[.int .u64 (q.l : Nat), .int .u64 (q.e : Nat)] 25) := ⟨_, rfl⟩
  have F1 : Hid (Frm [] w w1) := Lib.hid (by rw [hw1]; exact (((Frm.refl _ _).alloc _).alloc _).alloc _)
  obtain ⟨g, hg⟩ : ∃ g, g = w.heap.size := ⟨_, rfl⟩
  have B1 : Hid (Whole w1 g 28 #[.int .u64 (m.l : Nat), .int .u64 (m.e : Nat), .slice ah nh ch]) := Lib.hid (by rw [hw1, hg]; exact ((Whole.made _ _ _).alloc _).alloc _)
  have B2 : Hid (Whole w1 (g + 1) 25 #[.int .u64 (p.l : Nat), .int .u64 (p.e : Nat)]) := Lib.hid (by
    rw [hw1, hg]
    have := Whole.made (w.alloc (.cells #[.int .u64 (m.l : Nat), .int .u64 (m.e : Nat), .slice ah nh ch] 28)) 25 #[.int .u64 (p.l : Nat), .int .u64 (p.e : Nat)]
    rw [World.size_alloc] at this
    exact this.alloc _)
  have B3 : Hid (Whole w1 (g + 1 + 1) 25 #[.int .u64 (q.l : Nat), .int .u64 (q.e : Nat)]) := Lib.hid (by
    rw [hw1, hg]
    have := Whole.made ((w.alloc (.cells #[.int .u64 (m.l : Nat), .int .u64 (m.e : Nat), .slice ah nh ch] 28)).alloc (.cells #[.int .u64 (p.l : Nat), .int .u64 (p.e : Nat)] 25)) 25 #[.int .u64 (q.l : Nat), .int .u64 (q.e : Nat)]
    rwa [World.size_alloc, World.size_alloc] at this)
  have GS : Hid (w.heap.size ≤ g) := Lib.hid (by omega)
  have AW := Lib.hid (fun z => awake14_any z)
  have MD := Lib.hid (fun z (hz : Frm [] w z) => made14_any ac n capc cs op z hn (hz.bytes hb (by simp)))
  have PP := Lib.hid (fun z => ldplace_any p false z)
  have PQ := Lib.hid (fun z => ldplace_any q false z)
  have PF := Lib.hid (placeP_fits p false hp)
  have QF := Lib.hid (placeP_fits q false hq)
  have MF := Lib.hid (placeP_fits m false hcu.fits)
  have RT := Lib.hid (fun z (hz : Frm [] w1 z) => cqright_any m ah nh ch [g, g + 1, g + 1 + 1] Y false w z hcu (F1.out.trans hz (by simp) (by simp)) (fun x hx => by
    have h1 := hz.size
    have h2 := B3.out.lt
    simp at hx; omega))
  obtain ⟨p', hp'⟩ : ∃ p', p' = placeP p false := ⟨_, rfl⟩
  obtain ⟨q', hq'⟩ : ∃ q', q' = placeP q false := ⟨_, rfl⟩
  obtain ⟨M, hM⟩ : ∃ M, M = placeP m false := ⟨_, rfl⟩
  rw [← hp'] at PP PF
  rw [← hq'] at PQ QF
  rw [← hM] at MF RT
  clear hn hb _hc1 _hc2 hp hp' hM hcu hq hq'
  obtain ⟨o, ho⟩ : ∃ o, o = ob % 6 := ⟨_, rfl⟩
  have ho1 : (ob : Int) % 6 = (o : Int) := by omega
  have ho2 : (ob : Int).tmod 6 = (o : Int) := by rw [ho]; rfl
  have ho3 : IntKind.u8.wrap (o : Int) = (o : Int) := by simp [IntKind.wrap, IntKind.bits, IntKind.signed]; omega
  have ho4 : IntKind.u64.wrap (o : Int) = (o : Int) := by simp [IntKind.wrap, IntKind.bits, IntKind.signed]; omega
  have O5 : Hid (o ≤ 5) := Lib.hid (by omega)
  clear ho
  obtain ⟨ml, me⟩ := m
  obtain ⟨pl, pe⟩ := p
  obtain ⟨ql, qe⟩ := q
  obtain ⟨Ml, Me⟩ := M
  obtain ⟨ppl, ppe⟩ := p'
  obtain ⟨qql, qqe⟩ := q'
  unfold LRet at AW
  unfold LRet Ps.val at PP PQ
  unfold crsV Ps.val
  unfold crsV at RT
  simp only at hw1 B1 B2 B3 PP PQ RT MF PF QF ⊢
  have HW1 := Lib.hid hw1; clear hw1
  go_enter Try.func6, Try.ntmps6
  go_wp2_with fail
  rw [← HW1.out, ← hg]
  have HG := Lib.hid hg; clear hg
  (with_reducible refine (AW.out _).mono ?_)
  rintro e w2 ⟨rfl, hf2⟩
  have F2 : Hid (Frm [] w1 w2) := Lib.hid hf2
  clear hf2 AW
  go_wp2_with fail
  (with_reducible refine (MD.out _ (F1.out.trans F2.out (by simp) (by simp))).mono ?_)
  intro e w5 hmd
  obtain ⟨a, k, cap, X, rfl, LDS, hf5⟩ := hmd.lds (F := [g, g + 1, g + 1 + 1]) (fun x hx => by
    have h1 := F2.out.size
    have h2 := B3.out.lt
    simp at hx; omega) O5.out
  have F5 : Hid (Frm [] w1 w5) := Lib.hid (F2.out.trans hf5 (by simp) (by simp))
  have LDS := Lib.hid LDS
  clear hf5 MD hmd
  have b1 := F5.out.whole B1.out (by simp)
  have b2 := F5.out.whole B2.out (by simp)
  have r0 : ∀ z, Frm [] w5 z → z.cell? ⟨g, 0, none⟩ = some (.int .u64 (ml : Nat)) := fun z hz => (hz.whole b1 (by simp)).cell 0
  have r1 : ∀ z, Frm [] w5 z → z.cell? ⟨g, 1, none⟩ = some (.int .u64 (me : Nat)) := fun z hz => (hz.whole b1 (by simp)).cell 1
  have r2 : ∀ z, Frm [] w5 z → z.cell? ⟨g, 2, none⟩ = some (.slice ah nh ch) := fun z hz => (hz.whole b1 (by simp)).cell 2
  have r3 : ∀ z, Frm [] w5 z → z.cell? ⟨g + 1, 0, none⟩ = some (.int .u64 (pl : Nat)) := fun z hz => (hz.whole b2 (by simp)).cell 0
  have r4 : ∀ z, Frm [] w5 z → z.cell? ⟨g + 1, 1, none⟩ = some (.int .u64 (pe : Nat)) := fun z hz => (hz.whole b2 (by simp)).cell 1
  have f0 : ∀ z, Frm [] w5 z → z.frozen? ⟨g, 0, none⟩ = false := fun z hz => (hz.whole b1 (by simp)).free 0
  have f1 : ∀ z, Frm [] w5 z → z.frozen? ⟨g, 1, none⟩ = false := fun z hz => (hz.whole b1 (by simp)).free 1
  have f2 : ∀ z, Frm [] w5 z → z.frozen? ⟨g, 2, none⟩ = false := fun z hz => (hz.whole b1 (by simp)).free 2
  have f3 : ∀ z, Frm [] w5 z → z.frozen? ⟨g + 1, 0, none⟩ = false := fun z hz => (hz.whole b2 (by simp)).free 0
  have f4 : ∀ z, Frm [] w5 z → z.frozen? ⟨g + 1, 1, none⟩ = false := fun z hz => (hz.whole b2 (by simp)).free 1
  have b3 := F5.out.whole B3.out (by simp)
  have r5 : ∀ z, Frm [] w5 z → z.cell? ⟨g + 1 + 1, 0, none⟩ = some (.int .u64 (ql : Nat)) := fun z hz => (hz.whole b3 (by simp)).cell 0
  have r6 : ∀ z, Frm [] w5 z → z.cell? ⟨g + 1 + 1, 1, none⟩ = some (.int .u64 (qe : Nat)) := fun z hz => (hz.whole b3 (by simp)).cell 1
  have f5 : ∀ z, Frm [] w5 z → z.frozen? ⟨g + 1 + 1, 0, none⟩ = false := fun z hz => (hz.whole b3 (by simp)).free 0
  have f6 : ∀ z, Frm [] w5 z → z.frozen? ⟨g + 1 + 1, 1, none⟩ = false := fun z hz => (hz.whole b3 (by simp)).free 1
  have BB := Lib.hid (And.intro b1 b2)
  have BB3 := Lib.hid b3
  have RX := Lib.hid (fun z (hz : Frm [] w5 z) => RT.out z (F5.out.trans hz (by simp) (by simp)))
  clear b1 b2 b3 RT
  go_upto_region 4 with (fail)
  refine wp_region_tail (S := fun w' => Frm [] w5 w') (tl := (fun j => decide (6 ≤ j))) (by kernel_rfl) (Frm.drew (Frm.refl _ _)) (fun hHeld => ?_)
  refine tail_take (i := 0) (oi := ⟨some 28, _, _, _, _, _⟩) (v := ?_) rfl (by kernel_rfl) (by kernel_rfl) (by kernel_rfl) (by kernel_rfl) (by kernel_rfl) (fun _ _ _ h => h) (Or.inl ⟨by rfl, ?_⟩) (by assumption) ?_
  rotate_left 1
  · (intro w hSw; (try dsimp only at hSw); go_simp; all_goals with_reducible rfl)
  try simp only [Act.put, List.setIfInBounds_toArray, List.set_cons_zero, List.set_cons_succ]
  refine tail_take (i := 2) (oi := ⟨some 30, _, _, _, _, _⟩) (v := ?_) rfl (by kernel_rfl) (by kernel_rfl) (by kernel_rfl) (by kernel_rfl) (by kernel_rfl) (fun _ _ _ h => h) (Or.inl ⟨by rfl, ?_⟩) (by assumption) ?_
  rotate_left 1
  · (intro w hSw; (try dsimp only at hSw); go_simp; all_goals with_reducible rfl)
  try simp only [Act.put, List.setIfInBounds_toArray, List.set_cons_zero, List.set_cons_succ]
  refine tail_take (i := 4) (oi := ⟨some 32, _, _, _, _, _⟩) (v := ?_) rfl (by kernel_rfl) (by kernel_rfl) (by kernel_rfl) (by kernel_rfl) (by kernel_rfl) (fun _ _ _ h => h) (Or.inl ⟨by rfl, ?_⟩) (by assumption) ?_
  rotate_left 1
  · (intro w hSw; (try dsimp only at hSw); go_simp; all_goals with_reducible rfl)
  try simp only [Act.put, List.setIfInBounds_toArray, List.set_cons_zero, List.set_cons_succ]
  refine tail_one (i := 1) (o := ⟨some 29, _, _, _, _, _⟩) (by kernel_rfl) rfl (fun K hK => ?_)
  go_simp
  ((with_reducible refine (RX.out _ (by repeat (first | assumption | apply Frm.drew | exact Frm.refl _ _))).mono ?_); intro e w6 hre; obtain ⟨Z, az, zn, cz, rfl, hci, hf6⟩ := RightEnd.cin2 hre MF.out.2; clear hre; have CI := Lib.hid hci; clear hci; have S1 : Frm [] w5 w6 := Frm.trans (by repeat (first | assumption | apply Frm.drew | exact Frm.refl _ _)) hf6 (by simp) (by simp); clear hf6)
  go_wp2_with fail
  refine hK.out _ _ (fun _ => by assumption) (fun _ => ?_)
  clear hK K
  try simp only [Act.put, List.setIfInBounds_toArray, List.set_cons_zero, List.set_cons_succ]
  refine tail_one (i := 3) (o := ⟨some 31, _, _, _, _, _⟩) (by kernel_rfl) rfl (fun K hK => ?_)
  go_simp
  ((with_reducible refine (PP.out _).mono ?_); rintro e w6b ⟨rfl, hf6b⟩; have S2 : Frm [] w5 w6b := Frm.trans (by assumption) hf6b (by simp) (by simp); have CI := Lib.hid (CI.out.sub hf6b); clear hf6b)
  go_wp2_with fail
  refine hK.out _ _ (fun _ => by assumption) (fun _ => ?_)
  clear hK K
  try simp only [Act.put, List.setIfInBounds_toArray, List.set_cons_zero, List.set_cons_succ]
  refine tail_one (i := 5) (o := ⟨some 33, _, _, _, _, _⟩) (by kernel_rfl) rfl (fun K hK => ?_)
  go_simp
  ((with_reducible refine (PQ.out _).mono ?_); rintro e w6c ⟨rfl, hf6c⟩; have S3 : Frm [] w5 w6c := Frm.trans (by assumption) hf6c (by simp) (by simp); have CI := Lib.hid (CI.out.sub hf6c); clear hf6c)
  go_wp2_with fail
  refine hK.out _ _ (fun _ => by assumption) (fun _ => ?_)
  clear hK K
  try simp only [Act.put, List.setIfInBounds_toArray, List.set_cons_zero, List.set_cons_succ]
  refine tail_one (i := 6) (o := ⟨none, _, _, _, _, _⟩) (by kernel_rfl) rfl (fun K hK => ?_)
  go_simp
  refine hK.out _ _ (fun h => absurd h (by decide)) (fun _ => ?_)
  clear hK K
  try simp only [Act.put, List.setIfInBounds_toArray, List.set_cons_zero, List.set_cons_succ]
  refine tail_one (i := 7) (o := ⟨none, _, _, _, _, _⟩) (by kernel_rfl) rfl (fun K hK => ?_)
  go_simp
  refine hK.out _ _ (fun h => absurd h (by decide)) (fun _ => ?_)
  clear hK K
  try simp only [Act.put, List.setIfInBounds_toArray, List.set_cons_zero, List.set_cons_succ]
  refine tail_one (i := 8) (o := ⟨none, _, _, _, _, _⟩) (by kernel_rfl) rfl (fun K hK => ?_)
  go_simp
  refine hK.out _ _ (fun h => absurd h (by decide)) (fun _ => ?_)
  clear hK K
  try simp only [Act.put, List.setIfInBounds_toArray, List.set_cons_zero, List.set_cons_succ]
  refine tail_done (by kernel_rfl) ?_ _
  obtain ⟨w7, hw7⟩ : ∃ w7, w7 = ((((((w6c.setCell ⟨g, 0, none⟩ (.int .u64 (Ml : Nat))).setCell ⟨g, 1, none⟩ (.int .u64 (Me : Nat))).setCell ⟨g, 2, none⟩ (.slice az zn cz)).setCell ⟨g + 1, 0, none⟩ (.int .u64 (ppl : Nat))).setCell ⟨g + 1, 1, none⟩ (.int .u64 (ppe : Nat))).setCell ⟨g + 1 + 1, 0, none⟩ (.int .u64 (qql : Nat))).setCell ⟨g + 1 + 1, 1, none⟩ (.int .u64 (qqe : Nat)) := ⟨_, rfl⟩
  rw [← hw7]
  have hw6 := S3.whole BB.out.1 (by simp)
  have hw6' := S3.whole BB.out.2 (by simp)
  have hw6q := S3.whole BB3.out (by simp)
  have C1 : Hid (Whole w7 g 28 #[.int .u64 (Ml : Nat), .int .u64 (Me : Nat), .slice az zn cz]) := Lib.hid (by
    rw [hw7]
    have := ((((((hw6.put 0 (.int .u64 (Ml : Nat))).put 1 (.int .u64 (Me : Nat))).put 2 (.slice az zn cz)).other (p := ⟨g + 1, 0, none⟩) (by simp) (.int .u64 (ppl : Nat))).other (p := ⟨g + 1, 1, none⟩) (by simp) (.int .u64 (ppe : Nat))).other (p := ⟨g + 1 + 1, 0, none⟩) (by simp; omega) (.int .u64 (qql : Nat))).other (p := ⟨g + 1 + 1, 1, none⟩) (by simp; omega) (.int .u64 (qqe : Nat))
    simpa using this)
  have C2 : Hid (Whole w7 (g + 1) 25 #[.int .u64 (ppl : Nat), .int .u64 (ppe : Nat)]) := Lib.hid (by
    rw [hw7]
    have := ((((((hw6'.other (p := ⟨g, 0, none⟩) (by simp) (.int .u64 (Ml : Nat))).other (p := ⟨g, 1, none⟩) (by simp) (.int .u64 (Me : Nat))).other (p := ⟨g, 2, none⟩) (by simp) (.slice az zn cz)).put 0 (.int .u64 (ppl : Nat))).put 1 (.int .u64 (ppe : Nat))).other (p := ⟨g + 1 + 1, 0, none⟩) (by simp) (.int .u64 (qql : Nat))).other (p := ⟨g + 1 + 1, 1, none⟩) (by simp) (.int .u64 (qqe : Nat))
    simpa using this)
  have C3 : Hid (Whole w7 (g + 1 + 1) 25 #[.int .u64 (qql : Nat), .int .u64 (qqe : Nat)]) := Lib.hid (by
    rw [hw7]
    have := ((((((hw6q.other (p := ⟨g, 0, none⟩) (by simp; omega) (.int .u64 (Ml : Nat))).other (p := ⟨g, 1, none⟩) (by simp; omega) (.int .u64 (Me : Nat))).other (p := ⟨g, 2, none⟩) (by simp; omega) (.slice az zn cz)).other (p := ⟨g + 1, 0, none⟩) (by simp) (.int .u64 (ppl : Nat))).other (p := ⟨g + 1, 1, none⟩) (by simp) (.int .u64 (ppe : Nat))).put 0 (.int .u64 (qql : Nat))).put 1 (.int .u64 (qqe : Nat))
    simpa using this)
  have F67 : Frm [g, g + 1, g + 1 + 1] w6c w7 := by rw [hw7]; exact (((((((Frm.refl _ _).setCell (.inl (by simp)) _).setCell (.inl (by simp)) _).setCell (.inl (by simp)) _).setCell (.inl (by simp)) _).setCell (.inl (by simp)) _).setCell (.inl (by simp)) _).setCell (.inl (by simp)) _
  have FW7 : Hid (Frm [] w w7) := Lib.hid ((F1.out.trans (F5.out.trans S3 (U := []) (by simp) (by simp)) (U := []) (by simp) (by simp)).trans F67 (by simp) (fun x hx => .inr (by simp at hx; have := GS.out; omega)))
  have L7 : Hid (Lds14 w7 [] a k X o) := Lib.hid ((LDS.out.keep S3 (F' := [g, g + 1, g + 1 + 1]) (by simp) (fun x hx => .inl hx)).keep F67 (F' := []) (fun x hx => .inl hx) (by simp))
  have CI7 : Hid (Cin w7 [] ⟨Ml, Me⟩ az zn cz Z 14) := Lib.hid (CI.out.keep F67 (F' := []) (fun x hx => .inl hx) (by simp))
  clear hw6 hw6' hw6q F67 S1 S2 S3 r0 r1 r2 r3 r4 r5 r6 f0 f1 f2 f3 f4 f5 f6 BB BB3 LDS F5 F2 B1 B2 B3 PP PQ RX F1 ho1 ho2 ho3 ho4 GS
  have HW7 := Lib.hid hw7
  clear hw7
  have AK := Lib.hid (cqack14_any (cl := cap) (p := ⟨ppl, ppe⟩) L7.out (F := []) CI7.out (by omega) (by simp) PF.out)
  have AL := Lib.hid (fun z y (hz : Frm [] w7 z) (hy : w7.heap.size ≤ y) (hyz : y < z.heap.size) => cqall14_any (cl := cap) (p := ⟨ppl, ppe⟩) (L7.out.keep hz (F' := []) (by simp) (by simp)) (CI7.out.keep hz (F' := [y]) (by simp) (fun x hx => .inr (by simp at hx; omega))) (by omega) (by simp; omega) PF.out)
  have GOODA : Hid (∀ D : Crs, ToA X o ⟨⟨Ml, Me⟩, hels Z⟩ ⟨ppl, ppe⟩ D → (codeA X o ⟨⟨Ml, Me⟩, hels Z⟩ ⟨ppl, ppe⟩ ≠ 0 → D = noCrs) ∧ (codeA X o ⟨⟨Ml, Me⟩, hels Z⟩ ⟨ppl, ppe⟩ = 0 → ¬ D.mark.lt ⟨Ml, Me⟩ ∧ ackedC D ⟨ppl, ppe⟩ ∧ ∀ q, hasP X o q = true → (ackedC D q ↔ ackedC ⟨⟨Ml, Me⟩, hels Z⟩ q ∨ q = ⟨ppl, ppe⟩))) := Lib.hid (fun D hD => ⟨hD.2, fun h0 => by
    have h1 := hD.1 h0
    have h2 := codeA_zero.1 h0
    exact ⟨h1.ge, (h1.acked L7.out.right CI7.out.ok ((hasP_mem L7.out.right).1 h2.1)).2 (.inr rfl), fun q hq => h1.acked L7.out.right CI7.out.ok ((hasP_mem L7.out.right).1 hq)⟩⟩)
  have GOODL : Hid (∀ D : Crs, ToL X o ⟨⟨Ml, Me⟩, hels Z⟩ ⟨ppl, ppe⟩ D → (codeL X o ⟨⟨Ml, Me⟩, hels Z⟩ ⟨ppl, ppe⟩ ≠ 0 → D = noCrs) ∧ (codeL X o ⟨⟨Ml, Me⟩, hels Z⟩ ⟨ppl, ppe⟩ = 0 → ¬ D.mark.lt ⟨Ml, Me⟩ ∧ ackedC D ⟨ppl, ppe⟩ ∧ ∀ q, hasP X o q = true → (ackedC D q ↔ ackedC ⟨⟨Ml, Me⟩, hels Z⟩ q ∨ ¬ (Ps.mk ppl ppe).lt q))) := Lib.hid (fun D hD => ⟨hD.2, fun h0 => by
    have h1 := hD.1 h0
    have h2 := codeL_zero.1 h0
    exact ⟨h1.ge h2.2, (h1.acked L7.out.right CI7.out.ok h2.2 ((hasP_mem L7.out.right).1 h2.1)).2 (.inr (Ps.lt_irrefl _)), fun q hq => h1.acked L7.out.right CI7.out.ok h2.2 ((hasP_mem L7.out.right).1 hq)⟩⟩)
  have AKC := Lib.hid (fun z (hz : Frm [] w7 z) => cqacked_any (cap := cz) ⟨Ml, Me⟩ az zn [] Z ⟨qql, qqe⟩ z (CI7.out.sub hz).hl CI7.out.ok.srt CI7.out.len (CI7.out.small (by omega)).1 (CI7.out.rgs (by omega)))
  have HAS := Lib.hid (fun z (hz : Frm [] w7 z) => ldhas_any a k cap X o ⟨qql, qqe⟩ z (L7.out.l.sub hz) L7.out.len (by have := L7.out.few; omega))
  obtain ⟨hq9, hhq9⟩ : ∃ h, h = hasP X o ⟨qql, qqe⟩ := ⟨_, rfl⟩
  rw [← hhq9] at HAS
  have HQ9 := Lib.hid hhq9; clear hhq9
  obtain ⟨cA, hcA⟩ : ∃ c, c = codeA X o ⟨⟨Ml, Me⟩, hels Z⟩ ⟨ppl, ppe⟩ := ⟨_, rfl⟩
  obtain ⟨cL, hcL⟩ : ∃ c, c = codeL X o ⟨⟨Ml, Me⟩, hels Z⟩ ⟨ppl, ppe⟩ := ⟨_, rfl⟩
  rw [← hcA] at AK GOODA
  rw [← hcL] at AL GOODL
  clear hcA hcL
  obtain ⟨CC, hCC⟩ : ∃ CC, CC = (⟨⟨Ml, Me⟩, hels Z⟩ : Crs) := ⟨_, rfl⟩
  rw [← hCC] at AK AL AKC GOODA GOODL
  have HCC := Lib.hid hCC; clear hCC
  unfold AkEnd at AK AL
  unfold crsV Ps.val at AK AL AKC
  unfold LRet Ps.val at HAS
  simp only at AK AL AKC HAS
  have k0 : ∀ z, Frm [] w7 z → z.cell? ⟨g, 0, none⟩ = some (.int .u64 (Ml : Nat)) := fun z hz => (hz.whole C1.out (by simp)).cell 0
  have k1 : ∀ z, Frm [] w7 z → z.cell? ⟨g, 1, none⟩ = some (.int .u64 (Me : Nat)) := fun z hz => (hz.whole C1.out (by simp)).cell 1
  have k2 : ∀ z, Frm [] w7 z → z.cell? ⟨g, 2, none⟩ = some (.slice az zn cz) := fun z hz => (hz.whole C1.out (by simp)).cell 2
  have k3 : ∀ z, Frm [] w7 z → z.cell? ⟨g + 1, 0, none⟩ = some (.int .u64 (ppl : Nat)) := fun z hz => (hz.whole C2.out (by simp)).cell 0
  have k4 : ∀ z, Frm [] w7 z → z.cell? ⟨g + 1, 1, none⟩ = some (.int .u64 (ppe : Nat)) := fun z hz => (hz.whole C2.out (by simp)).cell 1
  have x0 := k0 _ (Frm.refl _ _)
  have x1 := k1 _ (Frm.refl _ _)
  have x2 := k2 _ (Frm.refl _ _)
  have x3 := k3 _ (Frm.refl _ _)
  have x4 := k4 _ (Frm.refl _ _)
  go_wp2_with fail
  (with_reducible refine AK.out.mono ?_)
  rintro e w8 ⟨D, Zd, ad, dn, cd, rfl, DC, DT, hf8⟩
  clear x0 x1 x2 x3 x4
  obtain ⟨V8, hV8⟩ : ∃ V8, V8 = w8.alloc (.cells #[.int .u64 (D.l : Nat), .int .u64 (D.e : Nat), .slice ad dn cd] 28) := ⟨_, rfl⟩
  obtain ⟨y8, hy8⟩ : ∃ y8, y8 = w8.heap.size := ⟨_, rfl⟩
  have F8 : Hid (Frm [] w7 V8) := Lib.hid (by rw [hV8]; exact hf8.out.alloc _)
  have F88 : Hid (Frm [] w8 V8) := Lib.hid (by rw [hV8]; exact (Frm.refl _ _).alloc _)
  have D8 : Hid (Whole V8 y8 28 #[.int .u64 (D.l : Nat), .int .u64 (D.e : Nat), .slice ad dn cd]) := Lib.hid (by rw [hV8, hy8]; exact Whole.made _ _ _)
  have Y8 : Hid (w7.heap.size ≤ y8) := Lib.hid (by rw [hy8]; exact hf8.out.size)
  have HV8 := Lib.hid hV8; clear hV8
  have HY8 := Lib.hid hy8; clear hy8
  have DC8 : Hid (Cin V8 [] D ad dn cd Zd 15) := Lib.hid (DC.out.sub F88.out)
  go_upto_region 6 with (fail)
  rw [← HV8.out, ← HY8.out]
  cases all
  · obtain ⟨W, hW⟩ : ∃ W, W = V8 := ⟨_, rfl⟩
    rw [← hW]
    have FW : Hid (Frm [y8] w7 W) := Lib.hid (by rw [hW]; exact F8.out.weak (by simp))
    have DW : Hid (Whole W y8 28 #[.int .u64 (D.l : Nat), .int .u64 (D.e : Nat), .slice ad dn cd]) := Lib.hid (by rw [hW]; exact D8.out)
    have DCW : Hid (Cin W [] D ad dn cd Zd 15) := Lib.hid (by rw [hW]; exact DC8.out)
    obtain ⟨code, hcode⟩ : ∃ code, code = cA := ⟨_, rfl⟩
    rw [← hcode]
    have GOOD : Hid ((code ≠ 0 → (⟨D, hels Zd⟩ : Crs) = noCrs) ∧ (code = 0 → ¬ D.lt ⟨Ml, Me⟩ ∧ ackedC ⟨D, hels Zd⟩ ⟨ppl, ppe⟩ ∧ ∀ q, hasP X o q = true → (ackedC ⟨D, hels Zd⟩ q ↔ ackedC CC q ∨ q = ⟨ppl, ppe⟩))) := Lib.hid (by rw [hcode]; exact GOODA.out _ DT.out)
    clear hW hcode
    go_upto_region 8 with (fail)
    obtain ⟨Dl, De⟩ := D
    simp only at DW DCW GOOD ⊢
    have d0 : ∀ z, Frm [] W z → z.cell? ⟨y8, 0, none⟩ = some (.int .u64 (Dl : Nat)) := fun z hz => (hz.whole DW.out (by simp)).cell 0
    have d1 : ∀ z, Frm [] W z → z.cell? ⟨y8, 1, none⟩ = some (.int .u64 (De : Nat)) := fun z hz => (hz.whole DW.out (by simp)).cell 1
    have d2 : ∀ z, Frm [] W z → z.cell? ⟨y8, 2, none⟩ = some (.slice ad dn cd) := fun z hz => (hz.whole DW.out (by simp)).cell 2
    have NB : Hid (g ≠ y8 ∧ g + 1 ≠ y8 ∧ g + 1 + 1 ≠ y8) := Lib.hid (by have h1 := C3.out.lt; have h2 := Y8.out; omega)
    have FX0 : Hid (∀ z, Frm [] W z → Frm [] w z) := Lib.hid (fun z hz => FW7.out.trans (FW.out.trans hz (U := [y8]) (by simp) (by simp)) (by simp) (fun x hx => .inr (by simp at hx; have h1 := Y8.out; have h2 := FW7.out.size; omega)))
    have j0 : ∀ z, Frm [] W z → z.cell? ⟨g, 0, none⟩ = some (.int .u64 (Ml : Nat)) := fun z hz => ((FW.out.trans hz (U := [y8]) (by simp) (by simp)).whole C1.out (by have := NB.out; simp; omega)).cell 0
    have j1 : ∀ z, Frm [] W z → z.cell? ⟨g, 1, none⟩ = some (.int .u64 (Me : Nat)) := fun z hz => ((FW.out.trans hz (U := [y8]) (by simp) (by simp)).whole C1.out (by have := NB.out; simp; omega)).cell 1
    have j2 : ∀ z, Frm [] W z → z.cell? ⟨g, 2, none⟩ = some (.slice az zn cz) := fun z hz => ((FW.out.trans hz (U := [y8]) (by simp) (by simp)).whole C1.out (by have := NB.out; simp; omega)).cell 2
    have j3 : ∀ z, Frm [] W z → z.cell? ⟨g + 1, 0, none⟩ = some (.int .u64 (ppl : Nat)) := fun z hz => ((FW.out.trans hz (U := [y8]) (by simp) (by simp)).whole C2.out (by have := NB.out; simp; omega)).cell 0
    have j4 : ∀ z, Frm [] W z → z.cell? ⟨g + 1, 1, none⟩ = some (.int .u64 (ppe : Nat)) := fun z hz => ((FW.out.trans hz (U := [y8]) (by simp) (by simp)).whole C2.out (by have := NB.out; simp; omega)).cell 1
    have j5 : ∀ z, Frm [] W z → z.cell? ⟨g + 1 + 1, 0, none⟩ = some (.int .u64 (qql : Nat)) := fun z hz => ((FW.out.trans hz (U := [y8]) (by simp) (by simp)).whole C3.out (by have := NB.out; simp; omega)).cell 0
    have j6 : ∀ z, Frm [] W z → z.cell? ⟨g + 1 + 1, 1, none⟩ = some (.int .u64 (qqe : Nat)) := fun z hz => ((FW.out.trans hz (U := [y8]) (by simp) (by simp)).whole C3.out (by have := NB.out; simp; omega)).cell 1
    clear k0 k1 k2 k3 k4
    by_cases hc0 : code = 0
    rotate_left 1
    · have hn := GOOD.out.1 hc0
      have hD : (⟨Dl, De⟩ : Ps) = ⟨0, 0⟩ := congrArg Crs.mark hn
      have hZ : dn = 0 := by
        have h1 := congrArg Crs.held hn
        have h2 := DCW.out.len
        have h3 := congrArg List.length h1
        simp only [hels_length] at h3
        rw [h2, h3]; rfl
      injection hD with hD1 hD2
      subst hD1 hD2 hZ
      have e1 : ((code : Int) != 0) = true := by simp; omega
      have y0 := d0 _ (Frm.refl _ _)
      have y1 := d1 _ (Frm.refl _ _)
      have y2 := d2 _ (Frm.refl _ _)
      have eqz : ∀ w : World, (binOp .eql 25 (.agg #[.int .u64 0, .int .u64 0]) (.agg #[.int .u64 0, .int .u64 0])).run Try.prog w = .ok (.bool true) w := fun w => eql_ps 0 0 0 0 w
      have FX := Lib.hid (FX0.out _ (Frm.refl _ _))
      clear d0 d1 d2 j0 j1 j2 j3 j4 j5 j6 hc0 hn
      go_wp2
      go_ret
      exact lTrue FX.out
    obtain ⟨GE, GP, GQ⟩ := GOOD.out.2 hc0
    have GE := Lib.hid GE
    have GP := Lib.hid GP
    have GQ := Lib.hid (GQ ⟨qql, qqe⟩)
    subst hc0
    have ORD := Lib.hid (fun z => ldorder_any ⟨Dl, De⟩ ⟨Ml, Me⟩ z)
    obtain ⟨c, hc⟩ : ∃ c, c = ordP ⟨Dl, De⟩ ⟨Ml, Me⟩ := ⟨_, rfl⟩
    rw [← hc] at ORD
    have nc : decide (c < 0) = false := decide_eq_false (fun h => by rw [hc] at h; exact GE.out (ordP_neg.1 h))
    clear hc
    have AKD := Lib.hid (fun z (hz : Frm [] W z) => (cqacked_any (cap := cd) ⟨Dl, De⟩ ad dn [] Zd ⟨ppl, ppe⟩ z (DCW.out.sub hz).hl DCW.out.ok.srt DCW.out.len (DCW.out.small (by omega)).1 (DCW.out.rgs (by omega))).mono fun e w' hh => BoolOf.yes hh GP.out)
    have CHK := Lib.hid (fun z (hz : Frm [] W z) => (cqcheck_any ⟨Dl, De⟩ ad dn cd [] Zd z (DCW.out.sub hz).hl DCW.out.len (DCW.out.small (by omega)).1 (DCW.out.small (by omega)).2).mono fun e w' hh => BoolOf.yes hh ((rtc_iff _).2 DCW.out.ok))
    have AKQ := Lib.hid (fun z (hz : Frm [] W z) => cqacked_any (cap := cd) ⟨Dl, De⟩ ad dn [] Zd ⟨qql, qqe⟩ z (DCW.out.sub hz).hl DCW.out.ok.srt DCW.out.len (DCW.out.small (by omega)).1 (DCW.out.rgs (by omega)))
    have CIW : Hid (Cin W [] ⟨Ml, Me⟩ az zn cz Z 14) := Lib.hid (CI7.out.keep FW.out (F' := []) (fun x hx => .inr (by simp at hx; have := Y8.out; omega)) (by simp))
    have LW : Hid (Lds14 W [] a k X o) := Lib.hid (L7.out.keep FW.out (F' := []) (fun x hx => .inr (by simp at hx; have := Y8.out; omega)) (by simp))
    have AKC3 := Lib.hid (fun z (hz : Frm [] W z) => cqacked_any (cap := cz) ⟨Ml, Me⟩ az zn [] Z ⟨qql, qqe⟩ z (CIW.out.sub hz).hl CIW.out.ok.srt CIW.out.len (CIW.out.small (by omega)).1 (CIW.out.rgs (by omega)))
    have HAS3 := Lib.hid (fun z (hz : Frm [] W z) => ldhas_any a k cap X o ⟨qql, qqe⟩ z (LW.out.l.sub hz) LW.out.len (by have := LW.out.few; omega))
    rw [← HCC.out] at AKC3
    rw [← HQ9.out] at HAS3 GQ
    unfold LRet Ps.val at HAS3
    unfold crsV Ps.val at AKC3
    simp only at HAS3 AKC3
    unfold LRet Ps.val at ORD
    unfold crsV Ps.val at AKD AKQ
    unfold crsV at CHK
    simp only at ORD AKD AKQ CHK
    have x0 := d0 _ (Frm.refl _ _)
    have x1 := d1 _ (Frm.refl _ _)
    have x2 := j0 _ (Frm.refl _ _)
    have x3 := j1 _ (Frm.refl _ _)
    go_wp2_with fail
    (with_reducible refine (ORD.out _).mono ?_)
    rintro e v1 ⟨rfl, hv1⟩
    have G1 := Lib.hid hv1
    clear x0 x1 x2 x3
    have x0 := d0 _ hv1
    have x1 := d1 _ hv1
    have x2 := d2 _ hv1
    have x3 := j3 _ hv1
    have x4 := j4 _ hv1
    clear hv1
    go_wp2_with fail
    (with_reducible refine (AKD.out _ G1.out).mono ?_)
    rintro e v2 ⟨rfl, hv2⟩
    clear x0 x1 x2 x3 x4
    have hv2 := G1.out.trans hv2 (U := []) (by simp) (by simp)
    have G2 := Lib.hid hv2
    have x0 := d0 _ hv2
    have x1 := d1 _ hv2
    have x2 := d2 _ hv2
    clear hv2
    go_wp2_with fail
    (with_reducible refine (CHK.out _ G2.out).mono ?_)
    rintro e v3 ⟨rfl, hv3⟩
    clear x0 x1 x2
    have hv3 := G2.out.trans hv3 (U := []) (by simp) (by simp)
    have G3 := Lib.hid hv3
    have x0 := j0 _ hv3
    have x1 := j1 _ hv3
    have x2 := j2 _ hv3
    have x3 := j5 _ hv3
    have x4 := j6 _ hv3
    clear hv3
    have AKCW := Lib.hid (AKC3.out v3 G3.out)
    go_wp2_with fail
    (with_reducible refine AKCW.out.mono ?_)
    rintro e v4 ⟨bw, rfl, hbw, hv4⟩
    have BWF := Lib.hid hbw
    clear x0 x1 x2 x3 x4 hbw
    have hv4 := G3.out.trans hv4 (U := []) (by simp) (by simp)
    have G4 := Lib.hid hv4
    clear hv4
    have x0 := j5 _ G4.out
    have x1 := j6 _ G4.out
    go_wp2_with fail
    (with_reducible refine (HAS3.out _ G4.out).mono ?_)
    rintro e v6 ⟨rfl, hv6⟩
    have hv6 := G4.out.trans hv6 (U := []) (by simp) (by simp)
    clear x0 x1
    cases hq9
    · have FX := Lib.hid (FX0.out _ hv6)
      clear d0 d1 d2 j0 j1 j2 j3 j4 j5 j6 hv6
      go_wp2
      go_ret
      exact lTrue FX.out
    have G6 := Lib.hid hv6
    have x0 := d0 _ hv6
    have x1 := d1 _ hv6
    have x2 := d2 _ hv6
    have x3 := j5 _ hv6
    have x4 := j6 _ hv6
    clear hv6
    have GQ2 := Lib.hid (GQ.out rfl)
    clear GQ
    go_wp2_with fail
    (with_reducible refine (AKQ.out _ G6.out).mono ?_)
    rintro e v7 ⟨bd, rfl, hbd, hv7⟩
    have BDF := Lib.hid hbd
    have hv7 := G6.out.trans hv7 (U := []) (by simp) (by simp)
    clear hbd x0 x1 x2 x3 x4
    have FX := Lib.hid (FX0.out _ hv7)
    have x3 := j5 _ hv7
    have x4 := j6 _ hv7
    have x5 := j3 _ hv7
    have x6 := j4 _ hv7
    have eqp : ∀ w : World, (binOp .eql 25 (.agg #[.int .u64 (qql : Nat), .int .u64 (qqe : Nat)]) (.agg #[.int .u64 (ppl : Nat), .int .u64 (ppe : Nat)])).run Try.prog w = .ok (.bool (decide ((⟨qql, qqe⟩ : Ps) = ⟨ppl, ppe⟩))) w := fun w => eql_ps _ _ _ _ w
    obtain ⟨dq, hdq⟩ : ∃ dq, dq = decide ((⟨qql, qqe⟩ : Ps) = ⟨ppl, ppe⟩) := ⟨_, rfl⟩
    rw [← hdq] at eqp
    have DQ : Hid (dq = true ↔ (⟨qql, qqe⟩ : Ps) = ⟨ppl, ppe⟩) := Lib.hid (by rw [hdq, decide_eq_true_iff])
    clear hdq d0 d1 d2 j0 j1 j2 j3 j4 j5 j6 hv7
    cases bw
    · obtain rfl : bd = dq := by
        have h1 := BDF.out
        have h2 := GQ2.out
        have h3 := DQ.out
        have h4 : ¬ ackedC CC ⟨qql, qqe⟩ := fun h => by have := BWF.out.2 h; cases this
        cases bd <;> cases dq <;> simp_all
      have eqb : (bd == bd) = true := by simp
      go_wp2
      go_ret
      exact lTrue FX.out
    · obtain rfl : bd = true := BDF.out.2 (GQ2.out.2 (.inl (BWF.out.1 rfl)))
      go_wp2
      go_ret
      exact lTrue FX.out
  · have x0 := k0 _ F8.out
    have x1 := k1 _ F8.out
    have x2 := k2 _ F8.out
    have x3 := k3 _ F8.out
    have x4 := k4 _ F8.out
    go_wp2_with fail
    (with_reducible refine (AL.out _ y8 F8.out Y8.out D8.out.lt).mono ?_)
    rintro e w9 ⟨E, Ze, ae, en, ce, rfl, EC, ET, hf9⟩
    clear x0 x1 x2 x3 x4
    have b9 := hf9.out.whole D8.out (by simp)
    have v0 := b9.cell 0
    have v1 := b9.cell 1
    have v2 := b9.cell 2
    have v3 := b9.free 0
    have v4 := b9.free 1
    have v5 := b9.free 2
    simp only [List.getElem?_toArray, List.getElem?_cons_zero, List.getElem?_cons_succ] at v0 v1 v2
    obtain ⟨W, hW⟩ : ∃ W, W = ((w9.setCell ⟨y8, 0, none⟩ (.int .u64 (E.l : Nat))).setCell ⟨y8, 1, none⟩ (.int .u64 (E.e : Nat))).setCell ⟨y8, 2, none⟩ (.slice ae en ce) := ⟨_, rfl⟩
    have F9W : Hid (Frm [y8] w9 W) := Lib.hid (by rw [hW]; exact (((Frm.refl _ _).setCell (.inl (by simp)) _).setCell (.inl (by simp)) _).setCell (.inl (by simp)) _)
    have FW : Hid (Frm [y8] w7 W) := Lib.hid ((F8.out.trans hf9.out (U := []) (by simp) (by simp)).trans F9W.out (by simp) (by simp))
    have DW : Hid (Whole W y8 28 #[.int .u64 (E.l : Nat), .int .u64 (E.e : Nat), .slice ae en ce]) := Lib.hid (by
      rw [hW]
      have := ((b9.put 0 (.int .u64 (E.l : Nat))).put 1 (.int .u64 (E.e : Nat))).put 2 (.slice ae en ce)
      simpa using this)
    have DCW : Hid (Cin W [] E ae en ce Ze 15) := Lib.hid (EC.out.keep F9W.out (F' := []) (by simp) (by simp))
    obtain ⟨code, hcode⟩ : ∃ code, code = cL := ⟨_, rfl⟩
    rw [← hcode]
    have GOOD : Hid ((code ≠ 0 → (⟨E, hels Ze⟩ : Crs) = noCrs) ∧ (code = 0 → ¬ E.lt ⟨Ml, Me⟩ ∧ ackedC ⟨E, hels Ze⟩ ⟨ppl, ppe⟩ ∧ ∀ q, hasP X o q = true → (ackedC ⟨E, hels Ze⟩ q ↔ ackedC CC q ∨ ¬ (Ps.mk ppl ppe).lt q))) := Lib.hid (by rw [hcode]; exact GOODL.out _ ET.out)
    clear hcode b9
    go_upto_region 8 with (fail)
    rw [← hW]
    clear hW v0 v1 v2 v3 v4 v5
    obtain ⟨Dl, De⟩ := E
    simp only at DW DCW GOOD ⊢
    have d0 : ∀ z, Frm [] W z → z.cell? ⟨y8, 0, none⟩ = some (.int .u64 (Dl : Nat)) := fun z hz => (hz.whole DW.out (by simp)).cell 0
    have d1 : ∀ z, Frm [] W z → z.cell? ⟨y8, 1, none⟩ = some (.int .u64 (De : Nat)) := fun z hz => (hz.whole DW.out (by simp)).cell 1
    have d2 : ∀ z, Frm [] W z → z.cell? ⟨y8, 2, none⟩ = some (.slice ae en ce) := fun z hz => (hz.whole DW.out (by simp)).cell 2
    have NB : Hid (g ≠ y8 ∧ g + 1 ≠ y8 ∧ g + 1 + 1 ≠ y8) := Lib.hid (by have h1 := C3.out.lt; have h2 := Y8.out; omega)
    have FX0 : Hid (∀ z, Frm [] W z → Frm [] w z) := Lib.hid (fun z hz => FW7.out.trans (FW.out.trans hz (U := [y8]) (by simp) (by simp)) (by simp) (fun x hx => .inr (by simp at hx; have h1 := Y8.out; have h2 := FW7.out.size; omega)))
    have j0 : ∀ z, Frm [] W z → z.cell? ⟨g, 0, none⟩ = some (.int .u64 (Ml : Nat)) := fun z hz => ((FW.out.trans hz (U := [y8]) (by simp) (by simp)).whole C1.out (by have := NB.out; simp; omega)).cell 0
    have j1 : ∀ z, Frm [] W z → z.cell? ⟨g, 1, none⟩ = some (.int .u64 (Me : Nat)) := fun z hz => ((FW.out.trans hz (U := [y8]) (by simp) (by simp)).whole C1.out (by have := NB.out; simp; omega)).cell 1
    have j2 : ∀ z, Frm [] W z → z.cell? ⟨g, 2, none⟩ = some (.slice az zn cz) := fun z hz => ((FW.out.trans hz (U := [y8]) (by simp) (by simp)).whole C1.out (by have := NB.out; simp; omega)).cell 2
    have j3 : ∀ z, Frm [] W z → z.cell? ⟨g + 1, 0, none⟩ = some (.int .u64 (ppl : Nat)) := fun z hz => ((FW.out.trans hz (U := [y8]) (by simp) (by simp)).whole C2.out (by have := NB.out; simp; omega)).cell 0
    have j4 : ∀ z, Frm [] W z → z.cell? ⟨g + 1, 1, none⟩ = some (.int .u64 (ppe : Nat)) := fun z hz => ((FW.out.trans hz (U := [y8]) (by simp) (by simp)).whole C2.out (by have := NB.out; simp; omega)).cell 1
    have j5 : ∀ z, Frm [] W z → z.cell? ⟨g + 1 + 1, 0, none⟩ = some (.int .u64 (qql : Nat)) := fun z hz => ((FW.out.trans hz (U := [y8]) (by simp) (by simp)).whole C3.out (by have := NB.out; simp; omega)).cell 0
    have j6 : ∀ z, Frm [] W z → z.cell? ⟨g + 1 + 1, 1, none⟩ = some (.int .u64 (qqe : Nat)) := fun z hz => ((FW.out.trans hz (U := [y8]) (by simp) (by simp)).whole C3.out (by have := NB.out; simp; omega)).cell 1
    clear k0 k1 k2 k3 k4
    by_cases hc0 : code = 0
    rotate_left 1
    · have hn := GOOD.out.1 hc0
      have hD : (⟨Dl, De⟩ : Ps) = ⟨0, 0⟩ := congrArg Crs.mark hn
      have hZ : en = 0 := by
        have h1 := congrArg Crs.held hn
        have h2 := DCW.out.len
        have h3 := congrArg List.length h1
        simp only [hels_length] at h3
        rw [h2, h3]; rfl
      injection hD with hD1 hD2
      subst hD1 hD2 hZ
      have e1 : ((code : Int) != 0) = true := by simp; omega
      have y0 := d0 _ (Frm.refl _ _)
      have y1 := d1 _ (Frm.refl _ _)
      have y2 := d2 _ (Frm.refl _ _)
      have eqz : ∀ w : World, (binOp .eql 25 (.agg #[.int .u64 0, .int .u64 0]) (.agg #[.int .u64 0, .int .u64 0])).run Try.prog w = .ok (.bool true) w := fun w => eql_ps 0 0 0 0 w
      have FX := Lib.hid (FX0.out _ (Frm.refl _ _))
      clear d0 d1 d2 j0 j1 j2 j3 j4 j5 j6 hc0 hn
      go_wp2
      go_ret
      exact lTrue FX.out
    obtain ⟨GE, GP, GQ⟩ := GOOD.out.2 hc0
    have GE := Lib.hid GE
    have GP := Lib.hid GP
    have GQ := Lib.hid (GQ ⟨qql, qqe⟩)
    subst hc0
    have ORD := Lib.hid (fun z => ldorder_any ⟨Dl, De⟩ ⟨Ml, Me⟩ z)
    obtain ⟨c, hc⟩ : ∃ c, c = ordP ⟨Dl, De⟩ ⟨Ml, Me⟩ := ⟨_, rfl⟩
    rw [← hc] at ORD
    have nc : decide (c < 0) = false := decide_eq_false (fun h => by rw [hc] at h; exact GE.out (ordP_neg.1 h))
    clear hc
    have AKD := Lib.hid (fun z (hz : Frm [] W z) => (cqacked_any (cap := ce) ⟨Dl, De⟩ ae en [] Ze ⟨ppl, ppe⟩ z (DCW.out.sub hz).hl DCW.out.ok.srt DCW.out.len (DCW.out.small (by omega)).1 (DCW.out.rgs (by omega))).mono fun e w' hh => BoolOf.yes hh GP.out)
    have CHK := Lib.hid (fun z (hz : Frm [] W z) => (cqcheck_any ⟨Dl, De⟩ ae en ce [] Ze z (DCW.out.sub hz).hl DCW.out.len (DCW.out.small (by omega)).1 (DCW.out.small (by omega)).2).mono fun e w' hh => BoolOf.yes hh ((rtc_iff _).2 DCW.out.ok))
    have AKQ := Lib.hid (fun z (hz : Frm [] W z) => cqacked_any (cap := ce) ⟨Dl, De⟩ ae en [] Ze ⟨qql, qqe⟩ z (DCW.out.sub hz).hl DCW.out.ok.srt DCW.out.len (DCW.out.small (by omega)).1 (DCW.out.rgs (by omega)))
    have CIW : Hid (Cin W [] ⟨Ml, Me⟩ az zn cz Z 14) := Lib.hid (CI7.out.keep FW.out (F' := []) (fun x hx => .inr (by simp at hx; have := Y8.out; omega)) (by simp))
    have LW : Hid (Lds14 W [] a k X o) := Lib.hid (L7.out.keep FW.out (F' := []) (fun x hx => .inr (by simp at hx; have := Y8.out; omega)) (by simp))
    have AKC3 := Lib.hid (fun z (hz : Frm [] W z) => cqacked_any (cap := cz) ⟨Ml, Me⟩ az zn [] Z ⟨qql, qqe⟩ z (CIW.out.sub hz).hl CIW.out.ok.srt CIW.out.len (CIW.out.small (by omega)).1 (CIW.out.rgs (by omega)))
    have HAS3 := Lib.hid (fun z (hz : Frm [] W z) => ldhas_any a k cap X o ⟨qql, qqe⟩ z (LW.out.l.sub hz) LW.out.len (by have := LW.out.few; omega))
    rw [← HCC.out] at AKC3
    rw [← HQ9.out] at HAS3 GQ
    unfold LRet Ps.val at HAS3
    unfold crsV Ps.val at AKC3
    simp only at HAS3 AKC3
    unfold LRet Ps.val at ORD
    unfold crsV Ps.val at AKD AKQ
    unfold crsV at CHK
    simp only at ORD AKD AKQ CHK
    have x0 := d0 _ (Frm.refl _ _)
    have x1 := d1 _ (Frm.refl _ _)
    have x2 := j0 _ (Frm.refl _ _)
    have x3 := j1 _ (Frm.refl _ _)
    go_wp2_with fail
    (with_reducible refine (ORD.out _).mono ?_)
    rintro e v1 ⟨rfl, hv1⟩
    have G1 := Lib.hid hv1
    clear x0 x1 x2 x3
    have x0 := d0 _ hv1
    have x1 := d1 _ hv1
    have x2 := d2 _ hv1
    have x3 := j3 _ hv1
    have x4 := j4 _ hv1
    clear hv1
    go_wp2_with fail
    (with_reducible refine (AKD.out _ G1.out).mono ?_)
    rintro e v2 ⟨rfl, hv2⟩
    clear x0 x1 x2 x3 x4
    have hv2 := G1.out.trans hv2 (U := []) (by simp) (by simp)
    have G2 := Lib.hid hv2
    have x0 := d0 _ hv2
    have x1 := d1 _ hv2
    have x2 := d2 _ hv2
    clear hv2
    go_wp2_with fail
    (with_reducible refine (CHK.out _ G2.out).mono ?_)
    rintro e v3 ⟨rfl, hv3⟩
    clear x0 x1 x2
    have hv3 := G2.out.trans hv3 (U := []) (by simp) (by simp)
    have G3 := Lib.hid hv3
    have x0 := j0 _ hv3
    have x1 := j1 _ hv3
    have x2 := j2 _ hv3
    have x3 := j5 _ hv3
    have x4 := j6 _ hv3
    clear hv3
    have AKCW := Lib.hid (AKC3.out v3 G3.out)
    go_wp2_with fail
    (with_reducible refine AKCW.out.mono ?_)
    rintro e v4 ⟨bw, rfl, hbw, hv4⟩
    have BWF := Lib.hid hbw
    clear x0 x1 x2 x3 x4 hbw
    have hv4 := G3.out.trans hv4 (U := []) (by simp) (by simp)
    have G4 := Lib.hid hv4
    clear hv4
    have ORQ := Lib.hid (fun z => ldorder_any ⟨qql, qqe⟩ ⟨ppl, ppe⟩ z)
    obtain ⟨c2, hc2⟩ : ∃ c, c = ordP ⟨qql, qqe⟩ ⟨ppl, ppe⟩ := ⟨_, rfl⟩
    rw [← hc2] at ORQ
    have C2F : Hid (c2 ≤ 0 ↔ ¬ (Ps.mk ppl ppe).lt ⟨qql, qqe⟩) := Lib.hid (by rw [hc2]; exact ordP_le)
    clear hc2
    unfold LRet Ps.val at ORQ
    simp only at ORQ
    cases bw
    · have NAK : Hid (¬ ackedC CC ⟨qql, qqe⟩) := Lib.hid (fun h => by have := BWF.out.2 h; cases this)
      have x0 := j5 _ G4.out
      have x1 := j6 _ G4.out
      have x2 := j3 _ G4.out
      have x3 := j4 _ G4.out
      go_wp2_with fail
      (with_reducible refine (ORQ.out _).mono ?_)
      rintro e v5 ⟨rfl, hv5⟩
      have G5 := Lib.hid (G4.out.trans hv5 (U := []) (by simp) (by simp))
      clear x0 x1 x2 x3 hv5
      by_cases hle : c2 ≤ 0
      · have t1 : decide (c2 ≤ 0) = true := decide_eq_true hle
        have LE := Lib.hid (C2F.out.1 hle)
        clear hle
        have x0 := j5 _ G5.out
        have x1 := j6 _ G5.out
        go_wp2_with fail
        (with_reducible refine (HAS3.out _ G5.out).mono ?_)
        rintro e v6 ⟨rfl, hv6⟩
        have hv6 := G5.out.trans hv6 (U := []) (by simp) (by simp)
        clear x0 x1
        cases hq9
        · have FX := Lib.hid (FX0.out _ hv6)
          clear d0 d1 d2 j0 j1 j2 j3 j4 j5 j6 hv6
          go_wp2
          go_ret
          exact lTrue FX.out
        have G6 := Lib.hid hv6
        have x0 := d0 _ hv6
        have x1 := d1 _ hv6
        have x2 := d2 _ hv6
        have x3 := j5 _ hv6
        have x4 := j6 _ hv6
        clear hv6
        have GQ2 := Lib.hid (GQ.out rfl)
        clear GQ
        go_wp2_with fail
        (with_reducible refine (AKQ.out _ G6.out).mono ?_)
        rintro e v7 ⟨bd, rfl, hbd, hv7⟩
        have BDF := Lib.hid hbd
        have hv7 := G6.out.trans hv7 (U := []) (by simp) (by simp)
        clear hbd x0 x1 x2 x3 x4
        have FX := Lib.hid (FX0.out _ hv7)
        have x3 := j5 _ hv7
        have x4 := j6 _ hv7
        have x5 := j3 _ hv7
        have x6 := j4 _ hv7
        have eqp : ∀ w : World, (binOp .eql 25 (.agg #[.int .u64 (qql : Nat), .int .u64 (qqe : Nat)]) (.agg #[.int .u64 (ppl : Nat), .int .u64 (ppe : Nat)])).run Try.prog w = .ok (.bool (decide ((⟨qql, qqe⟩ : Ps) = ⟨ppl, ppe⟩))) w := fun w => eql_ps _ _ _ _ w
        obtain ⟨dq, hdq⟩ : ∃ dq, dq = decide ((⟨qql, qqe⟩ : Ps) = ⟨ppl, ppe⟩) := ⟨_, rfl⟩
        rw [← hdq] at eqp
        have DQ : Hid (dq = true ↔ (⟨qql, qqe⟩ : Ps) = ⟨ppl, ppe⟩) := Lib.hid (by rw [hdq, decide_eq_true_iff])
        clear hdq d0 d1 d2 j0 j1 j2 j3 j4 j5 j6 hv7
        obtain rfl : bd = true := BDF.out.2 (GQ2.out.2 (.inr LE.out))
        go_wp2
        go_ret
        exact lTrue FX.out
      · have t1 : decide (c2 ≤ 0) = false := decide_eq_false hle
        have NLE := Lib.hid (fun h => hle (C2F.out.2 h))
        clear hle
        have x0 := j5 _ G5.out
        have x1 := j6 _ G5.out
        go_wp2_with fail
        (with_reducible refine (HAS3.out _ G5.out).mono ?_)
        rintro e v6 ⟨rfl, hv6⟩
        have hv6 := G5.out.trans hv6 (U := []) (by simp) (by simp)
        clear x0 x1
        cases hq9
        · have FX := Lib.hid (FX0.out _ hv6)
          clear d0 d1 d2 j0 j1 j2 j3 j4 j5 j6 hv6
          go_wp2
          go_ret
          exact lTrue FX.out
        have G6 := Lib.hid hv6
        have x0 := d0 _ hv6
        have x1 := d1 _ hv6
        have x2 := d2 _ hv6
        have x3 := j5 _ hv6
        have x4 := j6 _ hv6
        clear hv6
        have GQ2 := Lib.hid (GQ.out rfl)
        clear GQ
        go_wp2_with fail
        (with_reducible refine (AKQ.out _ G6.out).mono ?_)
        rintro e v7 ⟨bd, rfl, hbd, hv7⟩
        have BDF := Lib.hid hbd
        have hv7 := G6.out.trans hv7 (U := []) (by simp) (by simp)
        clear hbd x0 x1 x2 x3 x4
        have FX := Lib.hid (FX0.out _ hv7)
        have x3 := j5 _ hv7
        have x4 := j6 _ hv7
        have x5 := j3 _ hv7
        have x6 := j4 _ hv7
        have eqp : ∀ w : World, (binOp .eql 25 (.agg #[.int .u64 (qql : Nat), .int .u64 (qqe : Nat)]) (.agg #[.int .u64 (ppl : Nat), .int .u64 (ppe : Nat)])).run Try.prog w = .ok (.bool (decide ((⟨qql, qqe⟩ : Ps) = ⟨ppl, ppe⟩))) w := fun w => eql_ps _ _ _ _ w
        obtain ⟨dq, hdq⟩ : ∃ dq, dq = decide ((⟨qql, qqe⟩ : Ps) = ⟨ppl, ppe⟩) := ⟨_, rfl⟩
        rw [← hdq] at eqp
        have DQ : Hid (dq = true ↔ (⟨qql, qqe⟩ : Ps) = ⟨ppl, ppe⟩) := Lib.hid (by rw [hdq, decide_eq_true_iff])
        clear hdq d0 d1 d2 j0 j1 j2 j3 j4 j5 j6 hv7
        obtain rfl : bd = dq := by
          have h1 : bd = false := by
            cases bd with
            | false => rfl
            | true => exact absurd (GQ2.out.1 (BDF.out.1 rfl)) (fun h => h.elim NAK.out NLE.out)
          have h2 : dq = false := by
            cases dq with
            | false => rfl
            | true => exact absurd (DQ.out.1 rfl) (fun h => NLE.out (by rw [h]; exact Ps.lt_irrefl _))
          rw [h1, h2]
        have eqb : (bd == bd) = true := by simp
        go_wp2
        go_ret
        exact lTrue FX.out
    · have YAK := Lib.hid (BWF.out.1 rfl)
      have x0 := j5 _ G4.out
      have x1 := j6 _ G4.out
      go_wp2_with fail
      (with_reducible refine (HAS3.out _ G4.out).mono ?_)
      rintro e v6 ⟨rfl, hv6⟩
      have hv6 := G4.out.trans hv6 (U := []) (by simp) (by simp)
      clear x0 x1
      cases hq9
      · have FX := Lib.hid (FX0.out _ hv6)
        clear d0 d1 d2 j0 j1 j2 j3 j4 j5 j6 hv6
        go_wp2
        go_ret
        exact lTrue FX.out
      have G6 := Lib.hid hv6
      have x0 := d0 _ hv6
      have x1 := d1 _ hv6
      have x2 := d2 _ hv6
      have x3 := j5 _ hv6
      have x4 := j6 _ hv6
      clear hv6
      have GQ2 := Lib.hid (GQ.out rfl)
      clear GQ
      go_wp2_with fail
      (with_reducible refine (AKQ.out _ G6.out).mono ?_)
      rintro e v7 ⟨bd, rfl, hbd, hv7⟩
      have BDF := Lib.hid hbd
      have hv7 := G6.out.trans hv7 (U := []) (by simp) (by simp)
      clear hbd x0 x1 x2 x3 x4
      have FX := Lib.hid (FX0.out _ hv7)
      have x3 := j5 _ hv7
      have x4 := j6 _ hv7
      have x5 := j3 _ hv7
      have x6 := j4 _ hv7
      have eqp : ∀ w : World, (binOp .eql 25 (.agg #[.int .u64 (qql : Nat), .int .u64 (qqe : Nat)]) (.agg #[.int .u64 (ppl : Nat), .int .u64 (ppe : Nat)])).run Try.prog w = .ok (.bool (decide ((⟨qql, qqe⟩ : Ps) = ⟨ppl, ppe⟩))) w := fun w => eql_ps _ _ _ _ w
      obtain ⟨dq, hdq⟩ : ∃ dq, dq = decide ((⟨qql, qqe⟩ : Ps) = ⟨ppl, ppe⟩) := ⟨_, rfl⟩
      rw [← hdq] at eqp
      have DQ : Hid (dq = true ↔ (⟨qql, qqe⟩ : Ps) = ⟨ppl, ppe⟩) := Lib.hid (by rw [hdq, decide_eq_true_iff])
      clear hdq d0 d1 d2 j0 j1 j2 j3 j4 j5 j6 hv7
      obtain rfl : bd = true := BDF.out.2 (GQ2.out.2 (.inl YAK.out))
      go_wp2
      go_ret
      exact lTrue FX.out
end Go.Proofs.Ytghadpihmhaepaa
