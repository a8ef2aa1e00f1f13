/- The walk of CursorSwap. -/
import Derived.Test.YtghadpihmhaepaaZCqSwapM
import Derived.Test.YtghadpihmhaepaaZCqBacklog
import Derived.Test.YtghadpihmhaepaaMB
import Derived.Test.YtghadpihmhaepaaZCuAk
import Derived.Test.YtghadpihmhaepaaZTail
namespace Go.Proofs.Ytghadpihmhaepaa
open Go.RowKit
set_option maxRecDepth 100000

/-- What is acked up to a place, of the first k. -/
def EachOk (X : List Ld) (o : Nat) (c : Crs) (p : Ps) (k : Nat) (E : Crs) : Prop := ∀ r ∈ allP X o, ackedC E r ↔ ackedC c r ∨ (r ∈ (allP X o).take k ∧ ¬ p.lt r)
theorem EachOk.zero (X : List Ld) (o : Nat) (c : Crs) (p : Ps) : EachOk X o c p 0 c := fun r _ => by simp
theorem take_mem {L : List Ps} {k : Nat} (hk : k < L.length) (r : Ps) : r ∈ L.take (k + 1) ↔ r ∈ L.take k ∨ r = L.getD k default := by
  rw [List.take_succ_eq_append_getElem hk, List.mem_append, List.mem_singleton]
  simp [hk]
theorem EachOk.skip {X : List Ld} {o : Nat} {c : Crs} {p : Ps} {k : Nat} {E : Crs} (h : EachOk X o c p k E) (hk : k < (allP X o).length) (hy : p.lt ((allP X o).getD k default) ∨ ackedC E ((allP X o).getD k default)) : EachOk X o c p (k + 1) E := fun r hr => by
  rw [take_mem hk]
  constructor
  · intro h1
    exact ((h r hr).1 h1).imp id (fun h2 => ⟨.inl h2.1, h2.2⟩)
  · rintro (h1 | ⟨h1 | rfl, h2⟩)
    · exact (h r hr).2 (.inl h1)
    · exact (h r hr).2 (.inr ⟨h1, h2⟩)
    · exact hy.elim (fun h3 => absurd h3 h2) id
theorem EachOk.next {X : List Ld} {o : Nat} {c : Crs} {p : Ps} {k : Nat} {E D : Crs} (h : EachOk X o c p k E) (hk : k < (allP X o).length) (hy : ¬ p.lt ((allP X o).getD k default)) (hD : ∀ r ∈ allP X o, ackedC D r ↔ ackedC E r ∨ r = (allP X o).getD k default) : EachOk X o c p (k + 1) D := fun r hr => by
  rw [take_mem hk, hD r hr, h r hr]
  constructor
  · rintro ((h1 | h1) | rfl)
    · exact .inl h1
    · exact .inr ⟨.inl h1.1, h1.2⟩
    · exact .inr ⟨.inr rfl, hy⟩
  · rintro (h1 | ⟨h1 | h1, h2⟩)
    · exact .inl (.inl h1)
    · exact .inl (.inr ⟨h1, h2⟩)
    · exact .inr h1
set_option maxHeartbeats 32000000 in
theorem cursorSwap_walk (ac : Option Addr) (n capc : Nat) (cs : List Nat) (op : Bool) (ob : Nat) (cu : Ps × Option Addr × Nat × Nat × List Hx) (p q : Ps) (w : World) (hn : n = cs.length) (hb : Bytes w ac cs) (_hc1 : n ≤ capc) (_hc2 : ac = none → capc = 0) (_hob : ob < 256) (hcu : CrsIn w cu.1 cu.2.1 cu.2.2.1 cu.2.2.2.1 cu.2.2.2.2) (hp : p.fits) (hq : q.fits) :
    Calls Try.prog 8 #[.slice ac n capc, .bool op, .int .u8 (ob : Nat), crsV cu.1 cu.2.1 cu.2.2.1 cu.2.2.2.1, p.val, q.val] w (LTrue w) := by
  obtain ⟨m, ah, nh, ch, Y⟩ := cu
  simp only at hcu ⊢
  obtain ⟨w1, hw1⟩ : ∃ w1, w1 = ((w.alloc (.cells #[.int .u64 (m.l : Nat), .int .u64 (m.e : Nat), .slice ah nh ch] 28)).alloc (.cells #[.int .u64 (p.l : Nat), .int .u64 (p.e : Nat)] 25)).alloc (.cells #[.int .u64 (q.l : Nat), .int .u64 (q.e : Nat)] 25) := ⟨_, rfl⟩
  have F1 : Hid (Frm [] w w1) := Lib.hid (by rw [hw1]; exact (((Frm.refl _ _).alloc _).alloc _).alloc _)
  obtain ⟨g, hg⟩ : ∃ g, g = w.heap.size := ⟨_, rfl⟩
  have B1 : Hid (Whole w1 g 28 #[.int .u64 (m.l : Nat), .int .u64 (m.e : Nat), .slice ah nh ch]) := Lib.hid (by rw [hw1, hg]; exact ((Whole.made _ _ _).alloc _).alloc _)
  have B2 : Hid (Whole w1 (g + 1) 25 #[.int .u64 (p.l : Nat), .int .u64 (p.e : Nat)]) := Lib.hid (by
    rw [hw1, hg]
    have := Whole.made (w.alloc (.cells #[.int .u64 (m.l : Nat), .int .u64 (m.e : Nat), .slice ah nh ch] 28)) 25 #[.int .u64 (p.l : Nat), .int .u64 (p.e : Nat)]
    rw [World.size_alloc] at this
    exact this.alloc _)
  have B3 : Hid (Whole w1 (g + 1 + 1) 25 #[.int .u64 (q.l : Nat), .int .u64 (q.e : Nat)]) := Lib.hid (by
    rw [hw1, hg]
    have := Whole.made ((w.alloc (.cells #[.int .u64 (m.l : Nat), .int .u64 (m.e : Nat), .slice ah nh ch] 28)).alloc (.cells #[.int .u64 (p.l : Nat), .int .u64 (p.e : Nat)] 25)) 25 #[.int .u64 (q.l : Nat), .int .u64 (q.e : Nat)]
    rwa [World.size_alloc, World.size_alloc] at this)
  have GS : Hid (w.heap.size ≤ g) := Lib.hid (by omega)
  have AW := Lib.hid (fun z => awake14_any z)
  have MD := Lib.hid (fun z (hz : Frm [] w z) => made14_any ac n capc cs op z hn (hz.bytes hb (by simp)))
  have PP := Lib.hid (fun z => ldplace_any p false z)
  have PQ := Lib.hid (fun z => ldplace_any q false z)
  have PF := Lib.hid (placeP_fits p false hp)
  have QF := Lib.hid (placeP_fits q false hq)
  have MF := Lib.hid (placeP_fits m false hcu.fits)
  have RT := Lib.hid (fun z (hz : Frm [] w1 z) => cqright_any m ah nh ch [g, g + 1, g + 1 + 1] Y false w z hcu (F1.out.trans hz (by simp) (by simp)) (fun x hx => by
    have h1 := hz.size
    have h2 := B3.out.lt
    simp at hx; omega))
  obtain ⟨p', hp'⟩ : ∃ p', p' = placeP p false := ⟨_, rfl⟩
  obtain ⟨q', hq'⟩ : ∃ q', q' = placeP q false := ⟨_, rfl⟩
  obtain ⟨M, hM⟩ : ∃ M, M = placeP m false := ⟨_, rfl⟩
  rw [← hp'] at PP PF
  rw [← hq'] at PQ QF
  rw [← hM] at MF RT
  clear hn hb _hc1 _hc2 hp hp' hM hcu hq hq'
  obtain ⟨o, ho⟩ : ∃ o, o = ob % 6 := ⟨_, rfl⟩
  have ho1 : (ob : Int) % 6 = (o : Int) := by omega
  have ho2 : (ob : Int).tmod 6 = (o : Int) := by rw [ho]; rfl
  have ho3 : IntKind.u8.wrap (o : Int) = (o : Int) := by simp [IntKind.wrap, IntKind.bits, IntKind.signed]; omega
  have ho4 : IntKind.u64.wrap (o : Int) = (o : Int) := by simp [IntKind.wrap, IntKind.bits, IntKind.signed]; omega
  have O5 : Hid (o ≤ 5) := Lib.hid (by omega)
  clear ho
  obtain ⟨ml, me⟩ := m
  obtain ⟨pl, pe⟩ := p
  obtain ⟨ql, qe⟩ := q
  obtain ⟨Ml, Me⟩ := M
  obtain ⟨ppl, ppe⟩ := p'
  obtain ⟨qql, qqe⟩ := q'
  unfold LRet at AW
  unfold LRet Ps.val at PP PQ
  unfold crsV Ps.val
  unfold crsV at RT
  simp only at hw1 B1 B2 B3 PP PQ RT MF PF QF ⊢
  have HW1 := Lib.hid hw1; clear hw1
  go_enter Try.func8, Try.ntmps8
  go_wp2_with fail
  rw [← HW1.out, ← hg]
  have HG := Lib.hid hg; clear hg
  (with_reducible refine (AW.out _).mono ?_)
  rintro e w2 ⟨rfl, hf2⟩
  have F2 : Hid (Frm [] w1 w2) := Lib.hid hf2
  clear hf2 AW
  go_wp2_with fail
  (with_reducible refine (MD.out _ (F1.out.trans F2.out (by simp) (by simp))).mono ?_)
  intro e w5 hmd
  obtain ⟨a, k, cap, X, rfl, LDS, hf5⟩ := hmd.lds (F := [g, g + 1, g + 1 + 1]) (fun x hx => by
    have h1 := F2.out.size
    have h2 := B3.out.lt
    simp at hx; omega) O5.out
  have F5 : Hid (Frm [] w1 w5) := Lib.hid (F2.out.trans hf5 (by simp) (by simp))
  have LDS := Lib.hid LDS
  clear hf5 MD hmd
  have b1 := F5.out.whole B1.out (by simp)
  have b2 := F5.out.whole B2.out (by simp)
  have r0 : ∀ z, Frm [] w5 z → z.cell? ⟨g, 0, none⟩ = some (.int .u64 (ml : Nat)) := fun z hz => (hz.whole b1 (by simp)).cell 0
  have r1 : ∀ z, Frm [] w5 z → z.cell? ⟨g, 1, none⟩ = some (.int .u64 (me : Nat)) := fun z hz => (hz.whole b1 (by simp)).cell 1
  have r2 : ∀ z, Frm [] w5 z → z.cell? ⟨g, 2, none⟩ = some (.slice ah nh ch) := fun z hz => (hz.whole b1 (by simp)).cell 2
  have r3 : ∀ z, Frm [] w5 z → z.cell? ⟨g + 1, 0, none⟩ = some (.int .u64 (pl : Nat)) := fun z hz => (hz.whole b2 (by simp)).cell 0
  have r4 : ∀ z, Frm [] w5 z → z.cell? ⟨g + 1, 1, none⟩ = some (.int .u64 (pe : Nat)) := fun z hz => (hz.whole b2 (by simp)).cell 1
  have f0 : ∀ z, Frm [] w5 z → z.frozen? ⟨g, 0, none⟩ = false := fun z hz => (hz.whole b1 (by simp)).free 0
  have f1 : ∀ z, Frm [] w5 z → z.frozen? ⟨g, 1, none⟩ = false := fun z hz => (hz.whole b1 (by simp)).free 1
  have f2 : ∀ z, Frm [] w5 z → z.frozen? ⟨g, 2, none⟩ = false := fun z hz => (hz.whole b1 (by simp)).free 2
  have f3 : ∀ z, Frm [] w5 z → z.frozen? ⟨g + 1, 0, none⟩ = false := fun z hz => (hz.whole b2 (by simp)).free 0
  have f4 : ∀ z, Frm [] w5 z → z.frozen? ⟨g + 1, 1, none⟩ = false := fun z hz => (hz.whole b2 (by simp)).free 1
  have b3 := F5.out.whole B3.out (by simp)
  have r5 : ∀ z, Frm [] w5 z → z.cell? ⟨g + 1 + 1, 0, none⟩ = some (.int .u64 (ql : Nat)) := fun z hz => (hz.whole b3 (by simp)).cell 0
  have r6 : ∀ z, Frm [] w5 z → z.cell? ⟨g + 1 + 1, 1, none⟩ = some (.int .u64 (qe : Nat)) := fun z hz => (hz.whole b3 (by simp)).cell 1
  have f5 : ∀ z, Frm [] w5 z → z.frozen? ⟨g + 1 + 1, 0, none⟩ = false := fun z hz => (hz.whole b3 (by simp)).free 0
  have f6 : ∀ z, Frm [] w5 z → z.frozen? ⟨g + 1 + 1, 1, none⟩ = false := fun z hz => (hz.whole b3 (by simp)).free 1
  have BB := Lib.hid (And.intro b1 b2)
  have BB3 := Lib.hid b3
  have RX := Lib.hid (fun z (hz : Frm [] w5 z) => RT.out z (F5.out.trans hz (by simp) (by simp)))
  clear b1 b2 b3 RT
  go_upto_region 4 with (fail)
  refine wp_region_tail (S := fun w' => Frm [] w5 w') (tl := (fun j => decide (6 ≤ j))) (by kernel_rfl) (Frm.drew (Frm.refl _ _)) (fun hHeld => ?_)
  refine tail_take (i := 0) (oi := ⟨some 36, _, _, _, _, _⟩) (v := ?_) rfl (by kernel_rfl) (by kernel_rfl) (by kernel_rfl) (by kernel_rfl) (by kernel_rfl) (fun _ _ _ h => h) (Or.inl ⟨by rfl, ?_⟩) (by assumption) ?_
  rotate_left 1
  · (intro w hSw; (try dsimp only at hSw); go_simp; all_goals with_reducible rfl)
  try simp only [Act.put, List.setIfInBounds_toArray, List.set_cons_zero, List.set_cons_succ]
  refine tail_take (i := 2) (oi := ⟨some 38, _, _, _, _, _⟩) (v := ?_) rfl (by kernel_rfl) (by kernel_rfl) (by kernel_rfl) (by kernel_rfl) (by kernel_rfl) (fun _ _ _ h => h) (Or.inl ⟨by rfl, ?_⟩) (by assumption) ?_
  rotate_left 1
  · (intro w hSw; (try dsimp only at hSw); go_simp; all_goals with_reducible rfl)
  try simp only [Act.put, List.setIfInBounds_toArray, List.set_cons_zero, List.set_cons_succ]
  refine tail_take (i := 4) (oi := ⟨some 40, _, _, _, _, _⟩) (v := ?_) rfl (by kernel_rfl) (by kernel_rfl) (by kernel_rfl) (by kernel_rfl) (by kernel_rfl) (fun _ _ _ h => h) (Or.inl ⟨by rfl, ?_⟩) (by assumption) ?_
  rotate_left 1
  · (intro w hSw; (try dsimp only at hSw); go_simp; all_goals with_reducible rfl)
  try simp only [Act.put, List.setIfInBounds_toArray, List.set_cons_zero, List.set_cons_succ]
  refine tail_one (i := 1) (o := ⟨some 37, _, _, _, _, _⟩) (by kernel_rfl) rfl (fun K hK => ?_)
  go_simp
  ((with_reducible refine (RX.out _ (by repeat (first | assumption | apply Frm.drew | exact Frm.refl _ _))).mono ?_); intro e w6 hre; obtain ⟨Z, az, zn, cz, rfl, hci, hf6⟩ := RightEnd.cin2 hre MF.out.2; clear hre; have CI := Lib.hid hci; clear hci; have S1 : Frm [] w5 w6 := Frm.trans (by repeat (first | assumption | apply Frm.drew | exact Frm.refl _ _)) hf6 (by simp) (by simp); clear hf6)
  go_wp2_with fail
  refine hK.out _ _ (fun _ => by assumption) (fun _ => ?_)
  clear hK K
  try simp only [Act.put, List.setIfInBounds_toArray, List.set_cons_zero, List.set_cons_succ]
  refine tail_one (i := 3) (o := ⟨some 39, _, _, _, _, _⟩) (by kernel_rfl) rfl (fun K hK => ?_)
  go_simp
  ((with_reducible refine (PP.out _).mono ?_); rintro e w6b ⟨rfl, hf6b⟩; have S2 : Frm [] w5 w6b := Frm.trans (by assumption) hf6b (by simp) (by simp); have CI := Lib.hid (CI.out.sub hf6b); clear hf6b)
  go_wp2_with fail
  refine hK.out _ _ (fun _ => by assumption) (fun _ => ?_)
  clear hK K
  try simp only [Act.put, List.setIfInBounds_toArray, List.set_cons_zero, List.set_cons_succ]
  refine tail_one (i := 5) (o := ⟨some 41, _, _, _, _, _⟩) (by kernel_rfl) rfl (fun K hK => ?_)
  go_simp
  ((with_reducible refine (PQ.out _).mono ?_); rintro e w6c ⟨rfl, hf6c⟩; have S3 : Frm [] w5 w6c := Frm.trans (by assumption) hf6c (by simp) (by simp); have CI := Lib.hid (CI.out.sub hf6c); clear hf6c)
  go_wp2_with fail
  refine hK.out _ _ (fun _ => by assumption) (fun _ => ?_)
  clear hK K
  try simp only [Act.put, List.setIfInBounds_toArray, List.set_cons_zero, List.set_cons_succ]
  refine tail_one (i := 6) (o := ⟨none, _, _, _, _, _⟩) (by kernel_rfl) rfl (fun K hK => ?_)
  go_simp
  refine hK.out _ _ (fun h => absurd h (by decide)) (fun _ => ?_)
  clear hK K
  try simp only [Act.put, List.setIfInBounds_toArray, List.set_cons_zero, List.set_cons_succ]
  refine tail_one (i := 7) (o := ⟨none, _, _, _, _, _⟩) (by kernel_rfl) rfl (fun K hK => ?_)
  go_simp
  refine hK.out _ _ (fun h => absurd h (by decide)) (fun _ => ?_)
  clear hK K
  try simp only [Act.put, List.setIfInBounds_toArray, List.set_cons_zero, List.set_cons_succ]
  refine tail_one (i := 8) (o := ⟨none, _, _, _, _, _⟩) (by kernel_rfl) rfl (fun K hK => ?_)
  go_simp
  refine hK.out _ _ (fun h => absurd h (by decide)) (fun _ => ?_)
  clear hK K
  try simp only [Act.put, List.setIfInBounds_toArray, List.set_cons_zero, List.set_cons_succ]
  refine tail_done (by kernel_rfl) ?_ _
  obtain ⟨w7, hw7⟩ : ∃ w7, w7 = ((((((w6c.setCell ⟨g, 0, none⟩ (.int .u64 (Ml : Nat))).setCell ⟨g, 1, none⟩ (.int .u64 (Me : Nat))).setCell ⟨g, 2, none⟩ (.slice az zn cz)).setCell ⟨g + 1, 0, none⟩ (.int .u64 (ppl : Nat))).setCell ⟨g + 1, 1, none⟩ (.int .u64 (ppe : Nat))).setCell ⟨g + 1 + 1, 0, none⟩ (.int .u64 (qql : Nat))).setCell ⟨g + 1 + 1, 1, none⟩ (.int .u64 (qqe : Nat)) := ⟨_, rfl⟩
  rw [← hw7]
  have hw6 := S3.whole BB.out.1 (by simp)
  have hw6' := S3.whole BB.out.2 (by simp)
  have hw6q := S3.whole BB3.out (by simp)
  have C1 : Hid (Whole w7 g 28 #[.int .u64 (Ml : Nat), .int .u64 (Me : Nat), .slice az zn cz]) := Lib.hid (by
    rw [hw7]
    have := ((((((hw6.put 0 (.int .u64 (Ml : Nat))).put 1 (.int .u64 (Me : Nat))).put 2 (.slice az zn cz)).other (p := ⟨g + 1, 0, none⟩) (by simp) (.int .u64 (ppl : Nat))).other (p := ⟨g + 1, 1, none⟩) (by simp) (.int .u64 (ppe : Nat))).other (p := ⟨g + 1 + 1, 0, none⟩) (by simp; omega) (.int .u64 (qql : Nat))).other (p := ⟨g + 1 + 1, 1, none⟩) (by simp; omega) (.int .u64 (qqe : Nat))
    simpa using this)
  have C2 : Hid (Whole w7 (g + 1) 25 #[.int .u64 (ppl : Nat), .int .u64 (ppe : Nat)]) := Lib.hid (by
    rw [hw7]
    have := ((((((hw6'.other (p := ⟨g, 0, none⟩) (by simp) (.int .u64 (Ml : Nat))).other (p := ⟨g, 1, none⟩) (by simp) (.int .u64 (Me : Nat))).other (p := ⟨g, 2, none⟩) (by simp) (.slice az zn cz)).put 0 (.int .u64 (ppl : Nat))).put 1 (.int .u64 (ppe : Nat))).other (p := ⟨g + 1 + 1, 0, none⟩) (by simp) (.int .u64 (qql : Nat))).other (p := ⟨g + 1 + 1, 1, none⟩) (by simp) (.int .u64 (qqe : Nat))
    simpa using this)
  have C3 : Hid (Whole w7 (g + 1 + 1) 25 #[.int .u64 (qql : Nat), .int .u64 (qqe : Nat)]) := Lib.hid (by
    rw [hw7]
    have := ((((((hw6q.other (p := ⟨g, 0, none⟩) (by simp; omega) (.int .u64 (Ml : Nat))).other (p := ⟨g, 1, none⟩) (by simp; omega) (.int .u64 (Me : Nat))).other (p := ⟨g, 2, none⟩) (by simp; omega) (.slice az zn cz)).other (p := ⟨g + 1, 0, none⟩) (by simp) (.int .u64 (ppl : Nat))).other (p := ⟨g + 1, 1, none⟩) (by simp) (.int .u64 (ppe : Nat))).put 0 (.int .u64 (qql : Nat))).put 1 (.int .u64 (qqe : Nat))
    simpa using this)
  have F67 : Frm [g, g + 1, g + 1 + 1] w6c w7 := by rw [hw7]; exact (((((((Frm.refl _ _).setCell (.inl (by simp)) _).setCell (.inl (by simp)) _).setCell (.inl (by simp)) _).setCell (.inl (by simp)) _).setCell (.inl (by simp)) _).setCell (.inl (by simp)) _).setCell (.inl (by simp)) _
  have FW7 : Hid (Frm [] w w7) := Lib.hid ((F1.out.trans (F5.out.trans S3 (U := []) (by simp) (by simp)) (U := []) (by simp) (by simp)).trans F67 (by simp) (fun x hx => .inr (by simp at hx; have := GS.out; omega)))
  have L7 : Hid (Lds14 w7 [] a k X o) := Lib.hid ((LDS.out.keep S3 (F' := [g, g + 1, g + 1 + 1]) (by simp) (fun x hx => .inl hx)).keep F67 (F' := []) (fun x hx => .inl hx) (by simp))
  have CI7 : Hid (Cin w7 [] ⟨Ml, Me⟩ az zn cz Z 14) := Lib.hid (CI.out.keep F67 (F' := []) (fun x hx => .inl hx) (by simp))
  clear hw6 hw6' hw6q F67 S1 S2 S3 r0 r1 r2 r3 r4 r5 r6 f0 f1 f2 f3 f4 f5 f6 BB BB3 LDS F5 F2 B1 B2 B3 PP PQ RX F1 ho1 ho2 ho3 ho4 GS
  have HW7 := Lib.hid hw7
  clear hw7
  have AKG := Lib.hid (fun z (F : List Nat) (m : Ps) (a' : Option Addr) (n cp : Nat) (Z' : List Hx) (b : Nat) (r : Ps) (hz : Frm [] w7 z) (h : Cin z F m a' n cp Z' b) (hb : b ≤ 300) (hF : ∀ x ∈ F, x < z.heap.size) (hr : r.fits) => cqack14_any (cl := cap) (p := r) (L7.out.keep hz (F' := []) (by simp) (by simp)) h hb hF hr)
  have ALG := Lib.hid (fun z (hz : Frm [] w7 z) => cqall14_any (cl := cap) (p := ⟨ppl, ppe⟩) (L7.out.keep hz (F' := []) (by simp) (by simp)) (CI7.out.sub hz) (by omega) (by simp) PF.out)
  have AKQ := Lib.hid (fun z (m : Ps) (a' : Option Addr) (n cp : Nat) (Z' : List Hx) (F : List Nat) (b : Nat) (r : Ps) (h : Cin z F m a' n cp Z' b) (hb : b ≤ 300) => cqacked_any (cap := cp) m a' n F Z' r z h.hl h.ok.srt h.len (h.small (by omega)).1 (h.rgs (by omega)))
  have BKG := Lib.hid (fun z (m : Ps) (a' : Option Addr) (n cp : Nat) (Z' : List Hx) (F : List Nat) (b : Nat) (hz : Frm [] w7 z) (h : Cin z F m a' n cp Z' b) (hb : b ≤ 300) => cqback_any a k cap X o m a' n cp F Z' z (L7.out.l.sub hz) L7.out.len (by have := L7.out.few; omega) (by have := O5.out; omega) L7.out.fits L7.out.right (by have := L7.out.tot; omega) h.hl h.len (by have := h.few; omega) (h.rgs (by omega)) h.ok)
  have ALL := Lib.hid (fun z (hz : Frm [] w7 z) => rlall_any a k cap X o z (L7.out.l.sub hz) L7.out.len (by have := L7.out.few; omega) (by have := L7.out.tot; omega))
  have ORG := Lib.hid (fun (r s : Ps) z => ldorder_any r s z)
  have HAS : Hid (∀ r : Ps, hasP X o r = true ↔ r ∈ allP X o) := Lib.hid (fun r => hasP_mem (o := o) (p := r) L7.out.right)
  have LEN := Lib.hid (allP_length X o)
  have T65 := Lib.hid L7.out.tot
  obtain ⟨CC, hCC⟩ : ∃ CC, CC = (⟨⟨Ml, Me⟩, hels Z⟩ : Crs) := ⟨_, rfl⟩
  have HCC := Lib.hid hCC; clear hCC
  unfold AkEnd crsV Ps.val at AKG
  unfold AkEnd crsV Ps.val at ALG
  unfold crsV Ps.val at AKQ
  unfold LRet crsV at BKG
  unfold LRet Ps.val at ORG
  simp only at ALG
  have k0 : ∀ z, Frm [] w7 z → z.cell? ⟨g, 0, none⟩ = some (.int .u64 (Ml : Nat)) := fun z hz => (hz.whole C1.out (by simp)).cell 0
  have k1 : ∀ z, Frm [] w7 z → z.cell? ⟨g, 1, none⟩ = some (.int .u64 (Me : Nat)) := fun z hz => (hz.whole C1.out (by simp)).cell 1
  have k2 : ∀ z, Frm [] w7 z → z.cell? ⟨g, 2, none⟩ = some (.slice az zn cz) := fun z hz => (hz.whole C1.out (by simp)).cell 2
  have k3 : ∀ z, Frm [] w7 z → z.cell? ⟨g + 1, 0, none⟩ = some (.int .u64 (ppl : Nat)) := fun z hz => (hz.whole C2.out (by simp)).cell 0
  have k4 : ∀ z, Frm [] w7 z → z.cell? ⟨g + 1, 1, none⟩ = some (.int .u64 (ppe : Nat)) := fun z hz => (hz.whole C2.out (by simp)).cell 1
  have x0 := k0 _ (Frm.refl _ _)
  have x1 := k1 _ (Frm.refl _ _)
  have x2 := k2 _ (Frm.refl _ _)
  have x3 := k3 _ (Frm.refl _ _)
  have x4 := k4 _ (Frm.refl _ _)
  have k5 : ∀ z, Frm [] w7 z → z.cell? ⟨g + 1 + 1, 0, none⟩ = some (.int .u64 (qql : Nat)) := fun z hz => (hz.whole C3.out (by simp)).cell 0
  have k6 : ∀ z, Frm [] w7 z → z.cell? ⟨g + 1 + 1, 1, none⟩ = some (.int .u64 (qqe : Nat)) := fun z hz => (hz.whole C3.out (by simp)).cell 1
  have A1 := Lib.hid (AKG.out w7 [] ⟨Ml, Me⟩ az zn cz Z 14 ⟨ppl, ppe⟩ (Frm.refl _ _) CI7.out (by omega) (by simp) PF.out)
  simp only at A1
  rw [← HCC.out] at A1
  obtain ⟨cA, hcA⟩ : ∃ c, c = codeA X o CC ⟨ppl, ppe⟩ := ⟨_, rfl⟩
  rw [← hcA] at A1
  have CA := Lib.hid hcA; clear hcA
  go_wp2_with fail
  (with_reducible refine A1.out.mono ?_)
  rintro e w8 ⟨D, Zd, ad, dn, cd, rfl, DC, DT, hf8⟩
  clear x0 x1 x2 x3 x4
  obtain ⟨V8, hV8⟩ : ∃ V8, V8 = w8.alloc (.cells #[.int .u64 (D.l : Nat), .int .u64 (D.e : Nat), .slice ad dn cd] 28) := ⟨_, rfl⟩
  obtain ⟨y8, hy8⟩ : ∃ y8, y8 = w8.heap.size := ⟨_, rfl⟩
  have F88 : Hid (Frm [] w8 V8) := Lib.hid (by rw [hV8]; exact (Frm.refl _ _).alloc _)
  have F8 : Hid (Frm [] w7 V8) := Lib.hid (hf8.out.trans F88.out (by simp) (by simp))
  have D8 : Hid (Whole V8 y8 28 #[.int .u64 (D.l : Nat), .int .u64 (D.e : Nat), .slice ad dn cd]) := Lib.hid (by rw [hV8, hy8]; exact Whole.made _ _ _)
  have Y8 : Hid (w7.heap.size ≤ y8 ∧ w8.heap.size ≤ y8) := Lib.hid (by rw [hy8]; exact ⟨hf8.out.size, Nat.le_refl _⟩)
  have HV8 := Lib.hid hV8; clear hV8
  have HY8 := Lib.hid hy8; clear hy8
  have A2 := Lib.hid (AKG.out V8 [y8] ⟨Ml, Me⟩ az zn cz Z 14 ⟨qql, qqe⟩ F8.out (CI7.out.keep F8.out (F' := [y8]) (by simp) (fun x hx => .inr (by simp at hx; rw [hx]; exact Y8.out.1))) (by omega) (by simp; exact D8.out.lt) QF.out)
  simp only at A2
  rw [← HCC.out] at A2
  obtain ⟨cB, hcB⟩ : ∃ c, c = codeA X o CC ⟨qql, qqe⟩ := ⟨_, rfl⟩
  rw [← hcB] at A2
  have CB := Lib.hid hcB; clear hcB
  have x0 := k0 _ F8.out
  have x1 := k1 _ F8.out
  have x2 := k2 _ F8.out
  have x5 := k5 _ F8.out
  have x6 := k6 _ F8.out
  go_upto_region 6 with (fail)
  rw [← HV8.out, ← HY8.out]
  go_wp2_with fail
  (with_reducible refine A2.out.mono ?_)
  rintro e w9 ⟨E, Ze, ae, en, ce, rfl, EC, ET, hf9⟩
  clear x0 x1 x2 x5 x6
  obtain ⟨V9, hV9⟩ : ∃ V9, V9 = w9.alloc (.cells #[.int .u64 (E.l : Nat), .int .u64 (E.e : Nat), .slice ae en ce] 28) := ⟨_, rfl⟩
  obtain ⟨y9, hy9⟩ : ∃ y9, y9 = w9.heap.size := ⟨_, rfl⟩
  have F99 : Hid (Frm [] w9 V9) := Lib.hid (by rw [hV9]; exact (Frm.refl _ _).alloc _)
  have F89 : Hid (Frm [] V8 V9) := Lib.hid (hf9.out.trans F99.out (by simp) (by simp))
  have F9 : Hid (Frm [] w7 V9) := Lib.hid (F8.out.trans F89.out (by simp) (by simp))
  have D9 : Hid (Whole V9 y9 28 #[.int .u64 (E.l : Nat), .int .u64 (E.e : Nat), .slice ae en ce]) := Lib.hid (by rw [hV9, hy9]; exact Whole.made _ _ _)
  have D89 : Hid (Whole V9 y8 28 #[.int .u64 (D.l : Nat), .int .u64 (D.e : Nat), .slice ad dn cd]) := Lib.hid (F89.out.whole D8.out (by simp))
  have Y9 : Hid (w9.heap.size ≤ y9 ∧ V8.heap.size ≤ y9 ∧ y8 < y9) := Lib.hid (by rw [hy9]; exact ⟨Nat.le_refl _, hf9.out.size, Nat.lt_of_lt_of_le D8.out.lt hf9.out.size⟩)
  have DC9 : Hid (Cin V9 [y8, y9] D ad dn cd Zd 15) := Lib.hid (DC.out.keep (F88.out.trans F89.out (U := []) (by simp) (by simp)) (by simp) (fun x hx => .inr (by simp at hx; have h1 := Y8.out; have h2 := Y9.out; omega)))
  have EC9 : Hid (Cin V9 [y8, y9] E ae en ce Ze 15) := Lib.hid (EC.out.keep F99.out (by simp) (fun x hx => by
    simp at hx
    rcases hx with rfl | rfl
    · exact .inl (by simp)
    · exact .inr Y9.out.1))
  have HV9 := Lib.hid hV9; clear hV9
  have HY9 := Lib.hid hy9; clear hy9
  have FX9 : Hid (Frm [] w V9) := Lib.hid (FW7.out.trans F9.out (by simp) (by simp))
  go_upto_region 7 with (fail)
  rw [← HV9.out, ← HY9.out]
  have x3 := k3 _ F9.out
  have x4 := k4 _ F9.out
  have x5 := k5 _ F9.out
  have x6 := k6 _ F9.out
  by_cases h1 : cA = 0
  rotate_left 1
  · have e1 : ((cA : Int) != 0) = true := by simp; omega
    clear h1 k0 k1 k2 k3 k4 k5 k6 x3 x4 x5 x6
    go_wp2
    go_ret
    exact lTrue FX9.out
  subst h1
  by_cases h2 : cB = 0
  rotate_left 1
  · have e1 : ((cB : Int) != 0) = true := by simp; omega
    clear h2 k0 k1 k2 k3 k4 k5 k6 x3 x4 x5 x6
    go_wp2
    go_ret
    exact lTrue FX9.out
  subst h2
  have eqp : ∀ w : World, (binOp .eql 25 (.agg #[.int .u64 (ppl : Nat), .int .u64 (ppe : Nat)]) (.agg #[.int .u64 (qql : Nat), .int .u64 (qqe : Nat)])).run Try.prog w = .ok (.bool (decide ((⟨ppl, ppe⟩ : Ps) = ⟨qql, qqe⟩))) w := fun w => eql_ps _ _ _ _ w
  by_cases h3 : (⟨ppl, ppe⟩ : Ps) = ⟨qql, qqe⟩
  · rw [decide_eq_true h3] at eqp
    clear h3 k0 k1 k2 k3 k4 k5 k6
    go_wp2
    go_ret
    exact lTrue FX9.out
  rw [decide_eq_false h3] at eqp
  have PQN := Lib.hid h3; clear h3
  obtain ⟨hA1, hA2⟩ := codeA_zero.1 CA.out.symm
  obtain ⟨hB1, hB2⟩ := codeA_zero.1 CB.out.symm
  have PIN : Hid ((⟨ppl, ppe⟩ : Ps) ∈ allP X o) := Lib.hid ((HAS.out _).1 hA1)
  have QIN : Hid ((⟨qql, qqe⟩ : Ps) ∈ allP X o) := Lib.hid ((HAS.out _).1 hB1)
  have NP := Lib.hid hA2
  have NQ := Lib.hid hB2
  have OKC0 : Hid (OkC CC) := Lib.hid (by rw [HCC.out]; exact CI7.out.ok)
  have TOD : Hid (AckTo X o CC ⟨ppl, ppe⟩ ⟨D, hels Zd⟩) := Lib.hid (DT.out.1 CA.out.symm)
  have TOE : Hid (AckTo X o CC ⟨qql, qqe⟩ ⟨E, hels Ze⟩) := Lib.hid (ET.out.1 CB.out.symm)
  have CD : Hid (codeA X o ⟨D, hels Zd⟩ ⟨qql, qqe⟩ = 0) := Lib.hid (codeA_zero.2 ⟨hB1, fun h => ((TOD.out.acked L7.out.right OKC0.out QIN.out).1 h).elim NQ.out (fun h => PQN.out h.symm)⟩)
  have CE : Hid (codeA X o ⟨E, hels Ze⟩ ⟨ppl, ppe⟩ = 0) := Lib.hid (codeA_zero.2 ⟨hA1, fun h => ((TOE.out.acked L7.out.right OKC0.out PIN.out).1 h).elim NP.out PQN.out⟩)
  clear hA1 hA2 hB1 hB2
  have F2 : Hid (∀ z, Frm [] V9 z → ∀ x ∈ [y8, y9], x < z.heap.size) := Lib.hid (fun z hz x hx => by
    have h1 := D9.out.lt
    have h2 := Y9.out
    have h3 := hz.size
    simp at hx; omega)
  have A3 := Lib.hid (AKG.out V9 [y8, y9] D ad dn cd Zd 15 ⟨qql, qqe⟩ F9.out DC9.out (by omega) (F2.out _ (Frm.refl _ _)) QF.out)
  simp only at A3
  rw [CD.out] at A3
  have v0 := D89.out.cell 0
  have v1 := D89.out.cell 1
  have v2 := D89.out.cell 2
  simp only [List.getElem?_toArray, List.getElem?_cons_zero, List.getElem?_cons_succ] at v0 v1 v2
  go_wp2_with fail
  (with_reducible refine A3.out.mono ?_)
  rintro e w10 ⟨D2, Zd2, ad2, dn2, cd2, rfl, D2C, D2T, hf10⟩
  clear x3 x4 x5 x6 v0 v1 v2
  have b10 := hf10.out.whole D89.out (by simp)
  have c10 := hf10.out.whole D9.out (by simp)
  have v0 := b10.cell 0
  have v1 := b10.cell 1
  have v2 := b10.cell 2
  have v3 := b10.free 0
  have v4 := b10.free 1
  have v5 := b10.free 2
  simp only [List.getElem?_toArray, List.getElem?_cons_zero, List.getElem?_cons_succ] at v0 v1 v2
  obtain ⟨V10, hV10⟩ : ∃ W, W = ((w10.setCell ⟨y8, 0, none⟩ (.int .u64 (D2.l : Nat))).setCell ⟨y8, 1, none⟩ (.int .u64 (D2.e : Nat))).setCell ⟨y8, 2, none⟩ (.slice ad2 dn2 cd2) := ⟨_, rfl⟩
  have N89 : Hid (y8 ≠ y9) := Lib.hid (by have h2 := Y9.out; omega)
  have F10S : Hid (Frm [y8] w10 V10) := Lib.hid (by rw [hV10]; exact (((Frm.refl _ _).setCell (.inl (by simp)) _).setCell (.inl (by simp)) _).setCell (.inl (by simp)) _)
  have D10 : Hid (Whole V10 y8 28 #[.int .u64 (D2.l : Nat), .int .u64 (D2.e : Nat), .slice ad2 dn2 cd2]) := Lib.hid (by
    rw [hV10]
    have := ((b10.put 0 (.int .u64 (D2.l : Nat))).put 1 (.int .u64 (D2.e : Nat))).put 2 (.slice ad2 dn2 cd2)
    simpa using this)
  have E10 : Hid (Whole V10 y9 28 #[.int .u64 (E.l : Nat), .int .u64 (E.e : Nat), .slice ae en ce]) := Lib.hid (F10S.out.whole c10 (by have := N89.out; simp; omega))
  have F9S : Hid (Frm [y8] V9 V10) := Lib.hid (hf10.out.trans F10S.out (by simp) (by simp))
  have F10 : Hid (Frm [] w7 V10) := Lib.hid (F9.out.trans F9S.out (by simp) (fun x hx => .inr (by simp at hx; rw [hx]; exact Y8.out.1)))
  have D2C10 : Hid (Cin V10 [y8, y9] D2 ad2 dn2 cd2 Zd2 16) := Lib.hid (D2C.out.keep F10S.out (fun x hx => .inl (by simp at hx; simp [hx])) (fun x hx => .inl hx))
  have EC10 : Hid (Cin V10 [y8, y9] E ae en ce Ze 15) := Lib.hid (EC9.out.keep F9S.out (fun x hx => .inl (by simp at hx; simp [hx])) (fun x hx => .inl hx))
  have A4 := Lib.hid (AKG.out V10 [y8, y9] E ae en ce Ze 15 ⟨ppl, ppe⟩ F10.out EC10.out (by omega) (fun x hx => by
    have h1 := E10.out.lt
    have h2 := D10.out.lt
    simp at hx; omega) PF.out)
  simp only at A4
  rw [CE.out] at A4
  clear b10 c10
  have x3 := k3 _ F10.out
  have x4 := k4 _ F10.out
  have u0 := E10.out.cell 0
  have u1 := E10.out.cell 1
  have u2 := E10.out.cell 2
  simp only [List.getElem?_toArray, List.getElem?_cons_zero, List.getElem?_cons_succ] at u0 u1 u2
  go_upto_region 10 with (fail)
  rw [← hV10]
  have HV10 := Lib.hid hV10
  clear hV10 v0 v1 v2 v3 v4 v5
  go_wp2_with fail
  (with_reducible refine A4.out.mono ?_)
  rintro e w11 ⟨E2, Ze2, ae2, en2, ce2, rfl, E2C, E2T, hf11⟩
  clear x3 x4 u0 u1 u2
  have b11 := hf11.out.whole E10.out (by simp)
  have c11 := hf11.out.whole D10.out (by simp)
  have v0 := b11.cell 0
  have v1 := b11.cell 1
  have v2 := b11.cell 2
  have v3 := b11.free 0
  have v4 := b11.free 1
  have v5 := b11.free 2
  simp only [List.getElem?_toArray, List.getElem?_cons_zero, List.getElem?_cons_succ] at v0 v1 v2
  obtain ⟨V11, hV11⟩ : ∃ W, W = ((w11.setCell ⟨y9, 0, none⟩ (.int .u64 (E2.l : Nat))).setCell ⟨y9, 1, none⟩ (.int .u64 (E2.e : Nat))).setCell ⟨y9, 2, none⟩ (.slice ae2 en2 ce2) := ⟨_, rfl⟩
  have F11S : Hid (Frm [y9] w11 V11) := Lib.hid (by rw [hV11]; exact (((Frm.refl _ _).setCell (.inl (by simp)) _).setCell (.inl (by simp)) _).setCell (.inl (by simp)) _)
  have E11 : Hid (Whole V11 y9 28 #[.int .u64 (E2.l : Nat), .int .u64 (E2.e : Nat), .slice ae2 en2 ce2]) := Lib.hid (by
    rw [hV11]
    have := ((b11.put 0 (.int .u64 (E2.l : Nat))).put 1 (.int .u64 (E2.e : Nat))).put 2 (.slice ae2 en2 ce2)
    simpa using this)
  have D11 : Hid (Whole V11 y8 28 #[.int .u64 (D2.l : Nat), .int .u64 (D2.e : Nat), .slice ad2 dn2 cd2]) := Lib.hid (F11S.out.whole c11 (by have := N89.out; simp; omega))
  have F10T : Hid (Frm [y9] V10 V11) := Lib.hid (hf11.out.trans F11S.out (by simp) (by simp))
  have F11 : Hid (Frm [] w7 V11) := Lib.hid (F10.out.trans F10T.out (by simp) (fun x hx => .inr (by simp at hx; have := Y8.out; have := Y9.out; omega)))
  have D2C11 : Hid (Cin V11 [] D2 ad2 dn2 cd2 Zd2 16) := Lib.hid (D2C10.out.keep F10T.out (fun x hx => .inl (by simp at hx; simp [hx])) (by simp))
  have E2C11 : Hid (Cin V11 [] E2 ae2 en2 ce2 Ze2 16) := Lib.hid (E2C.out.keep F11S.out (fun x hx => .inl (by simp at hx; simp [hx])) (by simp))
  have EQ : Hid ((⟨D2, hels Zd2⟩ : Crs) = ⟨E2, hels Ze2⟩) := Lib.hid (ack_swap L7.out.right OKC0.out PIN.out QIN.out PQN.out NP.out NQ.out TOD.out (D2T.out.1 CD.out) TOE.out (E2T.out.1 CE.out))
  have SMX : Hid (Calls Try.prog 15 #[.agg #[.int .u64 (D2.l : Nat), .int .u64 (D2.e : Nat), .slice ad2 dn2 cd2], .agg #[.int .u64 (E2.l : Nat), .int .u64 (E2.e : Nat), .slice ae2 en2 ce2]] V11 fun e w' => e = .returned (.bool true) ∧ Frm [] V11 w') := Lib.hid (same14_any D2C11.out (by omega) (F' := []) ⟨E2C11.out.len, E2C11.out.hl⟩ EQ.out)
  clear b11 c11
  have u0 := D11.out.cell 0
  have u1 := D11.out.cell 1
  have u2 := D11.out.cell 2
  have u3 := E11.out.cell 0
  have u4 := E11.out.cell 1
  have u5 := E11.out.cell 2
  simp only [List.getElem?_toArray, List.getElem?_cons_zero, List.getElem?_cons_succ] at u0 u1 u2 u3 u4 u5
  go_upto_region 11 with (fail)
  rw [← hV11]
  have HV11 := Lib.hid hV11
  clear hV11 v0 v1 v2 v3 v4 v5
  go_wp2_with fail
  (with_reducible refine SMX.out.mono ?_)
  rintro e w12 ⟨rfl, hf12⟩
  have F12 : Hid (Frm [] w7 w12) := Lib.hid (F11.out.trans hf12 (by simp) (by simp))
  have CL : Hid (codeL X o CC ⟨ppl, ppe⟩ = 0) := Lib.hid (codeL_zero.2 ⟨(HAS.out _).2 PIN.out, fun h => NP.out (.inl h)⟩)
  have ALX := Lib.hid (ALG.out w12 F12.out)
  rw [← HCC.out] at ALX
  rw [CL.out] at ALX
  clear u0 u1 u2 u3 u4 u5 hf12
  have x0 := k0 _ F12.out
  have x1 := k1 _ F12.out
  have x2 := k2 _ F12.out
  have x3 := k3 _ F12.out
  have x4 := k4 _ F12.out
  go_wp2_with fail
  (with_reducible refine ALX.out.mono ?_)
  rintro e w13 ⟨G, Zg, ag, gn, cg, rfl, GC, GT, hf13⟩
  clear x0 x1 x2 x3 x4
  have GTO : Hid (AllTo X o CC ⟨ppl, ppe⟩ ⟨G, hels Zg⟩) := Lib.hid (GT.out.1 CL.out)
  have NPM : Hid (¬ (Ps.mk ppl ppe).lt CC.mark) := Lib.hid (fun h => NP.out (.inl h))
  have GAK : Hid (∀ r ∈ allP X o, ackedC ⟨G, hels Zg⟩ r ↔ ackedC CC r ∨ ¬ (Ps.mk ppl ppe).lt r) := Lib.hid (fun r hr => GTO.out.acked L7.out.right OKC0.out NPM.out hr)
  have F13 : Hid (Frm [] w7 w13) := Lib.hid (F12.out.trans hf13.out (by simp) (by simp))
  obtain ⟨V13, hV13⟩ : ∃ V, V = w13.alloc (.cells #[.int .u64 (G.l : Nat), .int .u64 (G.e : Nat), .slice ag gn cg] 28) := ⟨_, rfl⟩
  obtain ⟨y13, hy13⟩ : ∃ y, y = w13.heap.size := ⟨_, rfl⟩
  have F133 : Hid (Frm [] w13 V13) := Lib.hid (by rw [hV13]; exact (Frm.refl _ _).alloc _)
  have D13 : Hid (Whole V13 y13 28 #[.int .u64 (G.l : Nat), .int .u64 (G.e : Nat), .slice ag gn cg]) := Lib.hid (by rw [hV13, hy13]; exact Whole.made _ _ _)
  have FV13 : Hid (Frm [] w7 V13) := Lib.hid (F13.out.trans F133.out (by simp) (by simp))
  have HV13 := Lib.hid hV13; clear hV13
  have HY13 := Lib.hid hy13; clear hy13
  have x0 := k0 _ FV13.out
  have x1 := k1 _ FV13.out
  have x2 := k2 _ FV13.out
  go_upto_region 16 with (fail)
  rw [← HV13.out, ← HY13.out]
  obtain ⟨V14, hV14⟩ : ∃ V, V = V13.alloc (.cells #[.int .u64 (Ml : Nat), .int .u64 (Me : Nat), .slice az zn cz] 28) := ⟨_, rfl⟩
  obtain ⟨y14, hy14⟩ : ∃ y, y = V13.heap.size := ⟨_, rfl⟩
  have F144 : Hid (Frm [] V13 V14) := Lib.hid (by rw [hV14]; exact (Frm.refl _ _).alloc _)
  have B14 : Hid (Whole V14 y14 28 #[.int .u64 (Ml : Nat), .int .u64 (Me : Nat), .slice az zn cz]) := Lib.hid (by rw [hV14, hy14]; exact Whole.made _ _ _)
  have FV14 : Hid (Frm [] w7 V14) := Lib.hid (FV13.out.trans F144.out (by simp) (by simp))
  have D14 : Hid (Whole V14 y13 28 #[.int .u64 (G.l : Nat), .int .u64 (G.e : Nat), .slice ag gn cg]) := Lib.hid (F144.out.whole D13.out (by simp))
  have Y14 : Hid (V13.heap.size ≤ y14 ∧ w7.heap.size ≤ y14 ∧ w13.heap.size ≤ y14 ∧ y13 < y14) := Lib.hid (by have h1 := FV13.out.size; have h2 := F133.out.size; have h3 := D13.out.lt; rw [hy14]; omega)
  have GC14 : Hid (Cin V14 [y14] G ag gn cg Zg 15) := Lib.hid (GC.out.keep (F133.out.trans F144.out (U := []) (by simp) (by simp)) (by simp) (fun x hx => .inr (by simp at hx; rw [hx]; exact Y14.out.2.2.1)))
  have CI14 : Hid (Cin V14 [y14] ⟨Ml, Me⟩ az zn cz Z 14) := Lib.hid (CI7.out.keep FV14.out (by simp) (fun x hx => .inr (by simp at hx; rw [hx]; exact Y14.out.2.1)))
  have HV14 := Lib.hid hV14; clear hV14
  have HY14 := Lib.hid hy14; clear hy14
  go_upto_region 17 with (fail)
  rw [← HV14.out, ← HY14.out]
  clear x0 x1 x2
  go_wp2_with fail
  (with_reducible refine (ALL.out _ FV14.out).mono ?_)
  rintro e w15 ⟨aL, cL, rfl, hoL, hf15⟩
  have F1415 := Lib.hid hf15
  have LL : Hid (PsL w15 [y14] aL (allP X o)) := Lib.hid ⟨hoL.sl.vals, hoL.fits, fun _ q hq hm => by
    have h1 := (hoL.blk_lt q.block (by rw [hq]; simp)).1
    have h2 := B14.out.lt
    simp at hm; omega⟩
  have B15 : Hid (Whole w15 y14 28 #[.int .u64 (Ml : Nat), .int .u64 (Me : Nat), .slice az zn cz]) := Lib.hid (hf15.whole B14.out (by simp))
  have D15 : Hid (Whole w15 y13 28 #[.int .u64 (G.l : Nat), .int .u64 (G.e : Nat), .slice ag gn cg]) := Lib.hid (hf15.whole D14.out (by simp))
  have FV15 : Hid (Frm [] w7 w15) := Lib.hid (FV14.out.trans hf15 (by simp) (by simp))
  have GC15 : Hid (Cin w15 [y14] G ag gn cg Zg 15) := Lib.hid (GC14.out.sub hf15)
  have CI15 : Hid (Cin w15 [y14] ⟨Ml, Me⟩ az zn cz Z 14) := Lib.hid (CI14.out.sub hf15)
  have NE14 : Hid (y14 ≠ g + 1 ∧ y13 ≠ y14 ∧ w7.heap.size ≤ y14) := Lib.hid (by have h1 := C2.out.lt; have h2 := Y14.out; omega)
  have PR : Hid (∀ z, Frm [y14] w15 z → Frm [] w7 z) := Lib.hid (fun z hz => FV15.out.trans hz (by simp) (fun x hx => .inr (by simp at hx; rw [hx]; exact NE14.out.2.2)))
  clear hf15 hoL k0 k1 k2 k5 k6
  obtain ⟨T, hT⟩ : ∃ T, T = tot X o := ⟨_, rfl⟩
  rw [← hT] at LEN T65 ⊢
  have HT := Lib.hid hT; clear hT
  obtain ⟨AP, hAP⟩ : ∃ AP, AP = allP X o := ⟨_, rfl⟩
  have HAP := Lib.hid hAP
  have t65 : T ≤ 65 := T65.out
  clear hAP
  go_wp2
  go_loopw [109] (fun s109 wr => ∃ (j : Nat) (Ev : Ps) (Zv : List Hx) (av : Option Addr) (nv cv : Nat), j ≤ T ∧ s109 = .int .i64 (j : Nat) ∧ Hid (Whole wr y14 28 #[.int .u64 (Ev.l : Nat), .int .u64 (Ev.e : Nat), .slice av nv cv]) ∧ Hid (Cin wr [y14] Ev av nv cv Zv (14 + j)) ∧ Hid (EachOk X o CC ⟨ppl, ppe⟩ j ⟨Ev, hels Zv⟩) ∧ Hid (Frm [y14] w15 wr)) (fun s109 _ => T - (intOf s109).toNat)
  case atStart => exact ⟨0, ⟨Ml, Me⟩, Z, az, zn, cz, Nat.zero_le _, rfl, B15, CI15, Lib.hid (by rw [← HCC.out]; exact EachOk.zero _ _ _ _), Lib.hid (Frm.refl _ _)⟩
  case round =>
    obtain ⟨j, Ev, Zv, av, nv, cv, hj, rfl, HB, HC, HE, HF⟩ := hrel
    have FWR : Hid (Frm [] w7 wr) := Lib.hid (PR.out _ HF.out)
    by_cases hlt : j < T
    · have hlt' : (j : Int) < (T : Int) := by omega
      have hjL : j < (allP X o).length := by have := LEN.out; omega
      obtain ⟨b, off, rfl, d0, d1, hxf⟩ := (LL.out.keep HF.out (F' := []) (fun x hx => .inl (by simp at hx; simp [hx])) (by simp)).at hjL
      have XIN : Hid ((allP X o).getD j default ∈ allP X o) := Lib.hid (by simp [hjL])
      have SKIP := Lib.hid (fun h => HE.out.skip hjL h)
      have NEXT := Lib.hid (fun (D : Crs) h1 h2 => HE.out.next (D := D) hjL h1 h2)
      obtain ⟨x, hx⟩ : ∃ x, x = (allP X o).getD j default := ⟨_, rfl⟩
      rw [← hx] at d0 d1 hxf XIN SKIP NEXT
      have XF := Lib.hid hxf
      clear hx hxf hjL
      obtain ⟨W3, hW3⟩ : ∃ W3, W3 = wr.alloc (.cells #[.int .u64 (x.l : Nat), .int .u64 (x.e : Nat)] 25) := ⟨_, rfl⟩
      obtain ⟨y3, hy3⟩ : ∃ y3, y3 = wr.heap.size := ⟨_, rfl⟩
      have FW3 : Hid (Frm [] wr W3) := Lib.hid (by rw [hW3]; exact (Frm.refl _ _).alloc _)
      have B3W : Hid (Whole W3 y3 25 #[.int .u64 (x.l : Nat), .int .u64 (x.e : Nat)]) := Lib.hid (by rw [hW3, hy3]; exact Whole.made _ _ _)
      have HB3 : Hid (Whole W3 y14 28 #[.int .u64 (Ev.l : Nat), .int .u64 (Ev.e : Nat), .slice av nv cv]) := Lib.hid (FW3.out.whole HB.out (by simp))
      have F15 : Hid (Frm [y14] w15 W3) := Lib.hid (HF.out.trans FW3.out (by simp) (by simp))
      have FW7' : Hid (Frm [] w7 W3) := Lib.hid (PR.out _ F15.out)
      have HW3 := Lib.hid hW3; clear hW3
      have HY3 := Lib.hid hy3; clear hy3
      have ORX := Lib.hid (ORG.out x ⟨ppl, ppe⟩)
      obtain ⟨c, hc⟩ : ∃ c, c = ordP x ⟨ppl, ppe⟩ := ⟨_, rfl⟩
      rw [← hc] at ORX
      have CF : Hid (c ≤ 0 ↔ ¬ (Ps.mk ppl ppe).lt x) := Lib.hid (by rw [hc]; exact ordP_le)
      simp only at ORX
      clear hc
      have x0 := B3W.out.cell 0
      have x1 := B3W.out.cell 1
      have x2 := k3 _ FW7'.out
      have x3 := k4 _ FW7'.out
      simp only [List.getElem?_toArray, List.getElem?_cons_zero, List.getElem?_cons_succ] at x0 x1
      go_upto_region 20 with (fail)
      rw [← HW3.out, ← HY3.out]
      clear d0 d1
      go_wp2_with fail
      (with_reducible refine (ORX.out _).mono ?_)
      rintro e v4 ⟨rfl, hv4⟩
      have G4 : Hid (Frm [] wr v4) := Lib.hid (FW3.out.trans hv4 (by simp) (by simp))
      have F4 : Hid (Frm [y14] w15 v4) := Lib.hid (HF.out.trans G4.out (by simp) (by simp))
      have HB4 : Hid (Whole v4 y14 28 #[.int .u64 (Ev.l : Nat), .int .u64 (Ev.e : Nat), .slice av nv cv]) := Lib.hid (G4.out.whole HB.out (by simp))
      have BX4 : Hid (Whole v4 y3 25 #[.int .u64 (x.l : Nat), .int .u64 (x.e : Nat)]) := Lib.hid (hv4.whole B3W.out (by simp))
      have HC4 : Hid (Cin v4 [y14] Ev av nv cv Zv (14 + j)) := Lib.hid (HC.out.sub G4.out)
      clear x0 x1 x2 x3 hv4
      by_cases hle : c ≤ 0
      rotate_left 1
      · have e1 : decide (c ≤ 0) = false := decide_eq_false hle
        have NX := Lib.hid (SKIP.out (.inl (by
          by_cases h : (Ps.mk ppl ppe).lt x
          · exact h
          · exact absurd (CF.out.2 h) hle)))
        clear hle
        go_wp2
        go_roundw
        case rel => exact ⟨j + 1, Ev, Zv, av, nv, cv, by omega, by go_num, HB4, Lib.hid (HC4.out.more (by omega)), NX, F4⟩
        case measure => simp [intOf]; omega
      have e1 : decide (c ≤ 0) = true := decide_eq_true hle
      have LE := Lib.hid (CF.out.1 hle)
      clear hle
      have AX := Lib.hid (AKQ.out v4 Ev av nv cv Zv [y14] (14 + j) x HC4.out (by omega))
      have x0 := BX4.out.cell 0
      have x1 := BX4.out.cell 1
      have u0 := HB4.out.cell 0
      have u1 := HB4.out.cell 1
      have u2 := HB4.out.cell 2
      simp only [List.getElem?_toArray, List.getElem?_cons_zero, List.getElem?_cons_succ] at x0 x1 u0 u1 u2
      go_wp2_with fail
      (with_reducible refine AX.out.mono ?_)
      rintro e v5 ⟨ba, rfl, hba, hv5⟩
      have G5 : Hid (Frm [] wr v5) := Lib.hid (G4.out.trans hv5 (by simp) (by simp))
      have F5' : Hid (Frm [y14] w15 v5) := Lib.hid (HF.out.trans G5.out (by simp) (by simp))
      have HB5 : Hid (Whole v5 y14 28 #[.int .u64 (Ev.l : Nat), .int .u64 (Ev.e : Nat), .slice av nv cv]) := Lib.hid (G5.out.whole HB.out (by simp))
      have BX5 : Hid (Whole v5 y3 25 #[.int .u64 (x.l : Nat), .int .u64 (x.e : Nat)]) := Lib.hid (hv5.whole BX4.out (by simp))
      have HC5 : Hid (Cin v5 [y14] Ev av nv cv Zv (14 + j)) := Lib.hid (HC.out.sub G5.out)
      have BA := Lib.hid hba
      clear x0 x1 u0 u1 u2 hv5 hba
      cases ba
      rotate_left 1
      · have NX := Lib.hid (SKIP.out (.inr (BA.out.1 rfl)))
        go_wp2
        go_roundw
        case rel => exact ⟨j + 1, Ev, Zv, av, nv, cv, by omega, by go_num, HB5, Lib.hid (HC5.out.more (by omega)), NX, F5'⟩
        case measure => simp [intOf]; omega
      have NAK : Hid (¬ ackedC ⟨Ev, hels Zv⟩ x) := Lib.hid (fun h => by have := BA.out.2 h; cases this)
      have CX : Hid (codeA X o ⟨Ev, hels Zv⟩ x = 0) := Lib.hid (codeA_zero.2 ⟨(HAS.out _).2 XIN.out, NAK.out⟩)
      have AX := Lib.hid (AKG.out v5 [y14] Ev av nv cv Zv (14 + j) x (PR.out _ F5'.out) HC5.out (by omega) (by simp; exact HB5.out.lt) XF.out)
      rw [CX.out] at AX
      have x0 := BX5.out.cell 0
      have x1 := BX5.out.cell 1
      have u0 := HB5.out.cell 0
      have u1 := HB5.out.cell 1
      have u2 := HB5.out.cell 2
      simp only [List.getElem?_toArray, List.getElem?_cons_zero, List.getElem?_cons_succ] at x0 x1 u0 u1 u2
      go_wp2_with fail
      (with_reducible refine AX.out.mono ?_)
      rintro e v6 ⟨Dn, Zn, an, nn, cn, rfl, DNC, DNT, hv6⟩
      clear x0 x1 u0 u1 u2
      have NX : Hid (EachOk X o CC ⟨ppl, ppe⟩ (j + 1) ⟨Dn, hels Zn⟩) := Lib.hid (NEXT.out _ LE.out (fun r hr => (DNT.out.1 CX.out).acked L7.out.right HC5.out.ok hr))
      obtain ⟨V6, hV6⟩ : ∃ V, V = v6.alloc (.cells #[.int .u64 (Dn.l : Nat), .int .u64 (Dn.e : Nat), .slice an nn cn] 28) := ⟨_, rfl⟩
      obtain ⟨y6, hy6⟩ : ∃ y, y = v6.heap.size := ⟨_, rfl⟩
      have FV6 : Hid (Frm [] v6 V6) := Lib.hid (by rw [hV6]; exact (Frm.refl _ _).alloc _)
      have B6 : Hid (Whole V6 y6 28 #[.int .u64 (Dn.l : Nat), .int .u64 (Dn.e : Nat), .slice an nn cn]) := Lib.hid (by rw [hV6, hy6]; exact Whole.made _ _ _)
      have G6 : Hid (Frm [] wr V6) := Lib.hid (G5.out.trans (hv6.out.trans FV6.out (U := []) (by simp) (by simp)) (by simp) (by simp))
      have b6 := G6.out.whole HB.out (by simp)
      have u0 := b6.cell 0
      have u1 := b6.cell 1
      have u2 := b6.cell 2
      have u3 := b6.free 0
      have u4 := b6.free 1
      have u5 := b6.free 2
      have z0 := B6.out.cell 0
      have z1 := B6.out.cell 1
      have z2 := B6.out.cell 2
      simp only [List.getElem?_toArray, List.getElem?_cons_zero, List.getElem?_cons_succ] at u0 u1 u2 z0 z1 z2
      have HV6 := Lib.hid hV6; clear hV6
      have HY6 := Lib.hid hy6; clear hy6
      go_upto_region 22 with (fail)
      rw [← HV6.out, ← HY6.out]
      have F6 : Hid (Frm [y14] V6 (((V6.setCell ⟨y14, 0, none⟩ (.int .u64 (Dn.l : Nat))).setCell ⟨y14, 1, none⟩ (.int .u64 (Dn.e : Nat))).setCell ⟨y14, 2, none⟩ (.slice an nn cn))) := Lib.hid ((((Frm.refl _ _).setCell (.inl (by simp)) _).setCell (.inl (by simp)) _).setCell (.inl (by simp)) _)
      have NB : Hid (Whole (((V6.setCell ⟨y14, 0, none⟩ (.int .u64 (Dn.l : Nat))).setCell ⟨y14, 1, none⟩ (.int .u64 (Dn.e : Nat))).setCell ⟨y14, 2, none⟩ (.slice an nn cn)) y14 28 #[.int .u64 (Dn.l : Nat), .int .u64 (Dn.e : Nat), .slice an nn cn]) := Lib.hid (by
        have := ((b6.put 0 (.int .u64 (Dn.l : Nat))).put 1 (.int .u64 (Dn.e : Nat))).put 2 (.slice an nn cn)
        simpa using this)
      have NC : Hid (Cin (((V6.setCell ⟨y14, 0, none⟩ (.int .u64 (Dn.l : Nat))).setCell ⟨y14, 1, none⟩ (.int .u64 (Dn.e : Nat))).setCell ⟨y14, 2, none⟩ (.slice an nn cn)) [y14] Dn an nn cn Zn (14 + (j + 1))) := Lib.hid ((DNC.out.sub FV6.out).keep F6.out (fun x hx => .inl hx) (fun x hx => .inl hx))
      have NF : Hid (Frm [y14] w15 (((V6.setCell ⟨y14, 0, none⟩ (.int .u64 (Dn.l : Nat))).setCell ⟨y14, 1, none⟩ (.int .u64 (Dn.e : Nat))).setCell ⟨y14, 2, none⟩ (.slice an nn cn))) := Lib.hid ((HF.out.trans G6.out (U := [y14]) (by simp) (by simp)).trans F6.out (by simp) (by simp))
      clear b6
      go_wp2
      go_roundw
      case rel => exact ⟨j + 1, Dn, Zn, an, nn, cn, by omega, by go_num, NB, NC, NX, NF⟩
      case measure => simp [intOf]; omega
    · obtain rfl : j = T := by omega
      have SAME : Hid (∀ r ∈ allP X o, ackedC ⟨G, hels Zg⟩ r ↔ ackedC ⟨Ev, hels Zv⟩ r) := Lib.hid (fun r hr => by
        rw [GAK.out r hr, HE.out r hr]
        have e : (allP X o).take j = allP X o := List.take_of_length_le (by have := LEN.out; omega)
        rw [e]
        exact ⟨fun h => h.imp id (fun h => ⟨hr, h⟩), fun h => h.imp id (fun h => h.2)⟩)
      have GCR : Hid (Cin wr [] G ag gn cg Zg 15) := Lib.hid (GC15.out.keep HF.out (F' := []) (fun x hx => .inl hx) (by simp))
      have HCR : Hid (Cin wr [] Ev av nv cv Zv (14 + j)) := Lib.hid (HC.out.keep (Frm.refl [] _) (F' := []) (by simp) (by simp))
      have DR : Hid (Whole wr y13 28 #[.int .u64 (G.l : Nat), .int .u64 (G.e : Nat), .slice ag gn cg]) := Lib.hid (HF.out.whole D15.out (by have := NE14.out; simp; omega))
      have BKE : Hid (backC X o ⟨G, hels Zg⟩ = backC X o ⟨Ev, hels Zv⟩) := Lib.hid (by
        unfold backC
        refine List.countP_congr (fun r hr => ?_)
        simp only [decide_eq_true_iff]
        rw [SAME.out r hr])
      have ALX := Lib.hid (ALL.out wr FWR.out)
      rw [← HT.out] at ALX
      clear k3 k4
      go_wp2_with fail
      (with_reducible refine ALX.out.mono ?_)
      rintro e w20 ⟨aM, cM, rfl, hoM, hf20⟩
      have LM : Hid (PsL w20 [] aM (allP X o)) := Lib.hid hoM.sl
      have F20 := Lib.hid hf20
      have GC20 : Hid (Cin w20 [] G ag gn cg Zg 15) := Lib.hid (GCR.out.sub F20.out)
      have HC20 : Hid (Cin w20 [] Ev av nv cv Zv (14 + j)) := Lib.hid (HCR.out.sub F20.out)
      have D20 : Hid (Whole w20 y13 28 #[.int .u64 (G.l : Nat), .int .u64 (G.e : Nat), .slice ag gn cg]) := Lib.hid (F20.out.whole DR.out (by simp))
      have B20 : Hid (Whole w20 y14 28 #[.int .u64 (Ev.l : Nat), .int .u64 (Ev.e : Nat), .slice av nv cv]) := Lib.hid (F20.out.whole HB.out (by simp))
      have FW20 : Hid (Frm [] w7 w20) := Lib.hid (FWR.out.trans F20.out (by simp) (by simp))
      clear hf20 hoM
      go_wp2
      go_loopw [139] (fun s139 wx => ∃ i : Nat, i ≤ j ∧ s139 = .int .i64 (i : Nat) ∧ Hid (Frm [] w20 wx)) (fun s139 _ => j - (intOf s139).toNat)
      case atStart => exact ⟨0, Nat.zero_le _, rfl, Lib.hid (Frm.refl _ _)⟩
      case round =>
        obtain ⟨i, hi, rfl, HX⟩ := hrel
        have FV7 : Hid (Frm [] w7 wr) := Lib.hid (FW20.out.trans HX.out (by simp) (by simp))
        by_cases hlt : i < j
        · have hlt' : (i : Int) < (j : Int) := by omega
          have hiL : i < (allP X o).length := by have := LEN.out; omega
          obtain ⟨b, off, rfl, d0, d1, _⟩ := (LM.out.sub HX.out).at hiL
          have XIN : Hid ((allP X o).getD i default ∈ allP X o) := Lib.hid (by simp [hiL])
          obtain ⟨x, hx⟩ : ∃ x, x = (allP X o).getD i default := ⟨_, rfl⟩
          rw [← hx] at d0 d1 XIN
          clear hx hiL
          obtain ⟨W3, hW3⟩ : ∃ W3, W3 = wr.alloc (.cells #[.int .u64 (x.l : Nat), .int .u64 (x.e : Nat)] 25) := ⟨_, rfl⟩
          obtain ⟨y3, hy3⟩ : ∃ y3, y3 = wr.heap.size := ⟨_, rfl⟩
          have FW3 : Hid (Frm [] w20 W3) := Lib.hid (by rw [hW3]; exact HX.out.alloc _)
          have B3W : Hid (Whole W3 y3 25 #[.int .u64 (x.l : Nat), .int .u64 (x.e : Nat)]) := Lib.hid (by rw [hW3, hy3]; exact Whole.made _ _ _)
          have HW3 := Lib.hid hW3; clear hW3
          have HY3 := Lib.hid hy3; clear hy3
          have GX := Lib.hid (fun z (hz : Frm [] W3 z) => AKQ.out z G ag gn cg Zg [] 15 x (GC20.out.sub (FW3.out.trans hz (by simp) (by simp))) (by omega))
          have EX := Lib.hid (fun z (hz : Frm [] W3 z) => AKQ.out z Ev av nv cv Zv [] (14 + j) x (HC20.out.sub (FW3.out.trans hz (by simp) (by simp))) (by omega))
          have SX := Lib.hid (SAME.out x XIN.out)
          have u0 : ∀ z, Frm [] W3 z → z.cell? ⟨y3, 0, none⟩ = some (.int .u64 (x.l : Nat)) := fun z hz => (hz.whole B3W.out (by simp)).cell 0
          have u1 : ∀ z, Frm [] W3 z → z.cell? ⟨y3, 1, none⟩ = some (.int .u64 (x.e : Nat)) := fun z hz => (hz.whole B3W.out (by simp)).cell 1
          have u2 : ∀ z, Frm [] W3 z → z.cell? ⟨y13, 0, none⟩ = some (.int .u64 (G.l : Nat)) := fun z hz => ((FW3.out.trans hz (U := []) (by simp) (by simp)).whole D20.out (by simp)).cell 0
          have u3 : ∀ z, Frm [] W3 z → z.cell? ⟨y13, 1, none⟩ = some (.int .u64 (G.e : Nat)) := fun z hz => ((FW3.out.trans hz (U := []) (by simp) (by simp)).whole D20.out (by simp)).cell 1
          have u4 : ∀ z, Frm [] W3 z → z.cell? ⟨y13, 2, none⟩ = some (.slice ag gn cg) := fun z hz => ((FW3.out.trans hz (U := []) (by simp) (by simp)).whole D20.out (by simp)).cell 2
          have u5 : ∀ z, Frm [] W3 z → z.cell? ⟨y14, 0, none⟩ = some (.int .u64 (Ev.l : Nat)) := fun z hz => ((FW3.out.trans hz (U := []) (by simp) (by simp)).whole B20.out (by simp)).cell 0
          have u6 : ∀ z, Frm [] W3 z → z.cell? ⟨y14, 1, none⟩ = some (.int .u64 (Ev.e : Nat)) := fun z hz => ((FW3.out.trans hz (U := []) (by simp) (by simp)).whole B20.out (by simp)).cell 1
          have u7 : ∀ z, Frm [] W3 z → z.cell? ⟨y14, 2, none⟩ = some (.slice av nv cv) := fun z hz => ((FW3.out.trans hz (U := []) (by simp) (by simp)).whole B20.out (by simp)).cell 2
          go_upto_region 29 with (fail)
          rw [← HW3.out, ← HY3.out]
          clear d0 d1
          refine wp_region_held_drew (S := fun w' => Frm [] W3 w') (by kernel_rfl) (Frm.drew (Frm.refl _ _)) (fun hHeld => ?_)
          refine wpAnyH_take (i := 0) (oi := ⟨some 143, _, _, _, _, _⟩) (v := ?_) rfl (by kernel_rfl) (by kernel_rfl) (by kernel_rfl) (fun _ _ _ h => h) (Or.inl ⟨by rfl, ?_⟩) (by assumption) ?_
          rotate_left 1
          · (intro w hSw; (try dsimp only at hSw); go_simp; all_goals with_reducible rfl)
          try simp only [Act.put, List.setIfInBounds_toArray, List.set_cons_zero, List.set_cons_succ]
          refine wpAnyH_take (i := 1) (oi := ⟨some 144, _, _, _, _, _⟩) (v := ?_) rfl (by kernel_rfl) (by kernel_rfl) (by kernel_rfl) (fun _ _ _ h => h) (Or.inl ⟨by rfl, ?_⟩) (by assumption) ?_
          rotate_left 1
          · (intro w hSw; (try dsimp only at hSw); go_simp; all_goals with_reducible rfl)
          try simp only [Act.put, List.setIfInBounds_toArray, List.set_cons_zero, List.set_cons_succ]
          refine wpAnyH_take (i := 3) (oi := ⟨some 146, _, _, _, _, _⟩) (v := ?_) rfl (by kernel_rfl) (by kernel_rfl) (by kernel_rfl) (fun _ _ _ h => h) (Or.inl ⟨by rfl, ?_⟩) (by assumption) ?_
          rotate_left 1
          · (intro w hSw; (try dsimp only at hSw); go_simp; all_goals with_reducible rfl)
          try simp only [Act.put, List.setIfInBounds_toArray, List.set_cons_zero, List.set_cons_succ]
          refine wpAnyH_take (i := 4) (oi := ⟨some 147, _, _, _, _, _⟩) (v := ?_) rfl (by kernel_rfl) (by kernel_rfl) (by kernel_rfl) (fun _ _ _ h => h) (Or.inl ⟨by rfl, ?_⟩) (by assumption) ?_
          rotate_left 1
          · (intro w hSw; (try dsimp only at hSw); go_simp; all_goals with_reducible rfl)
          try simp only [Act.put, List.setIfInBounds_toArray, List.set_cons_zero, List.set_cons_succ]
          refine wpAnyH_ready (rs := [2]) (by kernel_rfl) (by simp) ?_
          refine AllReadyH.cons (o := ⟨some 145, _, _, _, _, _⟩) rfl (fun K hK => ?_) AllReadyH.nil
          go_simp
          go_at_call 18; (with_reducible refine (GX.out _ hHeld).mono ?_); rintro e v1 ⟨bg, rfl, hbg, hv1⟩; have BG := Lib.hid hbg; clear hbg; have hHeld1 : Frm [] W3 v1 := hHeld.trans hv1 (by simp) (by simp)
          go_wp2_with fail
          refine hK.out _ _ (by assumption) (fun hHeld => ?_)
          clear hK K
          try simp only [Act.put, List.setIfInBounds_toArray, List.set_cons_zero, List.set_cons_succ]
          refine wpAnyH_ready (rs := [5]) (by kernel_rfl) (by simp) ?_
          refine AllReadyH.cons (o := ⟨some 148, _, _, _, _, _⟩) rfl (fun K hK => ?_) AllReadyH.nil
          go_simp
          go_at_call 18; (with_reducible refine (EX.out _ hHeld).mono ?_); rintro e v2 ⟨be, rfl, hbe, hv2⟩; obtain rfl : be = bg := Bool.eq_iff_iff.2 (hbe.trans (SX.out.symm.trans BG.out.symm)); have eqb : (be != be) = false := (by simp); have hHeld2 : Frm [] W3 v2 := hHeld.trans hv2 (by simp) (by simp)
          go_wp2_with fail
          refine hK.out _ _ (by assumption) (fun hHeld => ?_)
          clear hK K
          try simp only [Act.put, List.setIfInBounds_toArray, List.set_cons_zero, List.set_cons_succ]
          refine wpAnyH_take (i := 6) (oi := ⟨some 149, _, _, _, _, _⟩) (v := ?_) rfl (by kernel_rfl) (by kernel_rfl) (by kernel_rfl) (fun _ _ _ h => h) (Or.inl ⟨by rfl, ?_⟩) (by assumption) ?_
          rotate_left 1
          · (intro w hSw; (try dsimp only at hSw); go_simp; all_goals with_reducible rfl)
          try simp only [Act.put, List.setIfInBounds_toArray, List.set_cons_zero, List.set_cons_succ]
          refine wpAnyH_done (by kernel_rfl) ?_ _
          have NX : Hid (Frm [] w20 _) := Lib.hid (FW3.out.trans hHeld (by simp) (by simp))
          clear u0 u1 u2 u3 u4 u5 u6 u7
          go_wp2
          go_roundw
          case rel => exact ⟨i + 1, by omega, by go_num, NX⟩
          case measure => simp [intOf]; omega
        · obtain rfl : i = j := by omega
          have GB := Lib.hid (fun z (hz : Frm [] wr z) => BKG.out z G ag gn cg Zg [] 15 (FV7.out.trans hz (by simp) (by simp)) (GC20.out.sub (HX.out.trans hz (by simp) (by simp))) (by omega))
          have EB := Lib.hid (fun z (hz : Frm [] wr z) => BKG.out z Ev av nv cv Zv [] (14 + i) (FV7.out.trans hz (by simp) (by simp)) (HC20.out.sub (HX.out.trans hz (by simp) (by simp))) (by omega))
          rw [← BKE.out] at EB
          obtain ⟨B, hB⟩ : ∃ B, B = backC X o ⟨G, hels Zg⟩ := ⟨_, rfl⟩
          rw [← hB] at GB EB
          clear hB
          have eqn : ((B : Int) == (B : Int)) = true := by simp
          have u2 : ∀ z, Frm [] wr z → z.cell? ⟨y13, 0, none⟩ = some (.int .u64 (G.l : Nat)) := fun z hz => ((HX.out.trans hz (U := []) (by simp) (by simp)).whole D20.out (by simp)).cell 0
          have u3 : ∀ z, Frm [] wr z → z.cell? ⟨y13, 1, none⟩ = some (.int .u64 (G.e : Nat)) := fun z hz => ((HX.out.trans hz (U := []) (by simp) (by simp)).whole D20.out (by simp)).cell 1
          have u4 : ∀ z, Frm [] wr z → z.cell? ⟨y13, 2, none⟩ = some (.slice ag gn cg) := fun z hz => ((HX.out.trans hz (U := []) (by simp) (by simp)).whole D20.out (by simp)).cell 2
          have u5 : ∀ z, Frm [] wr z → z.cell? ⟨y14, 0, none⟩ = some (.int .u64 (Ev.l : Nat)) := fun z hz => ((HX.out.trans hz (U := []) (by simp) (by simp)).whole B20.out (by simp)).cell 0
          have u6 : ∀ z, Frm [] wr z → z.cell? ⟨y14, 1, none⟩ = some (.int .u64 (Ev.e : Nat)) := fun z hz => ((HX.out.trans hz (U := []) (by simp) (by simp)).whole B20.out (by simp)).cell 1
          have u7 : ∀ z, Frm [] wr z → z.cell? ⟨y14, 2, none⟩ = some (.slice av nv cv) := fun z hz => ((HX.out.trans hz (U := []) (by simp) (by simp)).whole B20.out (by simp)).cell 2
          go_upto_region 32 with (fail)
          refine wp_region_held_drew (S := fun w' => Frm [] wr w') (by kernel_rfl) (Frm.drew (Frm.refl _ _)) (fun hHeld => ?_)
          refine wpAnyH_take (i := 0) (oi := ⟨some 151, _, _, _, _, _⟩) (v := ?_) rfl (by kernel_rfl) (by kernel_rfl) (by kernel_rfl) (fun _ _ _ h => h) (Or.inl ⟨by rfl, ?_⟩) (by assumption) ?_
          rotate_left 1
          · (intro w hSw; (try dsimp only at hSw); go_simp; all_goals with_reducible rfl)
          try simp only [Act.put, List.setIfInBounds_toArray, List.set_cons_zero, List.set_cons_succ]
          refine wpAnyH_take (i := 1) (oi := ⟨some 152, _, _, _, _, _⟩) (v := ?_) rfl (by kernel_rfl) (by kernel_rfl) (by kernel_rfl) (fun _ _ _ h => h) (Or.inl ⟨by rfl, ?_⟩) (by assumption) ?_
          rotate_left 1
          · (intro w hSw; (try dsimp only at hSw); go_simp; all_goals with_reducible rfl)
          try simp only [Act.put, List.setIfInBounds_toArray, List.set_cons_zero, List.set_cons_succ]
          refine wpAnyH_take (i := 2) (oi := ⟨some 153, _, _, _, _, _⟩) (v := ?_) rfl (by kernel_rfl) (by kernel_rfl) (by kernel_rfl) (fun _ _ _ h => h) (Or.inl ⟨by rfl, ?_⟩) (by assumption) ?_
          rotate_left 1
          · (intro w hSw; (try dsimp only at hSw); go_simp; all_goals with_reducible rfl)
          try simp only [Act.put, List.setIfInBounds_toArray, List.set_cons_zero, List.set_cons_succ]
          refine wpAnyH_take (i := 3) (oi := ⟨some 154, _, _, _, _, _⟩) (v := ?_) rfl (by kernel_rfl) (by kernel_rfl) (by kernel_rfl) (fun _ _ _ h => h) (Or.inl ⟨by rfl, ?_⟩) (by assumption) ?_
          rotate_left 1
          · (intro w hSw; (try dsimp only at hSw); go_simp; all_goals with_reducible rfl)
          try simp only [Act.put, List.setIfInBounds_toArray, List.set_cons_zero, List.set_cons_succ]
          refine wpAnyH_take (i := 4) (oi := ⟨some 155, _, _, _, _, _⟩) (v := ?_) rfl (by kernel_rfl) (by kernel_rfl) (by kernel_rfl) (fun _ _ _ h => h) (Or.inl ⟨by rfl, ?_⟩) (by assumption) ?_
          rotate_left 1
          · (intro w hSw; (try dsimp only at hSw); go_simp; all_goals with_reducible rfl)
          try simp only [Act.put, List.setIfInBounds_toArray, List.set_cons_zero, List.set_cons_succ]
          refine wpAnyH_take (i := 5) (oi := ⟨some 156, _, _, _, _, _⟩) (v := ?_) rfl (by kernel_rfl) (by kernel_rfl) (by kernel_rfl) (fun _ _ _ h => h) (Or.inl ⟨by rfl, ?_⟩) (by assumption) ?_
          rotate_left 1
          · (intro w hSw; (try dsimp only at hSw); go_simp; all_goals with_reducible rfl)
          try simp only [Act.put, List.setIfInBounds_toArray, List.set_cons_zero, List.set_cons_succ]
          refine wpAnyH_take (i := 7) (oi := ⟨some 158, _, _, _, _, _⟩) (v := ?_) rfl (by kernel_rfl) (by kernel_rfl) (by kernel_rfl) (fun _ _ _ h => h) (Or.inl ⟨by rfl, ?_⟩) (by assumption) ?_
          rotate_left 1
          · (intro w hSw; (try dsimp only at hSw); go_simp; all_goals with_reducible rfl)
          try simp only [Act.put, List.setIfInBounds_toArray, List.set_cons_zero, List.set_cons_succ]
          refine wpAnyH_take (i := 8) (oi := ⟨some 159, _, _, _, _, _⟩) (v := ?_) rfl (by kernel_rfl) (by kernel_rfl) (by kernel_rfl) (fun _ _ _ h => h) (Or.inl ⟨by rfl, ?_⟩) (by assumption) ?_
          rotate_left 1
          · (intro w hSw; (try dsimp only at hSw); go_simp; all_goals with_reducible rfl)
          try simp only [Act.put, List.setIfInBounds_toArray, List.set_cons_zero, List.set_cons_succ]
          refine wpAnyH_take (i := 9) (oi := ⟨some 160, _, _, _, _, _⟩) (v := ?_) rfl (by kernel_rfl) (by kernel_rfl) (by kernel_rfl) (fun _ _ _ h => h) (Or.inl ⟨by rfl, ?_⟩) (by assumption) ?_
          rotate_left 1
          · (intro w hSw; (try dsimp only at hSw); go_simp; all_goals with_reducible rfl)
          try simp only [Act.put, List.setIfInBounds_toArray, List.set_cons_zero, List.set_cons_succ]
          refine wpAnyH_ready (rs := [6]) (by kernel_rfl) (by simp) ?_
          refine AllReadyH.cons (o := ⟨some 157, _, _, _, _, _⟩) rfl (fun K hK => ?_) AllReadyH.nil
          go_simp
          go_at_call 22; (with_reducible refine (GB.out _ hHeld).mono ?_); rintro e v1 ⟨rfl, hv1⟩; have hHeld1 : Frm [] wr v1 := hHeld.trans hv1 (by simp) (by simp)
          go_wp2_with fail
          refine hK.out _ _ (by assumption) (fun hHeld => ?_)
          clear hK K
          try simp only [Act.put, List.setIfInBounds_toArray, List.set_cons_zero, List.set_cons_succ]
          refine wpAnyH_ready (rs := [10]) (by kernel_rfl) (by simp) ?_
          refine AllReadyH.cons (o := ⟨some 161, _, _, _, _, _⟩) rfl (fun K hK => ?_) AllReadyH.nil
          go_simp
          go_at_call 22; (with_reducible refine (EB.out _ hHeld).mono ?_); rintro e v2 ⟨rfl, hv2⟩; have hHeld2 : Frm [] wr v2 := hHeld.trans hv2 (by simp) (by simp)
          go_wp2_with fail
          refine hK.out _ _ (by assumption) (fun hHeld => ?_)
          clear hK K
          try simp only [Act.put, List.setIfInBounds_toArray, List.set_cons_zero, List.set_cons_succ]
          refine wpAnyH_take (i := 11) (oi := ⟨some 162, _, _, _, _, _⟩) (v := ?_) rfl (by kernel_rfl) (by kernel_rfl) (by kernel_rfl) (fun _ _ _ h => h) (Or.inl ⟨by rfl, ?_⟩) (by assumption) ?_
          rotate_left 1
          · (intro w hSw; (try dsimp only at hSw); go_simp; all_goals with_reducible rfl)
          try simp only [Act.put, List.setIfInBounds_toArray, List.set_cons_zero, List.set_cons_succ]
          refine wpAnyH_take (i := 12) (oi := ⟨some 163, _, _, _, _, _⟩) (v := ?_) rfl (by kernel_rfl) (by kernel_rfl) (by kernel_rfl) (fun _ _ _ h => h) (Or.inl ⟨by rfl, ?_⟩) (by assumption) ?_
          rotate_left 1
          · (intro w hSw; (try dsimp only at hSw); go_simp; all_goals with_reducible rfl)
          try simp only [Act.put, List.setIfInBounds_toArray, List.set_cons_zero, List.set_cons_succ]
          refine wpAnyH_take (i := 13) (oi := ⟨some 12, _, _, _, _, _⟩) (v := ?_) rfl (by kernel_rfl) (by kernel_rfl) (by kernel_rfl) (fun _ _ _ h => h) (Or.inl ⟨by rfl, ?_⟩) (by assumption) ?_
          rotate_left 1
          · (intro w hSw; (try dsimp only at hSw); go_simp; all_goals with_reducible rfl)
          try simp only [Act.put, List.setIfInBounds_toArray, List.set_cons_zero, List.set_cons_succ]
          refine wpAnyH_done (by kernel_rfl) ?_ _
          have FX : Hid (Frm [] w _) := Lib.hid (FW7.out.trans (FV7.out.trans hHeld (U := []) (by simp) (by simp)) (by simp) (by simp))
          clear u2 u3 u4 u5 u6 u7
          go_wp2
          go_ret
          exact lTrue FX.out
end Go.Proofs.Ytghadpihmhaepaa
