/- The walk of CursorNexts. -/
import Derived.Test.YtghadpihmhaepaaZCqRight
import Derived.Test.YtghadpihmhaepaaZCqNext
import Derived.Test.YtghadpihmhaepaaZCqBacklog
import Derived.Test.YtghadpihmhaepaaZTail
namespace Go.Proofs.Ytghadpihmhaepaa
open Go.RowKit
set_option maxRecDepth 100000

set_option maxHeartbeats 16000000 in
theorem cursorNexts_walk (ac : Option Addr) (n capc : Nat) (cs : List Nat) (op : Bool) (ob : Nat) (cu : Ps × Option Addr × Nat × Nat × List Hx) (p : Ps) (raw : Bool) (w : World) (hn : n = cs.length) (hb : Bytes w ac cs) (_hc1 : n ≤ capc) (_hc2 : ac = none → capc = 0) (_hob : ob < 256) (hcu : CrsIn w cu.1 cu.2.1 cu.2.2.1 cu.2.2.2.1 cu.2.2.2.2) (hp : p.fits) :
    Calls Try.prog 4 #[.slice ac n capc, .bool op, .int .u8 (ob : Nat), crsV cu.1 cu.2.1 cu.2.2.1 cu.2.2.2.1, p.val, .bool raw] w (LTrue w) := by
  obtain ⟨m, ah, nh, ch, Y⟩ := cu
  simp only at hcu ⊢
  obtain ⟨w1, hw1⟩ : ∃ w1, w1 = (w.alloc (.cells #[.int .u64 (m.l : Nat), .int .u64 (m.e : Nat), .slice ah nh ch] 28)).alloc (.cells #[.int .u64 (p.l : Nat), .int .u64 (p.e : Nat)] 25) := ⟨_, rfl⟩
  have F1 : Hid (Frm [] w w1) := Lib.hid (by rw [hw1]; exact ((Frm.refl _ _).alloc _).alloc _)
  obtain ⟨g, hg⟩ : ∃ g, g = w.heap.size := ⟨_, rfl⟩
  have B1 : Hid (Whole w1 g 28 #[.int .u64 (m.l : Nat), .int .u64 (m.e : Nat), .slice ah nh ch]) := Lib.hid (by rw [hw1, hg]; exact (Whole.made _ _ _).alloc _)
  have B2 : Hid (Whole w1 (g + 1) 25 #[.int .u64 (p.l : Nat), .int .u64 (p.e : Nat)]) := Lib.hid (by
    rw [hw1, hg]
    have := Whole.made (w.alloc (.cells #[.int .u64 (m.l : Nat), .int .u64 (m.e : Nat), .slice ah nh ch] 28)) 25 #[.int .u64 (p.l : Nat), .int .u64 (p.e : Nat)]
    rwa [World.size_alloc] at this)
  have GS : Hid (w.heap.size ≤ g) := Lib.hid (by omega)
  have AW := Lib.hid (fun z => awake14_any z)
  have MD := Lib.hid (fun z (hz : Frm [] w z) => made14_any ac n capc cs op z hn (hz.bytes hb (by simp)))
  have PP := Lib.hid (fun z => ldplace_any p raw z)
  have PF := Lib.hid (placeP_fits p raw hp)
  have MF := Lib.hid (placeP_fits m raw hcu.fits)
  have RT := Lib.hid (fun z (hz : Frm [] w1 z) => cqright_any m ah nh ch [g, g + 1] Y raw w z hcu (F1.out.trans hz (by simp) (by simp)) (fun x hx => by
    have h1 := hz.size
    have h2 := B2.out.lt
    simp at hx; omega))
  obtain ⟨p', hp'⟩ : ∃ p', p' = placeP p raw := ⟨_, rfl⟩
  obtain ⟨M, hM⟩ : ∃ M, M = placeP m raw := ⟨_, rfl⟩
  rw [← hp'] at PP PF
  rw [← hM] at MF RT
  clear hn hb _hc1 _hc2 hp hp' hM hcu
  obtain ⟨o, ho⟩ : ∃ o, o = ob % 6 := ⟨_, rfl⟩
  have ho1 : (ob : Int) % 6 = (o : Int) := by omega
  have ho2 : (ob : Int).tmod 6 = (o : Int) := by rw [ho]; rfl
  have ho3 : IntKind.u8.wrap (o : Int) = (o : Int) := by simp [IntKind.wrap, IntKind.bits, IntKind.signed]; omega
  have ho4 : IntKind.u64.wrap (o : Int) = (o : Int) := by simp [IntKind.wrap, IntKind.bits, IntKind.signed]; omega
  have O5 : Hid (o ≤ 5) := Lib.hid (by omega)
  clear ho
  obtain ⟨ml, me⟩ := m
  obtain ⟨pl, pe⟩ := p
  obtain ⟨Ml, Me⟩ := M
  obtain ⟨ppl, ppe⟩ := p'
  unfold LRet at AW
  unfold LRet Ps.val at PP
  unfold RightEnd crsV at RT
  unfold crsV Ps.val
  simp only at hw1 B1 B2 PP RT MF PF ⊢
  have HW1 := Lib.hid hw1; clear hw1
  go_enter Try.func4, Try.ntmps4
  go_wp2_with fail
  rw [← HW1.out, ← hg]
  have HG := Lib.hid hg; clear hg
  (with_reducible refine (AW.out _).mono ?_)
  rintro e w2 ⟨rfl, hf2⟩
  have F2 : Hid (Frm [] w1 w2) := Lib.hid hf2
  clear hf2 AW
  go_wp2_with fail
  (with_reducible refine (MD.out _ (F1.out.trans F2.out (by simp) (by simp))).mono ?_)
  intro e w5 hmd
  obtain ⟨a, k, cap, X, rfl, LDS, hf5⟩ := hmd.lds (F := [g, g + 1]) (fun x hx => by
    have h1 := F2.out.size
    have h2 := B2.out.lt
    simp at hx; omega) O5.out
  have F5 : Hid (Frm [] w1 w5) := Lib.hid (F2.out.trans hf5 (by simp) (by simp))
  have LDS := Lib.hid LDS
  clear hf5 MD hmd
  have b1 := F5.out.whole B1.out (by simp)
  have b2 := F5.out.whole B2.out (by simp)
  have r0 : ∀ z, Frm [] w5 z → z.cell? ⟨g, 0, none⟩ = some (.int .u64 (ml : Nat)) := fun z hz => (hz.whole b1 (by simp)).cell 0
  have r1 : ∀ z, Frm [] w5 z → z.cell? ⟨g, 1, none⟩ = some (.int .u64 (me : Nat)) := fun z hz => (hz.whole b1 (by simp)).cell 1
  have r2 : ∀ z, Frm [] w5 z → z.cell? ⟨g, 2, none⟩ = some (.slice ah nh ch) := fun z hz => (hz.whole b1 (by simp)).cell 2
  have r3 : ∀ z, Frm [] w5 z → z.cell? ⟨g + 1, 0, none⟩ = some (.int .u64 (pl : Nat)) := fun z hz => (hz.whole b2 (by simp)).cell 0
  have r4 : ∀ z, Frm [] w5 z → z.cell? ⟨g + 1, 1, none⟩ = some (.int .u64 (pe : Nat)) := fun z hz => (hz.whole b2 (by simp)).cell 1
  have f0 : ∀ z, Frm [] w5 z → z.frozen? ⟨g, 0, none⟩ = false := fun z hz => (hz.whole b1 (by simp)).free 0
  have f1 : ∀ z, Frm [] w5 z → z.frozen? ⟨g, 1, none⟩ = false := fun z hz => (hz.whole b1 (by simp)).free 1
  have f2 : ∀ z, Frm [] w5 z → z.frozen? ⟨g, 2, none⟩ = false := fun z hz => (hz.whole b1 (by simp)).free 2
  have f3 : ∀ z, Frm [] w5 z → z.frozen? ⟨g + 1, 0, none⟩ = false := fun z hz => (hz.whole b2 (by simp)).free 0
  have f4 : ∀ z, Frm [] w5 z → z.frozen? ⟨g + 1, 1, none⟩ = false := fun z hz => (hz.whole b2 (by simp)).free 1
  have BB := Lib.hid (And.intro b1 b2)
  have RX := Lib.hid (fun z (hz : Frm [] w5 z) => RT.out z (F5.out.trans hz (by simp) (by simp)))
  clear b1 b2 RT
  go_upto_region 4 with (fail)
  refine wp_region_tail (S := fun w' => Frm [] w5 w') (tl := (fun j => j == 6 || j == 7)) (by kernel_rfl) (Frm.drew (Frm.refl _ _)) (fun hHeld => ?_)
  refine tail_take (i := 0) (oi := ⟨some 27, _, _, _, _, _⟩) (v := ?_) rfl (by kernel_rfl) (by kernel_rfl) (by kernel_rfl) (by kernel_rfl) (by kernel_rfl) (fun _ _ _ h => h) (Or.inl ⟨by rfl, ?_⟩) (by assumption) ?_
  rotate_left 1
  · (intro w hSw; (try dsimp only at hSw); go_simp; all_goals with_reducible rfl)
  try simp only [Act.put, List.setIfInBounds_toArray, List.set_cons_zero, List.set_cons_succ]
  refine tail_take (i := 1) (oi := ⟨some 28, _, _, _, _, _⟩) (v := ?_) rfl (by kernel_rfl) (by kernel_rfl) (by kernel_rfl) (by kernel_rfl) (by kernel_rfl) (fun _ _ _ h => h) (Or.inl ⟨by rfl, ?_⟩) (by assumption) ?_
  rotate_left 1
  · (intro w hSw; (try dsimp only at hSw); go_simp; all_goals with_reducible rfl)
  try simp only [Act.put, List.setIfInBounds_toArray, List.set_cons_zero, List.set_cons_succ]
  refine tail_take (i := 3) (oi := ⟨some 30, _, _, _, _, _⟩) (v := ?_) rfl (by kernel_rfl) (by kernel_rfl) (by kernel_rfl) (by kernel_rfl) (by kernel_rfl) (fun _ _ _ h => h) (Or.inl ⟨by rfl, ?_⟩) (by assumption) ?_
  rotate_left 1
  · (intro w hSw; (try dsimp only at hSw); go_simp; all_goals with_reducible rfl)
  try simp only [Act.put, List.setIfInBounds_toArray, List.set_cons_zero, List.set_cons_succ]
  refine tail_take (i := 4) (oi := ⟨some 31, _, _, _, _, _⟩) (v := ?_) rfl (by kernel_rfl) (by kernel_rfl) (by kernel_rfl) (by kernel_rfl) (by kernel_rfl) (fun _ _ _ h => h) (Or.inl ⟨by rfl, ?_⟩) (by assumption) ?_
  rotate_left 1
  · (intro w hSw; (try dsimp only at hSw); go_simp; all_goals with_reducible rfl)
  try simp only [Act.put, List.setIfInBounds_toArray, List.set_cons_zero, List.set_cons_succ]
  refine tail_one (i := 2) (o := ⟨some 29, _, _, _, _, _⟩) (by kernel_rfl) rfl (fun K hK => ?_)
  go_simp
  ((with_reducible refine (RX.out _ (by repeat (first | assumption | apply Frm.drew | exact Frm.refl _ _))).mono ?_); rintro e w6 ⟨Z, az, zn, cz, rfl, ZN, ZR, ZL, hf6⟩; have S1 : Frm [] w5 w6 := Frm.trans (by repeat (first | assumption | apply Frm.drew | exact Frm.refl _ _)) hf6.out (by simp) (by simp))
  go_wp2_with fail
  refine hK.out _ _ (fun _ => by assumption) (fun _ => ?_)
  clear hK K
  try simp only [Act.put, List.setIfInBounds_toArray, List.set_cons_zero, List.set_cons_succ]
  refine tail_one (i := 5) (o := ⟨some 32, _, _, _, _, _⟩) (by kernel_rfl) rfl (fun K hK => ?_)
  go_simp
  ((with_reducible refine (PP.out _).mono ?_); rintro e w6b ⟨rfl, hf6b⟩; have S2 : Frm [] w5 w6b := Frm.trans (by assumption) hf6b (by simp) (by simp))
  go_wp2_with fail
  refine hK.out _ _ (fun _ => by assumption) (fun _ => ?_)
  clear hK K
  try simp only [Act.put, List.setIfInBounds_toArray, List.set_cons_zero, List.set_cons_succ]
  refine tail_one (i := 6) (o := ⟨none, _, _, _, _, _⟩) (by kernel_rfl) rfl (fun K hK => ?_)
  go_simp
  refine hK.out _ _ (fun h => absurd h (by decide)) (fun _ => ?_)
  clear hK K
  try simp only [Act.put, List.setIfInBounds_toArray, List.set_cons_zero, List.set_cons_succ]
  refine tail_one (i := 7) (o := ⟨none, _, _, _, _, _⟩) (by kernel_rfl) rfl (fun K hK => ?_)
  go_simp
  refine hK.out _ _ (fun h => absurd h (by decide)) (fun _ => ?_)
  clear hK K
  try simp only [Act.put, List.setIfInBounds_toArray, List.set_cons_zero, List.set_cons_succ]
  refine tail_done (by kernel_rfl) ?_ _
  obtain ⟨w7, hw7⟩ : ∃ w7, w7 = ((((w6b.setCell ⟨g, 0, none⟩ (.int .u64 (Ml : Nat))).setCell ⟨g, 1, none⟩ (.int .u64 (Me : Nat))).setCell ⟨g, 2, none⟩ (.slice az zn cz)).setCell ⟨g + 1, 0, none⟩ (.int .u64 (ppl : Nat))).setCell ⟨g + 1, 1, none⟩ (.int .u64 (ppe : Nat)) := ⟨_, rfl⟩
  rw [← hw7]
  have hw6 := S2.whole BB.out.1 (by simp)
  have hw6' := S2.whole BB.out.2 (by simp)
  have C1 : Hid (Whole w7 g 28 #[.int .u64 (Ml : Nat), .int .u64 (Me : Nat), .slice az zn cz]) := Lib.hid (by
    rw [hw7]
    have := ((((hw6.put 0 (.int .u64 (Ml : Nat))).put 1 (.int .u64 (Me : Nat))).put 2 (.slice az zn cz)).other (p := ⟨g + 1, 0, none⟩) (by simp) (.int .u64 (ppl : Nat))).other (p := ⟨g + 1, 1, none⟩) (by simp) (.int .u64 (ppe : Nat))
    simpa using this)
  have C2 : Hid (Whole w7 (g + 1) 25 #[.int .u64 (ppl : Nat), .int .u64 (ppe : Nat)]) := Lib.hid (by
    rw [hw7]
    have := ((((hw6'.other (p := ⟨g, 0, none⟩) (by simp) (.int .u64 (Ml : Nat))).other (p := ⟨g, 1, none⟩) (by simp) (.int .u64 (Me : Nat))).other (p := ⟨g, 2, none⟩) (by simp) (.slice az zn cz)).put 0 (.int .u64 (ppl : Nat))).put 1 (.int .u64 (ppe : Nat))
    simpa using this)
  have F67 : Frm [g, g + 1] w6b w7 := by rw [hw7]; exact (((((Frm.refl _ _).setCell (.inl (by simp)) _).setCell (.inl (by simp)) _).setCell (.inl (by simp)) _).setCell (.inl (by simp)) _).setCell (.inl (by simp)) _
  have FW7 : Hid (Frm [] w w7) := Lib.hid ((F1.out.trans (F5.out.trans S2 (U := []) (by simp) (by simp)) (U := []) (by simp) (by simp)).trans F67 (by simp) (fun x hx => .inr (by simp at hx; have := GS.out; omega)))
  have L7 : Hid (Lds14 w7 [] a k X o) := Lib.hid ((LDS.out.keep S2 (F' := [g, g + 1]) (by simp) (fun x hx => .inl hx)).keep F67 (F' := []) (fun x hx => .inl hx) (by simp))
  have Z7 : Hid (HxL w7 [] az Z) := Lib.hid ((ZL.out.1.keep hf6b (F' := [g, g + 1]) (by simp) (fun x hx => .inl hx)).keep F67 (F' := []) (fun x hx => .inl hx) (by simp))
  clear hw6 hw6' F67 S1 S2 hf6b r0 r1 r2 r3 r4 f0 f1 f2 f3 f4 BB LDS F5 F2 B1 B2 PP RX F1 ho1 ho2 ho3 ho4 GS
  have HW7 := Lib.hid hw7
  clear hw7
  have RG : Hid (RgsOk Z) := Lib.hid (rgsOk_of ZR.out.2.1.rgs ZR.out.2.2 (by omega))
  have RG2 : Hid (∀ x ∈ Z, x.t.2.length < 4611686018427387904) := Lib.hid (fun x hx => by have := (RG.out x hx).1; omega)
  have O64 : Hid (o < 18446744073709551616) := Lib.hid (by have := O5.out; omega)
  have NX := Lib.hid (fun z (hz : Frm [] w7 z) => cqnext_any a k cap X o ⟨Ml, Me⟩ az zn cz [] Z ⟨ppl, ppe⟩ z (L7.out.l.sub hz) L7.out.len (by have := L7.out.few; omega) O64.out L7.out.fits L7.out.right (Z7.out.sub hz) ZR.out.2.1.srt ZN.out (by have := ZR.out.1; omega) RG.out MF.out.2 PF.out.2)
  have RN := Lib.hid (fun z (hz : Frm [] w7 z) => crfree_any a k cap X o ⟨Ml, Me⟩ az zn cz [] Z ⟨ppl, ppe⟩ z (L7.out.l.sub hz) L7.out.len (by have := L7.out.few; omega) (by have := L7.out.tot; omega) (Z7.out.sub hz) ZN.out (by have := ZR.out.1; omega) RG2.out)
  have BK := Lib.hid (fun z (hz : Frm [] w7 z) => cqback_any a k cap X o ⟨Ml, Me⟩ az zn cz [] Z z (L7.out.l.sub hz) L7.out.len (by have := L7.out.few; omega) O64.out L7.out.fits L7.out.right (by have := L7.out.tot; omega) (Z7.out.sub hz) ZN.out (by have := ZR.out.1; omega) RG.out ZR.out.2.1)
  have RB := Lib.hid (fun z (hz : Frm [] w7 z) => crback_any a k cap X o ⟨Ml, Me⟩ az zn cz [] Z z (L7.out.l.sub hz) L7.out.len (by have := L7.out.few; omega) (by have := L7.out.tot; omega) (Z7.out.sub hz) ZN.out (by have := ZR.out.1; omega) RG2.out)
  obtain ⟨P, b, hPb⟩ := nextCV_pair (nextC X o ⟨⟨Ml, Me⟩, hels Z⟩ ⟨ppl, ppe⟩)
  rw [hPb] at NX RN
  clear hPb
  obtain ⟨B, hB⟩ : ∃ B, B = backC X o ⟨⟨Ml, Me⟩, hels Z⟩ := ⟨_, rfl⟩
  rw [← hB] at BK RB
  clear hB
  unfold LRet crsV Ps.val at NX RN
  unfold LRet crsV at BK RB
  simp only at NX RN BK RB
  have k0 : ∀ z, Frm [] w7 z → z.cell? ⟨g, 0, none⟩ = some (.int .u64 (Ml : Nat)) := fun z hz => (hz.whole C1.out (by simp)).cell 0
  have k1 : ∀ z, Frm [] w7 z → z.cell? ⟨g, 1, none⟩ = some (.int .u64 (Me : Nat)) := fun z hz => (hz.whole C1.out (by simp)).cell 1
  have k2 : ∀ z, Frm [] w7 z → z.cell? ⟨g, 2, none⟩ = some (.slice az zn cz) := fun z hz => (hz.whole C1.out (by simp)).cell 2
  have k3 : ∀ z, Frm [] w7 z → z.cell? ⟨g + 1, 0, none⟩ = some (.int .u64 (ppl : Nat)) := fun z hz => (hz.whole C2.out (by simp)).cell 0
  have k4 : ∀ z, Frm [] w7 z → z.cell? ⟨g + 1, 1, none⟩ = some (.int .u64 (ppe : Nat)) := fun z hz => (hz.whole C2.out (by simp)).cell 1
  have x0 := k0 _ (Frm.refl _ _)
  have x1 := k1 _ (Frm.refl _ _)
  have x2 := k2 _ (Frm.refl _ _)
  have x3 := k3 _ (Frm.refl _ _)
  have x4 := k4 _ (Frm.refl _ _)
  go_wp2_with fail
  (with_reducible refine (NX.out _ (Frm.refl _ _)).mono ?_)
  rintro e w8 ⟨rfl, hf8⟩
  clear x0 x1 x2 x3 x4
  obtain ⟨V8, hV8⟩ : ∃ V8, V8 = w8.alloc (.cells #[.int .u64 (P.l : Nat), .int .u64 (P.e : Nat)] 25) := ⟨_, rfl⟩
  obtain ⟨y8, hy8⟩ : ∃ y8, y8 = w8.heap.size := ⟨_, rfl⟩
  have F8 : Hid (Frm [] w7 V8) := Lib.hid (by rw [hV8]; exact hf8.alloc _)
  have D8 : Hid (Whole V8 y8 25 #[.int .u64 (P.l : Nat), .int .u64 (P.e : Nat)]) := Lib.hid (by rw [hV8, hy8]; exact Whole.made _ _ _)
  have HV8 := Lib.hid hV8; clear hV8
  have HY8 := Lib.hid hy8; clear hy8 hf8
  have x0 := k0 _ F8.out
  have x1 := k1 _ F8.out
  have x2 := k2 _ F8.out
  have x3 := k3 _ F8.out
  have x4 := k4 _ F8.out
  go_upto_region 6 with (fail)
  rw [← HV8.out, ← HY8.out]
  go_wp2_with fail
  (with_reducible refine (RN.out _ F8.out).mono ?_)
  rintro e w9 ⟨rfl, hf9⟩
  clear x0 x1 x2 x3 x4
  obtain ⟨V9, hV9⟩ : ∃ V9, V9 = w9.alloc (.cells #[.int .u64 (P.l : Nat), .int .u64 (P.e : Nat)] 25) := ⟨_, rfl⟩
  obtain ⟨y9, hy9⟩ : ∃ y9, y9 = w9.heap.size := ⟨_, rfl⟩
  have F89 : Hid (Frm [] V8 V9) := Lib.hid (by rw [hV9]; exact hf9.alloc _)
  have F9 : Hid (Frm [] w7 V9) := Lib.hid (F8.out.trans F89.out (by simp) (by simp))
  have D9 : Hid (Whole V9 y9 25 #[.int .u64 (P.l : Nat), .int .u64 (P.e : Nat)]) := Lib.hid (by rw [hV9, hy9]; exact Whole.made _ _ _)
  have D89 : Hid (Whole V9 y8 25 #[.int .u64 (P.l : Nat), .int .u64 (P.e : Nat)]) := Lib.hid (F89.out.whole D8.out (by simp))
  have HV9 := Lib.hid hV9; clear hV9
  have HY9 := Lib.hid hy9; clear hy9 hf9
  have BKX := Lib.hid (fun z (hz : Frm [] V9 z) => BK.out z (F9.out.trans hz (by simp) (by simp)))
  have RBX := Lib.hid (fun z (hz : Frm [] V9 z) => RB.out z (F9.out.trans hz (by simp) (by simp)))
  have k0 : ∀ z, Frm [] V9 z → z.cell? ⟨g, 0, none⟩ = some (.int .u64 (Ml : Nat)) := fun z hz => k0 z (F9.out.trans hz (by simp) (by simp))
  have k1 : ∀ z, Frm [] V9 z → z.cell? ⟨g, 1, none⟩ = some (.int .u64 (Me : Nat)) := fun z hz => k1 z (F9.out.trans hz (by simp) (by simp))
  have k2 : ∀ z, Frm [] V9 z → z.cell? ⟨g, 2, none⟩ = some (.slice az zn cz) := fun z hz => k2 z (F9.out.trans hz (by simp) (by simp))
  have u0 : ∀ z, Frm [] V9 z → z.cell? ⟨y8, 0, none⟩ = some (.int .u64 (P.l : Nat)) := fun z hz => (hz.whole D89.out (by simp)).cell 0
  have u1 : ∀ z, Frm [] V9 z → z.cell? ⟨y8, 1, none⟩ = some (.int .u64 (P.e : Nat)) := fun z hz => (hz.whole D89.out (by simp)).cell 1
  have u2 : ∀ z, Frm [] V9 z → z.cell? ⟨y9, 0, none⟩ = some (.int .u64 (P.l : Nat)) := fun z hz => (hz.whole D9.out (by simp)).cell 0
  have u3 : ∀ z, Frm [] V9 z → z.cell? ⟨y9, 1, none⟩ = some (.int .u64 (P.e : Nat)) := fun z hz => (hz.whole D9.out (by simp)).cell 1
  have eqp : ∀ w : World, (binOp .eql 25 (.agg #[.int .u64 (P.l : Nat), .int .u64 (P.e : Nat)]) (.agg #[.int .u64 (P.l : Nat), .int .u64 (P.e : Nat)])).run Try.prog w = .ok (.bool true) w := fun w => by rw [eql_ps, decide_eq_true rfl]
  have eqb : (b == b) = true := by simp
  have eqn : ((B : Int) == (B : Int)) = true := by simp
  clear k3 k4 NX RN BK RB
  go_upto_region 7 with (fail)
  rw [← HV9.out, ← HY9.out]
  refine wp_region_held_drew (S := fun w' => Frm [] V9 w') (by kernel_rfl) (Frm.drew (Frm.refl _ _)) (fun hHeld => ?_)
  refine wpAnyH_take (i := 0) (oi := ⟨some 49, _, _, _, _, _⟩) (v := ?_) rfl (by kernel_rfl) (by kernel_rfl) (by kernel_rfl) (fun _ _ _ h => h) (Or.inl ⟨by rfl, ?_⟩) (by assumption) ?_
  rotate_left 1
  · (intro w hSw; (try dsimp only at hSw); go_simp; all_goals with_reducible rfl)
  try simp only [Act.put, List.setIfInBounds_toArray, List.set_cons_zero, List.set_cons_succ]
  refine wpAnyH_take (i := 1) (oi := ⟨some 50, _, _, _, _, _⟩) (v := ?_) rfl (by kernel_rfl) (by kernel_rfl) (by kernel_rfl) (fun _ _ _ h => h) (Or.inl ⟨by rfl, ?_⟩) (by assumption) ?_
  rotate_left 1
  · (intro w hSw; (try dsimp only at hSw); go_simp; all_goals with_reducible rfl)
  try simp only [Act.put, List.setIfInBounds_toArray, List.set_cons_zero, List.set_cons_succ]
  refine wpAnyH_take (i := 2) (oi := ⟨some 51, _, _, _, _, _⟩) (v := ?_) rfl (by kernel_rfl) (by kernel_rfl) (by kernel_rfl) (fun _ _ _ h => h) (Or.inl ⟨by rfl, ?_⟩) (by assumption) ?_
  rotate_left 1
  · (intro w hSw; (try dsimp only at hSw); go_simp; all_goals with_reducible rfl)
  try simp only [Act.put, List.setIfInBounds_toArray, List.set_cons_zero, List.set_cons_succ]
  refine wpAnyH_take (i := 3) (oi := ⟨some 52, _, _, _, _, _⟩) (v := ?_) rfl (by kernel_rfl) (by kernel_rfl) (by kernel_rfl) (fun _ _ _ h => h) (Or.inl ⟨by rfl, ?_⟩) (by assumption) ?_
  rotate_left 1
  · (intro w hSw; (try dsimp only at hSw); go_simp; all_goals with_reducible rfl)
  try simp only [Act.put, List.setIfInBounds_toArray, List.set_cons_zero, List.set_cons_succ]
  refine wpAnyH_take (i := 4) (oi := ⟨some 53, _, _, _, _, _⟩) (v := ?_) rfl (by kernel_rfl) (by kernel_rfl) (by kernel_rfl) (fun _ _ _ h => h) (Or.inl ⟨by rfl, ?_⟩) (by assumption) ?_
  rotate_left 1
  · (intro w hSw; (try dsimp only at hSw); go_simp; all_goals with_reducible rfl)
  try simp only [Act.put, List.setIfInBounds_toArray, List.set_cons_zero, List.set_cons_succ]
  refine wpAnyH_take (i := 5) (oi := ⟨some 54, _, _, _, _, _⟩) (v := ?_) rfl (by kernel_rfl) (by kernel_rfl) (by kernel_rfl) (fun _ _ _ h => h) (Or.inl ⟨by rfl, ?_⟩) (by assumption) ?_
  rotate_left 1
  · (intro w hSw; (try dsimp only at hSw); go_simp; all_goals with_reducible rfl)
  try simp only [Act.put, List.setIfInBounds_toArray, List.set_cons_zero, List.set_cons_succ]
  refine wpAnyH_take (i := 6) (oi := ⟨some 55, _, _, _, _, _⟩) (v := ?_) rfl (by kernel_rfl) (by kernel_rfl) (by kernel_rfl) (fun _ _ _ h => h) (Or.inl ⟨by rfl, ?_⟩) (by assumption) ?_
  rotate_left 1
  · (intro w hSw; (try dsimp only at hSw); go_simp; all_goals with_reducible rfl)
  try simp only [Act.put, List.setIfInBounds_toArray, List.set_cons_zero, List.set_cons_succ]
  refine wpAnyH_take (i := 7) (oi := ⟨some 56, _, _, _, _, _⟩) (v := ?_) rfl (by kernel_rfl) (by kernel_rfl) (by kernel_rfl) (fun _ _ _ h => h) (Or.inl ⟨by rfl, ?_⟩) (by assumption) ?_
  rotate_left 1
  · (intro w hSw; (try dsimp only at hSw); go_simp; all_goals with_reducible rfl)
  try simp only [Act.put, List.setIfInBounds_toArray, List.set_cons_zero, List.set_cons_succ]
  refine wpAnyH_take (i := 8) (oi := ⟨some 57, _, _, _, _, _⟩) (v := ?_) rfl (by kernel_rfl) (by kernel_rfl) (by kernel_rfl) (fun _ _ _ h => h) (Or.inl ⟨by rfl, ?_⟩) (by assumption) ?_
  rotate_left 1
  · (intro w hSw; (try dsimp only at hSw); go_simp; all_goals with_reducible rfl)
  try simp only [Act.put, List.setIfInBounds_toArray, List.set_cons_zero, List.set_cons_succ]
  refine wpAnyH_take (i := 9) (oi := ⟨some 58, _, _, _, _, _⟩) (v := ?_) rfl (by kernel_rfl) (by kernel_rfl) (by kernel_rfl) (fun _ _ _ h => h) (Or.inl ⟨by rfl, ?_⟩) (by assumption) ?_
  rotate_left 1
  · (intro w hSw; (try dsimp only at hSw); go_simp; all_goals with_reducible rfl)
  try simp only [Act.put, List.setIfInBounds_toArray, List.set_cons_zero, List.set_cons_succ]
  refine wpAnyH_take (i := 10) (oi := ⟨some 59, _, _, _, _, _⟩) (v := ?_) rfl (by kernel_rfl) (by kernel_rfl) (by kernel_rfl) (fun _ _ _ h => h) (Or.inl ⟨by rfl, ?_⟩) (by assumption) ?_
  rotate_left 1
  · (intro w hSw; (try dsimp only at hSw); go_simp; all_goals with_reducible rfl)
  try simp only [Act.put, List.setIfInBounds_toArray, List.set_cons_zero, List.set_cons_succ]
  refine wpAnyH_take (i := 11) (oi := ⟨some 60, _, _, _, _, _⟩) (v := ?_) rfl (by kernel_rfl) (by kernel_rfl) (by kernel_rfl) (fun _ _ _ h => h) (Or.inl ⟨by rfl, ?_⟩) (by assumption) ?_
  rotate_left 1
  · (intro w hSw; (try dsimp only at hSw); go_simp; all_goals with_reducible rfl)
  try simp only [Act.put, List.setIfInBounds_toArray, List.set_cons_zero, List.set_cons_succ]
  refine wpAnyH_take (i := 13) (oi := ⟨some 62, _, _, _, _, _⟩) (v := ?_) rfl (by kernel_rfl) (by kernel_rfl) (by kernel_rfl) (fun _ _ _ h => h) (Or.inl ⟨by rfl, ?_⟩) (by assumption) ?_
  rotate_left 1
  · (intro w hSw; (try dsimp only at hSw); go_simp; all_goals with_reducible rfl)
  try simp only [Act.put, List.setIfInBounds_toArray, List.set_cons_zero, List.set_cons_succ]
  refine wpAnyH_take (i := 14) (oi := ⟨some 63, _, _, _, _, _⟩) (v := ?_) rfl (by kernel_rfl) (by kernel_rfl) (by kernel_rfl) (fun _ _ _ h => h) (Or.inl ⟨by rfl, ?_⟩) (by assumption) ?_
  rotate_left 1
  · (intro w hSw; (try dsimp only at hSw); go_simp; all_goals with_reducible rfl)
  try simp only [Act.put, List.setIfInBounds_toArray, List.set_cons_zero, List.set_cons_succ]
  refine wpAnyH_take (i := 15) (oi := ⟨some 64, _, _, _, _, _⟩) (v := ?_) rfl (by kernel_rfl) (by kernel_rfl) (by kernel_rfl) (fun _ _ _ h => h) (Or.inl ⟨by rfl, ?_⟩) (by assumption) ?_
  rotate_left 1
  · (intro w hSw; (try dsimp only at hSw); go_simp; all_goals with_reducible rfl)
  try simp only [Act.put, List.setIfInBounds_toArray, List.set_cons_zero, List.set_cons_succ]
  refine wpAnyH_ready (rs := [12]) (by kernel_rfl) (by simp) ?_
  refine AllReadyH.cons (o := ⟨some 61, _, _, _, _, _⟩) rfl (fun K hK => ?_) AllReadyH.nil
  go_simp
  go_at_call 22; (with_reducible refine (BKX.out _ hHeld).mono ?_); rintro e v1 ⟨rfl, hv1⟩; have hHeld1 : Frm [] V9 v1 := hHeld.trans hv1 (by simp) (by simp)
  go_wp2_with fail
  refine hK.out _ _ (by assumption) (fun hHeld => ?_)
  clear hK K
  try simp only [Act.put, List.setIfInBounds_toArray, List.set_cons_zero, List.set_cons_succ]
  refine wpAnyH_ready (rs := [16]) (by kernel_rfl) (by simp) ?_
  refine AllReadyH.cons (o := ⟨some 65, _, _, _, _, _⟩) rfl (fun K hK => ?_) AllReadyH.nil
  go_simp
  go_at_call 23; (with_reducible refine (RBX.out _ hHeld).mono ?_); rintro e v2 ⟨rfl, hv2⟩; have hHeld2 : Frm [] V9 v2 := hHeld.trans hv2 (by simp) (by simp)
  go_wp2_with fail
  refine hK.out _ _ (by assumption) (fun hHeld => ?_)
  clear hK K
  try simp only [Act.put, List.setIfInBounds_toArray, List.set_cons_zero, List.set_cons_succ]
  refine wpAnyH_take (i := 17) (oi := ⟨some 66, _, _, _, _, _⟩) (v := ?_) rfl (by kernel_rfl) (by kernel_rfl) (by kernel_rfl) (fun _ _ _ h => h) (Or.inl ⟨by rfl, ?_⟩) (by assumption) ?_
  rotate_left 1
  · (intro w hSw; (try dsimp only at hSw); go_simp; all_goals with_reducible rfl)
  try simp only [Act.put, List.setIfInBounds_toArray, List.set_cons_zero, List.set_cons_succ]
  refine wpAnyH_take (i := 18) (oi := ⟨some 67, _, _, _, _, _⟩) (v := ?_) rfl (by kernel_rfl) (by kernel_rfl) (by kernel_rfl) (fun _ _ _ h => h) (Or.inl ⟨by rfl, ?_⟩) (by assumption) ?_
  rotate_left 1
  · (intro w hSw; (try dsimp only at hSw); go_simp; all_goals with_reducible rfl)
  try simp only [Act.put, List.setIfInBounds_toArray, List.set_cons_zero, List.set_cons_succ]
  refine wpAnyH_take (i := 19) (oi := ⟨some 12, _, _, _, _, _⟩) (v := ?_) rfl (by kernel_rfl) (by kernel_rfl) (by kernel_rfl) (fun _ _ _ h => h) (Or.inl ⟨by rfl, ?_⟩) (by assumption) ?_
  rotate_left 1
  · (intro w hSw; (try dsimp only at hSw); go_simp; all_goals with_reducible rfl)
  try simp only [Act.put, List.setIfInBounds_toArray, List.set_cons_zero, List.set_cons_succ]
  refine wpAnyH_done (by kernel_rfl) ?_ _
  have FX : Hid (Frm [] w _) := Lib.hid (FW7.out.trans (F9.out.trans hHeld (U := []) (by simp) (by simp)) (by simp) (by simp))
  clear k0 k1 k2 u0 u1 u2 u3
  go_wp2
  go_ret
  exact lTrue FX.out
end Go.Proofs.Ytghadpihmhaepaa
