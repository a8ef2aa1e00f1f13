/- The walk of CursorAcks. -/
import Derived.Test.YtghadpihmhaepaaZCqRight
import Derived.Test.YtghadpihmhaepaaZCuAk
import Derived.Test.YtghadpihmhaepaaZTail
namespace Go.Proofs.Ytghadpihmhaepaa
open Go.RowKit
set_option maxRecDepth 100000

set_option maxHeartbeats 16000000 in
theorem cursorAcks_walk (ac : Option Addr) (n capc : Nat) (cs : List Nat) (op : Bool) (ob : Nat) (cu : Ps × Option Addr × Nat × Nat × List Hx) (p : Ps) (raw : Bool) (w : World) (hn : n = cs.length) (hb : Bytes w ac cs) (_hc1 : n ≤ capc) (_hc2 : ac = none → capc = 0) (_hob : ob < 256) (hcu : CrsIn w cu.1 cu.2.1 cu.2.2.1 cu.2.2.2.1 cu.2.2.2.2) (hp : p.fits) :
    Calls Try.prog 3 #[.slice ac n capc, .bool op, .int .u8 (ob : Nat), crsV cu.1 cu.2.1 cu.2.2.1 cu.2.2.2.1, p.val, .bool raw] w (LTrue w) := by
  obtain ⟨m, ah, nh, ch, Y⟩ := cu
  simp only at hcu ⊢
  obtain ⟨w1, hw1⟩ : ∃ w1, w1 = (w.alloc (.cells #[.int .u64 (m.l : Nat), .int .u64 (m.e : Nat), .slice ah nh ch] 28)).alloc (.cells #[.int .u64 (p.l : Nat), .int .u64 (p.e : Nat)] 25) := ⟨_, rfl⟩
  have F1 : Hid (Frm [] w w1) := Lib.hid (by rw [hw1]; exact ((Frm.refl _ _).alloc _).alloc _)
  obtain ⟨g, hg⟩ : ∃ g, g = w.heap.size := ⟨_, rfl⟩
  have B1 : Hid (Whole w1 g 28 #[.int .u64 (m.l : Nat), .int .u64 (m.e : Nat), .slice ah nh ch]) := Lib.hid (by rw [hw1, hg]; exact (Whole.made _ _ _).alloc _)
  have B2 : Hid (Whole w1 (g + 1) 25 #[.int .u64 (p.l : Nat), .int .u64 (p.e : Nat)]) := Lib.hid (by
    rw [hw1, hg]
    have := Whole.made (w.alloc (.cells #[.int .u64 (m.l : Nat), .int .u64 (m.e : Nat), .slice ah nh ch] 28)) 25 #[.int .u64 (p.l : Nat), .int .u64 (p.e : Nat)]
    rwa [World.size_alloc] at this)
  have GS : Hid (w.heap.size ≤ g) := Lib.hid (by omega)
  have AW := Lib.hid (fun z => awake14_any z)
  have MD := Lib.hid (fun z (hz : Frm [] w z) => made14_any ac n capc cs op z hn (hz.bytes hb (by simp)))
  have PP := Lib.hid (fun z => ldplace_any p raw z)
  have PF := Lib.hid (placeP_fits p raw hp)
  have MF := Lib.hid (placeP_fits m raw hcu.fits)
  have RT := Lib.hid (fun z (hz : Frm [] w1 z) => cqright_any m ah nh ch [g, g + 1] Y raw w z hcu (F1.out.trans hz (by simp) (by simp)) (fun x hx => by
    have h1 := hz.size
    have h2 := B2.out.lt
    simp at hx; omega))
  obtain ⟨p', hp'⟩ : ∃ p', p' = placeP p raw := ⟨_, rfl⟩
  obtain ⟨M, hM⟩ : ∃ M, M = placeP m raw := ⟨_, rfl⟩
  rw [← hp'] at PP PF
  rw [← hM] at MF RT
  clear hn hb _hc1 _hc2 hp hp' hM hcu
  obtain ⟨o, ho⟩ : ∃ o, o = ob % 6 := ⟨_, rfl⟩
  have ho1 : (ob : Int) % 6 = (o : Int) := by omega
  have ho2 : (ob : Int).tmod 6 = (o : Int) := by rw [ho]; rfl
  have ho3 : IntKind.u8.wrap (o : Int) = (o : Int) := by simp [IntKind.wrap, IntKind.bits, IntKind.signed]; omega
  have ho4 : IntKind.u64.wrap (o : Int) = (o : Int) := by simp [IntKind.wrap, IntKind.bits, IntKind.signed]; omega
  have O5 : Hid (o ≤ 5) := Lib.hid (by omega)
  clear ho
  obtain ⟨ml, me⟩ := m
  obtain ⟨pl, pe⟩ := p
  obtain ⟨Ml, Me⟩ := M
  obtain ⟨ppl, ppe⟩ := p'
  unfold LRet at AW
  unfold LRet Ps.val at PP
  unfold crsV Ps.val
  unfold crsV at RT
  simp only at hw1 B1 B2 PP RT MF PF ⊢
  have HW1 := Lib.hid hw1; clear hw1
  go_enter Try.func3, Try.ntmps3
  go_wp2_with fail
  rw [← HW1.out, ← hg]
  have HG := Lib.hid hg; clear hg
  (with_reducible refine (AW.out _).mono ?_)
  rintro e w2 ⟨rfl, hf2⟩
  have F2 : Hid (Frm [] w1 w2) := Lib.hid hf2
  clear hf2 AW
  go_wp2_with fail
  (with_reducible refine (MD.out _ (F1.out.trans F2.out (by simp) (by simp))).mono ?_)
  intro e w5 hmd
  obtain ⟨a, k, cap, X, rfl, LDS, hf5⟩ := hmd.lds (F := [g, g + 1]) (fun x hx => by
    have h1 := F2.out.size
    have h2 := B2.out.lt
    simp at hx; omega) O5.out
  have F5 : Hid (Frm [] w1 w5) := Lib.hid (F2.out.trans hf5 (by simp) (by simp))
  have LDS := Lib.hid LDS
  clear hf5 MD hmd
  have b1 := F5.out.whole B1.out (by simp)
  have b2 := F5.out.whole B2.out (by simp)
  have r0 : ∀ z, Frm [] w5 z → z.cell? ⟨g, 0, none⟩ = some (.int .u64 (ml : Nat)) := fun z hz => (hz.whole b1 (by simp)).cell 0
  have r1 : ∀ z, Frm [] w5 z → z.cell? ⟨g, 1, none⟩ = some (.int .u64 (me : Nat)) := fun z hz => (hz.whole b1 (by simp)).cell 1
  have r2 : ∀ z, Frm [] w5 z → z.cell? ⟨g, 2, none⟩ = some (.slice ah nh ch) := fun z hz => (hz.whole b1 (by simp)).cell 2
  have r3 : ∀ z, Frm [] w5 z → z.cell? ⟨g + 1, 0, none⟩ = some (.int .u64 (pl : Nat)) := fun z hz => (hz.whole b2 (by simp)).cell 0
  have r4 : ∀ z, Frm [] w5 z → z.cell? ⟨g + 1, 1, none⟩ = some (.int .u64 (pe : Nat)) := fun z hz => (hz.whole b2 (by simp)).cell 1
  have f0 : ∀ z, Frm [] w5 z → z.frozen? ⟨g, 0, none⟩ = false := fun z hz => (hz.whole b1 (by simp)).free 0
  have f1 : ∀ z, Frm [] w5 z → z.frozen? ⟨g, 1, none⟩ = false := fun z hz => (hz.whole b1 (by simp)).free 1
  have f2 : ∀ z, Frm [] w5 z → z.frozen? ⟨g, 2, none⟩ = false := fun z hz => (hz.whole b1 (by simp)).free 2
  have f3 : ∀ z, Frm [] w5 z → z.frozen? ⟨g + 1, 0, none⟩ = false := fun z hz => (hz.whole b2 (by simp)).free 0
  have f4 : ∀ z, Frm [] w5 z → z.frozen? ⟨g + 1, 1, none⟩ = false := fun z hz => (hz.whole b2 (by simp)).free 1
  have BB := Lib.hid (And.intro b1 b2)
  have RX := Lib.hid (fun z (hz : Frm [] w5 z) => RT.out z (F5.out.trans hz (by simp) (by simp)))
  clear b1 b2 RT
  go_upto_region 4 with (fail)
  refine wp_region_tail (S := fun w' => Frm [] w5 w') (tl := (fun j => j == 6 || j == 7)) (by kernel_rfl) (Frm.drew (Frm.refl _ _)) (fun hHeld => ?_)
  refine tail_take (i := 0) (oi := ⟨some 27, _, _, _, _, _⟩) (v := ?_) rfl (by kernel_rfl) (by kernel_rfl) (by kernel_rfl) (by kernel_rfl) (by kernel_rfl) (fun _ _ _ h => h) (Or.inl ⟨by rfl, ?_⟩) (by assumption) ?_
  rotate_left 1
  · (intro w hSw; (try dsimp only at hSw); go_simp; all_goals with_reducible rfl)
  try simp only [Act.put, List.setIfInBounds_toArray, List.set_cons_zero, List.set_cons_succ]
  refine tail_take (i := 1) (oi := ⟨some 28, _, _, _, _, _⟩) (v := ?_) rfl (by kernel_rfl) (by kernel_rfl) (by kernel_rfl) (by kernel_rfl) (by kernel_rfl) (fun _ _ _ h => h) (Or.inl ⟨by rfl, ?_⟩) (by assumption) ?_
  rotate_left 1
  · (intro w hSw; (try dsimp only at hSw); go_simp; all_goals with_reducible rfl)
  try simp only [Act.put, List.setIfInBounds_toArray, List.set_cons_zero, List.set_cons_succ]
  refine tail_take (i := 3) (oi := ⟨some 30, _, _, _, _, _⟩) (v := ?_) rfl (by kernel_rfl) (by kernel_rfl) (by kernel_rfl) (by kernel_rfl) (by kernel_rfl) (fun _ _ _ h => h) (Or.inl ⟨by rfl, ?_⟩) (by assumption) ?_
  rotate_left 1
  · (intro w hSw; (try dsimp only at hSw); go_simp; all_goals with_reducible rfl)
  try simp only [Act.put, List.setIfInBounds_toArray, List.set_cons_zero, List.set_cons_succ]
  refine tail_take (i := 4) (oi := ⟨some 31, _, _, _, _, _⟩) (v := ?_) rfl (by kernel_rfl) (by kernel_rfl) (by kernel_rfl) (by kernel_rfl) (by kernel_rfl) (fun _ _ _ h => h) (Or.inl ⟨by rfl, ?_⟩) (by assumption) ?_
  rotate_left 1
  · (intro w hSw; (try dsimp only at hSw); go_simp; all_goals with_reducible rfl)
  try simp only [Act.put, List.setIfInBounds_toArray, List.set_cons_zero, List.set_cons_succ]
  refine tail_one (i := 2) (o := ⟨some 29, _, _, _, _, _⟩) (by kernel_rfl) rfl (fun K hK => ?_)
  go_simp
  ((with_reducible refine (RX.out _ (by repeat (first | assumption | apply Frm.drew | exact Frm.refl _ _))).mono ?_); intro e w6 hre; obtain ⟨Z, az, zn, cz, rfl, hci, hf6⟩ := RightEnd.cin2 hre MF.out.2; clear hre; have CI := Lib.hid hci; clear hci; have S1 : Frm [] w5 w6 := Frm.trans (by repeat (first | assumption | apply Frm.drew | exact Frm.refl _ _)) hf6 (by simp) (by simp); clear hf6)
  go_wp2_with fail
  refine hK.out _ _ (fun _ => by assumption) (fun _ => ?_)
  clear hK K
  try simp only [Act.put, List.setIfInBounds_toArray, List.set_cons_zero, List.set_cons_succ]
  refine tail_one (i := 5) (o := ⟨some 32, _, _, _, _, _⟩) (by kernel_rfl) rfl (fun K hK => ?_)
  go_simp
  ((with_reducible refine (PP.out _).mono ?_); rintro e w6b ⟨rfl, hf6b⟩; have S2 : Frm [] w5 w6b := Frm.trans (by assumption) hf6b (by simp) (by simp))
  go_wp2_with fail
  refine hK.out _ _ (fun _ => by assumption) (fun _ => ?_)
  clear hK K
  try simp only [Act.put, List.setIfInBounds_toArray, List.set_cons_zero, List.set_cons_succ]
  refine tail_one (i := 6) (o := ⟨none, _, _, _, _, _⟩) (by kernel_rfl) rfl (fun K hK => ?_)
  go_simp
  refine hK.out _ _ (fun h => absurd h (by decide)) (fun _ => ?_)
  clear hK K
  try simp only [Act.put, List.setIfInBounds_toArray, List.set_cons_zero, List.set_cons_succ]
  refine tail_one (i := 7) (o := ⟨none, _, _, _, _, _⟩) (by kernel_rfl) rfl (fun K hK => ?_)
  go_simp
  refine hK.out _ _ (fun h => absurd h (by decide)) (fun _ => ?_)
  clear hK K
  try simp only [Act.put, List.setIfInBounds_toArray, List.set_cons_zero, List.set_cons_succ]
  refine tail_done (by kernel_rfl) ?_ _
  obtain ⟨w7, hw7⟩ : ∃ w7, w7 = ((((w6b.setCell ⟨g, 0, none⟩ (.int .u64 (Ml : Nat))).setCell ⟨g, 1, none⟩ (.int .u64 (Me : Nat))).setCell ⟨g, 2, none⟩ (.slice az zn cz)).setCell ⟨g + 1, 0, none⟩ (.int .u64 (ppl : Nat))).setCell ⟨g + 1, 1, none⟩ (.int .u64 (ppe : Nat)) := ⟨_, rfl⟩
  rw [← hw7]
  have hw6 := S2.whole BB.out.1 (by simp)
  have hw6' := S2.whole BB.out.2 (by simp)
  have C1 : Hid (Whole w7 g 28 #[.int .u64 (Ml : Nat), .int .u64 (Me : Nat), .slice az zn cz]) := Lib.hid (by
    rw [hw7]
    have := ((((hw6.put 0 (.int .u64 (Ml : Nat))).put 1 (.int .u64 (Me : Nat))).put 2 (.slice az zn cz)).other (p := ⟨g + 1, 0, none⟩) (by simp) (.int .u64 (ppl : Nat))).other (p := ⟨g + 1, 1, none⟩) (by simp) (.int .u64 (ppe : Nat))
    simpa using this)
  have C2 : Hid (Whole w7 (g + 1) 25 #[.int .u64 (ppl : Nat), .int .u64 (ppe : Nat)]) := Lib.hid (by
    rw [hw7]
    have := ((((hw6'.other (p := ⟨g, 0, none⟩) (by simp) (.int .u64 (Ml : Nat))).other (p := ⟨g, 1, none⟩) (by simp) (.int .u64 (Me : Nat))).other (p := ⟨g, 2, none⟩) (by simp) (.slice az zn cz)).put 0 (.int .u64 (ppl : Nat))).put 1 (.int .u64 (ppe : Nat))
    simpa using this)
  have F67 : Frm [g, g + 1] w6b w7 := by rw [hw7]; exact (((((Frm.refl _ _).setCell (.inl (by simp)) _).setCell (.inl (by simp)) _).setCell (.inl (by simp)) _).setCell (.inl (by simp)) _).setCell (.inl (by simp)) _
  have FW7 : Hid (Frm [] w w7) := Lib.hid ((F1.out.trans (F5.out.trans S2 (U := []) (by simp) (by simp)) (U := []) (by simp) (by simp)).trans F67 (by simp) (fun x hx => .inr (by simp at hx; have := GS.out; omega)))
  have L7 : Hid (Lds14 w7 [] a k X o) := Lib.hid ((LDS.out.keep S2 (F' := [g, g + 1]) (by simp) (fun x hx => .inl hx)).keep F67 (F' := []) (fun x hx => .inl hx) (by simp))
  have CI7 : Hid (Cin w7 [] ⟨Ml, Me⟩ az zn cz Z 14) := Lib.hid ((CI.out.keep hf6b (F' := [g, g + 1]) (by simp) (fun x hx => .inl hx)).keep F67 (F' := []) (fun x hx => .inl hx) (by simp))
  clear hw6 hw6' F67 S1 S2 hf6b r0 r1 r2 r3 r4 f0 f1 f2 f3 f4 BB LDS F5 F2 B1 B2 PP RX F1 ho1 ho2 ho3 ho4 GS
  have HW7 := Lib.hid hw7
  clear hw7
  have AK := Lib.hid (fun z (hz : Frm [] w7 z) => cqack14_any (cl := cap) (p := ⟨ppl, ppe⟩) (L7.out.keep hz (F' := []) (by simp) (by simp)) (CI7.out.sub hz) (by omega) (by simp) PF.out)
  have RK := Lib.hid (fun z (hz : Frm [] w7 z) => crack14_any (cl := cap) (p := ⟨ppl, ppe⟩) (L7.out.keep hz (F' := []) (by simp) (by simp)) (CI7.out.sub hz) (by omega) (by simp) PF.out)
  have AL := Lib.hid (fun z y y' (hz : Frm [] w7 z) (hy : w7.heap.size ≤ y ∧ y < z.heap.size) (hy' : w7.heap.size ≤ y' ∧ y' < z.heap.size) => cqall14_any (cl := cap) (p := ⟨ppl, ppe⟩) (L7.out.keep hz (F' := []) (by simp) (by simp)) (CI7.out.keep hz (F' := [y, y']) (by simp) (fun x hx => .inr (by simp at hx; omega))) (by omega) (by simp; omega) PF.out)
  have RL := Lib.hid (fun z y y' (hz : Frm [] w7 z) (hy : w7.heap.size ≤ y ∧ y < z.heap.size) (hy' : w7.heap.size ≤ y' ∧ y' < z.heap.size) => crall14_any (cl := cap) (p := ⟨ppl, ppe⟩) (L7.out.keep hz (F' := []) (by simp) (by simp)) (CI7.out.keep hz (F' := [y, y']) (by simp) (fun x hx => .inr (by simp at hx; omega))) (by omega) (by simp; omega) PF.out)
  have AKC := Lib.hid (fun z (hz : Frm [] w7 z) => cqacked_any (cap := cz) ⟨Ml, Me⟩ az zn [] Z ⟨ppl, ppe⟩ z (CI7.out.sub hz).hl CI7.out.ok.srt CI7.out.len (CI7.out.small (by omega)).1 (CI7.out.rgs (by omega)))
  have RKC := Lib.hid (fun z (hz : Frm [] w7 z) => cracked_any ⟨Ml, Me⟩ az zn cz [] Z ⟨ppl, ppe⟩ z (CI7.out.sub hz).hl CI7.out.len (CI7.out.small (by omega)).1 (CI7.out.small (by omega)).2)
  have UA := Lib.hid (fun A B => toA_uniq (X := X) (o := o) (c := ⟨⟨Ml, Me⟩, hels Z⟩) (p := ⟨ppl, ppe⟩) (A := A) (B := B))
  have UL := Lib.hid (fun A B => toL_uniq (X := X) (o := o) (c := ⟨⟨Ml, Me⟩, hels Z⟩) (p := ⟨ppl, ppe⟩) (A := A) (B := B))
  obtain ⟨CC, hCC⟩ : ∃ CC, CC = (⟨⟨Ml, Me⟩, hels Z⟩ : Crs) := ⟨_, rfl⟩
  rw [← hCC] at AK RK AL RL AKC RKC UA UL
  clear hCC
  obtain ⟨cA, hcA⟩ : ∃ c, c = codeA X o CC ⟨ppl, ppe⟩ := ⟨_, rfl⟩
  obtain ⟨cL, hcL⟩ : ∃ c, c = codeL X o CC ⟨ppl, ppe⟩ := ⟨_, rfl⟩
  obtain ⟨TA, hTA⟩ : ∃ T, T = ToA X o CC ⟨ppl, ppe⟩ := ⟨_, rfl⟩
  obtain ⟨TL, hTL⟩ : ∃ T, T = ToL X o CC ⟨ppl, ppe⟩ := ⟨_, rfl⟩
  rw [← hcA, ← hTA] at AK RK
  rw [← hcL, ← hTL] at AL RL
  rw [← hTA] at UA
  rw [← hTL] at UL
  clear hcA hcL hTA hTL
  unfold AkEnd at AK AL
  unfold RkEnd at RK RL
  unfold crsV Ps.val at AK AL AKC RK RL RKC
  simp only at AK AL AKC RK RL RKC
  have k0 : ∀ z, Frm [] w7 z → z.cell? ⟨g, 0, none⟩ = some (.int .u64 (Ml : Nat)) := fun z hz => (hz.whole C1.out (by simp)).cell 0
  have k1 : ∀ z, Frm [] w7 z → z.cell? ⟨g, 1, none⟩ = some (.int .u64 (Me : Nat)) := fun z hz => (hz.whole C1.out (by simp)).cell 1
  have k2 : ∀ z, Frm [] w7 z → z.cell? ⟨g, 2, none⟩ = some (.slice az zn cz) := fun z hz => (hz.whole C1.out (by simp)).cell 2
  have k3 : ∀ z, Frm [] w7 z → z.cell? ⟨g + 1, 0, none⟩ = some (.int .u64 (ppl : Nat)) := fun z hz => (hz.whole C2.out (by simp)).cell 0
  have k4 : ∀ z, Frm [] w7 z → z.cell? ⟨g + 1, 1, none⟩ = some (.int .u64 (ppe : Nat)) := fun z hz => (hz.whole C2.out (by simp)).cell 1
  have x0 := k0 _ (Frm.refl _ _)
  have x1 := k1 _ (Frm.refl _ _)
  have x2 := k2 _ (Frm.refl _ _)
  have x3 := k3 _ (Frm.refl _ _)
  have x4 := k4 _ (Frm.refl _ _)
  have SM : Hid (∀ z m a n c Z m' a' n' c' Z' F F', Hid (Cin z F m a n c Z 15) → Hid (n' = Z'.length ∧ HxL z F' a' Z') → (⟨m, hels Z⟩ : Crs) = ⟨m', hels Z'⟩ → Calls Try.prog 15 #[.agg #[.int .u64 (m.l : Nat), .int .u64 (m.e : Nat), .slice a n c], .agg #[.int .u64 (m'.l : Nat), .int .u64 (m'.e : Nat), .slice a' n' c']] z fun e w' => e = .returned (.bool true) ∧ Frm [] z w') := Lib.hid (fun z m a n c Z m' a' n' c' Z' F F' h h' he => same14_any h.out (by omega) h'.out he)
  go_wp2_with fail
  (with_reducible refine (AK.out _ (Frm.refl _ _)).mono ?_)
  rintro e w8 ⟨D, Zd, ad, dn, cd, rfl, DC, DT, hf8⟩
  clear x0 x1 x2 x3 x4
  obtain ⟨V8, hV8⟩ : ∃ V8, V8 = w8.alloc (.cells #[.int .u64 (D.l : Nat), .int .u64 (D.e : Nat), .slice ad dn cd] 28) := ⟨_, rfl⟩
  obtain ⟨y8, hy8⟩ : ∃ y8, y8 = w8.heap.size := ⟨_, rfl⟩
  have F8 : Hid (Frm [] w7 V8) := Lib.hid (by rw [hV8]; exact hf8.out.alloc _)
  have F88 : Hid (Frm [] w8 V8) := Lib.hid (by rw [hV8]; exact (Frm.refl _ _).alloc _)
  have D8 : Hid (Whole V8 y8 28 #[.int .u64 (D.l : Nat), .int .u64 (D.e : Nat), .slice ad dn cd]) := Lib.hid (by rw [hV8, hy8]; exact Whole.made _ _ _)
  have Y8 : Hid (w7.heap.size ≤ y8) := Lib.hid (by rw [hy8]; exact hf8.out.size)
  have HV8 := Lib.hid hV8; clear hV8
  have HY8 := Lib.hid hy8; clear hy8
  have x0 := k0 _ F8.out
  have x1 := k1 _ F8.out
  have x2 := k2 _ F8.out
  have x3 := k3 _ F8.out
  have x4 := k4 _ F8.out
  go_upto_region 6 with (fail)
  rw [← HV8.out, ← HY8.out]
  go_wp2_with fail
  (with_reducible refine (RK.out _ F8.out).mono ?_)
  rintro e w9 ⟨E, Ze, ae, en, ce, rfl, EC, ET, hf9⟩
  clear x0 x1 x2 x3 x4
  obtain ⟨V9, hV9⟩ : ∃ V9, V9 = w9.alloc (.cells #[.int .u64 (E.l : Nat), .int .u64 (E.e : Nat), .slice ae en ce] 28) := ⟨_, rfl⟩
  obtain ⟨y9, hy9⟩ : ∃ y9, y9 = w9.heap.size := ⟨_, rfl⟩
  have F99 : Hid (Frm [] w9 V9) := Lib.hid (by rw [hV9]; exact (Frm.refl _ _).alloc _)
  have F89 : Hid (Frm [] V8 V9) := Lib.hid (hf9.out.trans F99.out (by simp) (by simp))
  have F9 : Hid (Frm [] w7 V9) := Lib.hid (F8.out.trans F89.out (by simp) (by simp))
  have D9 : Hid (Whole V9 y9 28 #[.int .u64 (E.l : Nat), .int .u64 (E.e : Nat), .slice ae en ce]) := Lib.hid (by rw [hV9, hy9]; exact Whole.made _ _ _)
  have D89 : Hid (Whole V9 y8 28 #[.int .u64 (D.l : Nat), .int .u64 (D.e : Nat), .slice ad dn cd]) := Lib.hid (F89.out.whole D8.out (by simp))
  have Y89 : Hid (y8 < y9) := Lib.hid (by rw [hy9]; exact Nat.lt_of_lt_of_le D8.out.lt hf9.out.size)
  have SMX := Lib.hid (SM.out V9 D ad dn cd Zd E ae en ce Ze [] [] (Lib.hid (DC.out.sub (F88.out.trans F89.out (by simp) (by simp)))) (Lib.hid ⟨EC.out.1, EC.out.2.sub F99.out⟩) (UA.out _ _ DT.out ET.out))
  have HV9 := Lib.hid hV9; clear hV9
  have HY9 := Lib.hid hy9; clear hy9
  have e1 : ((cA : Int) != (cA : Int)) = false := by simp
  have v0 := D89.out.cell 0
  have v1 := D89.out.cell 1
  have v2 := D89.out.cell 2
  have v3 := D9.out.cell 0
  have v4 := D9.out.cell 1
  have v5 := D9.out.cell 2
  simp only [List.getElem?_toArray, List.getElem?_cons_zero, List.getElem?_cons_succ] at v0 v1 v2 v3 v4 v5
  go_upto_region 7 with (fail)
  rw [← HV9.out, ← HY9.out]
  go_wp2_with fail
  (with_reducible refine SMX.out.mono ?_)
  rintro e w10 ⟨rfl, hf10⟩
  have F10 : Hid (Frm [] w7 w10) := Lib.hid (F9.out.trans hf10 (by simp) (by simp))
  have D10 : Hid (Whole w10 y8 28 #[.int .u64 (D.l : Nat), .int .u64 (D.e : Nat), .slice ad dn cd]) := Lib.hid (hf10.whole D89.out (by simp))
  have E10 : Hid (Whole w10 y9 28 #[.int .u64 (E.l : Nat), .int .u64 (E.e : Nat), .slice ae en ce]) := Lib.hid (hf10.whole D9.out (by simp))
  have ALX := Lib.hid (AL.out w10 y8 y9 F10.out ⟨Y8.out, D10.out.lt⟩ ⟨by have := Y8.out; have := Y89.out; omega, E10.out.lt⟩)
  clear v0 v1 v2 v3 v4 v5 hf10 e1
  have x0 := k0 _ F10.out
  have x1 := k1 _ F10.out
  have x2 := k2 _ F10.out
  have x3 := k3 _ F10.out
  have x4 := k4 _ F10.out
  go_wp2_with fail
  (with_reducible refine ALX.out.mono ?_)
  rintro e w11 ⟨G, Zg, ag, gn, cg, rfl, GC, GT, hf11⟩
  clear x0 x1 x2 x3 x4
  have b11 := hf11.out.whole D10.out (by simp)
  have c11 := hf11.out.whole E10.out (by simp)
  have v0 := b11.cell 0
  have v1 := b11.cell 1
  have v2 := b11.cell 2
  have v3 := b11.free 0
  have v4 := b11.free 1
  have v5 := b11.free 2
  simp only [List.getElem?_toArray, List.getElem?_cons_zero, List.getElem?_cons_succ] at v0 v1 v2
  obtain ⟨V11, hV11⟩ : ∃ W, W = ((w11.setCell ⟨y8, 0, none⟩ (.int .u64 (G.l : Nat))).setCell ⟨y8, 1, none⟩ (.int .u64 (G.e : Nat))).setCell ⟨y8, 2, none⟩ (.slice ag gn cg) := ⟨_, rfl⟩
  have N89 : Hid (y8 ≠ y9 ∧ g ≠ y8 ∧ g + 1 ≠ y8 ∧ g ≠ y9 ∧ g + 1 ≠ y9) := Lib.hid (by have h1 := Y8.out; have h2 := Y89.out; have h3 := C2.out.lt; omega)
  have F1111 : Hid (Frm [y8] w11 V11) := Lib.hid (by rw [hV11]; exact (((Frm.refl _ _).setCell (.inl (by simp)) _).setCell (.inl (by simp)) _).setCell (.inl (by simp)) _)
  have D11 : Hid (Whole V11 y8 28 #[.int .u64 (G.l : Nat), .int .u64 (G.e : Nat), .slice ag gn cg]) := Lib.hid (by
    rw [hV11]
    have := ((b11.put 0 (.int .u64 (G.l : Nat))).put 1 (.int .u64 (G.e : Nat))).put 2 (.slice ag gn cg)
    simpa using this)
  have E11 : Hid (Whole V11 y9 28 #[.int .u64 (E.l : Nat), .int .u64 (E.e : Nat), .slice ae en ce]) := Lib.hid (F1111.out.whole c11 (by have := N89.out; simp; omega))
  have F11 : Hid (Frm [y8] w7 V11) := Lib.hid ((F10.out.trans hf11.out (U := []) (by simp) (by simp)).trans F1111.out (by simp) (by simp))
  have F711 : Hid (Frm [] w7 V11) := Lib.hid (F11.out.weak (fun x hx => .inr (by simp at hx; rw [hx]; exact Y8.out)))
  have GC11 : Hid (Cin V11 [y8, y9] G ag gn cg Zg 15) := Lib.hid (GC.out.keep F1111.out (F' := [y8, y9]) (fun x hx => .inl (by simp at hx; simp [hx])) (fun x hx => .inl hx))
  have RLX := Lib.hid (RL.out V11 y8 y9 F711.out ⟨Y8.out, D11.out.lt⟩ ⟨by have := Y8.out; have := Y89.out; omega, E11.out.lt⟩)
  clear b11 c11
  have x0 := k0 _ F711.out
  have x1 := k1 _ F711.out
  have x2 := k2 _ F711.out
  have x3 := k3 _ F711.out
  have x4 := k4 _ F711.out
  go_upto_region 10 with (fail)
  rw [← hV11]
  clear hV11 v0 v1 v2 v3 v4 v5
  go_wp2_with fail
  (with_reducible refine RLX.out.mono ?_)
  rintro e w12 ⟨K1, Zk, ak, kn, ck, rfl, KC, KT, hf12⟩
  clear x0 x1 x2 x3 x4
  have b12 := hf12.out.whole E11.out (by simp)
  have c12 := hf12.out.whole D11.out (by simp)
  have v0 := b12.cell 0
  have v1 := b12.cell 1
  have v2 := b12.cell 2
  have v3 := b12.free 0
  have v4 := b12.free 1
  have v5 := b12.free 2
  simp only [List.getElem?_toArray, List.getElem?_cons_zero, List.getElem?_cons_succ] at v0 v1 v2
  obtain ⟨W, hW⟩ : ∃ W, W = ((w12.setCell ⟨y9, 0, none⟩ (.int .u64 (K1.l : Nat))).setCell ⟨y9, 1, none⟩ (.int .u64 (K1.e : Nat))).setCell ⟨y9, 2, none⟩ (.slice ak kn ck) := ⟨_, rfl⟩
  have F12W : Hid (Frm [y9] w12 W) := Lib.hid (by rw [hW]; exact (((Frm.refl _ _).setCell (.inl (by simp)) _).setCell (.inl (by simp)) _).setCell (.inl (by simp)) _)
  have E12 : Hid (Whole W y9 28 #[.int .u64 (K1.l : Nat), .int .u64 (K1.e : Nat), .slice ak kn ck]) := Lib.hid (by
    rw [hW]
    have := ((b12.put 0 (.int .u64 (K1.l : Nat))).put 1 (.int .u64 (K1.e : Nat))).put 2 (.slice ak kn ck)
    simpa using this)
  have D12 : Hid (Whole W y8 28 #[.int .u64 (G.l : Nat), .int .u64 (G.e : Nat), .slice ag gn cg]) := Lib.hid (F12W.out.whole c12 (by have := N89.out; simp; omega))
  have F11W : Hid (Frm [y9] V11 W) := Lib.hid (hf12.out.trans F12W.out (by simp) (by simp))
  have F7W : Hid (Frm [] w7 W) := Lib.hid (F711.out.trans F11W.out (by simp) (fun x hx => .inr (by simp at hx; have := Y8.out; have := Y89.out; omega)))
  have GCW : Hid (Cin W [] G ag gn cg Zg 15) := Lib.hid (GC11.out.keep F11W.out (F' := []) (fun x hx => .inl (by simp at hx; simp [hx])) (by simp))
  have KCW : Hid (kn = Zk.length ∧ HxL W [] ak Zk) := Lib.hid ⟨KC.out.1, KC.out.2.keep F12W.out (F' := []) (fun x hx => .inl (by simp at hx; simp [hx])) (by simp)⟩
  have EQX := Lib.hid (UL.out _ _ GT.out KT.out)
  have SMX := Lib.hid (fun z (hz : Frm [] W z) => SM.out z G ag gn cg Zg K1 ak kn ck Zk [] [] (Lib.hid (GCW.out.sub hz)) (Lib.hid ⟨KCW.out.1, KCW.out.2.sub hz⟩) EQX.out)
  have AKX := Lib.hid (fun z (hz : Frm [] W z) => AKC.out z (F7W.out.trans hz (by simp) (by simp)))
  have RKX := Lib.hid (fun z (hz : Frm [] W z) => RKC.out z (F7W.out.trans hz (by simp) (by simp)))
  have k0 : ∀ z, Frm [] W z → z.cell? ⟨g, 0, none⟩ = some (.int .u64 (Ml : Nat)) := fun z hz => k0 z (F7W.out.trans hz (by simp) (by simp))
  have k1 : ∀ z, Frm [] W z → z.cell? ⟨g, 1, none⟩ = some (.int .u64 (Me : Nat)) := fun z hz => k1 z (F7W.out.trans hz (by simp) (by simp))
  have k2 : ∀ z, Frm [] W z → z.cell? ⟨g, 2, none⟩ = some (.slice az zn cz) := fun z hz => k2 z (F7W.out.trans hz (by simp) (by simp))
  have k3 : ∀ z, Frm [] W z → z.cell? ⟨g + 1, 0, none⟩ = some (.int .u64 (ppl : Nat)) := fun z hz => k3 z (F7W.out.trans hz (by simp) (by simp))
  have k4 : ∀ z, Frm [] W z → z.cell? ⟨g + 1, 1, none⟩ = some (.int .u64 (ppe : Nat)) := fun z hz => k4 z (F7W.out.trans hz (by simp) (by simp))
  have u0 : ∀ z, Frm [] W z → z.cell? ⟨y8, 0, none⟩ = some (.int .u64 (G.l : Nat)) := fun z hz => (hz.whole D12.out (by simp)).cell 0
  have u1 : ∀ z, Frm [] W z → z.cell? ⟨y8, 1, none⟩ = some (.int .u64 (G.e : Nat)) := fun z hz => (hz.whole D12.out (by simp)).cell 1
  have u2 : ∀ z, Frm [] W z → z.cell? ⟨y8, 2, none⟩ = some (.slice ag gn cg) := fun z hz => (hz.whole D12.out (by simp)).cell 2
  have u3 : ∀ z, Frm [] W z → z.cell? ⟨y9, 0, none⟩ = some (.int .u64 (K1.l : Nat)) := fun z hz => (hz.whole E12.out (by simp)).cell 0
  have u4 : ∀ z, Frm [] W z → z.cell? ⟨y9, 1, none⟩ = some (.int .u64 (K1.e : Nat)) := fun z hz => (hz.whole E12.out (by simp)).cell 1
  have u5 : ∀ z, Frm [] W z → z.cell? ⟨y9, 2, none⟩ = some (.slice ak kn ck) := fun z hz => (hz.whole E12.out (by simp)).cell 2
  have e2 : ((cL : Int) == (cL : Int)) = true := by simp
  clear b12 c12 AK RK AL RL AKC RKC SM UA UL
  go_upto_region 11 with (fail)
  rw [← hW]
  clear hW v0 v1 v2 v3 v4 v5
  refine wp_region_held_drew (S := fun w' => Frm [] W w') (by kernel_rfl) (Frm.drew (Frm.refl _ _)) (fun hHeld => ?_)
  refine wpAnyH_take (i := 0) (oi := ⟨some 74, _, _, _, _, _⟩) (v := ?_) rfl (by kernel_rfl) (by kernel_rfl) (by kernel_rfl) (fun _ _ _ h => h) (Or.inl ⟨by rfl, ?_⟩) (by assumption) ?_
  rotate_left 1
  · (intro w hSw; (try dsimp only at hSw); go_simp; all_goals with_reducible rfl)
  try simp only [Act.put, List.setIfInBounds_toArray, List.set_cons_zero, List.set_cons_succ]
  refine wpAnyH_take (i := 1) (oi := ⟨some 75, _, _, _, _, _⟩) (v := ?_) rfl (by kernel_rfl) (by kernel_rfl) (by kernel_rfl) (fun _ _ _ h => h) (Or.inl ⟨by rfl, ?_⟩) (by assumption) ?_
  rotate_left 1
  · (intro w hSw; (try dsimp only at hSw); go_simp; all_goals with_reducible rfl)
  try simp only [Act.put, List.setIfInBounds_toArray, List.set_cons_zero, List.set_cons_succ]
  refine wpAnyH_take (i := 2) (oi := ⟨some 76, _, _, _, _, _⟩) (v := ?_) rfl (by kernel_rfl) (by kernel_rfl) (by kernel_rfl) (fun _ _ _ h => h) (Or.inl ⟨by rfl, ?_⟩) (by assumption) ?_
  rotate_left 1
  · (intro w hSw; (try dsimp only at hSw); go_simp; all_goals with_reducible rfl)
  try simp only [Act.put, List.setIfInBounds_toArray, List.set_cons_zero, List.set_cons_succ]
  refine wpAnyH_take (i := 3) (oi := ⟨some 77, _, _, _, _, _⟩) (v := ?_) rfl (by kernel_rfl) (by kernel_rfl) (by kernel_rfl) (fun _ _ _ h => h) (Or.inl ⟨by rfl, ?_⟩) (by assumption) ?_
  rotate_left 1
  · (intro w hSw; (try dsimp only at hSw); go_simp; all_goals with_reducible rfl)
  try simp only [Act.put, List.setIfInBounds_toArray, List.set_cons_zero, List.set_cons_succ]
  refine wpAnyH_take (i := 4) (oi := ⟨some 78, _, _, _, _, _⟩) (v := ?_) rfl (by kernel_rfl) (by kernel_rfl) (by kernel_rfl) (fun _ _ _ h => h) (Or.inl ⟨by rfl, ?_⟩) (by assumption) ?_
  rotate_left 1
  · (intro w hSw; (try dsimp only at hSw); go_simp; all_goals with_reducible rfl)
  try simp only [Act.put, List.setIfInBounds_toArray, List.set_cons_zero, List.set_cons_succ]
  refine wpAnyH_take (i := 5) (oi := ⟨some 79, _, _, _, _, _⟩) (v := ?_) rfl (by kernel_rfl) (by kernel_rfl) (by kernel_rfl) (fun _ _ _ h => h) (Or.inl ⟨by rfl, ?_⟩) (by assumption) ?_
  rotate_left 1
  · (intro w hSw; (try dsimp only at hSw); go_simp; all_goals with_reducible rfl)
  try simp only [Act.put, List.setIfInBounds_toArray, List.set_cons_zero, List.set_cons_succ]
  refine wpAnyH_ready (rs := [6]) (by kernel_rfl) (by simp) ?_
  refine AllReadyH.cons (o := ⟨some 80, _, _, _, _, _⟩) rfl (fun K hK => ?_) AllReadyH.nil
  go_simp
  go_at_call 15; (with_reducible refine (SMX.out _ hHeld).mono ?_); rintro e v1 ⟨rfl, hv1⟩; have hHeld1 : Frm [] W v1 := hHeld.trans hv1 (by simp) (by simp)
  go_wp2_with fail
  refine hK.out _ _ (by assumption) (fun hHeld => ?_)
  clear hK K
  try simp only [Act.put, List.setIfInBounds_toArray, List.set_cons_zero, List.set_cons_succ]
  refine wpAnyH_take (i := 7) (oi := ⟨some 81, _, _, _, _, _⟩) (v := ?_) rfl (by kernel_rfl) (by kernel_rfl) (by kernel_rfl) (fun _ _ _ h => h) (Or.inl ⟨by rfl, ?_⟩) (by assumption) ?_
  rotate_left 1
  · (intro w hSw; (try dsimp only at hSw); go_simp; all_goals with_reducible rfl)
  try simp only [Act.put, List.setIfInBounds_toArray, List.set_cons_zero, List.set_cons_succ]
  refine wpAnyH_take (i := 8) (oi := ⟨some 82, _, _, _, _, _⟩) (v := ?_) rfl (by kernel_rfl) (by kernel_rfl) (by kernel_rfl) (fun _ _ _ h => h) (Or.inl ⟨by rfl, ?_⟩) (by assumption) ?_
  rotate_left 1
  · (intro w hSw; (try dsimp only at hSw); go_simp; all_goals with_reducible rfl)
  try simp only [Act.put, List.setIfInBounds_toArray, List.set_cons_zero, List.set_cons_succ]
  refine wpAnyH_take (i := 9) (oi := ⟨some 83, _, _, _, _, _⟩) (v := ?_) rfl (by kernel_rfl) (by kernel_rfl) (by kernel_rfl) (fun _ _ _ h => h) (Or.inl ⟨by rfl, ?_⟩) (by assumption) ?_
  rotate_left 1
  · (intro w hSw; (try dsimp only at hSw); go_simp; all_goals with_reducible rfl)
  try simp only [Act.put, List.setIfInBounds_toArray, List.set_cons_zero, List.set_cons_succ]
  refine wpAnyH_take (i := 10) (oi := ⟨some 84, _, _, _, _, _⟩) (v := ?_) rfl (by kernel_rfl) (by kernel_rfl) (by kernel_rfl) (fun _ _ _ h => h) (Or.inl ⟨by rfl, ?_⟩) (by assumption) ?_
  rotate_left 1
  · (intro w hSw; (try dsimp only at hSw); go_simp; all_goals with_reducible rfl)
  try simp only [Act.put, List.setIfInBounds_toArray, List.set_cons_zero, List.set_cons_succ]
  refine wpAnyH_take (i := 12) (oi := ⟨some 86, _, _, _, _, _⟩) (v := ?_) rfl (by kernel_rfl) (by kernel_rfl) (by kernel_rfl) (fun _ _ _ h => h) (Or.inl ⟨by rfl, ?_⟩) (by assumption) ?_
  rotate_left 1
  · (intro w hSw; (try dsimp only at hSw); go_simp; all_goals with_reducible rfl)
  try simp only [Act.put, List.setIfInBounds_toArray, List.set_cons_zero, List.set_cons_succ]
  refine wpAnyH_take (i := 13) (oi := ⟨some 87, _, _, _, _, _⟩) (v := ?_) rfl (by kernel_rfl) (by kernel_rfl) (by kernel_rfl) (fun _ _ _ h => h) (Or.inl ⟨by rfl, ?_⟩) (by assumption) ?_
  rotate_left 1
  · (intro w hSw; (try dsimp only at hSw); go_simp; all_goals with_reducible rfl)
  try simp only [Act.put, List.setIfInBounds_toArray, List.set_cons_zero, List.set_cons_succ]
  refine wpAnyH_ready (rs := [11]) (by kernel_rfl) (by simp) ?_
  refine AllReadyH.cons (o := ⟨some 85, _, _, _, _, _⟩) rfl (fun K hK => ?_) AllReadyH.nil
  go_simp
  go_at_call 18; (with_reducible refine (AKX.out _ hHeld).mono ?_); rintro e v2 ⟨ba, rfl, hba, hv2⟩; have BA := Lib.hid hba; clear hba; have hHeld2 : Frm [] W v2 := hHeld.trans hv2 (by simp) (by simp)
  go_wp2_with fail
  refine hK.out _ _ (by assumption) (fun hHeld => ?_)
  clear hK K
  try simp only [Act.put, List.setIfInBounds_toArray, List.set_cons_zero, List.set_cons_succ]
  refine wpAnyH_ready (rs := [14]) (by kernel_rfl) (by simp) ?_
  refine AllReadyH.cons (o := ⟨some 88, _, _, _, _, _⟩) rfl (fun K hK => ?_) AllReadyH.nil
  go_simp
  go_at_call 19; (with_reducible refine (RKX.out _ hHeld).mono ?_); rintro e v3 ⟨bb, rfl, hbb, hv3⟩; obtain rfl : bb = ba := Bool.eq_iff_iff.2 (hbb.trans BA.out.symm); have eqb : (bb == bb) = true := (by simp); have hHeld3 : Frm [] W v3 := hHeld.trans hv3 (by simp) (by simp)
  go_wp2_with fail
  refine hK.out _ _ (by assumption) (fun hHeld => ?_)
  clear hK K
  try simp only [Act.put, List.setIfInBounds_toArray, List.set_cons_zero, List.set_cons_succ]
  refine wpAnyH_take (i := 15) (oi := ⟨some 89, _, _, _, _, _⟩) (v := ?_) rfl (by kernel_rfl) (by kernel_rfl) (by kernel_rfl) (fun _ _ _ h => h) (Or.inl ⟨by rfl, ?_⟩) (by assumption) ?_
  rotate_left 1
  · (intro w hSw; (try dsimp only at hSw); go_simp; all_goals with_reducible rfl)
  try simp only [Act.put, List.setIfInBounds_toArray, List.set_cons_zero, List.set_cons_succ]
  refine wpAnyH_take (i := 16) (oi := ⟨some 90, _, _, _, _, _⟩) (v := ?_) rfl (by kernel_rfl) (by kernel_rfl) (by kernel_rfl) (fun _ _ _ h => h) (Or.inl ⟨by rfl, ?_⟩) (by assumption) ?_
  rotate_left 1
  · (intro w hSw; (try dsimp only at hSw); go_simp; all_goals with_reducible rfl)
  try simp only [Act.put, List.setIfInBounds_toArray, List.set_cons_zero, List.set_cons_succ]
  refine wpAnyH_take (i := 17) (oi := ⟨some 12, _, _, _, _, _⟩) (v := ?_) rfl (by kernel_rfl) (by kernel_rfl) (by kernel_rfl) (fun _ _ _ h => h) (Or.inl ⟨by rfl, ?_⟩) (by assumption) ?_
  rotate_left 1
  · (intro w hSw; (try dsimp only at hSw); go_simp; all_goals with_reducible rfl)
  try simp only [Act.put, List.setIfInBounds_toArray, List.set_cons_zero, List.set_cons_succ]
  refine wpAnyH_done (by kernel_rfl) ?_ _
  have FX : Hid (Frm [] w _) := Lib.hid (FW7.out.trans (F7W.out.trans hHeld (U := []) (by simp) (by simp)) (by simp) (by simp))
  clear k0 k1 k2 k3 k4 u0 u1 u2 u3 u4 u5
  go_wp2
  go_ret
  exact lTrue FX.out
end Go.Proofs.Ytghadpihmhaepaa
