/- Contract of the program's AckAll. Written by a program out of XCqAck. -/
import Derived.Test.YtghadpihmhaepaaZCqAck
namespace Go.Proofs.Ytghadpihmhaepaa
open Go.RowKit
set_option maxRecDepth 100000

set_option maxHeartbeats 8000000 in
theorem cqackall_any (al : Option Addr) (nl cl : Nat) (X : List Ld) (o : Nat) (m : Ps) (a : Option Addr) (n cap : Nat) (F : List Nat) (Y : List Hx) (p : Ps) (w : World) (hx : LdL w [] al X) (hnl : nl = X.length) (hszl : nl < 4611686018427387904) (ho : o < 18446744073709551616) (hfx : ∀ x ∈ X, x.fits) (h : HxL w F a Y) (hn : n = Y.length) (hsz : n ≤ 1000) (hok : Srt (hels Y) ∧ RgsH (hels Y)) (hb : BdH 300 (hels Y)) (hF : ∀ x ∈ F, x < w.heap.size) (hpf : p.fits)
    (Q : Ending → World → Prop) (q1 : hasP X o p = false → ∀ e w', NoEnd w 30 e w' → Q e w') (q2 : hasP X o p = true → p.lt m → ∀ e w', NoEnd w 31 e w' → Q e w') (q3 : hasP X o p = true → ¬ p.lt m → ∀ e w', CqYes w F X o ⟨p.l, p.e + 1⟩ (hels Y) e w' → Q e w') :
    Calls Try.prog 16 #[.slice al nl cl, .int .u64 (o : Nat), crsV m a n cap, p.val] w Q := by
  obtain ⟨w1, hw1⟩ : ∃ w1, w1 = ((w.alloc (.cells #[.int .u64 (m.l : Nat), .int .u64 (m.e : Nat), .slice a n cap] 28)).alloc (.cells #[.int .u64 (p.l : Nat), .int .u64 (p.e : Nat)] 25)).alloc (.cells #[.int .u64 0, .int .u64 0, .slice none 0 0] 28) := ⟨_, rfl⟩
  obtain ⟨g, hg⟩ : ∃ g, g = w.heap.size := ⟨_, rfl⟩
  have F1 : Hid (Frm [] w w1) := Lib.hid (by rw [hw1]; exact (((Frm.refl _ _).alloc _).alloc _).alloc _)
  have B0 : Hid (Whole w1 g 28 #[.int .u64 (m.l : Nat), .int .u64 (m.e : Nat), .slice a n cap]) := Lib.hid (by rw [hw1, hg]; exact ((Whole.made _ _ _).alloc _).alloc _)
  have B1 : Hid (Whole w1 (g + 1) 25 #[.int .u64 (p.l : Nat), .int .u64 (p.e : Nat)]) := Lib.hid (by
    rw [hw1, hg]
    have := Whole.made (w.alloc (.cells #[.int .u64 (m.l : Nat), .int .u64 (m.e : Nat), .slice a n cap] 28)) 25 #[.int .u64 (p.l : Nat), .int .u64 (p.e : Nat)]
    rw [World.size_alloc] at this
    exact this.alloc _)
  have B2 : Hid (Whole w1 (g + 1 + 1) 28 #[.int .u64 0, .int .u64 0, .slice none 0 0]) := Lib.hid (by
    rw [hw1, hg]
    have := Whole.made ((w.alloc (.cells #[.int .u64 (m.l : Nat), .int .u64 (m.e : Nat), .slice a n cap] 28)).alloc (.cells #[.int .u64 (p.l : Nat), .int .u64 (p.e : Nat)] 25)) 28 #[.int .u64 0, .int .u64 0, .slice none 0 0]
    rwa [World.size_alloc, World.size_alloc] at this)
  have GS : Hid (w.heap.size ≤ g) := Lib.hid (by omega)
  have RG : RgsOk Y := rgsOk_of hok.2 hb (by omega)
  have PE := fun hh => has_fit (p := p) hfx ho hh
  have HAS := Lib.hid (fun z (hz : Frm [] w z) => ldhas_any al nl cl X o p z (hx.sub hz) hnl hszl)
  have ORD := Lib.hid (fun z => ldorder_any p m z)
  have BEH := Lib.hid (fun z => ldbehind_any p hpf z)
  have IN2 : ∀ x ∈ (g + 1 + 1) :: F, x ∈ F ∨ w.heap.size ≤ x := fun x hx => by
    rcases List.mem_cons.1 hx with rfl | hx
    · exact .inr (by omega)
    · exact .inl hx
  have FL2 : ∀ z, Frm [] w z → g + 1 + 1 < z.heap.size → ∀ x ∈ (g + 1 + 1) :: F, x < z.heap.size := fun z hz hgz x hx => by
    rcases List.mem_cons.1 hx with rfl | hx
    · exact hgz
    · exact Nat.lt_of_lt_of_le (hF x hx) hz.size
  have TI := Lib.hid (fun z (m' : Ps) (hm : m'.e < 18446744073709551616) (hz : Frm [] w z) (hgz : g + 1 + 1 < z.heap.size) => cqtight_any al nl cl X o m' a n cap ((g + 1 + 1) :: F) Y z (hx.sub hz) hnl hszl ho hfx (h.keep hz (by simp) IN2) hok.1 hn (by omega) RG (FL2 z hz hgz) hm)
  have PE := Lib.hid PE
  have NN := Lib.hid hn
  have OKH := Lib.hid hok; clear hok
  have BB := Lib.hid hb; clear hb
  have Q1 := Lib.hid q1; clear q1
  have Q2 := Lib.hid q2; clear q2
  have Q3 := Lib.hid q3; clear q3
  clear hx hnl h hn hF hfx IN2 FL2 RG hpf ho
  have ANS : Hid (∀ (z : World) (ul ue : Nat) (a : Option Addr) (sl c : Nat) (code : Int) (tm : Array Value), tm.getD 8 undef = .pointer (some ⟨g + 1 + 1, 0, none⟩) → tm.getD 9 undef = .int .i64 code → Whole z (g + 1 + 1) 28 #[.int .u64 (ul : Nat), .int .u64 (ue : Nat), .slice a sl c] → (results Try.f16 tm).run Try.prog z = .ok (.tuple #[.agg #[.int .u64 (ul : Nat), .int .u64 (ue : Nat), .slice a sl c], .int .i64 code]) z) := Lib.hid (fun z ul ue a sl c code tm h6 h7 hw => by
    have c0 := hw.cell 0
    have c1 := hw.cell 1
    have c2 := hw.cell 2
    simp at c0 c1 c2
    have h6' : tm[8]?.getD undef = .pointer (some ⟨g + 1 + 1, 0, none⟩) := by simpa using h6
    have h7' : tm[9]?.getD undef = .int .i64 code := by simpa using h7
    simp [results, Try.results16, go_sem, c0, c1, c2, h6', h7'])
  obtain ⟨hb, hhb⟩ : ∃ hb, hb = hasP X o p := ⟨_, rfl⟩
  rw [← hhb] at HAS Q1 Q2 Q3 PE
  clear hhb
  obtain ⟨c, hc⟩ : ∃ c, c = ordP p m := ⟨_, rfl⟩
  rw [← hc] at ORD
  have I1 : Hid (c < 0 ↔ p.lt m) := Lib.hid (by rw [hc]; exact ordP_neg)
  clear hc
  obtain ⟨pl, pe⟩ := p
  obtain ⟨ml, me⟩ := m
  unfold LRet Ps.val at HAS
  unfold LRet Ps.val at ORD
  unfold CqTi crsV at TI
  unfold crsV Ps.val
  simp only at HAS ORD TI hw1 B0 B1 I1 Q1 Q2 Q3 PE ⊢
  have HW1 := Lib.hid hw1; clear hw1
  have HG := Lib.hid hg; clear hg
  have x0 : ∀ z, Frm [] w1 z → z.cell? ⟨g, 0, none⟩ = some (.int .u64 (ml : Nat)) := fun z hz => (hz.whole B0.out (by simp)).cell 0
  have x1 : ∀ z, Frm [] w1 z → z.cell? ⟨g, 1, none⟩ = some (.int .u64 (me : Nat)) := fun z hz => (hz.whole B0.out (by simp)).cell 1
  have x2 : ∀ z, Frm [] w1 z → z.cell? ⟨g, 2, none⟩ = some (.slice a n cap) := fun z hz => (hz.whole B0.out (by simp)).cell 2
  have y0 : ∀ z, Frm [] w1 z → z.cell? ⟨g + 1, 0, none⟩ = some (.int .u64 (pl : Nat)) := fun z hz => (hz.whole B1.out (by simp)).cell 0
  have y1 : ∀ z, Frm [] w1 z → z.cell? ⟨g + 1, 1, none⟩ = some (.int .u64 (pe : Nat)) := fun z hz => (hz.whole B1.out (by simp)).cell 1
  have NOW : Hid (∀ z (code : Int), Frm [] w1 z → Whole (((z.setCell ⟨g + 1 + 1, 0, none⟩ (.int .u64 0)).setCell ⟨g + 1 + 1, 1, none⟩ (.int .u64 0)).setCell ⟨g + 1 + 1, 2, none⟩ (.slice none 0 0)) (g + 1 + 1) 28 #[.int .u64 ((0 : Nat) : Int), .int .u64 ((0 : Nat) : Int), .slice none 0 0] ∧ NoEnd w code (.returned (.tuple #[.agg #[.int .u64 ((0 : Nat) : Int), .int .u64 ((0 : Nat) : Int), .slice none 0 0], .int .i64 code])) (((z.setCell ⟨g + 1 + 1, 0, none⟩ (.int .u64 0)).setCell ⟨g + 1 + 1, 1, none⟩ (.int .u64 0)).setCell ⟨g + 1 + 1, 2, none⟩ (.slice none 0 0))) := Lib.hid (fun z code hz => by
    have hw := hz.whole B2.out (by simp)
    have hgs := GS.out
    refine ⟨?_, rfl, ?_⟩
    · have := ((hw.put 0 (.int .u64 0)).put 1 (.int .u64 0)).put 2 (.slice none 0 0)
      simpa using this
    · exact ((((F1.out.trans hz (U := []) (by simp) (by simp)).setCell (.inr (by simp; omega)) _).setCell (.inr (by simp; omega)) _).setCell (.inr (by simp; omega)) _))
  have p0' := x0 _ (Frm.refl _ _)
  have p3' := y0 _ (Frm.refl _ _)
  have p4' := y1 _ (Frm.refl _ _)
  go_enter Try.func16, Try.ntmps16
  go_upto_region 1 with (fail)
  rw [← HW1.out, ← HG.out]
  go_wp2_with fail
  (with_reducible refine (HAS.out _ F1.out).mono ?_)
  rintro e w2 ⟨rfl, hf2⟩
  have f2 : Frm [] w1 w2 := hf2
  have F2 := Lib.hid hf2; clear hf2
  clear p0' p3' p4'
  cases hb
  · have b2 := F2.out.whole B2.out (by simp)
    have q0 := b2.cell 0
    have q1 := b2.cell 1
    have q2 := b2.cell 2
    have k0 := b2.free 0
    have k1 := b2.free 1
    have k2 := b2.free 2
    simp only [List.getElem?_toArray, List.getElem?_cons_zero, List.getElem?_cons_succ] at q0 q1 q2
    obtain ⟨FA, FB⟩ := NOW.out w2 30 F2.out
    have FA := Lib.hid FA
    have FB := Lib.hid FB
    clear b2 x0 x1 x2 y0 y1 f2
    go_wp2
    refine bodyPost_ret (ANS.out _ 0 0 none 0 0 30 _ rfl rfl FA.out) rfl ?_
    exact Q1.out trivial _ _ FB.out
  · have x0' := x0 _ f2
    have x1' := x1 _ f2
    have y0' := y0 _ f2
    have y1' := y1 _ f2
    go_wp2_with fail
    (with_reducible refine (ORD.out _).mono ?_)
    rintro e w3 ⟨rfl, hf3⟩
    have f3 : Frm [] w1 w3 := f2.trans hf3 (by simp) (by simp)
    have F3 := Lib.hid f3
    clear hf3 f2 x0' x1' y0' y1'
    by_cases hcc : c < 0
    rotate_left 1
    · have e7 : decide (c < 0) = false := decide_eq_false hcc
      have NLT := Lib.hid (fun h => hcc (I1.out.2 h))
      have PE1 := PE.out trivial
      have BEH : Hid (∀ z, Calls Try.prog 42 #[.agg #[.int .u64 (pl : Nat), .int .u64 (pe : Nat)]] z (fun e w' => e = .returned (.agg #[.int .u64 (pl : Nat), .int .u64 ((pe + 1 : Nat) : Int)]) ∧ Frm [] z w')) := Lib.hid (fun z => by
        have h1 := BEH.out z
        unfold LRet behindP Ps.val at h1
        rw [if_neg (by simp only; omega)] at h1
        exact h1)
      obtain ⟨pe1, hpe1⟩ : ∃ pe1, pe1 = pe + 1 := ⟨_, rfl⟩
      rw [← hpe1] at BEH Q3 PE1
      clear hpe1 hcc
      have r0 : ∀ z, Frm [] w3 z → z.cell? ⟨g, 0, none⟩ = some (.int .u64 (ml : Nat)) := fun z hz => x0 z (F3.out.trans hz (by simp) (by simp))
      have r1 : ∀ z, Frm [] w3 z → z.cell? ⟨g, 1, none⟩ = some (.int .u64 (me : Nat)) := fun z hz => x1 z (F3.out.trans hz (by simp) (by simp))
      have r2 : ∀ z, Frm [] w3 z → z.cell? ⟨g, 2, none⟩ = some (.slice a n cap) := fun z hz => x2 z (F3.out.trans hz (by simp) (by simp))
      have r3 : ∀ z, Frm [] w3 z → z.cell? ⟨g + 1, 0, none⟩ = some (.int .u64 (pl : Nat)) := fun z hz => y0 z (F3.out.trans hz (by simp) (by simp))
      have r4 : ∀ z, Frm [] w3 z → z.cell? ⟨g + 1, 1, none⟩ = some (.int .u64 (pe : Nat)) := fun z hz => y1 z (F3.out.trans hz (by simp) (by simp))
      have SUB : Hid (∀ z, Frm [] w3 z → Frm [] w z) := Lib.hid (fun z hz => F1.out.trans (F3.out.trans hz (U := []) (by simp) (by simp)) (by simp) (by simp))
      have GT : Hid (∀ z, Frm [] w3 z → g + 1 + 1 < z.heap.size) := Lib.hid (fun z hz => Nat.lt_of_lt_of_le B2.out.lt (F3.out.trans hz (U := []) (by simp) (by simp)).size)
      have B3 : Hid (Whole w3 (g + 1 + 1) 28 #[.int .u64 0, .int .u64 0, .slice none 0 0]) := Lib.hid (F3.out.whole B2.out (by simp))
      have FIN : Hid (∀ z M Zt at' zt ct, Frm [] w3 z → Hid (zt = Zt.length) → Hid (Reach X o (hels Y) ⟨pl, pe1⟩ M ∧ Stop X o (hels Y) M ∧ M.e < 18446744073709551616) → Hid (hels Zt = leftH M (hels Y)) → Hid (HxL z ((g + 1 + 1) :: F) at' Zt ∧ CapOk at' Zt.length ct) → Whole (((z.setCell ⟨g + 1 + 1, 0, none⟩ (.int .u64 (M.l : Nat))).setCell ⟨g + 1 + 1, 1, none⟩ (.int .u64 (M.e : Nat))).setCell ⟨g + 1 + 1, 2, none⟩ (.slice at' zt ct)) (g + 1 + 1) 28 #[.int .u64 (M.l : Nat), .int .u64 (M.e : Nat), .slice at' zt ct] ∧ Q (.returned (.tuple #[.agg #[.int .u64 (M.l : Nat), .int .u64 (M.e : Nat), .slice at' zt ct], .int .i64 0])) (((z.setCell ⟨g + 1 + 1, 0, none⟩ (.int .u64 (M.l : Nat))).setCell ⟨g + 1 + 1, 1, none⟩ (.int .u64 (M.e : Nat))).setCell ⟨g + 1 + 1, 2, none⟩ (.slice at' zt ct))) := Lib.hid (fun z M Zt at' zt ct hz h1 h2 h3 h4 => by
        have hw := hz.whole B3.out (by simp)
        have hgs := GS.out
        have f3 : Frm [g + 1 + 1] z (((z.setCell ⟨g + 1 + 1, 0, none⟩ (.int .u64 (M.l : Nat))).setCell ⟨g + 1 + 1, 1, none⟩ (.int .u64 (M.e : Nat))).setCell ⟨g + 1 + 1, 2, none⟩ (.slice at' zt ct)) := (((Frm.refl _ _).setCell (.inl (by simp)) _).setCell (.inl (by simp)) _).setCell (.inl (by simp)) _
        refine ⟨?_, Q3.out trivial NLT.out _ _ ⟨M, Zt, at', zt, ct, rfl, h1, h2, h3, ⟨h4.out.1.keep f3 (fun x hx => .inl (by simp at hx; simp [hx])) (fun x hx => .inl (by simp [hx])), h4.out.2⟩, (SUB.out z hz).trans f3 (by simp) (fun x hx => .inr (by simp at hx; omega))⟩⟩
        have := ((hw.put 0 (.int .u64 (M.l : Nat))).put 1 (.int .u64 (M.e : Nat))).put 2 (.slice at' zt ct)
        simpa using this)
      have TIX := Lib.hid (fun z hz => TI.out z ⟨pl, pe1⟩ PE1 (SUB.out z hz) (GT.out z hz))
      simp only at TIX
      clear x0 x1 x2 y0 y1 f3
      go_upto_region 5 with (fail)
      clear HAS TI
      refine wp_region_tail (S := fun w' => Frm [] w3 w') (tl := (fun j => decide (8 ≤ j))) (by kernel_rfl) (Frm.drew (Frm.refl _ _)) (fun hHeld => ?_)
      refine tail_take (i := 0) (oi := ⟨some 24, _, _, _, _, _⟩) (v := ?_) rfl (by kernel_rfl) (by kernel_rfl) (by kernel_rfl) (by kernel_rfl) (by kernel_rfl) (fun _ _ _ h => h) (Or.inl ⟨by rfl, ?_⟩) (by assumption) ?_
      rotate_left 1
      · (intro w hSw; (try dsimp only at hSw); go_simp; all_goals with_reducible rfl)
      try simp only [Act.put, List.setIfInBounds_toArray, List.set_cons_zero, List.set_cons_succ]
      refine tail_take (i := 1) (oi := ⟨some 25, _, _, _, _, _⟩) (v := ?_) rfl (by kernel_rfl) (by kernel_rfl) (by kernel_rfl) (by kernel_rfl) (by kernel_rfl) (fun _ _ _ h => h) (Or.inl ⟨by rfl, ?_⟩) (by assumption) ?_
      rotate_left 1
      · (intro w hSw; (try dsimp only at hSw); go_simp; all_goals with_reducible rfl)
      try simp only [Act.put, List.setIfInBounds_toArray, List.set_cons_zero, List.set_cons_succ]
      refine tail_take (i := 2) (oi := ⟨some 26, _, _, _, _, _⟩) (v := ?_) rfl (by kernel_rfl) (by kernel_rfl) (by kernel_rfl) (by kernel_rfl) (by kernel_rfl) (fun _ _ _ h => h) (Or.inl ⟨by rfl, ?_⟩) (by assumption) ?_
      rotate_left 1
      · (intro w hSw; (try dsimp only at hSw); go_simp; all_goals with_reducible rfl)
      try simp only [Act.put, List.setIfInBounds_toArray, List.set_cons_zero, List.set_cons_succ]
      refine tail_take (i := 4) (oi := ⟨some 28, _, _, _, _, _⟩) (v := ?_) rfl (by kernel_rfl) (by kernel_rfl) (by kernel_rfl) (by kernel_rfl) (by kernel_rfl) (fun _ _ _ h => h) (Or.inl ⟨by rfl, ?_⟩) (by assumption) ?_
      rotate_left 1
      · (intro w hSw; (try dsimp only at hSw); go_simp; all_goals with_reducible rfl)
      try simp only [Act.put, List.setIfInBounds_toArray, List.set_cons_zero, List.set_cons_succ]
      refine tail_take (i := 5) (oi := ⟨some 29, _, _, _, _, _⟩) (v := ?_) rfl (by kernel_rfl) (by kernel_rfl) (by kernel_rfl) (by kernel_rfl) (by kernel_rfl) (fun _ _ _ h => h) (Or.inl ⟨by rfl, ?_⟩) (by assumption) ?_
      rotate_left 1
      · (intro w hSw; (try dsimp only at hSw); go_simp; all_goals with_reducible rfl)
      try simp only [Act.put, List.setIfInBounds_toArray, List.set_cons_zero, List.set_cons_succ]
      refine tail_one (i := 3) (o := ⟨some 27, _, _, _, _, _⟩) (by kernel_rfl) rfl (fun K hK => ?_)
      go_simp
      ((with_reducible refine (BEH.out _).mono ?_); rintro e w5 ⟨rfl, hf5⟩; have hHeld5 : Frm [] w3 w5 := Frm.trans (by repeat (first | assumption | apply Frm.drew | exact Frm.refl _ _)) hf5 (by simp) (by simp))
      go_wp2_with fail
      refine hK.out _ _ (fun _ => by assumption) (fun _ => ?_)
      clear hK K
      try simp only [Act.put, List.setIfInBounds_toArray, List.set_cons_zero, List.set_cons_succ]
      refine tail_take (i := 6) (oi := ⟨some 30, _, _, _, _, _⟩) (v := ?_) rfl (by kernel_rfl) (by kernel_rfl) (by kernel_rfl) (by kernel_rfl) (by kernel_rfl) (fun _ _ _ h => h) (Or.inl ⟨by rfl, ?_⟩) (by assumption) ?_
      rotate_left 1
      · (intro w hSw; (try dsimp only at hSw); go_simp; all_goals with_reducible rfl)
      try simp only [Act.put, List.setIfInBounds_toArray, List.set_cons_zero, List.set_cons_succ]
      refine tail_one (i := 7) (o := ⟨some 31, _, _, _, _, _⟩) (by kernel_rfl) rfl (fun K hK => ?_)
      go_simp
      ((with_reducible refine (TIX.out _ hHeld5).mono ?_); rintro e w6 ⟨M, Zt, at', zt, ct, rfl, h1, h2, h3, h4, hf6⟩; have hHeld6 : Frm [] w3 w6 := hHeld5.trans hf6.out (by simp) (by simp); have b6 := hHeld6.whole B3.out (by simp); have q0 := b6.cell 0; have q1 := b6.cell 1; have q2 := b6.cell 2; have k0 := b6.free 0; have k1 := b6.free 1; have k2 := b6.free 2; simp only [List.getElem?_toArray, List.getElem?_cons_zero, List.getElem?_cons_succ] at q0 q1 q2; clear b6)
      go_wp2_with fail
      refine hK.out _ _ (fun _ => by assumption) (fun _ => ?_)
      clear hK K
      try simp only [Act.put, List.setIfInBounds_toArray, List.set_cons_zero, List.set_cons_succ]
      refine tail_one (i := 8) (o := ⟨none, _, _, _, _, _⟩) (by kernel_rfl) rfl (fun K hK => ?_)
      go_simp
      refine hK.out _ _ (fun h => absurd h (by decide)) (fun _ => ?_)
      clear hK K
      try simp only [Act.put, List.setIfInBounds_toArray, List.set_cons_zero, List.set_cons_succ]
      refine tail_one (i := 9) (o := ⟨some 9, _, _, _, _, _⟩) (by kernel_rfl) rfl (fun K hK => ?_)
      go_simp
      refine hK.out _ _ (fun h => absurd h (by decide)) (fun _ => ?_)
      clear hK K
      try simp only [Act.put, List.setIfInBounds_toArray, List.set_cons_zero, List.set_cons_succ]
      refine tail_done (by kernel_rfl) ?_ _
      obtain ⟨FA, FB⟩ := FIN.out _ _ _ _ _ _ hHeld6 h1 h2 h3 h4
      have FA := Lib.hid FA
      have FB := Lib.hid FB
      clear r0 r1 r2 r3 r4 q0 q1 q2 k0 k1 k2 hHeld5 hHeld6
      go_wp2
      refine bodyPost_ret (ANS.out _ M.l M.e at' zt ct 0 _ rfl rfl FA.out) rfl ?_
      exact FB.out
    · have e7 : decide (c < 0) = true := decide_eq_true hcc
      have LT := Lib.hid (I1.out.1 hcc)
      have b2 := F3.out.whole B2.out (by simp)
      have q0 := b2.cell 0
      have q1 := b2.cell 1
      have q2 := b2.cell 2
      have k0 := b2.free 0
      have k1 := b2.free 1
      have k2 := b2.free 2
      simp only [List.getElem?_toArray, List.getElem?_cons_zero, List.getElem?_cons_succ] at q0 q1 q2
      obtain ⟨FA, FB⟩ := NOW.out w3 31 F3.out
      have FA := Lib.hid FA
      have FB := Lib.hid FB
      clear b2 x0 x1 x2 y0 y1 f3 hcc
      go_wp2
      refine bodyPost_ret (ANS.out _ 0 0 none 0 0 31 _ rfl rfl FA.out) rfl ?_
      exact Q2.out trivial LT.out _ _ FB.out
end Go.Proofs.Ytghadpihmhaepaa
