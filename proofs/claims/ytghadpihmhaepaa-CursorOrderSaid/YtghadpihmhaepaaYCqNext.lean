/- Contract of the program's Next. -/
import Derived.Test.YtghadpihmhaepaaKC
import Derived.Test.YtghadpihmhaepaaYCqFree
import Derived.Deep.DeepCutAuto
namespace Go.Proofs.Ytghadpihmhaepaa
open Go.RowKit
set_option maxRecDepth 100000

set_option maxHeartbeats 8000000 in
theorem cqnext_any (al : Option Addr) (nl cl : Nat) (X : List Ld) (o : Nat) (m : Ps) (a : Option Addr) (n cap : Nat) (F : List Nat) (Y : List Hx) (p : Ps) (w : World) (hx : LdL w [] al X) (hnl : nl = X.length) (hszl : nl < 4611686018427387904) (ho : o < 18446744073709551616) (hfx : ∀ x ∈ X, x.fits) (hX : RtLd X) (h : HxL w F a Y) (hs : Srt (hels Y)) (hn : n = Y.length) (hsz : n ≤ 100000) (hr : RgsOk Y) (hme : m.e < 18446744073709551616) (hpe : p.e < 18446744073709551616) :
    Calls Try.prog 20 #[.slice al nl cl, .int .u64 (o : Nat), crsV m a n cap, p.val] w (LRet w (nextCV (nextC X o ⟨m, hels Y⟩ p))) := by
  obtain ⟨w1, hw1⟩ : ∃ w1, w1 = ((w.alloc (.cells #[.int .u64 (m.l : Nat), .int .u64 (m.e : Nat), .slice a n cap] 28)).alloc (.cells #[.int .u64 (p.l : Nat), .int .u64 (p.e : Nat)] 25)).alloc (.cells #[.int .u64 0, .int .u64 0] 25) := ⟨_, rfl⟩
  obtain ⟨g, hg⟩ : ∃ g, g = w.heap.size := ⟨_, rfl⟩
  have F1 : Hid (Frm [] w w1) := Lib.hid (by rw [hw1]; exact (((Frm.refl _ _).alloc _).alloc _).alloc _)
  have B0 : Hid (Whole w1 g 28 #[.int .u64 (m.l : Nat), .int .u64 (m.e : Nat), .slice a n cap]) := Lib.hid (by rw [hw1, hg]; exact ((Whole.made _ _ _).alloc _).alloc _)
  have B1 : Hid (Whole w1 (g + 1) 25 #[.int .u64 (p.l : Nat), .int .u64 (p.e : Nat)]) := Lib.hid (by
    rw [hw1, hg]
    have := Whole.made (w.alloc (.cells #[.int .u64 (m.l : Nat), .int .u64 (m.e : Nat), .slice a n cap] 28)) 25 #[.int .u64 (p.l : Nat), .int .u64 (p.e : Nat)]
    rw [World.size_alloc] at this
    exact this.alloc _)
  have B2 : Hid (Whole w1 (g + 1 + 1) 25 #[.int .u64 0, .int .u64 0]) := Lib.hid (by
    rw [hw1, hg]
    have := Whole.made ((w.alloc (.cells #[.int .u64 (m.l : Nat), .int .u64 (m.e : Nat), .slice a n cap] 28)).alloc (.cells #[.int .u64 (p.l : Nat), .int .u64 (p.e : Nat)] 25)) 25 #[.int .u64 0, .int .u64 0]
    rwa [World.size_alloc, World.size_alloc] at this)
  have GS : Hid (w.heap.size ≤ g) := Lib.hid (by omega)
  have MX : (maxP p m).e < 18446744073709551616 := by unfold maxP; split <;> assumption
  have FREE := Lib.hid (fun z (hz : Frm [] w z) => cqfree_any al nl cl X o a n cap F Y (maxP p m) z (hx.sub hz) hnl hszl ho hfx (h.sub hz) hs hn (by omega) hr MX)
  have NF := Lib.hid (fun M (h1 : Reach X o (hels Y) (maxP p m) M) (h2 : Stop X o (hels Y) M) => next_free hX h1 h2)
  have ORD := Lib.hid (fun z => ldorder_any p m z)
  obtain ⟨c, hc⟩ : ∃ c, c = ordP p m := ⟨_, rfl⟩
  rw [← hc] at ORD
  have I1 : Hid (c < 0 ↔ p.lt m) := Lib.hid (by rw [hc]; exact ordP_neg)
  clear hx hnl h hs hn hr hfx ho hc hX hme hpe MX
  obtain ⟨NN, hNN⟩ : ∃ NN, NN = nextC X o ⟨m, hels Y⟩ p := ⟨_, rfl⟩
  rw [← hNN] at NF ⊢
  clear hNN
  obtain ⟨Q, hQ⟩ : ∃ Q, Q = LRet w (nextCV NN) := ⟨_, rfl⟩
  rw [← hQ]
  have HQ := Lib.hid hQ; clear hQ
  have MXE : Hid ((p.lt m → maxP p m = m) ∧ (¬ p.lt m → maxP p m = p)) := Lib.hid ⟨fun h => if_pos h, fun h => if_neg h⟩
  obtain ⟨f, hf⟩ : ∃ f, f = maxP p m := ⟨_, rfl⟩
  rw [← hf] at FREE NF MXE
  clear hf
  unfold crsV
  obtain ⟨ml, me⟩ := m
  obtain ⟨pl, pe⟩ := p
  unfold LRet Ps.val at ORD
  unfold FreeEnd Ps.val at FREE
  unfold Ps.val
  simp only at hw1 B0 B1 FREE ORD MXE I1 ⊢
  have HW1 := Lib.hid hw1; clear hw1
  have V0 : Hid (∀ (z : World) (ul ue : Nat) (bb : Bool) (tm : Array Value), tm.getD 8 undef = .pointer (some ⟨g + 1 + 1, 0, none⟩) → tm.getD 9 undef = .bool bb → Whole z (g + 1 + 1) 25 #[.int .u64 (ul : Nat), .int .u64 (ue : Nat)] → (results Try.f20 tm).run Try.prog z = .ok (.tuple #[.agg #[.int .u64 (ul : Nat), .int .u64 (ue : Nat)], .bool bb]) z) := Lib.hid (fun z ul ue bb tm h6 h7 hw => by
    have c0 := hw.cell 0
    have c1 := hw.cell 1
    simp at c0 c1
    have h6' : tm[8]?.getD undef = .pointer (some ⟨g + 1 + 1, 0, none⟩) := by simpa using h6
    have h7' : tm[9]?.getD undef = .bool bb := by simpa using h7
    simp [results, Try.results20, go_sem, c0, c1, h6', h7'])
  have HG := Lib.hid hg; clear hg
  have r0 : ∀ z, Frm [] w1 z → z.cell? ⟨g, 0, none⟩ = some (.int .u64 (ml : Nat)) := fun z hz => (hz.whole B0.out (by simp)).cell 0
  have r1 : ∀ z, Frm [] w1 z → z.cell? ⟨g, 1, none⟩ = some (.int .u64 (me : Nat)) := fun z hz => (hz.whole B0.out (by simp)).cell 1
  have p0 := r0 _ (Frm.refl _ _)
  have p1 := r1 _ (Frm.refl _ _)
  have p3 := B1.out.cell 0
  have p4 := B1.out.cell 1
  simp only [List.getElem?_toArray, List.getElem?_cons_zero, List.getElem?_cons_succ] at p3 p4
  have FIN : Hid (∀ z (M q : Ps) (b : Bool), Frm [g + 1] w1 z → (q, b) = nextV X o M → Reach X o (hels Y) f M → Stop X o (hels Y) M → (b = false → Whole ((z.setCell ⟨g + 1 + 1, 0, none⟩ (.int .u64 0)).setCell ⟨g + 1 + 1, 1, none⟩ (.int .u64 0)) (g + 1 + 1) 25 #[.int .u64 ((0 : Nat) : Int), .int .u64 ((0 : Nat) : Int)] ∧ Q (.returned (.tuple #[.agg #[.int .u64 ((0 : Nat) : Int), .int .u64 ((0 : Nat) : Int)], .bool false])) ((z.setCell ⟨g + 1 + 1, 0, none⟩ (.int .u64 0)).setCell ⟨g + 1 + 1, 1, none⟩ (.int .u64 0))) ∧ (b = true → Whole ((z.setCell ⟨g + 1 + 1, 0, none⟩ (.int .u64 (q.l : Nat))).setCell ⟨g + 1 + 1, 1, none⟩ (.int .u64 (q.e : Nat))) (g + 1 + 1) 25 #[.int .u64 (q.l : Nat), .int .u64 (q.e : Nat)] ∧ Q (.returned (.tuple #[.agg #[.int .u64 (q.l : Nat), .int .u64 (q.e : Nat)], .bool true])) ((z.setCell ⟨g + 1 + 1, 0, none⟩ (.int .u64 (q.l : Nat))).setCell ⟨g + 1 + 1, 1, none⟩ (.int .u64 (q.e : Nat))))) := Lib.hid (fun z M q b hz hv hre hst => by
    have hw := hz.whole B2.out (by simp)
    have hgs := GS.out
    have hn := NF.out M hre hst
    have hF : Frm [] w z := F1.out.trans hz (by simp) (fun x hx => .inr (by simp at hx; omega))
    unfold nextV at hv
    refine ⟨fun hb => ⟨?_, ?_⟩, fun hb => ⟨?_, ?_⟩⟩
    · have := (hw.put 0 (.int .u64 0)).put 1 (.int .u64 0)
      simpa using this
    · rw [HQ.out, hn]
      cases hnp : nextP X o M with
      | none => exact ⟨rfl, (hF.setCell (.inr (by simp; omega)) _).setCell (.inr (by simp; omega)) _⟩
      | some q' => rw [hnp] at hv; simp only [Prod.mk.injEq] at hv; rw [hb] at hv; exact absurd hv.2 (by simp)
    · have := (hw.put 0 (.int .u64 (q.l : Nat))).put 1 (.int .u64 (q.e : Nat))
      simpa using this
    · rw [HQ.out, hn]
      cases hnp : nextP X o M with
      | none => rw [hnp] at hv; simp only [Prod.mk.injEq] at hv; rw [hb] at hv; exact absurd hv.2 (by simp)
      | some q' =>
        rw [hnp] at hv
        simp only [Prod.mk.injEq] at hv
        rw [← hv.1]
        exact ⟨rfl, (hF.setCell (.inr (by simp; omega)) _).setCell (.inr (by simp; omega)) _⟩)
  go_enter Try.func20, Try.ntmps20
  go_wp2_with fail
  rw [← HW1.out, ← HG.out]
  (with_reducible refine (ORD.out _).mono ?_)
  rintro e w2 ⟨rfl, hf2⟩
  have F2 := Lib.hid hf2
  clear p0 p1 p3 p4
  have p0 := r0 _ hf2
  have p1 := r1 _ hf2
  have b2 := hf2.whole B1.out (by simp)
  have x0 := b2.cell 0
  have x1 := b2.cell 1
  have k0 := b2.free 0
  have k1 := b2.free 1
  simp only [List.getElem?_toArray, List.getElem?_cons_zero, List.getElem?_cons_succ] at x0 x1
  clear hf2
  by_cases hcc : c < 0
  · have e7 : decide (c < 0) = true := decide_eq_true hcc
    obtain rfl : f = ⟨ml, me⟩ := MXE.out.1 (I1.out.1 hcc)
    have FW : Hid (Frm [g + 1] w1 ((w2.setCell ⟨g + 1, 0, none⟩ (.int .u64 (ml : Nat))).setCell ⟨g + 1, 1, none⟩ (.int .u64 (me : Nat)))) := Lib.hid (((F2.out.weak (by simp)).setCell (.inl (by simp)) _).setCell (.inl (by simp)) _)
    have b3 : Whole ((w2.setCell ⟨g + 1, 0, none⟩ (.int .u64 (ml : Nat))).setCell ⟨g + 1, 1, none⟩ (.int .u64 (me : Nat))) (g + 1) 25 #[.int .u64 (ml : Nat), .int .u64 (me : Nat)] := by
      have := (b2.put 0 (.int .u64 (ml : Nat))).put 1 (.int .u64 (me : Nat))
      simpa using this
    clear hcc
    go_upto_region 3 with (fail)
    obtain ⟨W, hW⟩ : ∃ W, W = (w2.setCell ⟨g + 1, 0, none⟩ (.int .u64 (ml : Nat))).setCell ⟨g + 1, 1, none⟩ (.int .u64 (me : Nat)) := ⟨_, rfl⟩
    rw [← hW] at FW b3 ⊢
    clear hW
    clear x0 x1 k0 k1 p0 p1
    have FW1 : Hid (Frm [] w W) := Lib.hid (F1.out.trans FW.out (by simp) (fun x hx => .inr (by simp at hx; have := GS.out; omega)))
    have g2 := (FW.out.whole B0.out (by simp)).cell 2
    have g3 := b3.cell 0
    have g4 := b3.cell 1
    simp only [List.getElem?_toArray, List.getElem?_cons_zero, List.getElem?_cons_succ] at g2 g3 g4
    have FX := Lib.hid (FREE.out W FW1.out)
    clear b2 b3
    go_wp2_with fail
    (with_reducible refine FX.out.mono ?_)
    rintro e w4 ⟨M, q, b, rfl, hv, hre, hst, _, hf4⟩
    have F4 : Hid (Frm [g + 1] w1 w4) := Lib.hid (FW.out.trans hf4 (by simp) (by simp))
    have HV := Lib.hid hv
    have RE := Lib.hid hre
    have ST := Lib.hid hst
    clear hv hre hst hf4 g2 g3 g4
    go_upto_region 4 with (fail)
    obtain ⟨y, hy⟩ : ∃ y, y = w4.heap.size + 1 := ⟨_, rfl⟩
    obtain ⟨W5, hW5⟩ : ∃ W5, W5 = (w4.alloc (.cells #[.int .u64 (M.l : Nat), .int .u64 (M.e : Nat)] 25)).alloc (.cells #[.int .u64 (q.l : Nat), .int .u64 (q.e : Nat)] 25) := ⟨_, rfl⟩
    rw [← hW5, ← hy]
    have F5 : Hid (Frm [g + 1] w1 W5) := Lib.hid (by rw [hW5]; exact (F4.out.alloc _).alloc _)
    have BY : Whole W5 y 25 #[.int .u64 (q.l : Nat), .int .u64 (q.e : Nat)] := by
      rw [hW5, hy]
      have := Whole.made (w4.alloc (.cells #[.int .u64 (M.l : Nat), .int .u64 (M.e : Nat)] 25)) 25 #[.int .u64 (q.l : Nat), .int .u64 (q.e : Nat)]
      rwa [World.size_alloc] at this
    clear hW5 hy
    have b5 := F5.out.whole B2.out (by simp)
    have u0 := b5.cell 0
    have u1 := b5.cell 1
    have u2 := b5.free 0
    have u3 := b5.free 1
    have v0 := BY.cell 0
    have v1 := BY.cell 1
    simp only [List.getElem?_toArray, List.getElem?_cons_zero, List.getElem?_cons_succ] at u0 u1 v0 v1
    cases b
    · obtain ⟨FA, FB⟩ := (FIN.out W5 M q false F5.out HV.out RE.out ST.out).1 rfl
      have FA := Lib.hid FA
      have FB := Lib.hid FB
      clear b5 BY
      go_wp2
      refine bodyPost_ret (V0.out _ 0 0 false _ rfl rfl FA.out) rfl ?_
      exact FB.out
    · obtain ⟨FA, FB⟩ := (FIN.out W5 M q true F5.out HV.out RE.out ST.out).2 rfl
      have FA := Lib.hid FA
      have FB := Lib.hid FB
      clear b5 BY
      go_wp2
      refine bodyPost_ret (V0.out _ q.l q.e true _ rfl rfl FA.out) rfl ?_
      exact FB.out
  · have e7 : decide (c < 0) = false := decide_eq_false hcc
    obtain rfl : f = ⟨pl, pe⟩ := MXE.out.2 (fun h => hcc (I1.out.2 h))
    have FW : Hid (Frm [g + 1] w1 w2) := Lib.hid (F2.out.weak (by simp))
    have b3 : Whole w2 (g + 1) 25 #[.int .u64 (pl : Nat), .int .u64 (pe : Nat)] := b2
    clear hcc
    go_upto_region 3 with (fail)
    obtain ⟨W, rfl⟩ : ∃ W, W = w2 := ⟨_, rfl⟩
    clear x0 x1 k0 k1 p0 p1
    have FW1 : Hid (Frm [] w W) := Lib.hid (F1.out.trans FW.out (by simp) (fun x hx => .inr (by simp at hx; have := GS.out; omega)))
    have g2 := (FW.out.whole B0.out (by simp)).cell 2
    have g3 := b3.cell 0
    have g4 := b3.cell 1
    simp only [List.getElem?_toArray, List.getElem?_cons_zero, List.getElem?_cons_succ] at g2 g3 g4
    have FX := Lib.hid (FREE.out W FW1.out)
    clear b2 b3
    go_wp2_with fail
    (with_reducible refine FX.out.mono ?_)
    rintro e w4 ⟨M, q, b, rfl, hv, hre, hst, _, hf4⟩
    have F4 : Hid (Frm [g + 1] w1 w4) := Lib.hid (FW.out.trans hf4 (by simp) (by simp))
    have HV := Lib.hid hv
    have RE := Lib.hid hre
    have ST := Lib.hid hst
    clear hv hre hst hf4 g2 g3 g4
    go_upto_region 4 with (fail)
    obtain ⟨y, hy⟩ : ∃ y, y = w4.heap.size + 1 := ⟨_, rfl⟩
    obtain ⟨W5, hW5⟩ : ∃ W5, W5 = (w4.alloc (.cells #[.int .u64 (M.l : Nat), .int .u64 (M.e : Nat)] 25)).alloc (.cells #[.int .u64 (q.l : Nat), .int .u64 (q.e : Nat)] 25) := ⟨_, rfl⟩
    rw [← hW5, ← hy]
    have F5 : Hid (Frm [g + 1] w1 W5) := Lib.hid (by rw [hW5]; exact (F4.out.alloc _).alloc _)
    have BY : Whole W5 y 25 #[.int .u64 (q.l : Nat), .int .u64 (q.e : Nat)] := by
      rw [hW5, hy]
      have := Whole.made (w4.alloc (.cells #[.int .u64 (M.l : Nat), .int .u64 (M.e : Nat)] 25)) 25 #[.int .u64 (q.l : Nat), .int .u64 (q.e : Nat)]
      rwa [World.size_alloc] at this
    clear hW5 hy
    have b5 := F5.out.whole B2.out (by simp)
    have u0 := b5.cell 0
    have u1 := b5.cell 1
    have u2 := b5.free 0
    have u3 := b5.free 1
    have v0 := BY.cell 0
    have v1 := BY.cell 1
    simp only [List.getElem?_toArray, List.getElem?_cons_zero, List.getElem?_cons_succ] at u0 u1 v0 v1
    cases b
    · obtain ⟨FA, FB⟩ := (FIN.out W5 M q false F5.out HV.out RE.out ST.out).1 rfl
      have FA := Lib.hid FA
      have FB := Lib.hid FB
      clear b5 BY
      go_wp2
      refine bodyPost_ret (V0.out _ 0 0 false _ rfl rfl FA.out) rfl ?_
      exact FB.out
    · obtain ⟨FA, FB⟩ := (FIN.out W5 M q true F5.out HV.out RE.out ST.out).2 rfl
      have FA := Lib.hid FA
      have FB := Lib.hid FB
      clear b5 BY
      go_wp2
      refine bodyPost_ret (V0.out _ q.l q.e true _ rfl rfl FA.out) rfl ?_
      exact FB.out
end Go.Proofs.Ytghadpihmhaepaa
