/- Contract of the document's AckAll. -/
import Derived.Test.YtghadpihmhaepaaZCuTight
namespace Go.Proofs.Ytghadpihmhaepaa
open Go.RowKit
set_option maxRecDepth 100000

/-- No cursor, an error's number. -/
def NoEnd (w : World) (code : Int) (e : Ending) (w' : World) : Prop := e = .returned (.tuple #[crsV ⟨0, 0⟩ none 0 0, .int .i64 code]) ∧ Frm [] w w'
/-- Made tight from a mark on. -/
def YesEnd (w : World) (F : List Nat) (X : List Ld) (o : Nat) (m : Ps) (H : List Hel) (e : Ending) (w' : World) : Prop := ∃ (M : Ps) (Z : List Hx) (a : Option Addr) (c : Nat), e = .returned (.tuple #[crsV M a Z.length c, .int .i64 0]) ∧ Reach X o H m M ∧ Stop X o H M ∧ hels Z = tightH M H ∧ HxL w' F a Z ∧ Frm [] w w'
set_option maxHeartbeats 8000000 in
theorem crackall_any (al : Option Addr) (nl cl : Nat) (X : List Ld) (o : Nat) (m : Ps) (a : Option Addr) (n cap : Nat) (F : List Nat) (Y : List Hx) (p : Ps) (w : World) (hx : LdL w [] al X) (hnl : nl = X.length) (hszl : nl < 4611686018427387904) (ht : tot X o ≤ 100000) (h : HxL w F a Y) (hn : n = Y.length) (hsz : n ≤ 1000) (hr : ∀ x ∈ Y, x.t.2.length ≤ 400 ∧ Rt x.t.2) (hs : Srt (hels Y)) (hF : ∀ x ∈ F, x < w.heap.size) (hpf : p.fits) (hpe : hasP X o p = true → p.e + 1 < 18446744073709551616)
    (Q : Ending → World → Prop) (q1 : hasP X o p = false → ∀ e w', NoEnd w 30 e w' → Q e w') (q2 : hasP X o p = true → p.lt m → ∀ e w', NoEnd w 31 e w' → Q e w') (q3 : hasP X o p = true → ¬ p.lt m → ∀ e w', YesEnd w F X o ⟨p.l, p.e + 1⟩ (hels Y) e w' → Q e w') :
    Calls Try.prog 17 #[.slice al nl cl, .int .u64 (o : Nat), crsV m a n cap, p.val] w Q := by
  obtain ⟨w1, hw1⟩ : ∃ w1, w1 = ((w.alloc (.cells #[.int .u64 (m.l : Nat), .int .u64 (m.e : Nat), .slice a n cap] 28)).alloc (.cells #[.int .u64 (p.l : Nat), .int .u64 (p.e : Nat)] 25)).alloc (.cells #[.int .u64 0, .int .u64 0, .slice none 0 0] 28) := ⟨_, rfl⟩
  obtain ⟨g, hg⟩ : ∃ g, g = w.heap.size := ⟨_, rfl⟩
  have F1 : Hid (Frm [] w w1) := Lib.hid (by rw [hw1]; exact (((Frm.refl _ _).alloc _).alloc _).alloc _)
  have B0 : Hid (Whole w1 g 28 #[.int .u64 (m.l : Nat), .int .u64 (m.e : Nat), .slice a n cap]) := Lib.hid (by rw [hw1, hg]; exact ((Whole.made _ _ _).alloc _).alloc _)
  have B1 : Hid (Whole w1 (g + 1) 25 #[.int .u64 (p.l : Nat), .int .u64 (p.e : Nat)]) := Lib.hid (by
    rw [hw1, hg]
    have := Whole.made (w.alloc (.cells #[.int .u64 (m.l : Nat), .int .u64 (m.e : Nat), .slice a n cap] 28)) 25 #[.int .u64 (p.l : Nat), .int .u64 (p.e : Nat)]
    rw [World.size_alloc] at this
    exact this.alloc _)
  have B2 : Hid (Whole w1 (g + 1 + 1) 28 #[.int .u64 0, .int .u64 0, .slice none 0 0]) := Lib.hid (by
    rw [hw1, hg]
    have := Whole.made ((w.alloc (.cells #[.int .u64 (m.l : Nat), .int .u64 (m.e : Nat), .slice a n cap] 28)).alloc (.cells #[.int .u64 (p.l : Nat), .int .u64 (p.e : Nat)] 25)) 28 #[.int .u64 0, .int .u64 0, .slice none 0 0]
    rwa [World.size_alloc, World.size_alloc] at this)
  have GS : Hid (w.heap.size ≤ g) := Lib.hid (by omega)
  have HAS := Lib.hid (fun z (hz : Frm [] w z) => rlhas_any al nl cl X o p z (hx.sub hz) hnl hszl ht)
  have ORD := Lib.hid (fun z => rlorder_any p m z)
  have TI := Lib.hid (fun z (m' : Ps) (hz : Frm [] w z) (hgz : g + 1 + 1 < z.heap.size) (hm : m'.e < 18446744073709551616) => crtight_any al nl cl X o m' a n cap ((g + 1 + 1) :: F) Y z (hx.sub hz) hnl hszl ht (h.keep hz (by simp) (fun x hx => by
    rcases List.mem_cons.1 hx with rfl | hx
    · exact .inr (by omega)
    · exact .inl hx)) hn hsz hr hs (fun x hx => by
    rcases List.mem_cons.1 hx with rfl | hx
    · exact hgz
    · exact Nat.lt_of_lt_of_le (hF x hx) hz.size) hm)
  have Q1 := Lib.hid q1; clear q1
  have Q2 := Lib.hid q2; clear q2
  have Q3 := Lib.hid q3; clear q3
  have PE := Lib.hid hpe; clear hpe
  have BEH := Lib.hid (fun z => rlbehind_any p hpf z)
  clear hpf
  clear hx hnl ht h hn hr hs hF
  -- what is answered
  have ANS : Hid (∀ (z : World) (ul ue : Nat) (a : Option Addr) (sl c : Nat) (code : Int) (tm : Array Value), tm.getD 8 undef = .pointer (some ⟨g + 1 + 1, 0, none⟩) → tm.getD 9 undef = .int .i64 code → Whole z (g + 1 + 1) 28 #[.int .u64 (ul : Nat), .int .u64 (ue : Nat), .slice a sl c] → (results Try.f17 tm).run Try.prog z = .ok (.tuple #[.agg #[.int .u64 (ul : Nat), .int .u64 (ue : Nat), .slice a sl c], .int .i64 code]) z) := Lib.hid (fun z ul ue a sl c code tm h6 h7 hw => by
    have c0 := hw.cell 0
    have c1 := hw.cell 1
    have c2 := hw.cell 2
    simp at c0 c1 c2
    have h6' : tm[8]?.getD undef = .pointer (some ⟨g + 1 + 1, 0, none⟩) := by simpa using h6
    have h7' : tm[9]?.getD undef = .int .i64 code := by simpa using h7
    simp [results, Try.results17, go_sem, c0, c1, c2, h6', h7'])
  obtain ⟨hb, hhb⟩ : ∃ hb, hb = hasP X o p := ⟨_, rfl⟩
  rw [← hhb] at HAS Q1 Q2 Q3 PE
  clear hhb
  obtain ⟨c, hc⟩ : ∃ c, c = ordP p m := ⟨_, rfl⟩
  rw [← hc] at ORD
  have I1 : Hid (c < 0 ↔ p.lt m) := Lib.hid (by rw [hc]; exact ordP_neg)
  clear hc
  obtain ⟨pl, pe⟩ := p
  obtain ⟨ml, me⟩ := m
  unfold LRet Ps.val at ORD HAS
  unfold TiEnd crsV at TI
  unfold crsV Ps.val
  simp only at ORD HAS hw1 B0 B1 I1 Q1 Q2 Q3 PE ⊢
  have HW1 := Lib.hid hw1; clear hw1
  have HG := Lib.hid hg; clear hg
  have x0 : ∀ z, Frm [] w1 z → z.cell? ⟨g, 0, none⟩ = some (.int .u64 (ml : Nat)) := fun z hz => (hz.whole B0.out (by simp)).cell 0
  have x1 : ∀ z, Frm [] w1 z → z.cell? ⟨g, 1, none⟩ = some (.int .u64 (me : Nat)) := fun z hz => (hz.whole B0.out (by simp)).cell 1
  have x2 : ∀ z, Frm [] w1 z → z.cell? ⟨g, 2, none⟩ = some (.slice a n cap) := fun z hz => (hz.whole B0.out (by simp)).cell 2
  have y0 : ∀ z, Frm [] w1 z → z.cell? ⟨g + 1, 0, none⟩ = some (.int .u64 (pl : Nat)) := fun z hz => (hz.whole B1.out (by simp)).cell 0
  have y1 : ∀ z, Frm [] w1 z → z.cell? ⟨g + 1, 1, none⟩ = some (.int .u64 (pe : Nat)) := fun z hz => (hz.whole B1.out (by simp)).cell 1
  have p0 := x0 _ (Frm.refl _ _)
  have p1 := x1 _ (Frm.refl _ _)
  have p2 := x2 _ (Frm.refl _ _)
  have p3 := y0 _ (Frm.refl _ _)
  have p4 := y1 _ (Frm.refl _ _)
  go_enter Try.func17, Try.ntmps17
  go_upto_region 1 with (fail)
  rw [← HW1.out, ← HG.out]
  go_wp2_with fail
  (with_reducible refine (HAS.out _ F1.out).mono ?_)
  rintro e w2 ⟨rfl, hf2⟩
  have f2 : Frm [] w1 w2 := hf2
  have F2 := Lib.hid hf2; clear hf2
  have FW2 : Hid (Frm [] w w2) := Lib.hid (F1.out.trans F2.out (by simp) (by simp))
  have NOW : Hid (∀ z (code : Int), Frm [] w1 z → Whole (((z.setCell ⟨g + 1 + 1, 0, none⟩ (.int .u64 0)).setCell ⟨g + 1 + 1, 1, none⟩ (.int .u64 0)).setCell ⟨g + 1 + 1, 2, none⟩ (.slice none 0 0)) (g + 1 + 1) 28 #[.int .u64 ((0 : Nat) : Int), .int .u64 ((0 : Nat) : Int), .slice none 0 0] ∧ NoEnd w code (.returned (.tuple #[.agg #[.int .u64 ((0 : Nat) : Int), .int .u64 ((0 : Nat) : Int), .slice none 0 0], .int .i64 code])) (((z.setCell ⟨g + 1 + 1, 0, none⟩ (.int .u64 0)).setCell ⟨g + 1 + 1, 1, none⟩ (.int .u64 0)).setCell ⟨g + 1 + 1, 2, none⟩ (.slice none 0 0))) := Lib.hid (fun z code hz => by
    have hw := hz.whole B2.out (by simp)
    have hgs := GS.out
    refine ⟨?_, rfl, ?_⟩
    · have := ((hw.put 0 (.int .u64 0)).put 1 (.int .u64 0)).put 2 (.slice none 0 0)
      simpa using this
    · exact ((((F1.out.trans hz (U := []) (by simp) (by simp)).setCell (.inr (by simp; omega)) _).setCell (.inr (by simp; omega)) _).setCell (.inr (by simp; omega)) _))
  cases hb
  · have b2 := F2.out.whole B2.out (by simp)
    have q0 := b2.cell 0
    have q1 := b2.cell 1
    have q2 := b2.cell 2
    have k0 := b2.free 0
    have k1 := b2.free 1
    have k2 := b2.free 2
    simp only [List.getElem?_toArray, List.getElem?_cons_zero, List.getElem?_cons_succ] at q0 q1 q2
    obtain ⟨FA, FB⟩ := NOW.out w2 30 F2.out
    have FA := Lib.hid FA
    have FB := Lib.hid FB
    clear b2 x0 x1 x2 y0 y1 p0 p1 p2 p3 p4
    go_wp2
    refine bodyPost_ret (ANS.out _ 0 0 none 0 0 30 _ rfl rfl FA.out) rfl ?_
    exact Q1.out trivial _ _ FB.out
  · have x0' := x0 _ f2
    have x1' := x1 _ f2
    have x2' := x2 _ f2
    have y0' := y0 _ f2
    have y1' := y1 _ f2
    clear p0 p1 p2 p3 p4
    go_wp2_with fail
    (with_reducible refine (ORD.out _).mono ?_)
    rintro e w3 ⟨rfl, hf3⟩
    have f3 : Frm [] w1 w3 := f2.trans hf3 (by simp) (by simp)
    have F3 := Lib.hid f3
    clear hf3 f2 x0' x1' x2' y0' y1'
    by_cases hcc : c < 0
    · have e7 : decide (c < 0) = true := decide_eq_true hcc
      have LT := Lib.hid (I1.out.1 hcc)
      have b2 := F3.out.whole B2.out (by simp)
      have q0 := b2.cell 0
      have q1 := b2.cell 1
      have q2 := b2.cell 2
      have k0 := b2.free 0
      have k1 := b2.free 1
      have k2 := b2.free 2
      simp only [List.getElem?_toArray, List.getElem?_cons_zero, List.getElem?_cons_succ] at q0 q1 q2
      obtain ⟨FA, FB⟩ := NOW.out w3 31 F3.out
      have FA := Lib.hid FA
      have FB := Lib.hid FB
      clear b2 x0 x1 x2 y0 y1 hcc f3
      go_wp2
      refine bodyPost_ret (ANS.out _ 0 0 none 0 0 31 _ rfl rfl FA.out) rfl ?_
      exact Q2.out trivial LT.out _ _ FB.out
    · have e7 : decide (c < 0) = false := decide_eq_false hcc
      have NLT := Lib.hid (fun h => hcc (I1.out.2 h))
      clear hcc
      have x0' := x0 _ f3
      have x1' := x1 _ f3
      have x2' := x2 _ f3
      have y0' := y0 _ f3
      have y1' := y1 _ f3
      have PE1 := PE.out trivial
      have BEH : Hid (∀ z, Calls Try.prog 44 #[.agg #[.int .u64 (pl : Nat), .int .u64 (pe : Nat)]] z (fun e w' => e = .returned (.agg #[.int .u64 (pl : Nat), .int .u64 ((pe + 1 : Nat) : Int)]) ∧ Frm [] z w')) := Lib.hid (fun z => by
        have h1 := BEH.out z
        unfold LRet behindP Ps.val at h1
        rw [if_neg (by simp only; omega)] at h1
        exact h1)
      obtain ⟨pe1, hpe1⟩ : ∃ pe1, pe1 = pe + 1 := ⟨_, rfl⟩
      rw [← hpe1] at BEH Q3 PE1
      clear hpe1
      go_wp2_with fail
      (with_reducible refine (BEH.out _).mono ?_)
      rintro e w4 ⟨rfl, hf4⟩
      have f4 : Frm [] w1 w4 := f3.trans hf4 (by simp) (by simp)
      clear hf4 f3 x0' x1' x2' y0' y1'
      have b4 := f4.whole B0.out (by simp)
      have q0 := b4.cell 0
      have q1 := b4.cell 1
      have k0 := b4.free 0
      have k1 := b4.free 1
      simp only [List.getElem?_toArray, List.getElem?_cons_zero, List.getElem?_cons_succ] at q0 q1
      go_upto_region 6 with (fail)
      obtain ⟨V, hV⟩ : ∃ V, V = (w4.setCell ⟨g, 0, none⟩ (.int .u64 (pl : Nat))).setCell ⟨g, 1, none⟩ (.int .u64 (pe1 : Nat)) := ⟨_, rfl⟩
      rw [← hV]
      have bV : Whole V g 28 #[.int .u64 (pl : Nat), .int .u64 (pe1 : Nat), .slice a n cap] := by
        have := (b4.put 0 (.int .u64 (pl : Nat))).put 1 (.int .u64 (pe1 : Nat))
        rw [hV]
        simpa using this
      have FV1 : Hid (Frm [g] w1 V) := Lib.hid (by rw [hV]; exact ((f4.weak (by simp)).setCell (.inl (by simp)) _).setCell (.inl (by simp)) _)
      have FV : Hid (Frm [] w V) := Lib.hid (F1.out.trans FV1.out (by simp) (fun x hx => .inr (by simp at hx; have := GS.out; omega)))
      clear hV q0 q1 k0 k1 b4
      have p0 := bV.cell 0
      have p1 := bV.cell 1
      have p2 := bV.cell 2
      simp only [List.getElem?_toArray, List.getElem?_cons_zero, List.getElem?_cons_succ] at p0 p1 p2
      have TIX := Lib.hid (TI.out V ⟨pl, pe1⟩ FV.out (Nat.lt_of_lt_of_le B2.out.lt FV1.out.size) PE1)
      clear bV f4 x0 x1 x2 y0 y1
      go_wp2_with fail
      (with_reducible refine TIX.out.mono ?_)
      rintro e w6 ⟨M, Z, a6, c6, rfl, RE6, ST6, ZE6, HL6, hf6⟩
      have b6 := hf6.whole (FV1.out.whole B2.out (by simp only [List.mem_singleton]; omega)) (by simp)
      have FW6 : Hid (Frm [] w w6) := Lib.hid (FV.out.trans hf6 (by simp) (by simp))
      obtain ⟨zn, hzn⟩ : ∃ zn, zn = Z.length := ⟨_, rfl⟩
      rw [← hzn]
      have FIN : Hid (Whole (((w6.setCell ⟨g + 1 + 1, 0, none⟩ (.int .u64 (M.l : Nat))).setCell ⟨g + 1 + 1, 1, none⟩ (.int .u64 (M.e : Nat))).setCell ⟨g + 1 + 1, 2, none⟩ (.slice a6 zn c6)) (g + 1 + 1) 28 #[.int .u64 (M.l : Nat), .int .u64 (M.e : Nat), .slice a6 zn c6] ∧ Q (.returned (.tuple #[.agg #[.int .u64 (M.l : Nat), .int .u64 (M.e : Nat), .slice a6 zn c6], .int .i64 0])) (((w6.setCell ⟨g + 1 + 1, 0, none⟩ (.int .u64 (M.l : Nat))).setCell ⟨g + 1 + 1, 1, none⟩ (.int .u64 (M.e : Nat))).setCell ⟨g + 1 + 1, 2, none⟩ (.slice a6 zn c6))) := Lib.hid (by
        have hgs := GS.out
        refine ⟨?_, Q3.out trivial NLT.out _ _ ⟨M, Z, a6, c6, by unfold crsV; rw [hzn], RE6, ST6, ZE6, ?_, ?_⟩⟩
        · have := ((b6.put 0 (.int .u64 (M.l : Nat))).put 1 (.int .u64 (M.e : Nat))).put 2 (.slice a6 zn c6)
          simpa using this
        · have f3 : Frm [g + 1 + 1] w6 (((w6.setCell ⟨g + 1 + 1, 0, none⟩ (.int .u64 (M.l : Nat))).setCell ⟨g + 1 + 1, 1, none⟩ (.int .u64 (M.e : Nat))).setCell ⟨g + 1 + 1, 2, none⟩ (.slice a6 zn c6)) := (((Frm.refl _ _).setCell (.inl (by simp)) _).setCell (.inl (by simp)) _).setCell (.inl (by simp)) _
          exact HL6.keep f3 (fun x hx => .inl (by simp at hx; simp [hx])) (fun x hx => .inl (by simp [hx]))
        · exact (((FW6.out.setCell (.inr (by simp; omega)) _).setCell (.inr (by simp; omega)) _).setCell (.inr (by simp; omega)) _))
      obtain ⟨FA, FB⟩ := FIN.out
      have FA := Lib.hid FA
      have FB := Lib.hid FB
      have q0 := b6.cell 0
      have q1 := b6.cell 1
      have q2 := b6.cell 2
      have k0 := b6.free 0
      have k1 := b6.free 1
      have k2 := b6.free 2
      simp only [List.getElem?_toArray, List.getElem?_cons_zero, List.getElem?_cons_succ] at q0 q1 q2
      clear b6 p0 p1 p2 hzn hf6
      go_wp2
      refine bodyPost_ret (ANS.out _ M.l M.e a6 zn c6 0 _ rfl rfl FA.out) rfl ?_
      exact FB.out
end Go.Proofs.Ytghadpihmhaepaa
