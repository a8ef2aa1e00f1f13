/- Contract of the program's Ack. -/
import Derived.Test.YtghadpihmhaepaaDCqTight
import Derived.Test.YtghadpihmhaepaaCC
import Derived.Test.YtghadpihmhaepaaCB
import Derived.Test.YtghadpihmhaepaaDCuAckAll
namespace Go.Proofs.Ytghadpihmhaepaa
open Go.RowKit
set_option maxRecDepth 100000

/-- Held: a place more. -/
def Added (H : List Hel) (p : Ps) (H1 : List Hel) : Prop := ∃ R : List Rg, Rt R ∧ (∀ x, Mem R x ↔ Mem (ofH H p.l) x ∨ x = p.e) ∧ R.length ≤ (ofH H p.l).length + 1 ∧ H1 = holdH p.l R H
/-- A tight cursor of the call's own. -/
def CqYes (w : World) (F : List Nat) (X : List Ld) (o : Nat) (m : Ps) (H : List Hel) (e : Ending) (w' : World) : Prop := ∃ (M : Ps) (Z : List Hx) (a : Option Addr) (zn c : Nat), e = .returned (.tuple #[crsV M a zn c, .int .i64 0]) ∧ Hid (zn = Z.length) ∧ Hid (Reach X o H m M ∧ Stop X o H M ∧ M.e < 18446744073709551616) ∧ Hid (hels Z = leftH M H) ∧ Hid (HxL w' F a Z ∧ CapOk a Z.length c) ∧ Hid (Frm [] w w')
/-- As many ranges at most. -/
def BdH (b : Nat) (H : List Hel) : Prop := ∀ h ∈ H, h.2.length ≤ b
theorem rgsOk_of {Y : List Hx} {b : Nat} (h : RgsH (hels Y)) (hb : BdH b (hels Y)) (hb4 : b ≤ 400) : RgsOk Y := fun x hx => by
  have hm : x.t ∈ hels Y := List.mem_map.2 ⟨x, hx, rfl⟩
  exact ⟨Nat.le_trans (hb _ hm) hb4, (h _ hm).2⟩
theorem ofH_len {H : List Hel} {b : Nat} (hb : BdH b H) (q : Nat) : (ofH H q).length ≤ b := by
  rcases ofH_find H q with h | ⟨x, hx, _, h⟩
  · rw [h]; exact Nat.zero_le _
  · rw [h]; exact hb x hx
theorem mem_holdH {led : Nat} {l : List Rg} {H : List Hel} {h : Hel} (hm : h ∈ holdH led l H) : (h = (led, l) ∧ l ≠ []) ∨ h ∈ H := by
  unfold holdH at hm
  rcases List.mem_append.1 hm with h1 | h1
  · rcases List.mem_append.1 h1 with h2 | h2
    · exact .inr (List.mem_filter.1 h2).1
    · split at h2
      · cases h2
      · rename_i h3
        exact .inl ⟨List.mem_singleton.1 h2, h3⟩
  · exact .inr (List.mem_filter.1 h1).1
theorem Added.ok {H H1 : List Hel} {p : Ps} (h : Added H p H1) (hs : Srt H) (hr : RgsH H) : Srt H1 ∧ RgsH H1 := by
  obtain ⟨R, h1, h2, _, rfl⟩ := h
  refine ⟨srt_holdH hs, fun x hx => ?_⟩
  rcases mem_holdH hx with ⟨rfl, hne⟩ | hm
  · exact ⟨hne, h1⟩
  · exact hr x hm
theorem Added.bd {H H1 : List Hel} {p : Ps} {b : Nat} (h : Added H p H1) (hb : BdH b H) : BdH (b + 1) H1 ∧ H1.length ≤ H.length + 1 := by
  obtain ⟨R, _, _, h3, rfl⟩ := h
  refine ⟨fun x hx => ?_, holdH_len _ _ _⟩
  rcases mem_holdH hx with ⟨rfl, _⟩ | hm
  · have := ofH_len hb p.l
    show R.length ≤ _
    omega
  · have := hb x hm; omega
theorem Added.mem {H H1 : List Hel} {p : Ps} (h : Added H p H1) (q : Ps) : Mem (ofH H1 q.l) q.e ↔ Mem (ofH H q.l) q.e ∨ q = p := by
  obtain ⟨R, _, h2, _, rfl⟩ := h
  rw [ofH_holdH]
  by_cases hl : q.l = p.l
  · rw [if_pos hl, h2, hl]
    exact ⟨fun h => h.imp id (fun h => Ps.ext' hl h), fun h => h.imp id (fun h => by rw [h])⟩
  · rw [if_neg hl]
    exact ⟨.inl, fun h => h.elim id (fun h => absurd (by rw [h]) hl)⟩
theorem Added.uniq {H A B : List Hel} {p : Ps} (h : Added H p A) (k : Added H p B) : A = B := by
  obtain ⟨R, h1, h2, _, rfl⟩ := h
  obtain ⟨S, k1, k2, _, rfl⟩ := k
  rw [rt_uniq h1 k1 (fun x => by rw [h2, k2])]
theorem has_fit {X : List Ld} {o : Nat} {p : Ps} (hf : ∀ x ∈ X, x.fits) (ho : o < 18446744073709551616) (h : hasP X o p = true) : p.e + 1 < 18446744073709551616 := by
  unfold hasP at h
  rw [decide_eq_true_iff] at h
  obtain ⟨k, hk, _, h2, hp⟩ := nextP_some h
  have := Ld.size_lt (ld_fits_at hf k) ho
  rw [hp]
  show Ld.ahead _ _ _ + 1 < _
  omega
set_option maxHeartbeats 8000000 in
theorem cqack_any (al : Option Addr) (nl cl : Nat) (X : List Ld) (o : Nat) (m : Ps) (a : Option Addr) (n cap : Nat) (F : List Nat) (Y : List Hx) (p : Ps) (w : World) (hx : LdL w [] al X) (hnl : nl = X.length) (hszl : nl < 4611686018427387904) (ho : o < 18446744073709551616) (hfx : ∀ x ∈ X, x.fits) (h : HxL w F a Y) (hn : n = Y.length) (hsz : n ≤ 1000) (hc : CapOk a n cap) (hok : Srt (hels Y) ∧ RgsH (hels Y)) (hb : BdH 300 (hels Y)) (hF : ∀ x ∈ F, x < w.heap.size) (hme : m.e < 18446744073709551616) (hpf : p.fits)
    (Q : Ending → World → Prop) (q1 : hasP X o p = false → ∀ e w', NoEnd w 30 e w' → Q e w') (q2 : hasP X o p = true → ackedC ⟨m, hels Y⟩ p → ∀ e w', NoEnd w 31 e w' → Q e w') (q3 : hasP X o p = true → ¬ ackedC ⟨m, hels Y⟩ p → ∀ H1, Added (hels Y) p H1 → ∀ e w', CqYes w F X o m H1 e w' → Q e w') :
    Calls Try.prog 13 #[.slice al nl cl, .int .u64 (o : Nat), crsV m a n cap, p.val] w Q := by
  obtain ⟨w1, hw1⟩ : ∃ w1, w1 = ((w.alloc (.cells #[.int .u64 (m.l : Nat), .int .u64 (m.e : Nat), .slice a n cap] 28)).alloc (.cells #[.int .u64 (p.l : Nat), .int .u64 (p.e : Nat)] 25)).alloc (.cells #[.int .u64 0, .int .u64 0, .slice none 0 0] 28) := ⟨_, rfl⟩
  obtain ⟨g, hg⟩ : ∃ g, g = w.heap.size := ⟨_, rfl⟩
  have F1 : Hid (Frm [] w w1) := Lib.hid (by rw [hw1]; exact (((Frm.refl _ _).alloc _).alloc _).alloc _)
  have B0 : Hid (Whole w1 g 28 #[.int .u64 (m.l : Nat), .int .u64 (m.e : Nat), .slice a n cap]) := Lib.hid (by rw [hw1, hg]; exact ((Whole.made _ _ _).alloc _).alloc _)
  have B1 : Hid (Whole w1 (g + 1) 25 #[.int .u64 (p.l : Nat), .int .u64 (p.e : Nat)]) := Lib.hid (by
    rw [hw1, hg]
    have := Whole.made (w.alloc (.cells #[.int .u64 (m.l : Nat), .int .u64 (m.e : Nat), .slice a n cap] 28)) 25 #[.int .u64 (p.l : Nat), .int .u64 (p.e : Nat)]
    rw [World.size_alloc] at this
    exact this.alloc _)
  have B2 : Hid (Whole w1 (g + 1 + 1) 28 #[.int .u64 0, .int .u64 0, .slice none 0 0]) := Lib.hid (by
    rw [hw1, hg]
    have := Whole.made ((w.alloc (.cells #[.int .u64 (m.l : Nat), .int .u64 (m.e : Nat), .slice a n cap] 28)).alloc (.cells #[.int .u64 (p.l : Nat), .int .u64 (p.e : Nat)] 25)) 28 #[.int .u64 0, .int .u64 0, .slice none 0 0]
    rwa [World.size_alloc, World.size_alloc] at this)
  have GS : Hid (w.heap.size ≤ g) := Lib.hid (by omega)
  have RG : RgsOk Y := rgsOk_of hok.2 hb (by omega)
  have PE := fun hh => has_fit (p := p) hfx ho hh
  have HAS := Lib.hid (fun z (hz : Frm [] w z) => ldhas_any al nl cl X o p z (hx.sub hz) hnl hszl)
  have AKD := Lib.hid (fun z (hz : Frm [] w z) => cqacked_any (cap := cap) m a n F Y p z (h.sub hz) hok.1 hn (by omega) RG)
  have IN2 : ∀ x ∈ (g + 1 + 1) :: F, x ∈ F ∨ w.heap.size ≤ x := fun x hx => by
    rcases List.mem_cons.1 hx with rfl | hx
    · exact .inr (by omega)
    · exact .inl hx
  have FL2 : ∀ z, Frm [] w z → g + 1 + 1 < z.heap.size → ∀ x ∈ (g + 1 + 1) :: F, x < z.heap.size := fun z hz hgz x hx => by
    rcases List.mem_cons.1 hx with rfl | hx
    · exact hgz
    · exact Nat.lt_of_lt_of_le (hF x hx) hz.size
  have WITH := Lib.hid (fun (hh : hasP X o p = true) z (hz : Frm [] w z) (hgz : g + 1 + 1 < z.heap.size) => cqwith_any a n cap ((g + 1 + 1) :: F) Y p z (h.keep hz (by simp) IN2) hok.1 hn hsz hc RG (FL2 z hz hgz) hpf.1 (PE hh))
  have TI := Lib.hid (fun z (Z : List Hx) az zn cz (hz : Frm [] w z) (hgz : g + 1 + 1 < z.heap.size) (hl : HxL z ((g + 1 + 1) :: F) az Z) (hzn : zn = Z.length) (hzs : zn ≤ 100000) (hs : Srt (hels Z)) (hr : RgsOk Z) => cqtight_any al nl cl X o m az zn cz ((g + 1 + 1) :: F) Z z (hx.sub hz) hnl hszl ho hfx hl hs hzn hzs hr (FL2 z hz hgz) hme)
  have NN := Lib.hid hn
  have OKH := Lib.hid hok; clear hok
  have BB := Lib.hid hb; clear hb
  have Q1 := Lib.hid q1; clear q1
  have Q2 := Lib.hid q2; clear q2
  have Q3 := Lib.hid q3; clear q3
  clear hx hnl h hn hF hfx IN2 FL2 RG PE hpf hc ho hme
  have ANS : Hid (∀ (z : World) (ul ue : Nat) (a : Option Addr) (sl c : Nat) (code : Int) (tm : Array Value), tm.getD 8 undef = .pointer (some ⟨g + 1 + 1, 0, none⟩) → tm.getD 9 undef = .int .i64 code → Whole z (g + 1 + 1) 28 #[.int .u64 (ul : Nat), .int .u64 (ue : Nat), .slice a sl c] → (results Try.f13 tm).run Try.prog z = .ok (.tuple #[.agg #[.int .u64 (ul : Nat), .int .u64 (ue : Nat), .slice a sl c], .int .i64 code]) z) := Lib.hid (fun z ul ue a sl c code tm h6 h7 hw => by
    have c0 := hw.cell 0
    have c1 := hw.cell 1
    have c2 := hw.cell 2
    simp at c0 c1 c2
    have h6' : tm[8]?.getD undef = .pointer (some ⟨g + 1 + 1, 0, none⟩) := by simpa using h6
    have h7' : tm[9]?.getD undef = .int .i64 code := by simpa using h7
    simp [results, Try.results13, go_sem, c0, c1, c2, h6', h7'])
  obtain ⟨hb, hhb⟩ : ∃ hb, hb = hasP X o p := ⟨_, rfl⟩
  rw [← hhb] at HAS Q1 Q2 Q3 WITH
  clear hhb
  obtain ⟨AK, hAK⟩ : ∃ AK, AK = ackedC ⟨m, hels Y⟩ p := ⟨_, rfl⟩
  rw [← hAK] at AKD Q2 Q3
  clear hAK
  obtain ⟨m0, hm0⟩ : ∃ m0, m0 = m := ⟨_, rfl⟩
  rw [← hm0] at Q3
  have M0 : Hid (m0 = m) := Lib.hid hm0
  clear hm0
  obtain ⟨p0, hp0⟩ : ∃ p0, p0 = p := ⟨_, rfl⟩
  rw [← hp0] at Q3
  have P0 : Hid (p0 = p) := Lib.hid hp0
  clear hp0
  obtain ⟨pl, pe⟩ := p
  obtain ⟨ml, me⟩ := m
  unfold LRet Ps.val at HAS
  unfold crsV Ps.val at AKD
  unfold WithEnd Ps.val at WITH
  unfold CqTi crsV at TI
  unfold crsV Ps.val
  simp only at HAS AKD WITH TI hw1 B0 B1 M0 P0 ⊢
  have HW1 := Lib.hid hw1; clear hw1
  have HG := Lib.hid hg; clear hg
  have x0 : ∀ z, Frm [] w1 z → z.cell? ⟨g, 0, none⟩ = some (.int .u64 (ml : Nat)) := fun z hz => (hz.whole B0.out (by simp)).cell 0
  have x1 : ∀ z, Frm [] w1 z → z.cell? ⟨g, 1, none⟩ = some (.int .u64 (me : Nat)) := fun z hz => (hz.whole B0.out (by simp)).cell 1
  have x2 : ∀ z, Frm [] w1 z → z.cell? ⟨g, 2, none⟩ = some (.slice a n cap) := fun z hz => (hz.whole B0.out (by simp)).cell 2
  have y0 : ∀ z, Frm [] w1 z → z.cell? ⟨g + 1, 0, none⟩ = some (.int .u64 (pl : Nat)) := fun z hz => (hz.whole B1.out (by simp)).cell 0
  have y1 : ∀ z, Frm [] w1 z → z.cell? ⟨g + 1, 1, none⟩ = some (.int .u64 (pe : Nat)) := fun z hz => (hz.whole B1.out (by simp)).cell 1
  have NOW : Hid (∀ z (code : Int), Frm [] w1 z → Whole (((z.setCell ⟨g + 1 + 1, 0, none⟩ (.int .u64 0)).setCell ⟨g + 1 + 1, 1, none⟩ (.int .u64 0)).setCell ⟨g + 1 + 1, 2, none⟩ (.slice none 0 0)) (g + 1 + 1) 28 #[.int .u64 ((0 : Nat) : Int), .int .u64 ((0 : Nat) : Int), .slice none 0 0] ∧ NoEnd w code (.returned (.tuple #[.agg #[.int .u64 ((0 : Nat) : Int), .int .u64 ((0 : Nat) : Int), .slice none 0 0], .int .i64 code])) (((z.setCell ⟨g + 1 + 1, 0, none⟩ (.int .u64 0)).setCell ⟨g + 1 + 1, 1, none⟩ (.int .u64 0)).setCell ⟨g + 1 + 1, 2, none⟩ (.slice none 0 0))) := Lib.hid (fun z code hz => by
    have hw := hz.whole B2.out (by simp)
    have hgs := GS.out
    refine ⟨?_, rfl, ?_⟩
    · have := ((hw.put 0 (.int .u64 0)).put 1 (.int .u64 0)).put 2 (.slice none 0 0)
      simpa using this
    · exact ((((F1.out.trans hz (U := []) (by simp) (by simp)).setCell (.inr (by simp; omega)) _).setCell (.inr (by simp; omega)) _).setCell (.inr (by simp; omega)) _))
  have p0' := x0 _ (Frm.refl _ _)
  have p3' := y0 _ (Frm.refl _ _)
  have p4' := y1 _ (Frm.refl _ _)
  go_enter Try.func13, Try.ntmps13
  go_upto_region 1 with (fail)
  rw [← HW1.out, ← HG.out]
  go_wp2_with fail
  (with_reducible refine (HAS.out _ F1.out).mono ?_)
  rintro e w2 ⟨rfl, hf2⟩
  have f2 : Frm [] w1 w2 := hf2
  have F2 := Lib.hid hf2; clear hf2
  clear p0' p3' p4'
  cases hb
  · have b2 := F2.out.whole B2.out (by simp)
    have q0 := b2.cell 0
    have q1 := b2.cell 1
    have q2 := b2.cell 2
    have k0 := b2.free 0
    have k1 := b2.free 1
    have k2 := b2.free 2
    simp only [List.getElem?_toArray, List.getElem?_cons_zero, List.getElem?_cons_succ] at q0 q1 q2
    obtain ⟨FA, FB⟩ := NOW.out w2 30 F2.out
    have FA := Lib.hid FA
    have FB := Lib.hid FB
    clear b2 x0 x1 x2 y0 y1 f2
    go_wp2
    refine bodyPost_ret (ANS.out _ 0 0 none 0 0 30 _ rfl rfl FA.out) rfl ?_
    exact Q1.out trivial _ _ FB.out
  · have x0' := x0 _ f2
    have x1' := x1 _ f2
    have x2' := x2 _ f2
    have y0' := y0 _ f2
    have y1' := y1 _ f2
    go_wp2_with fail
    (with_reducible refine (AKD.out _ (F1.out.trans f2 (by simp) (by simp))).mono ?_)
    rintro e w3 ⟨ab, rfl, hab, hf3⟩
    have f3 : Frm [] w1 w3 := f2.trans hf3 (by simp) (by simp)
    have F3 := Lib.hid f3
    have AB := Lib.hid hab
    clear hf3 f2 x0' x1' x2' y0' y1' hab
    cases ab
    · have x0' := x0 _ f3
      have NAK : Hid (¬ AK) := Lib.hid (fun h => by have := AB.out.2 h; cases this)
      have WX := Lib.hid (fun z (hz : Frm [] w3 z) => WITH.out trivial z (F1.out.trans (F3.out.trans hz (U := []) (by simp) (by simp)) (by simp) (by simp)) (Nat.lt_of_lt_of_le B2.out.lt (F3.out.trans hz (U := []) (by simp) (by simp)).size))
      have r0 : ∀ z, Frm [] w3 z → z.cell? ⟨g, 0, none⟩ = some (.int .u64 (ml : Nat)) := fun z hz => x0 z (F3.out.trans hz (by simp) (by simp))
      have r1 : ∀ z, Frm [] w3 z → z.cell? ⟨g, 1, none⟩ = some (.int .u64 (me : Nat)) := fun z hz => x1 z (F3.out.trans hz (by simp) (by simp))
      have r2 : ∀ z, Frm [] w3 z → z.cell? ⟨g, 2, none⟩ = some (.slice a n cap) := fun z hz => x2 z (F3.out.trans hz (by simp) (by simp))
      have r3 : ∀ z, Frm [] w3 z → z.cell? ⟨g + 1, 0, none⟩ = some (.int .u64 (pl : Nat)) := fun z hz => y0 z (F3.out.trans hz (by simp) (by simp))
      have r4 : ∀ z, Frm [] w3 z → z.cell? ⟨g + 1, 1, none⟩ = some (.int .u64 (pe : Nat)) := fun z hz => y1 z (F3.out.trans hz (by simp) (by simp))
      have SUB : Hid (∀ z, Frm [] w3 z → Frm [] w z) := Lib.hid (fun z hz => F1.out.trans (F3.out.trans hz (U := []) (by simp) (by simp)) (by simp) (by simp))
      have GT : Hid (∀ z, Frm [] w3 z → g + 1 + 1 < z.heap.size) := Lib.hid (fun z hz => Nat.lt_of_lt_of_le B2.out.lt (F3.out.trans hz (U := []) (by simp) (by simp)).size)
      have B3 : Hid (Whole w3 (g + 1 + 1) 28 #[.int .u64 0, .int .u64 0, .slice none 0 0]) := Lib.hid (F3.out.whole B2.out (by simp))
      have FIN : Hid (∀ z M Zt at' zt ct H1, Frm [] w3 z → Added (hels Y) p0 H1 → Hid (zt = Zt.length) → Hid (Reach X o H1 ⟨ml, me⟩ M ∧ Stop X o H1 M ∧ M.e < 18446744073709551616) → Hid (hels Zt = leftH M H1) → Hid (HxL z ((g + 1 + 1) :: F) at' Zt ∧ CapOk at' Zt.length ct) → Whole (((z.setCell ⟨g + 1 + 1, 0, none⟩ (.int .u64 (M.l : Nat))).setCell ⟨g + 1 + 1, 1, none⟩ (.int .u64 (M.e : Nat))).setCell ⟨g + 1 + 1, 2, none⟩ (.slice at' zt ct)) (g + 1 + 1) 28 #[.int .u64 (M.l : Nat), .int .u64 (M.e : Nat), .slice at' zt ct] ∧ Q (.returned (.tuple #[.agg #[.int .u64 (M.l : Nat), .int .u64 (M.e : Nat), .slice at' zt ct], .int .i64 0])) (((z.setCell ⟨g + 1 + 1, 0, none⟩ (.int .u64 (M.l : Nat))).setCell ⟨g + 1 + 1, 1, none⟩ (.int .u64 (M.e : Nat))).setCell ⟨g + 1 + 1, 2, none⟩ (.slice at' zt ct))) := Lib.hid (fun z M Zt at' zt ct H1 hz hadd h1 h2 h3 h4 => by
        have hw := hz.whole B3.out (by simp)
        have hgs := GS.out
        have f3 : Frm [g + 1 + 1] z (((z.setCell ⟨g + 1 + 1, 0, none⟩ (.int .u64 (M.l : Nat))).setCell ⟨g + 1 + 1, 1, none⟩ (.int .u64 (M.e : Nat))).setCell ⟨g + 1 + 1, 2, none⟩ (.slice at' zt ct)) := (((Frm.refl _ _).setCell (.inl (by simp)) _).setCell (.inl (by simp)) _).setCell (.inl (by simp)) _
        refine ⟨?_, Q3.out trivial NAK.out H1 hadd _ _ ⟨M, Zt, at', zt, ct, rfl, h1, by rw [M0.out]; exact h2, h3, ⟨h4.out.1.keep f3 (fun x hx => .inl (by simp at hx; simp [hx])) (fun x hx => .inl (by simp [hx])), h4.out.2⟩, (SUB.out z hz).trans f3 (by simp) (fun x hx => .inr (by simp at hx; omega))⟩⟩
        have := ((hw.put 0 (.int .u64 (M.l : Nat))).put 1 (.int .u64 (M.e : Nat))).put 2 (.slice at' zt ct)
        simpa using this)
      have TIX : Hid (∀ z (R : List Rg) (Z : List Hx) az zn cz, Frm [] w3 z → Hid (zn = Z.length) → Hid (hels Z = holdH pl R (hels Y) ∧ Z.length ≤ Y.length + 1) → Hid (Rt R ∧ (∀ x, Mem R x ↔ Mem (ofH (hels Y) pl) x ∨ x = pe) ∧ R.length ≤ (ofH (hels Y) pl).length + 1) → Hid (HxL z ((g + 1 + 1) :: F) az Z ∧ CapOk az Z.length cz) → Hid (Added (hels Y) p0 (hels Z)) ∧ Hid (Calls Try.prog 35 #[.slice al nl cl, .int .u64 (o : Nat), .agg #[.int .u64 (ml : Nat), .int .u64 (me : Nat), .slice az zn cz]] z fun e w' => ∃ (M : Ps) (Zt : List Hx) (at' : Option Addr) (zt ct : Nat), e = .returned (.agg #[.int .u64 (M.l : Nat), .int .u64 (M.e : Nat), .slice at' zt ct]) ∧ Hid (zt = Zt.length) ∧ Hid (Reach X o (hels Z) ⟨ml, me⟩ M ∧ Stop X o (hels Z) M ∧ M.e < 18446744073709551616) ∧ Hid (hels Zt = leftH M (hels Z)) ∧ Hid (HxL w' ((g + 1 + 1) :: F) at' Zt ∧ CapOk at' Zt.length ct) ∧ Hid (Frm [] z w'))) := Lib.hid (fun z R Z az zn cz hz ZN ZH RR ZL => by
        have ADD : Added (hels Y) p0 (hels Z) := by rw [P0.out]; exact ⟨R, RR.out.1, RR.out.2.1, RR.out.2.2, ZH.out.1⟩
        have ZOK := ADD.ok OKH.out.1 OKH.out.2
        have ZBD := ADD.bd BB.out
        have h1 := ZH.out.2
        have h2 := ZN.out
        have h3 := NN.out
        exact ⟨Lib.hid ADD, Lib.hid (TI.out z Z az zn cz (SUB.out z hz) (GT.out z hz) ZL.out.1 ZN.out (by omega) ZOK.1 (rgsOk_of ZOK.2 ZBD.1 (by omega)))⟩)
      clear x0' x0 x1 x2 y0 y1 f3
      go_upto_region 5 with (fail)
      clear AB HAS AKD WITH
      refine wp_region_tail (S := fun w' => Frm [] w3 w') (tl := (fun j => decide (10 ≤ j))) (by kernel_rfl) (Frm.drew (Frm.refl _ _)) (fun hHeld => ?_)
      refine tail_take (i := 0) (oi := ⟨some 22, _, _, _, _, _⟩) (v := ?_) rfl (by kernel_rfl) (by kernel_rfl) (by kernel_rfl) (by kernel_rfl) (by kernel_rfl) (fun _ _ _ h => h) (Or.inl ⟨by rfl, ?_⟩) (by assumption) ?_
      rotate_left 1
      · (intro w hSw; (try dsimp only at hSw); go_simp; all_goals with_reducible rfl)
      try simp only [Act.put, List.setIfInBounds_toArray, List.set_cons_zero, List.set_cons_succ]
      refine tail_take (i := 1) (oi := ⟨some 23, _, _, _, _, _⟩) (v := ?_) rfl (by kernel_rfl) (by kernel_rfl) (by kernel_rfl) (by kernel_rfl) (by kernel_rfl) (fun _ _ _ h => h) (Or.inl ⟨by rfl, ?_⟩) (by assumption) ?_
      rotate_left 1
      · (intro w hSw; (try dsimp only at hSw); go_simp; all_goals with_reducible rfl)
      try simp only [Act.put, List.setIfInBounds_toArray, List.set_cons_zero, List.set_cons_succ]
      refine tail_take (i := 2) (oi := ⟨some 24, _, _, _, _, _⟩) (v := ?_) rfl (by kernel_rfl) (by kernel_rfl) (by kernel_rfl) (by kernel_rfl) (by kernel_rfl) (fun _ _ _ h => h) (Or.inl ⟨by rfl, ?_⟩) (by assumption) ?_
      rotate_left 1
      · (intro w hSw; (try dsimp only at hSw); go_simp; all_goals with_reducible rfl)
      try simp only [Act.put, List.setIfInBounds_toArray, List.set_cons_zero, List.set_cons_succ]
      refine tail_take (i := 3) (oi := ⟨some 25, _, _, _, _, _⟩) (v := ?_) rfl (by kernel_rfl) (by kernel_rfl) (by kernel_rfl) (by kernel_rfl) (by kernel_rfl) (fun _ _ _ h => h) (Or.inl ⟨by rfl, ?_⟩) (by assumption) ?_
      rotate_left 1
      · (intro w hSw; (try dsimp only at hSw); go_simp; all_goals with_reducible rfl)
      try simp only [Act.put, List.setIfInBounds_toArray, List.set_cons_zero, List.set_cons_succ]
      refine tail_take (i := 4) (oi := ⟨some 26, _, _, _, _, _⟩) (v := ?_) rfl (by kernel_rfl) (by kernel_rfl) (by kernel_rfl) (by kernel_rfl) (by kernel_rfl) (fun _ _ _ h => h) (Or.inl ⟨by rfl, ?_⟩) (by assumption) ?_
      rotate_left 1
      · (intro w hSw; (try dsimp only at hSw); go_simp; all_goals with_reducible rfl)
      try simp only [Act.put, List.setIfInBounds_toArray, List.set_cons_zero, List.set_cons_succ]
      refine tail_take (i := 5) (oi := ⟨some 27, _, _, _, _, _⟩) (v := ?_) rfl (by kernel_rfl) (by kernel_rfl) (by kernel_rfl) (by kernel_rfl) (by kernel_rfl) (fun _ _ _ h => h) (Or.inl ⟨by rfl, ?_⟩) (by assumption) ?_
      rotate_left 1
      · (intro w hSw; (try dsimp only at hSw); go_simp; all_goals with_reducible rfl)
      try simp only [Act.put, List.setIfInBounds_toArray, List.set_cons_zero, List.set_cons_succ]
      refine tail_take (i := 6) (oi := ⟨some 28, _, _, _, _, _⟩) (v := ?_) rfl (by kernel_rfl) (by kernel_rfl) (by kernel_rfl) (by kernel_rfl) (by kernel_rfl) (fun _ _ _ h => h) (Or.inl ⟨by rfl, ?_⟩) (by assumption) ?_
      rotate_left 1
      · (intro w hSw; (try dsimp only at hSw); go_simp; all_goals with_reducible rfl)
      try simp only [Act.put, List.setIfInBounds_toArray, List.set_cons_zero, List.set_cons_succ]
      refine tail_one (i := 7) (o := ⟨some 29, _, _, _, _, _⟩) (by kernel_rfl) rfl (fun K hK => ?_)
      go_simp
      ((with_reducible refine (WX.out _ (by repeat (first | assumption | apply Frm.drew | exact Frm.refl _ _))).mono ?_); rintro e w5 ⟨R, Z, az, zn, cz, rfl, ZN, ZH, RR, ZL, F5⟩; have hHeld5 : Frm [] w3 w5 := Frm.trans (by repeat (first | assumption | apply Frm.drew | exact Frm.refl _ _)) F5.out (by simp) (by simp); obtain ⟨ADD, TX⟩ := TIX.out w5 R Z az zn cz hHeld5 ZN ZH RR ZL)
      go_wp2_with fail
      refine hK.out _ _ (fun _ => by assumption) (fun _ => ?_)
      clear hK K
      try simp only [Act.put, List.setIfInBounds_toArray, List.set_cons_zero, List.set_cons_succ]
      refine tail_take (i := 8) (oi := ⟨some 30, _, _, _, _, _⟩) (v := ?_) rfl (by kernel_rfl) (by kernel_rfl) (by kernel_rfl) (by kernel_rfl) (by kernel_rfl) (fun _ _ _ h => h) (Or.inl ⟨by rfl, ?_⟩) (by assumption) ?_
      rotate_left 1
      · (intro w hSw; (try dsimp only at hSw); go_simp; all_goals with_reducible rfl)
      try simp only [Act.put, List.setIfInBounds_toArray, List.set_cons_zero, List.set_cons_succ]
      refine tail_one (i := 9) (o := ⟨some 31, _, _, _, _, _⟩) (by kernel_rfl) rfl (fun K hK => ?_)
      go_simp
      ((with_reducible refine TX.out.mono ?_); rintro e w6 ⟨M, Zt, at', zt, ct, rfl, h1, h2, h3, h4, hf6⟩; have hHeld6 : Frm [] w3 w6 := hHeld5.trans hf6.out (by simp) (by simp); have b6 := hHeld6.whole B3.out (by simp); have q0 := b6.cell 0; have q1 := b6.cell 1; have q2 := b6.cell 2; have k0 := b6.free 0; have k1 := b6.free 1; have k2 := b6.free 2; simp only [List.getElem?_toArray, List.getElem?_cons_zero, List.getElem?_cons_succ] at q0 q1 q2; clear b6)
      go_wp2_with fail
      refine hK.out _ _ (fun _ => by assumption) (fun _ => ?_)
      clear hK K
      try simp only [Act.put, List.setIfInBounds_toArray, List.set_cons_zero, List.set_cons_succ]
      refine tail_one (i := 10) (o := ⟨none, _, _, _, _, _⟩) (by kernel_rfl) rfl (fun K hK => ?_)
      go_simp
      refine hK.out _ _ (fun h => absurd h (by decide)) (fun _ => ?_)
      clear hK K
      try simp only [Act.put, List.setIfInBounds_toArray, List.set_cons_zero, List.set_cons_succ]
      refine tail_one (i := 11) (o := ⟨some 9, _, _, _, _, _⟩) (by kernel_rfl) rfl (fun K hK => ?_)
      go_simp
      refine hK.out _ _ (fun h => absurd h (by decide)) (fun _ => ?_)
      clear hK K
      try simp only [Act.put, List.setIfInBounds_toArray, List.set_cons_zero, List.set_cons_succ]
      refine tail_done (by kernel_rfl) ?_ _
      obtain ⟨FA, FB⟩ := FIN.out _ _ _ _ _ _ _ hHeld6 ADD.out h1 h2 h3 h4
      have FA := Lib.hid FA
      have FB := Lib.hid FB
      clear r0 r1 r2 r3 r4 q0 q1 q2 k0 k1 k2 hHeld5 hHeld6
      go_wp2
      refine bodyPost_ret (ANS.out _ M.l M.e at' zt ct 0 _ rfl rfl FA.out) rfl ?_
      exact FB.out
    · have b2 := F3.out.whole B2.out (by simp)
      have q0 := b2.cell 0
      have q1 := b2.cell 1
      have q2 := b2.cell 2
      have k0 := b2.free 0
      have k1 := b2.free 1
      have k2 := b2.free 2
      simp only [List.getElem?_toArray, List.getElem?_cons_zero, List.getElem?_cons_succ] at q0 q1 q2
      obtain ⟨FA, FB⟩ := NOW.out w3 31 F3.out
      have FA := Lib.hid FA
      have FB := Lib.hid FB
      clear b2 x0 x1 x2 y0 y1 f3
      go_wp2
      refine bodyPost_ret (ANS.out _ 0 0 none 0 0 31 _ rfl rfl FA.out) rfl ?_
      exact Q2.out trivial (AB.out.1 trivial) _ _ FB.out
end Go.Proofs.Ytghadpihmhaepaa
