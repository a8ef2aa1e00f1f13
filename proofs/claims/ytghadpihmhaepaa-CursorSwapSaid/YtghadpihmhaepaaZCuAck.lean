/- Contract of the document's Ack. Written by wip/mk-cuack.py. -/
import Derived.Test.YtghadpihmhaepaaZCqAk
import Derived.Test.YtghadpihmhaepaaZRgAddM
import Derived.Test.YtghadpihmhaepaaZCuTight
import Derived.Deep.DeepCutAuto
namespace Go.Proofs.Ytghadpihmhaepaa
open Go.RowKit
set_option maxRecDepth 100000

/-- Made tight from a mark on, by the document. -/
def RkYes (w : World) (F : List Nat) (X : List Ld) (o : Nat) (m : Ps) (H : List Hel) (e : Ending) (w' : World) : Prop := ∃ (M : Ps) (Z : List Hx) (a : Option Addr) (zn c : Nat), e = .returned (.tuple #[crsV M a zn c, .int .i64 0]) ∧ Hid (zn = Z.length) ∧ Hid (Reach X o H m M ∧ Stop X o H M) ∧ Hid (hels Z = leftH M H) ∧ Hid (HxL w' F a Z) ∧ Hid (Frm [] w w')
set_option maxHeartbeats 32000000 in
theorem crack_any (al : Option Addr) (nl cl : Nat) (X : List Ld) (o : Nat) (m : Ps) (a : Option Addr) (n cap : Nat) (F : List Nat) (Y : List Hx) (p : Ps) (w : World) (hx : LdL w [] al X) (hnl : nl = X.length) (hszl : nl < 4611686018427387904) (ht : tot X o ≤ 100000) (ho : o < 18446744073709551616) (hfx : ∀ x ∈ X, x.fits) (h : HxL w F a Y) (hn : n = Y.length) (hsz : n ≤ 900) (hok : Srt (hels Y) ∧ RgsH (hels Y)) (hb : BdH 100 (hels Y)) (hF : ∀ x ∈ F, x < w.heap.size) (hme : m.e < 18446744073709551616) (hpf : p.fits)
    (Q : Ending → World → Prop) (q1 : hasP X o p = false → ∀ e w', NoEnd w 30 e w' → Q e w') (q2 : hasP X o p = true → ackedC ⟨m, hels Y⟩ p → ∀ e w', NoEnd w 31 e w' → Q e w') (q3 : hasP X o p = true → ¬ ackedC ⟨m, hels Y⟩ p → ∀ H1, Added (hels Y) p H1 → ∀ e w', RkYes w F X o m H1 e w' → Q e w') :
    Calls Try.prog 14 #[.slice al nl cl, .int .u64 (o : Nat), crsV m a n cap, p.val] w Q := by
  obtain ⟨w1, hw1⟩ : ∃ w1, w1 = ((w.alloc (.cells #[.int .u64 (m.l : Nat), .int .u64 (m.e : Nat), .slice a n cap] 28)).alloc (.cells #[.int .u64 (p.l : Nat), .int .u64 (p.e : Nat)] 25)).alloc (.cells #[.int .u64 0, .int .u64 0, .slice none 0 0] 28) := ⟨_, rfl⟩
  obtain ⟨g, hg⟩ : ∃ g, g = w.heap.size := ⟨_, rfl⟩
  have F1 : Hid (Frm [] w w1) := Lib.hid (by rw [hw1]; exact (((Frm.refl _ _).alloc _).alloc _).alloc _)
  have B0 : Hid (Whole w1 g 28 #[.int .u64 (m.l : Nat), .int .u64 (m.e : Nat), .slice a n cap]) := Lib.hid (by rw [hw1, hg]; exact ((Whole.made _ _ _).alloc _).alloc _)
  have B1 : Hid (Whole w1 (g + 1) 25 #[.int .u64 (p.l : Nat), .int .u64 (p.e : Nat)]) := Lib.hid (by
    rw [hw1, hg]
    have := Whole.made (w.alloc (.cells #[.int .u64 (m.l : Nat), .int .u64 (m.e : Nat), .slice a n cap] 28)) 25 #[.int .u64 (p.l : Nat), .int .u64 (p.e : Nat)]
    rw [World.size_alloc] at this
    exact this.alloc _)
  have B2 : Hid (Whole w1 (g + 1 + 1) 28 #[.int .u64 0, .int .u64 0, .slice none 0 0]) := Lib.hid (by
    rw [hw1, hg]
    have := Whole.made ((w.alloc (.cells #[.int .u64 (m.l : Nat), .int .u64 (m.e : Nat), .slice a n cap] 28)).alloc (.cells #[.int .u64 (p.l : Nat), .int .u64 (p.e : Nat)] 25)) 28 #[.int .u64 0, .int .u64 0, .slice none 0 0]
    rwa [World.size_alloc, World.size_alloc] at this)
  have GS : Hid (w.heap.size ≤ g) := Lib.hid (by omega)
  have RG : RgsOk Y := rgsOk_of hok.2 hb (by omega)
  have RG2 : ∀ x ∈ Y, x.t.2.length < 4611686018427387904 := fun x hx => by have := (RG x hx).1; omega
  have PE := fun hh => has_fit (p := p) hfx ho hh
  have HAS := Lib.hid (fun z (hz : Frm [] w z) => rlhas_any al nl cl X o p z (hx.sub hz) hnl hszl ht)
  have AKD := Lib.hid (fun z (hz : Frm [] w z) => cracked_any m a n cap F Y p z (h.sub hz) hn (by omega) RG2)
  have IN2 : ∀ x ∈ (g + 1 + 1) :: F, x ∈ F ∨ w.heap.size ≤ x := fun x hx => by
    rcases List.mem_cons.1 hx with rfl | hx
    · exact .inr (by omega)
    · exact .inl hx
  have FL2 : ∀ z, Frm [] w z → g + 1 + 1 < z.heap.size → ∀ x ∈ (g + 1 + 1) :: F, x < z.heap.size := fun z hz hgz x hx => by
    rcases List.mem_cons.1 hx with rfl | hx
    · exact hgz
    · exact Nat.lt_of_lt_of_le (hF x hx) hz.size
  have OF := Lib.hid (fun z (F' : List Nat) (hz : Frm [] w z) (hF' : ∀ x ∈ F', w.heap.size ≤ x) => crof_any m a n cap F' Y p.l z (h.keep hz (by simp) (fun x hx => .inr (hF' x hx))) hn (by omega))
  have HOLD := Lib.hid (fun z (la : Option Addr) (ln lc : Nat) (l : List Rg) (hz : Frm [] w z) (hgz : g + 1 + 1 < z.heap.size) (hl : HxOk z ((g + 1 + 1) :: F) ⟨(p.l, l), la, lc⟩) (hln : ln = l.length) => crhold_any m a n cap ((g + 1 + 1) :: F) Y p.l la ln lc l z (h.keep hz (by simp) IN2) hn (by omega) hl hln (FL2 z hz hgz))
  have HX := Lib.hid (fun (l : List Rg) (la : Option Addr) (lc : Nat) => hels_hoX (led := p.l) (l := l) (la := la) (lc := lc) (X := Y) hok.1)
  have TI := Lib.hid (fun z (Z : List Hx) az zn cz (hz : Frm [] w z) (hgz : g + 1 + 1 < z.heap.size) (hl : HxL z ((g + 1 + 1) :: F) az Z) (hzn : zn = Z.length) (hzs : zn ≤ 1000) (hs : Srt (hels Z)) (hr : RgsOk Z) => crtight_any al nl cl X o m az zn cz ((g + 1 + 1) :: F) Z z (hx.sub hz) hnl hszl ht hl hzn hzs hr hs (FL2 z hz hgz) hme)
  obtain ⟨j0, hj, hy0, hy1, hy2⟩ := info_parts Try.info71
  have RI := Lib.hid hj; clear hj
  have RZ0 := Lib.hid hy0; clear hy0
  have RZ1 := Lib.hid hy1; clear hy1
  have RZ2 := Lib.hid hy2; clear hy2
  have PL := Lib.hid hpf.1
  have PEX := Lib.hid PE
  have HF00 := Lib.hid hF
  have RLE := Lib.hid (ofH_len hb p.l)
  have RRT := Lib.hid (ofH_ok RG p.l).2
  have RBD : Hid (Bd (ofH (hels Y) p.l)) := Lib.hid (by
    rcases ofH_find (hels Y) p.l with h0 | ⟨x, hx, _, h0⟩
    · rw [h0]; exact fun p hp => by simp at hp
    · rw [h0]
      obtain ⟨y, hy, rfl⟩ := List.mem_map.1 hx
      exact (h.ok y hy).rs.1)
  have NN := Lib.hid hn
  have OKH := Lib.hid hok; clear hok
  have BB := Lib.hid hb; clear hb
  have Q1 := Lib.hid q1; clear q1
  have Q2 := Lib.hid q2; clear q2
  have Q3 := Lib.hid q3; clear q3
  clear hx hnl h hn hF hfx IN2 FL2 RG RG2 PE hpf ho hme ht
  have ANS : Hid (∀ (z : World) (ul ue : Nat) (a : Option Addr) (sl c : Nat) (code : Int) (tm : Array Value), tm.getD 8 undef = .pointer (some ⟨g + 1 + 1, 0, none⟩) → tm.getD 9 undef = .int .i64 code → Whole z (g + 1 + 1) 28 #[.int .u64 (ul : Nat), .int .u64 (ue : Nat), .slice a sl c] → (results Try.f14 tm).run Try.prog z = .ok (.tuple #[.agg #[.int .u64 (ul : Nat), .int .u64 (ue : Nat), .slice a sl c], .int .i64 code]) z) := Lib.hid (fun z ul ue a sl c code tm h6 h7 hw => by
    have c0 := hw.cell 0
    have c1 := hw.cell 1
    have c2 := hw.cell 2
    simp at c0 c1 c2
    have h6' : tm[8]?.getD undef = .pointer (some ⟨g + 1 + 1, 0, none⟩) := by simpa using h6
    have h7' : tm[9]?.getD undef = .int .i64 code := by simpa using h7
    simp [results, Try.results14, go_sem, c0, c1, c2, h6', h7'])
  obtain ⟨hb, hhb⟩ : ∃ hb, hb = hasP X o p := ⟨_, rfl⟩
  rw [← hhb] at HAS Q1 Q2 Q3 PEX
  clear hhb
  obtain ⟨AK, hAK⟩ : ∃ AK, AK = ackedC ⟨m, hels Y⟩ p := ⟨_, rfl⟩
  rw [← hAK] at AKD Q2 Q3
  clear hAK
  obtain ⟨m0, hm0⟩ : ∃ m0, m0 = m := ⟨_, rfl⟩
  rw [← hm0] at Q3
  have M0 : Hid (m0 = m) := Lib.hid hm0
  clear hm0
  obtain ⟨p0, hp0⟩ : ∃ p0, p0 = p := ⟨_, rfl⟩
  rw [← hp0] at Q3
  have P0 : Hid (p0 = p) := Lib.hid hp0
  clear hp0
  obtain ⟨R, hR⟩ : ∃ R, R = ofH (hels Y) p.l := ⟨_, rfl⟩
  rw [← hR] at OF RLE RRT RBD
  have HR := Lib.hid hR; clear hR
  obtain ⟨pl, pe⟩ := p
  obtain ⟨ml, me⟩ := m
  unfold LRet Ps.val at HAS
  unfold crsV Ps.val at AKD
  unfold RsEnd crsV at OF
  unfold CsEnd crsV at HOLD
  unfold TiEnd crsV at TI
  unfold crsV Ps.val
  simp only at HAS AKD OF HOLD HX TI hw1 B0 B1 M0 P0 PL PEX RLE HR ⊢
  have HW1 := Lib.hid hw1; clear hw1
  have HG := Lib.hid hg; clear hg
  have x0 : ∀ z, Frm [] w1 z → z.cell? ⟨g, 0, none⟩ = some (.int .u64 (ml : Nat)) := fun z hz => (hz.whole B0.out (by simp)).cell 0
  have x1 : ∀ z, Frm [] w1 z → z.cell? ⟨g, 1, none⟩ = some (.int .u64 (me : Nat)) := fun z hz => (hz.whole B0.out (by simp)).cell 1
  have x2 : ∀ z, Frm [] w1 z → z.cell? ⟨g, 2, none⟩ = some (.slice a n cap) := fun z hz => (hz.whole B0.out (by simp)).cell 2
  have y0 : ∀ z, Frm [] w1 z → z.cell? ⟨g + 1, 0, none⟩ = some (.int .u64 (pl : Nat)) := fun z hz => (hz.whole B1.out (by simp)).cell 0
  have y1 : ∀ z, Frm [] w1 z → z.cell? ⟨g + 1, 1, none⟩ = some (.int .u64 (pe : Nat)) := fun z hz => (hz.whole B1.out (by simp)).cell 1
  have NOW : Hid (∀ z (code : Int), Frm [] w1 z → Whole (((z.setCell ⟨g + 1 + 1, 0, none⟩ (.int .u64 0)).setCell ⟨g + 1 + 1, 1, none⟩ (.int .u64 0)).setCell ⟨g + 1 + 1, 2, none⟩ (.slice none 0 0)) (g + 1 + 1) 28 #[.int .u64 ((0 : Nat) : Int), .int .u64 ((0 : Nat) : Int), .slice none 0 0] ∧ NoEnd w code (.returned (.tuple #[.agg #[.int .u64 ((0 : Nat) : Int), .int .u64 ((0 : Nat) : Int), .slice none 0 0], .int .i64 code])) (((z.setCell ⟨g + 1 + 1, 0, none⟩ (.int .u64 0)).setCell ⟨g + 1 + 1, 1, none⟩ (.int .u64 0)).setCell ⟨g + 1 + 1, 2, none⟩ (.slice none 0 0))) := Lib.hid (fun z code hz => by
    have hw := hz.whole B2.out (by simp)
    have hgs := GS.out
    refine ⟨?_, rfl, ?_⟩
    · have := ((hw.put 0 (.int .u64 0)).put 1 (.int .u64 0)).put 2 (.slice none 0 0)
      simpa using this
    · exact ((((F1.out.trans hz (U := []) (by simp) (by simp)).setCell (.inr (by simp; omega)) _).setCell (.inr (by simp; omega)) _).setCell (.inr (by simp; omega)) _))
  have p0' := x0 _ (Frm.refl _ _)
  have p3' := y0 _ (Frm.refl _ _)
  have p4' := y1 _ (Frm.refl _ _)
  go_enter Try.func14, Try.ntmps14
  go_upto_region 1 with (fail)
  rw [← HW1.out, ← HG.out]
  go_wp2_with fail
  (with_reducible refine (HAS.out _ F1.out).mono ?_)
  rintro e w2 ⟨rfl, hf2⟩
  have f2 : Frm [] w1 w2 := hf2
  have F2 := Lib.hid hf2; clear hf2
  clear p0' p3' p4'
  cases hb
  · have b2 := F2.out.whole B2.out (by simp)
    have q0 := b2.cell 0
    have q1 := b2.cell 1
    have q2 := b2.cell 2
    have k0 := b2.free 0
    have k1 := b2.free 1
    have k2 := b2.free 2
    simp only [List.getElem?_toArray, List.getElem?_cons_zero, List.getElem?_cons_succ] at q0 q1 q2
    obtain ⟨FA, FB⟩ := NOW.out w2 30 F2.out
    have FA := Lib.hid FA
    have FB := Lib.hid FB
    clear b2 x0 x1 x2 y0 y1 f2
    go_wp2
    refine bodyPost_ret (ANS.out _ 0 0 none 0 0 30 _ rfl rfl FA.out) rfl ?_
    exact Q1.out trivial _ _ FB.out
  · have x0' := x0 _ f2
    have x1' := x1 _ f2
    have x2' := x2 _ f2
    have y0' := y0 _ f2
    have y1' := y1 _ f2
    go_wp2_with fail
    (with_reducible refine (AKD.out _ (F1.out.trans f2 (by simp) (by simp))).mono ?_)
    rintro e w3 ⟨ab, rfl, hab, hf3⟩
    have f3 : Frm [] w1 w3 := f2.trans hf3 (by simp) (by simp)
    have F3 := Lib.hid f3
    have AB := Lib.hid hab
    clear hf3 f2 x0' x1' x2' y0' y1' hab
    cases ab
    · have x0' := x0 _ f3
      have NAK : Hid (¬ AK) := Lib.hid (fun h => by have := AB.out.2 h; cases this)
      have r0 : ∀ z, Frm [] w3 z → z.cell? ⟨g, 0, none⟩ = some (.int .u64 (ml : Nat)) := fun z hz => x0 z (F3.out.trans hz (by simp) (by simp))
      have r1 : ∀ z, Frm [] w3 z → z.cell? ⟨g, 1, none⟩ = some (.int .u64 (me : Nat)) := fun z hz => x1 z (F3.out.trans hz (by simp) (by simp))
      have r2 : ∀ z, Frm [] w3 z → z.cell? ⟨g, 2, none⟩ = some (.slice a n cap) := fun z hz => x2 z (F3.out.trans hz (by simp) (by simp))
      have r3 : ∀ z, Frm [] w3 z → z.cell? ⟨g + 1, 0, none⟩ = some (.int .u64 (pl : Nat)) := fun z hz => y0 z (F3.out.trans hz (by simp) (by simp))
      have r4 : ∀ z, Frm [] w3 z → z.cell? ⟨g + 1, 1, none⟩ = some (.int .u64 (pe : Nat)) := fun z hz => y1 z (F3.out.trans hz (by simp) (by simp))
      have SUB : Hid (∀ z, Frm [] w3 z → Frm [] w z) := Lib.hid (fun z hz => F1.out.trans (F3.out.trans hz (U := []) (by simp) (by simp)) (by simp) (by simp))
      have GT : Hid (∀ z, Frm [] w3 z → g + 1 + 1 < z.heap.size) := Lib.hid (fun z hz => Nat.lt_of_lt_of_le B2.out.lt (F3.out.trans hz (U := []) (by simp) (by simp)).size)
      have B3 : Hid (Whole w3 (g + 1 + 1) 28 #[.int .u64 0, .int .u64 0, .slice none 0 0]) := Lib.hid (F3.out.whole B2.out (by simp))
      have FIN : Hid (∀ z M Zt at' zt ct H1, Frm [] w3 z → Added (hels Y) p0 H1 → Hid (zt = Zt.length) → Hid (Reach X o H1 ⟨ml, me⟩ M ∧ Stop X o H1 M) → Hid (hels Zt = leftH M H1) → Hid (HxL z ((g + 1 + 1) :: F) at' Zt) → Whole (((z.setCell ⟨g + 1 + 1, 0, none⟩ (.int .u64 (M.l : Nat))).setCell ⟨g + 1 + 1, 1, none⟩ (.int .u64 (M.e : Nat))).setCell ⟨g + 1 + 1, 2, none⟩ (.slice at' zt ct)) (g + 1 + 1) 28 #[.int .u64 (M.l : Nat), .int .u64 (M.e : Nat), .slice at' zt ct] ∧ Q (.returned (.tuple #[.agg #[.int .u64 (M.l : Nat), .int .u64 (M.e : Nat), .slice at' zt ct], .int .i64 0])) (((z.setCell ⟨g + 1 + 1, 0, none⟩ (.int .u64 (M.l : Nat))).setCell ⟨g + 1 + 1, 1, none⟩ (.int .u64 (M.e : Nat))).setCell ⟨g + 1 + 1, 2, none⟩ (.slice at' zt ct))) := Lib.hid (fun z M Zt at' zt ct H1 hz hadd h1 h2 h3 h4 => by
        have hw := hz.whole B3.out (by simp)
        have hgs := GS.out
        have f3 : Frm [g + 1 + 1] z (((z.setCell ⟨g + 1 + 1, 0, none⟩ (.int .u64 (M.l : Nat))).setCell ⟨g + 1 + 1, 1, none⟩ (.int .u64 (M.e : Nat))).setCell ⟨g + 1 + 1, 2, none⟩ (.slice at' zt ct)) := (((Frm.refl _ _).setCell (.inl (by simp)) _).setCell (.inl (by simp)) _).setCell (.inl (by simp)) _
        refine ⟨?_, Q3.out trivial NAK.out H1 hadd _ _ ⟨M, Zt, at', zt, ct, rfl, h1, by rw [M0.out]; exact h2, h3, h4.out.keep f3 (fun x hx => .inl (by simp at hx; simp [hx])) (fun x hx => .inl (by simp [hx])), (SUB.out z hz).trans f3 (by simp) (fun x hx => .inr (by simp at hx; omega))⟩⟩
        have := ((hw.put 0 (.int .u64 (M.l : Nat))).put 1 (.int .u64 (M.e : Nat))).put 2 (.slice at' zt ct)
        simpa using this)
      have RLEN : Hid (R.length ≤ 100) := Lib.hid RLE.out
      have PE1 := PEX.out trivial
      obtain ⟨pe1, hpe1⟩ : ∃ pe1, pe1 = pe + 1 := ⟨_, rfl⟩
      rw [← hpe1] at PE1
      have PEB : Hid (((pe, pe1) : Rg).1 < 18446744073709551616 ∧ ((pe, pe1) : Rg).2 < 18446744073709551616) := Lib.hid ⟨by show pe < _; omega, PE1⟩
      have HPE1 := Lib.hid hpe1
      have a1 : (pe : Int) + 1 = (pe1 : Int) := by omega
      have a2 : IntKind.u64.wrap (pe1 : Int) = (pe1 : Int) := by simp [IntKind.wrap, IntKind.bits, IntKind.signed]; omega
      have a3 : IntKind.u64.wrap ((pe : Int) + 1) = (pe1 : Int) := by rw [a1]; exact a2
      clear hpe1
      clear x0' x0 x1 x2 y0 y1 f3
      clear AB HAS AKD
      have OF := Lib.hid (fun z (F' : List Nat) (hz : Frm [] w3 z) (hF' : ∀ x ∈ F', w3.heap.size ≤ x) => OF.out z F' (SUB.out z hz) (fun x hx => Nat.le_trans (SUB.out w3 (Frm.refl _ _)).size (hF' x hx)))
      obtain ⟨W, hW⟩ : ∃ W, W = w3 := ⟨_, rfl⟩
      rw [← hW] at OF r0 r1 r2 r3 r4 SUB GT B3 FIN ⊢
      clear hW
      go_upto_region 5 with (fail)
      go_cut [10] from 21 to 34 (fun s10 wc' => ∃ (aX : Option Addr) (cX : Nat), s10 = .slice aX (R.length + 1 : Nat) cX ∧ Hid (OwnR wc' W.heap.size aX cX (R ++ [((pe, pe1) : Rg)]) ∧ Frm [] W wc'))
      case first =>
        refine wp_region_held_drew (S := fun w' => Frm [] W w') (by kernel_rfl) (Frm.drew (Frm.refl _ _)) (fun hHeld => ?_)
        refine wpAnyH_take (i := 1) (oi := ⟨some 22, _, _, _, _, _⟩) (v := ?_) rfl (by kernel_rfl) (by kernel_rfl) (by kernel_rfl) (fun _ _ _ h => h) (Or.inl ⟨by rfl, ?_⟩) (by assumption) ?_
        rotate_left 1
        · (intro w hSw; (try dsimp only at hSw); go_simp; all_goals with_reducible rfl)
        try simp only [Act.put, List.setIfInBounds_toArray, List.set_cons_zero, List.set_cons_succ]
        refine wpAnyH_take (i := 2) (oi := ⟨some 23, _, _, _, _, _⟩) (v := ?_) rfl (by kernel_rfl) (by kernel_rfl) (by kernel_rfl) (fun _ _ _ h => h) (Or.inl ⟨by rfl, ?_⟩) (by assumption) ?_
        rotate_left 1
        · (intro w hSw; (try dsimp only at hSw); go_simp; all_goals with_reducible rfl)
        try simp only [Act.put, List.setIfInBounds_toArray, List.set_cons_zero, List.set_cons_succ]
        refine wpAnyH_take (i := 3) (oi := ⟨some 24, _, _, _, _, _⟩) (v := ?_) rfl (by kernel_rfl) (by kernel_rfl) (by kernel_rfl) (fun _ _ _ h => h) (Or.inl ⟨by rfl, ?_⟩) (by assumption) ?_
        rotate_left 1
        · (intro w hSw; (try dsimp only at hSw); go_simp; all_goals with_reducible rfl)
        try simp only [Act.put, List.setIfInBounds_toArray, List.set_cons_zero, List.set_cons_succ]
        refine wpAnyH_take (i := 6) (oi := ⟨some 27, _, _, _, _, _⟩) (v := ?_) rfl (by kernel_rfl) (by kernel_rfl) (by kernel_rfl) (fun _ _ _ h => h) (Or.inl ⟨by rfl, ?_⟩) (by assumption) ?_
        rotate_left 1
        · (intro w hSw; (try dsimp only at hSw); go_simp; all_goals with_reducible rfl)
        try simp only [Act.put, List.setIfInBounds_toArray, List.set_cons_zero, List.set_cons_succ]
        refine wpAnyH_take (i := 7) (oi := ⟨some 28, _, _, _, _, _⟩) (v := ?_) rfl (by kernel_rfl) (by kernel_rfl) (by kernel_rfl) (fun _ _ _ h => h) (Or.inl ⟨by rfl, ?_⟩) (by assumption) ?_
        rotate_left 1
        · (intro w hSw; (try dsimp only at hSw); go_simp; all_goals with_reducible rfl)
        try simp only [Act.put, List.setIfInBounds_toArray, List.set_cons_zero, List.set_cons_succ]
        refine wpAnyH_take (i := 8) (oi := ⟨some 29, _, _, _, _, _⟩) (v := ?_) rfl (by kernel_rfl) (by kernel_rfl) (by kernel_rfl) (fun _ _ _ h => h) (Or.inl ⟨by rfl, ?_⟩) (by assumption) ?_
        rotate_left 1
        · (intro w hSw; (try dsimp only at hSw); go_simp; all_goals with_reducible rfl)
        try simp only [Act.put, List.setIfInBounds_toArray, List.set_cons_zero, List.set_cons_succ]
        refine wpAnyH_take (i := 9) (oi := ⟨some 30, _, _, _, _, _⟩) (v := ?_) rfl (by kernel_rfl) (by kernel_rfl) (by kernel_rfl) (fun _ _ _ h => h) (Or.inl ⟨by rfl, ?_⟩) (by assumption) ?_
        rotate_left 1
        · (intro w hSw; (try dsimp only at hSw); go_simp; all_goals with_reducible rfl)
        try simp only [Act.put, List.setIfInBounds_toArray, List.set_cons_zero, List.set_cons_succ]
        refine wpAnyH_take (i := 10) (oi := ⟨some 31, _, _, _, _, _⟩) (v := ?_) rfl (by kernel_rfl) (by kernel_rfl) (by kernel_rfl) (fun _ _ _ h => h) (Or.inl ⟨by rfl, ?_⟩) (by assumption) ?_
        rotate_left 1
        · (intro w hSw; (try dsimp only at hSw); go_simp; all_goals with_reducible rfl)
        try simp only [Act.put, List.setIfInBounds_toArray, List.set_cons_zero, List.set_cons_succ]
        refine wpAnyH_take (i := 11) (oi := ⟨some 32, _, _, _, _, _⟩) (v := ?_) rfl (by kernel_rfl) (by kernel_rfl) (by kernel_rfl) (fun _ _ _ h => h) (Or.inl ⟨by rfl, ?_⟩) (by assumption) ?_
        rotate_left 1
        · (intro w hSw; (try dsimp only at hSw); go_simp; all_goals with_reducible rfl)
        try simp only [Act.put, List.setIfInBounds_toArray, List.set_cons_zero, List.set_cons_succ]
        obtain ⟨V0, hV0⟩ : ∃ V0, V0 = W.drew := ⟨_, rfl⟩
        rw [← hV0] at hHeld ⊢
        have FV : Hid (Frm [] W V0) := Lib.hid hHeld
        clear hV0
        refine wpAnyH_ready (rs := [0, 4, 12]) (by kernel_rfl) (by simp) ?_
        refine AllReadyH.cons (o := ⟨some 21, _, _, _, _, _⟩) rfl (fun K hK => ?_) (AllReadyH.cons (o := ⟨some 25, _, _, _, _, _⟩) rfl (fun K hK => ?_) (AllReadyH.cons (o := ⟨some 33, _, _, _, _, _⟩) rfl (fun K hK => ?_) AllReadyH.nil))
        · go_simp
          refine hK.out _ _ (by repeat (first | assumption | apply Frm.alloc | apply Frm.drew | exact Frm.refl _ _)) (fun hHeld => ?_)
          clear hK K
          try simp only [Act.put, List.setIfInBounds_toArray, List.set_cons_zero, List.set_cons_succ]
          obtain ⟨V1, hV1⟩ : ∃ V1, V1 = V0.alloc (.cells #[] 71) := ⟨_, rfl⟩
          obtain ⟨y0, hy0⟩ : ∃ y0, y0 = V0.heap.size := ⟨_, rfl⟩
          rw [← hV1] at hHeld ⊢
          rw [← hy0]
          have FV' : Hid (Frm [] V0 V1) := Lib.hid (by rw [hV1]; exact (Frm.refl _ _).alloc _)
          have YN : Hid (W.heap.size ≤ y0 ∧ y0 < V1.heap.size) := Lib.hid (by have := FV.out.size; rw [hV1, hy0]; simp; omega)
          have O0 : Hid (V1.ownsRow W.heap.size 71 2 (.slice (some ⟨y0, 0, none⟩) 0 0) 0 (fl [])) := Lib.hid (by rw [hV1, hy0]; exact World.ownsRow_lit V0 #[] 0 FV.out.size (by unfold maxLen; omega) rfl)
          have FV := Lib.hid (FV.out.trans FV'.out (U := []) (by simp) (by simp))
          clear FV' hV1 hy0
          refine wpAnyH_ready (rs := [4, 12]) (by kernel_rfl) (by simp) ?_
          refine AllReadyH.cons (o := ⟨some 25, _, _, _, _, _⟩) rfl (fun K hK => ?_) (AllReadyH.cons (o := ⟨some 33, _, _, _, _, _⟩) rfl (fun K hK => ?_) AllReadyH.nil)
          · go_simp
            go_at_call 38
            (with_reducible refine (OF.out V1 [y0] FV.out (fun x hx => by simp at hx; rw [hx]; exact YN.out.1)).mono ?_)
            rintro e V2 ⟨ar, cr, rfl, hrr, hnl, hlc, hcm, haw, hvn⟩
            have FV' := Lib.hid hvn
            have RR := Lib.hid hrr
            have CC : Hid (ar = none → cr = 0) := Lib.hid hnl
            have AWAY : Hid (∀ q, ar = some q → R ≠ [] → q.block ≠ y0) := Lib.hid (fun q hq hne h => haw hne q hq (by simp [h]))
            have O0 := Lib.hid (FV'.out.own O0.out (fun g hg => by simp))
            have YN : Hid (W.heap.size ≤ y0 ∧ y0 < V2.heap.size) := Lib.hid ⟨YN.out.1, Nat.lt_of_lt_of_le YN.out.2 FV'.out.size⟩
            have FV := Lib.hid (FV.out.trans FV'.out (U := []) (by simp) (by simp))
            have hHeld2 : Frm [] W V2 := FV.out
            clear FV' hrr hnl hlc hcm haw hvn
            go_wp2_with fail
            refine hK.out _ _ (by repeat (first | assumption | apply Frm.alloc | apply Frm.drew | exact Frm.refl _ _)) (fun hHeld => ?_)
            clear hK K
            try simp only [Act.put, List.setIfInBounds_toArray, List.set_cons_zero, List.set_cons_succ]
            refine wpAnyH_ready (rs := [5, 12]) (by kernel_rfl) (by simp) ?_
            refine AllReadyH.cons (o := ⟨some 26, _, _, _, _, _⟩) rfl (fun K hK => ?_) (AllReadyH.cons (o := ⟨some 33, _, _, _, _, _⟩) rfl (fun K hK => ?_) AllReadyH.nil)
            · have hbz : W.heap.size ≤ V2.heap.size := FV.out.size
              refine step_appR rfl (.tmp 21) (.tmp 25) 53 rfl W.heap.size 71 j0 Try.underlying53 RI.out RZ0.out RZ1.out RZ2.out (.slice (some ⟨y0, 0, none⟩) 0 0) 0 (fl []) rfl O0.out ar R.length cr R rfl RR.out rfl CC.out (by have := RLEN.out; omega) hbz ?_
              intro a5 c5 V3 happ
              have GR := happ.grown
              have FV' : Hid (Frm [y0] V2 V3) := Lib.hid ((Frm.refl _ _).grown GR (fun k hk => .inl (by simp [Value.ownBlock] at hk; simp [hk])))
              have OW : Hid (OwnR V3 W.heap.size a5 c5 ([] ++ R)) := Lib.hid (own_app happ rfl rfl)
              have OW : Hid (OwnR V3 W.heap.size a5 c5 R) := Lib.hid OW.out
              have FV := Lib.hid (FV.out.trans FV'.out (U := []) (by simp) (fun x hx => .inr (by simp at hx; rw [hx]; exact YN.out.1)))
              have hHeld3 : Frm [] W V3 := FV.out
              clear FV' happ GR hbz
              refine hK.out _ _ (by repeat (first | assumption | apply Frm.alloc | apply Frm.drew | exact Frm.refl _ _)) (fun hHeld => ?_)
              clear hK K
              try simp only [Act.put, List.setIfInBounds_toArray, List.set_cons_zero, List.set_cons_succ]
              try simp only [Nat.zero_add]
              refine wpAnyH_ready (rs := [12]) (by kernel_rfl) (by simp) ?_
              refine AllReadyH.cons (o := ⟨some 33, _, _, _, _, _⟩) rfl (fun K hK => ?_) AllReadyH.nil
              go_simp
              refine hK.out _ _ (by repeat (first | assumption | apply Frm.alloc | apply Frm.drew | exact Frm.refl _ _)) (fun hHeld => ?_)
              clear hK K
              try simp only [Act.put, List.setIfInBounds_toArray, List.set_cons_zero, List.set_cons_succ]
              obtain ⟨V4, hV4⟩ : ∃ V4, V4 = V3.alloc (.cells #[.int .u64 (pe : Nat), .int .u64 (pe1 : Nat)] 71) := ⟨_, rfl⟩
              obtain ⟨y12, hy12⟩ : ∃ y12, y12 = V3.heap.size := ⟨_, rfl⟩
              rw [← hV4] at hHeld ⊢
              rw [← hy12]
              have FV' : Hid (Frm [] V3 V4) := Lib.hid (by rw [hV4]; exact (Frm.refl _ _).alloc _)
              have ONE : Hid (Rr V4 (some ⟨y12, 0, none⟩) [((pe, pe1) : Rg)]) := Lib.hid (by rw [hV4, hy12]; exact one_rg (pe, pe1) PEB.out)
              have OW := Lib.hid (OW.out.keep FV'.out (by simp))
              have FV := Lib.hid (FV.out.trans FV'.out (U := []) (by simp) (by simp))
              clear FV' hV4 hy12
              refine wpAnyH_ready (rs := [13]) (by kernel_rfl) (by simp) ?_
              refine AllReadyH.cons (o := ⟨some 34, _, _, _, _, _⟩) rfl (fun K hK => ?_) AllReadyH.nil
              have hbz : W.heap.size ≤ V4.heap.size := FV.out.size
              refine step_appR rfl (.tmp 26) (.tmp 33) 53 rfl W.heap.size 71 j0 Try.underlying53 RI.out RZ0.out RZ1.out RZ2.out (.slice a5 R.length c5) R.length (fl R) rfl OW.out (some ⟨y12, 0, none⟩) 1 1 [((pe, pe1) : Rg)] rfl ONE.out rfl (by intro h; cases h) (by have := RLEN.out; omega) hbz ?_
              intro a13 c13 V5 happ
              have FV : Hid (Frm [] W V5) := Lib.hid (frm_app FV.out happ (fun x hx => .inr (OW.out.lt x hx).1))
              have OW : Hid (OwnR V5 W.heap.size a13 c13 (R ++ [((pe, pe1) : Rg)])) := Lib.hid (own_app happ rfl rfl)
              have hHeld5 : Frm [] W V5 := FV.out
              clear happ hbz
              refine hK.out _ _ (by repeat (first | assumption | apply Frm.alloc | apply Frm.drew | exact Frm.refl _ _)) (fun hHeld => ?_)
              clear hK K
              try simp only [Act.put, List.setIfInBounds_toArray, List.set_cons_zero, List.set_cons_succ]
              refine wpAnyH_take (i := 14) (oi := ⟨some 10, _, _, _, _, _⟩) (v := ?_) rfl (by kernel_rfl) (by kernel_rfl) (by kernel_rfl) (fun _ _ _ h => h) (Or.inl ⟨by rfl, ?_⟩) (by assumption) ?_
              rotate_left 1
              · (intro w hSw; (try dsimp only at hSw); go_simp; all_goals with_reducible rfl)
              try simp only [Act.put, List.setIfInBounds_toArray, List.set_cons_zero, List.set_cons_succ]
              refine wpAnyH_done (by kernel_rfl) ?_ _
              have OUT : Hid (OwnR V5 W.heap.size a13 c13 (R ++ [((pe, pe1) : Rg)]) ∧ Frm [] W V5) := Lib.hid ⟨OW.out, FV.out⟩
              obtain ⟨VX, hVX⟩ : ∃ VX, VX = V5 := ⟨_, rfl⟩
              obtain ⟨aX, haX⟩ : ∃ aX, aX = a13 := ⟨_, rfl⟩
              obtain ⟨cX, hcX⟩ : ∃ cX, cX = c13 := ⟨_, rfl⟩
              rw [← hVX, ← haX, ← hcX]
              rw [← hVX, ← haX, ← hcX] at OUT
              clear hVX haX hcX
              go_wp2_with fail
              go_meet
              exact ⟨aX, cX, rfl, OUT⟩
            · go_simp
              refine hK.out _ _ (by repeat (first | assumption | apply Frm.alloc | apply Frm.drew | exact Frm.refl _ _)) (fun hHeld => ?_)
              clear hK K
              try simp only [Act.put, List.setIfInBounds_toArray, List.set_cons_zero, List.set_cons_succ]
              obtain ⟨V3, hV3⟩ : ∃ V3, V3 = V2.alloc (.cells #[.int .u64 (pe : Nat), .int .u64 (pe1 : Nat)] 71) := ⟨_, rfl⟩
              obtain ⟨y12, hy12⟩ : ∃ y12, y12 = V2.heap.size := ⟨_, rfl⟩
              rw [← hV3] at hHeld ⊢
              rw [← hy12]
              have FV' : Hid (Frm [] V2 V3) := Lib.hid (by rw [hV3]; exact (Frm.refl _ _).alloc _)
              have ONE : Hid (Rr V3 (some ⟨y12, 0, none⟩) [((pe, pe1) : Rg)]) := Lib.hid (by rw [hV3, hy12]; exact one_rg (pe, pe1) PEB.out)
              have Y12 : Hid (y12 ≠ y0) := Lib.hid (by have := YN.out.2; rw [hy12]; omega)
              have O0 := Lib.hid (FV'.out.own O0.out (fun g hg => by simp))
              have YN : Hid (W.heap.size ≤ y0 ∧ y0 < V3.heap.size) := Lib.hid ⟨YN.out.1, Nat.lt_of_lt_of_le YN.out.2 FV'.out.size⟩
              have RR := Lib.hid (RR.out.keep0 FV'.out)
              have FV := Lib.hid (FV.out.trans FV'.out (U := []) (by simp) (by simp))
              clear FV' hV3 hy12
              refine wpAnyH_ready (rs := [5]) (by kernel_rfl) (by simp) ?_
              refine AllReadyH.cons (o := ⟨some 26, _, _, _, _, _⟩) rfl (fun K hK => ?_) AllReadyH.nil
              have hbz : W.heap.size ≤ V3.heap.size := FV.out.size
              refine step_appR rfl (.tmp 21) (.tmp 25) 53 rfl W.heap.size 71 j0 Try.underlying53 RI.out RZ0.out RZ1.out RZ2.out (.slice (some ⟨y0, 0, none⟩) 0 0) 0 (fl []) rfl O0.out ar R.length cr R rfl RR.out rfl CC.out (by have := RLEN.out; omega) hbz ?_
              intro a5 c5 V4 happ
              have GR := happ.grown
              have FV' : Hid (Frm [y0] V3 V4) := Lib.hid ((Frm.refl _ _).grown GR (fun k hk => .inl (by simp [Value.ownBlock] at hk; simp [hk])))
              have OW : Hid (OwnR V4 W.heap.size a5 c5 ([] ++ R)) := Lib.hid (own_app happ rfl rfl)
              have OW : Hid (OwnR V4 W.heap.size a5 c5 R) := Lib.hid OW.out
              have ONE := Lib.hid (ONE.out.keep FV'.out (fun _ x hx => by cases hx; simp; exact Y12.out))
              have FV := Lib.hid (FV.out.trans FV'.out (U := []) (by simp) (fun x hx => .inr (by simp at hx; rw [hx]; exact YN.out.1)))
              have hHeld4 : Frm [] W V4 := FV.out
              clear FV' happ GR hbz
              refine hK.out _ _ (by repeat (first | assumption | apply Frm.alloc | apply Frm.drew | exact Frm.refl _ _)) (fun hHeld => ?_)
              clear hK K
              try simp only [Act.put, List.setIfInBounds_toArray, List.set_cons_zero, List.set_cons_succ]
              try simp only [Nat.zero_add]
              refine wpAnyH_ready (rs := [13]) (by kernel_rfl) (by simp) ?_
              refine AllReadyH.cons (o := ⟨some 34, _, _, _, _, _⟩) rfl (fun K hK => ?_) AllReadyH.nil
              have hbz : W.heap.size ≤ V4.heap.size := FV.out.size
              refine step_appR rfl (.tmp 26) (.tmp 33) 53 rfl W.heap.size 71 j0 Try.underlying53 RI.out RZ0.out RZ1.out RZ2.out (.slice a5 R.length c5) R.length (fl R) rfl OW.out (some ⟨y12, 0, none⟩) 1 1 [((pe, pe1) : Rg)] rfl ONE.out rfl (by intro h; cases h) (by have := RLEN.out; omega) hbz ?_
              intro a13 c13 V5 happ
              have FV : Hid (Frm [] W V5) := Lib.hid (frm_app FV.out happ (fun x hx => .inr (OW.out.lt x hx).1))
              have OW : Hid (OwnR V5 W.heap.size a13 c13 (R ++ [((pe, pe1) : Rg)])) := Lib.hid (own_app happ rfl rfl)
              have hHeld5 : Frm [] W V5 := FV.out
              clear happ hbz
              refine hK.out _ _ (by repeat (first | assumption | apply Frm.alloc | apply Frm.drew | exact Frm.refl _ _)) (fun hHeld => ?_)
              clear hK K
              try simp only [Act.put, List.setIfInBounds_toArray, List.set_cons_zero, List.set_cons_succ]
              refine wpAnyH_take (i := 14) (oi := ⟨some 10, _, _, _, _, _⟩) (v := ?_) rfl (by kernel_rfl) (by kernel_rfl) (by kernel_rfl) (fun _ _ _ h => h) (Or.inl ⟨by rfl, ?_⟩) (by assumption) ?_
              rotate_left 1
              · (intro w hSw; (try dsimp only at hSw); go_simp; all_goals with_reducible rfl)
              try simp only [Act.put, List.setIfInBounds_toArray, List.set_cons_zero, List.set_cons_succ]
              refine wpAnyH_done (by kernel_rfl) ?_ _
              have OUT : Hid (OwnR V5 W.heap.size a13 c13 (R ++ [((pe, pe1) : Rg)]) ∧ Frm [] W V5) := Lib.hid ⟨OW.out, FV.out⟩
              obtain ⟨VX, hVX⟩ : ∃ VX, VX = V5 := ⟨_, rfl⟩
              obtain ⟨aX, haX⟩ : ∃ aX, aX = a13 := ⟨_, rfl⟩
              obtain ⟨cX, hcX⟩ : ∃ cX, cX = c13 := ⟨_, rfl⟩
              rw [← hVX, ← haX, ← hcX]
              rw [← hVX, ← haX, ← hcX] at OUT
              clear hVX haX hcX
              go_wp2_with fail
              go_meet
              exact ⟨aX, cX, rfl, OUT⟩
          · go_simp
            refine hK.out _ _ (by repeat (first | assumption | apply Frm.alloc | apply Frm.drew | exact Frm.refl _ _)) (fun hHeld => ?_)
            clear hK K
            try simp only [Act.put, List.setIfInBounds_toArray, List.set_cons_zero, List.set_cons_succ]
            obtain ⟨V2, hV2⟩ : ∃ V2, V2 = V1.alloc (.cells #[.int .u64 (pe : Nat), .int .u64 (pe1 : Nat)] 71) := ⟨_, rfl⟩
            obtain ⟨y12, hy12⟩ : ∃ y12, y12 = V1.heap.size := ⟨_, rfl⟩
            rw [← hV2] at hHeld ⊢
            rw [← hy12]
            have FV' : Hid (Frm [] V1 V2) := Lib.hid (by rw [hV2]; exact (Frm.refl _ _).alloc _)
            have ONE : Hid (Rr V2 (some ⟨y12, 0, none⟩) [((pe, pe1) : Rg)]) := Lib.hid (by rw [hV2, hy12]; exact one_rg (pe, pe1) PEB.out)
            have Y12 : Hid (y12 ≠ y0) := Lib.hid (by have := YN.out.2; rw [hy12]; omega)
            have O0 := Lib.hid (FV'.out.own O0.out (fun g hg => by simp))
            have YN : Hid (W.heap.size ≤ y0 ∧ y0 < V2.heap.size) := Lib.hid ⟨YN.out.1, Nat.lt_of_lt_of_le YN.out.2 FV'.out.size⟩
            have FV := Lib.hid (FV.out.trans FV'.out (U := []) (by simp) (by simp))
            clear FV' hV2 hy12
            refine wpAnyH_ready (rs := [4]) (by kernel_rfl) (by simp) ?_
            refine AllReadyH.cons (o := ⟨some 25, _, _, _, _, _⟩) rfl (fun K hK => ?_) AllReadyH.nil
            go_simp
            go_at_call 38
            (with_reducible refine (OF.out V2 [y0] FV.out (fun x hx => by simp at hx; rw [hx]; exact YN.out.1)).mono ?_)
            rintro e V3 ⟨ar, cr, rfl, hrr, hnl, hlc, hcm, haw, hvn⟩
            have FV' := Lib.hid hvn
            have RR := Lib.hid hrr
            have CC : Hid (ar = none → cr = 0) := Lib.hid hnl
            have AWAY : Hid (∀ q, ar = some q → R ≠ [] → q.block ≠ y0) := Lib.hid (fun q hq hne h => haw hne q hq (by simp [h]))
            have O0 := Lib.hid (FV'.out.own O0.out (fun g hg => by simp))
            have YN : Hid (W.heap.size ≤ y0 ∧ y0 < V3.heap.size) := Lib.hid ⟨YN.out.1, Nat.lt_of_lt_of_le YN.out.2 FV'.out.size⟩
            have ONE := Lib.hid (ONE.out.keep0 FV'.out)
            have FV := Lib.hid (FV.out.trans FV'.out (U := []) (by simp) (by simp))
            have hHeld3 : Frm [] W V3 := FV.out
            clear FV' hrr hnl hlc hcm haw hvn
            go_wp2_with fail
            refine hK.out _ _ (by repeat (first | assumption | apply Frm.alloc | apply Frm.drew | exact Frm.refl _ _)) (fun hHeld => ?_)
            clear hK K
            try simp only [Act.put, List.setIfInBounds_toArray, List.set_cons_zero, List.set_cons_succ]
            refine wpAnyH_ready (rs := [5]) (by kernel_rfl) (by simp) ?_
            refine AllReadyH.cons (o := ⟨some 26, _, _, _, _, _⟩) rfl (fun K hK => ?_) AllReadyH.nil
            have hbz : W.heap.size ≤ V3.heap.size := FV.out.size
            refine step_appR rfl (.tmp 21) (.tmp 25) 53 rfl W.heap.size 71 j0 Try.underlying53 RI.out RZ0.out RZ1.out RZ2.out (.slice (some ⟨y0, 0, none⟩) 0 0) 0 (fl []) rfl O0.out ar R.length cr R rfl RR.out rfl CC.out (by have := RLEN.out; omega) hbz ?_
            intro a5 c5 V4 happ
            have GR := happ.grown
            have FV' : Hid (Frm [y0] V3 V4) := Lib.hid ((Frm.refl _ _).grown GR (fun k hk => .inl (by simp [Value.ownBlock] at hk; simp [hk])))
            have OW : Hid (OwnR V4 W.heap.size a5 c5 ([] ++ R)) := Lib.hid (own_app happ rfl rfl)
            have OW : Hid (OwnR V4 W.heap.size a5 c5 R) := Lib.hid OW.out
            have ONE := Lib.hid (ONE.out.keep FV'.out (fun _ x hx => by cases hx; simp; exact Y12.out))
            have FV := Lib.hid (FV.out.trans FV'.out (U := []) (by simp) (fun x hx => .inr (by simp at hx; rw [hx]; exact YN.out.1)))
            have hHeld4 : Frm [] W V4 := FV.out
            clear FV' happ GR hbz
            refine hK.out _ _ (by repeat (first | assumption | apply Frm.alloc | apply Frm.drew | exact Frm.refl _ _)) (fun hHeld => ?_)
            clear hK K
            try simp only [Act.put, List.setIfInBounds_toArray, List.set_cons_zero, List.set_cons_succ]
            try simp only [Nat.zero_add]
            refine wpAnyH_ready (rs := [13]) (by kernel_rfl) (by simp) ?_
            refine AllReadyH.cons (o := ⟨some 34, _, _, _, _, _⟩) rfl (fun K hK => ?_) AllReadyH.nil
            have hbz : W.heap.size ≤ V4.heap.size := FV.out.size
            refine step_appR rfl (.tmp 26) (.tmp 33) 53 rfl W.heap.size 71 j0 Try.underlying53 RI.out RZ0.out RZ1.out RZ2.out (.slice a5 R.length c5) R.length (fl R) rfl OW.out (some ⟨y12, 0, none⟩) 1 1 [((pe, pe1) : Rg)] rfl ONE.out rfl (by intro h; cases h) (by have := RLEN.out; omega) hbz ?_
            intro a13 c13 V5 happ
            have FV : Hid (Frm [] W V5) := Lib.hid (frm_app FV.out happ (fun x hx => .inr (OW.out.lt x hx).1))
            have OW : Hid (OwnR V5 W.heap.size a13 c13 (R ++ [((pe, pe1) : Rg)])) := Lib.hid (own_app happ rfl rfl)
            have hHeld5 : Frm [] W V5 := FV.out
            clear happ hbz
            refine hK.out _ _ (by repeat (first | assumption | apply Frm.alloc | apply Frm.drew | exact Frm.refl _ _)) (fun hHeld => ?_)
            clear hK K
            try simp only [Act.put, List.setIfInBounds_toArray, List.set_cons_zero, List.set_cons_succ]
            refine wpAnyH_take (i := 14) (oi := ⟨some 10, _, _, _, _, _⟩) (v := ?_) rfl (by kernel_rfl) (by kernel_rfl) (by kernel_rfl) (fun _ _ _ h => h) (Or.inl ⟨by rfl, ?_⟩) (by assumption) ?_
            rotate_left 1
            · (intro w hSw; (try dsimp only at hSw); go_simp; all_goals with_reducible rfl)
            try simp only [Act.put, List.setIfInBounds_toArray, List.set_cons_zero, List.set_cons_succ]
            refine wpAnyH_done (by kernel_rfl) ?_ _
            have OUT : Hid (OwnR V5 W.heap.size a13 c13 (R ++ [((pe, pe1) : Rg)]) ∧ Frm [] W V5) := Lib.hid ⟨OW.out, FV.out⟩
            obtain ⟨VX, hVX⟩ : ∃ VX, VX = V5 := ⟨_, rfl⟩
            obtain ⟨aX, haX⟩ : ∃ aX, aX = a13 := ⟨_, rfl⟩
            obtain ⟨cX, hcX⟩ : ∃ cX, cX = c13 := ⟨_, rfl⟩
            rw [← hVX, ← haX, ← hcX]
            rw [← hVX, ← haX, ← hcX] at OUT
            clear hVX haX hcX
            go_wp2_with fail
            go_meet
            exact ⟨aX, cX, rfl, OUT⟩
        · go_simp
          go_at_call 38
          (with_reducible refine (OF.out V0 [] FV.out (by simp)).mono ?_)
          rintro e V1 ⟨ar, cr, rfl, hrr, hnl, hlc, hcm, haw, hvn⟩
          have FV' := Lib.hid hvn
          have RR := Lib.hid hrr
          have CC : Hid (ar = none → cr = 0) := Lib.hid hnl
          have FV := Lib.hid (FV.out.trans FV'.out (U := []) (by simp) (by simp))
          have hHeld1 : Frm [] W V1 := FV.out
          clear FV' hrr hnl hlc hcm haw hvn
          go_wp2_with fail
          refine hK.out _ _ (by repeat (first | assumption | apply Frm.alloc | apply Frm.drew | exact Frm.refl _ _)) (fun hHeld => ?_)
          clear hK K
          try simp only [Act.put, List.setIfInBounds_toArray, List.set_cons_zero, List.set_cons_succ]
          refine wpAnyH_ready (rs := [0, 12]) (by kernel_rfl) (by simp) ?_
          refine AllReadyH.cons (o := ⟨some 21, _, _, _, _, _⟩) rfl (fun K hK => ?_) (AllReadyH.cons (o := ⟨some 33, _, _, _, _, _⟩) rfl (fun K hK => ?_) AllReadyH.nil)
          · go_simp
            refine hK.out _ _ (by repeat (first | assumption | apply Frm.alloc | apply Frm.drew | exact Frm.refl _ _)) (fun hHeld => ?_)
            clear hK K
            try simp only [Act.put, List.setIfInBounds_toArray, List.set_cons_zero, List.set_cons_succ]
            obtain ⟨V2, hV2⟩ : ∃ V2, V2 = V1.alloc (.cells #[] 71) := ⟨_, rfl⟩
            obtain ⟨y0, hy0⟩ : ∃ y0, y0 = V1.heap.size := ⟨_, rfl⟩
            rw [← hV2] at hHeld ⊢
            rw [← hy0]
            have FV' : Hid (Frm [] V1 V2) := Lib.hid (by rw [hV2]; exact (Frm.refl _ _).alloc _)
            have YN : Hid (W.heap.size ≤ y0 ∧ y0 < V2.heap.size) := Lib.hid (by have := FV.out.size; rw [hV2, hy0]; simp; omega)
            have O0 : Hid (V2.ownsRow W.heap.size 71 2 (.slice (some ⟨y0, 0, none⟩) 0 0) 0 (fl [])) := Lib.hid (by rw [hV2, hy0]; exact World.ownsRow_lit V1 #[] 0 FV.out.size (by unfold maxLen; omega) rfl)
            have AWAY : Hid (∀ q, ar = some q → R ≠ [] → q.block ≠ y0) := Lib.hid (fun q hq hne => by have := RR.out.lt (List.length_pos_iff.2 hne) q hq; rw [hy0]; omega)
            have RR := Lib.hid (RR.out.keep0 FV'.out)
            have FV := Lib.hid (FV.out.trans FV'.out (U := []) (by simp) (by simp))
            clear FV' hV2 hy0
            refine wpAnyH_ready (rs := [5, 12]) (by kernel_rfl) (by simp) ?_
            refine AllReadyH.cons (o := ⟨some 26, _, _, _, _, _⟩) rfl (fun K hK => ?_) (AllReadyH.cons (o := ⟨some 33, _, _, _, _, _⟩) rfl (fun K hK => ?_) AllReadyH.nil)
            · have hbz : W.heap.size ≤ V2.heap.size := FV.out.size
              refine step_appR rfl (.tmp 21) (.tmp 25) 53 rfl W.heap.size 71 j0 Try.underlying53 RI.out RZ0.out RZ1.out RZ2.out (.slice (some ⟨y0, 0, none⟩) 0 0) 0 (fl []) rfl O0.out ar R.length cr R rfl RR.out rfl CC.out (by have := RLEN.out; omega) hbz ?_
              intro a5 c5 V3 happ
              have GR := happ.grown
              have FV' : Hid (Frm [y0] V2 V3) := Lib.hid ((Frm.refl _ _).grown GR (fun k hk => .inl (by simp [Value.ownBlock] at hk; simp [hk])))
              have OW : Hid (OwnR V3 W.heap.size a5 c5 ([] ++ R)) := Lib.hid (own_app happ rfl rfl)
              have OW : Hid (OwnR V3 W.heap.size a5 c5 R) := Lib.hid OW.out
              have FV := Lib.hid (FV.out.trans FV'.out (U := []) (by simp) (fun x hx => .inr (by simp at hx; rw [hx]; exact YN.out.1)))
              have hHeld3 : Frm [] W V3 := FV.out
              clear FV' happ GR hbz
              refine hK.out _ _ (by repeat (first | assumption | apply Frm.alloc | apply Frm.drew | exact Frm.refl _ _)) (fun hHeld => ?_)
              clear hK K
              try simp only [Act.put, List.setIfInBounds_toArray, List.set_cons_zero, List.set_cons_succ]
              try simp only [Nat.zero_add]
              refine wpAnyH_ready (rs := [12]) (by kernel_rfl) (by simp) ?_
              refine AllReadyH.cons (o := ⟨some 33, _, _, _, _, _⟩) rfl (fun K hK => ?_) AllReadyH.nil
              go_simp
              refine hK.out _ _ (by repeat (first | assumption | apply Frm.alloc | apply Frm.drew | exact Frm.refl _ _)) (fun hHeld => ?_)
              clear hK K
              try simp only [Act.put, List.setIfInBounds_toArray, List.set_cons_zero, List.set_cons_succ]
              obtain ⟨V4, hV4⟩ : ∃ V4, V4 = V3.alloc (.cells #[.int .u64 (pe : Nat), .int .u64 (pe1 : Nat)] 71) := ⟨_, rfl⟩
              obtain ⟨y12, hy12⟩ : ∃ y12, y12 = V3.heap.size := ⟨_, rfl⟩
              rw [← hV4] at hHeld ⊢
              rw [← hy12]
              have FV' : Hid (Frm [] V3 V4) := Lib.hid (by rw [hV4]; exact (Frm.refl _ _).alloc _)
              have ONE : Hid (Rr V4 (some ⟨y12, 0, none⟩) [((pe, pe1) : Rg)]) := Lib.hid (by rw [hV4, hy12]; exact one_rg (pe, pe1) PEB.out)
              have OW := Lib.hid (OW.out.keep FV'.out (by simp))
              have FV := Lib.hid (FV.out.trans FV'.out (U := []) (by simp) (by simp))
              clear FV' hV4 hy12
              refine wpAnyH_ready (rs := [13]) (by kernel_rfl) (by simp) ?_
              refine AllReadyH.cons (o := ⟨some 34, _, _, _, _, _⟩) rfl (fun K hK => ?_) AllReadyH.nil
              have hbz : W.heap.size ≤ V4.heap.size := FV.out.size
              refine step_appR rfl (.tmp 26) (.tmp 33) 53 rfl W.heap.size 71 j0 Try.underlying53 RI.out RZ0.out RZ1.out RZ2.out (.slice a5 R.length c5) R.length (fl R) rfl OW.out (some ⟨y12, 0, none⟩) 1 1 [((pe, pe1) : Rg)] rfl ONE.out rfl (by intro h; cases h) (by have := RLEN.out; omega) hbz ?_
              intro a13 c13 V5 happ
              have FV : Hid (Frm [] W V5) := Lib.hid (frm_app FV.out happ (fun x hx => .inr (OW.out.lt x hx).1))
              have OW : Hid (OwnR V5 W.heap.size a13 c13 (R ++ [((pe, pe1) : Rg)])) := Lib.hid (own_app happ rfl rfl)
              have hHeld5 : Frm [] W V5 := FV.out
              clear happ hbz
              refine hK.out _ _ (by repeat (first | assumption | apply Frm.alloc | apply Frm.drew | exact Frm.refl _ _)) (fun hHeld => ?_)
              clear hK K
              try simp only [Act.put, List.setIfInBounds_toArray, List.set_cons_zero, List.set_cons_succ]
              refine wpAnyH_take (i := 14) (oi := ⟨some 10, _, _, _, _, _⟩) (v := ?_) rfl (by kernel_rfl) (by kernel_rfl) (by kernel_rfl) (fun _ _ _ h => h) (Or.inl ⟨by rfl, ?_⟩) (by assumption) ?_
              rotate_left 1
              · (intro w hSw; (try dsimp only at hSw); go_simp; all_goals with_reducible rfl)
              try simp only [Act.put, List.setIfInBounds_toArray, List.set_cons_zero, List.set_cons_succ]
              refine wpAnyH_done (by kernel_rfl) ?_ _
              have OUT : Hid (OwnR V5 W.heap.size a13 c13 (R ++ [((pe, pe1) : Rg)]) ∧ Frm [] W V5) := Lib.hid ⟨OW.out, FV.out⟩
              obtain ⟨VX, hVX⟩ : ∃ VX, VX = V5 := ⟨_, rfl⟩
              obtain ⟨aX, haX⟩ : ∃ aX, aX = a13 := ⟨_, rfl⟩
              obtain ⟨cX, hcX⟩ : ∃ cX, cX = c13 := ⟨_, rfl⟩
              rw [← hVX, ← haX, ← hcX]
              rw [← hVX, ← haX, ← hcX] at OUT
              clear hVX haX hcX
              go_wp2_with fail
              go_meet
              exact ⟨aX, cX, rfl, OUT⟩
            · go_simp
              refine hK.out _ _ (by repeat (first | assumption | apply Frm.alloc | apply Frm.drew | exact Frm.refl _ _)) (fun hHeld => ?_)
              clear hK K
              try simp only [Act.put, List.setIfInBounds_toArray, List.set_cons_zero, List.set_cons_succ]
              obtain ⟨V3, hV3⟩ : ∃ V3, V3 = V2.alloc (.cells #[.int .u64 (pe : Nat), .int .u64 (pe1 : Nat)] 71) := ⟨_, rfl⟩
              obtain ⟨y12, hy12⟩ : ∃ y12, y12 = V2.heap.size := ⟨_, rfl⟩
              rw [← hV3] at hHeld ⊢
              rw [← hy12]
              have FV' : Hid (Frm [] V2 V3) := Lib.hid (by rw [hV3]; exact (Frm.refl _ _).alloc _)
              have ONE : Hid (Rr V3 (some ⟨y12, 0, none⟩) [((pe, pe1) : Rg)]) := Lib.hid (by rw [hV3, hy12]; exact one_rg (pe, pe1) PEB.out)
              have Y12 : Hid (y12 ≠ y0) := Lib.hid (by have := YN.out.2; rw [hy12]; omega)
              have O0 := Lib.hid (FV'.out.own O0.out (fun g hg => by simp))
              have YN : Hid (W.heap.size ≤ y0 ∧ y0 < V3.heap.size) := Lib.hid ⟨YN.out.1, Nat.lt_of_lt_of_le YN.out.2 FV'.out.size⟩
              have RR := Lib.hid (RR.out.keep0 FV'.out)
              have FV := Lib.hid (FV.out.trans FV'.out (U := []) (by simp) (by simp))
              clear FV' hV3 hy12
              refine wpAnyH_ready (rs := [5]) (by kernel_rfl) (by simp) ?_
              refine AllReadyH.cons (o := ⟨some 26, _, _, _, _, _⟩) rfl (fun K hK => ?_) AllReadyH.nil
              have hbz : W.heap.size ≤ V3.heap.size := FV.out.size
              refine step_appR rfl (.tmp 21) (.tmp 25) 53 rfl W.heap.size 71 j0 Try.underlying53 RI.out RZ0.out RZ1.out RZ2.out (.slice (some ⟨y0, 0, none⟩) 0 0) 0 (fl []) rfl O0.out ar R.length cr R rfl RR.out rfl CC.out (by have := RLEN.out; omega) hbz ?_
              intro a5 c5 V4 happ
              have GR := happ.grown
              have FV' : Hid (Frm [y0] V3 V4) := Lib.hid ((Frm.refl _ _).grown GR (fun k hk => .inl (by simp [Value.ownBlock] at hk; simp [hk])))
              have OW : Hid (OwnR V4 W.heap.size a5 c5 ([] ++ R)) := Lib.hid (own_app happ rfl rfl)
              have OW : Hid (OwnR V4 W.heap.size a5 c5 R) := Lib.hid OW.out
              have ONE := Lib.hid (ONE.out.keep FV'.out (fun _ x hx => by cases hx; simp; exact Y12.out))
              have FV := Lib.hid (FV.out.trans FV'.out (U := []) (by simp) (fun x hx => .inr (by simp at hx; rw [hx]; exact YN.out.1)))
              have hHeld4 : Frm [] W V4 := FV.out
              clear FV' happ GR hbz
              refine hK.out _ _ (by repeat (first | assumption | apply Frm.alloc | apply Frm.drew | exact Frm.refl _ _)) (fun hHeld => ?_)
              clear hK K
              try simp only [Act.put, List.setIfInBounds_toArray, List.set_cons_zero, List.set_cons_succ]
              try simp only [Nat.zero_add]
              refine wpAnyH_ready (rs := [13]) (by kernel_rfl) (by simp) ?_
              refine AllReadyH.cons (o := ⟨some 34, _, _, _, _, _⟩) rfl (fun K hK => ?_) AllReadyH.nil
              have hbz : W.heap.size ≤ V4.heap.size := FV.out.size
              refine step_appR rfl (.tmp 26) (.tmp 33) 53 rfl W.heap.size 71 j0 Try.underlying53 RI.out RZ0.out RZ1.out RZ2.out (.slice a5 R.length c5) R.length (fl R) rfl OW.out (some ⟨y12, 0, none⟩) 1 1 [((pe, pe1) : Rg)] rfl ONE.out rfl (by intro h; cases h) (by have := RLEN.out; omega) hbz ?_
              intro a13 c13 V5 happ
              have FV : Hid (Frm [] W V5) := Lib.hid (frm_app FV.out happ (fun x hx => .inr (OW.out.lt x hx).1))
              have OW : Hid (OwnR V5 W.heap.size a13 c13 (R ++ [((pe, pe1) : Rg)])) := Lib.hid (own_app happ rfl rfl)
              have hHeld5 : Frm [] W V5 := FV.out
              clear happ hbz
              refine hK.out _ _ (by repeat (first | assumption | apply Frm.alloc | apply Frm.drew | exact Frm.refl _ _)) (fun hHeld => ?_)
              clear hK K
              try simp only [Act.put, List.setIfInBounds_toArray, List.set_cons_zero, List.set_cons_succ]
              refine wpAnyH_take (i := 14) (oi := ⟨some 10, _, _, _, _, _⟩) (v := ?_) rfl (by kernel_rfl) (by kernel_rfl) (by kernel_rfl) (fun _ _ _ h => h) (Or.inl ⟨by rfl, ?_⟩) (by assumption) ?_
              rotate_left 1
              · (intro w hSw; (try dsimp only at hSw); go_simp; all_goals with_reducible rfl)
              try simp only [Act.put, List.setIfInBounds_toArray, List.set_cons_zero, List.set_cons_succ]
              refine wpAnyH_done (by kernel_rfl) ?_ _
              have OUT : Hid (OwnR V5 W.heap.size a13 c13 (R ++ [((pe, pe1) : Rg)]) ∧ Frm [] W V5) := Lib.hid ⟨OW.out, FV.out⟩
              obtain ⟨VX, hVX⟩ : ∃ VX, VX = V5 := ⟨_, rfl⟩
              obtain ⟨aX, haX⟩ : ∃ aX, aX = a13 := ⟨_, rfl⟩
              obtain ⟨cX, hcX⟩ : ∃ cX, cX = c13 := ⟨_, rfl⟩
              rw [← hVX, ← haX, ← hcX]
              rw [← hVX, ← haX, ← hcX] at OUT
              clear hVX haX hcX
              go_wp2_with fail
              go_meet
              exact ⟨aX, cX, rfl, OUT⟩
          · go_simp
            refine hK.out _ _ (by repeat (first | assumption | apply Frm.alloc | apply Frm.drew | exact Frm.refl _ _)) (fun hHeld => ?_)
            clear hK K
            try simp only [Act.put, List.setIfInBounds_toArray, List.set_cons_zero, List.set_cons_succ]
            obtain ⟨V2, hV2⟩ : ∃ V2, V2 = V1.alloc (.cells #[.int .u64 (pe : Nat), .int .u64 (pe1 : Nat)] 71) := ⟨_, rfl⟩
            obtain ⟨y12, hy12⟩ : ∃ y12, y12 = V1.heap.size := ⟨_, rfl⟩
            rw [← hV2] at hHeld ⊢
            rw [← hy12]
            have FV' : Hid (Frm [] V1 V2) := Lib.hid (by rw [hV2]; exact (Frm.refl _ _).alloc _)
            have ONE : Hid (Rr V2 (some ⟨y12, 0, none⟩) [((pe, pe1) : Rg)]) := Lib.hid (by rw [hV2, hy12]; exact one_rg (pe, pe1) PEB.out)
            have RR := Lib.hid (RR.out.keep0 FV'.out)
            have FV := Lib.hid (FV.out.trans FV'.out (U := []) (by simp) (by simp))
            clear FV' hV2 hy12
            refine wpAnyH_ready (rs := [0]) (by kernel_rfl) (by simp) ?_
            refine AllReadyH.cons (o := ⟨some 21, _, _, _, _, _⟩) rfl (fun K hK => ?_) AllReadyH.nil
            go_simp
            refine hK.out _ _ (by repeat (first | assumption | apply Frm.alloc | apply Frm.drew | exact Frm.refl _ _)) (fun hHeld => ?_)
            clear hK K
            try simp only [Act.put, List.setIfInBounds_toArray, List.set_cons_zero, List.set_cons_succ]
            obtain ⟨V3, hV3⟩ : ∃ V3, V3 = V2.alloc (.cells #[] 71) := ⟨_, rfl⟩
            obtain ⟨y0, hy0⟩ : ∃ y0, y0 = V2.heap.size := ⟨_, rfl⟩
            rw [← hV3] at hHeld ⊢
            rw [← hy0]
            have FV' : Hid (Frm [] V2 V3) := Lib.hid (by rw [hV3]; exact (Frm.refl _ _).alloc _)
            have YN : Hid (W.heap.size ≤ y0 ∧ y0 < V3.heap.size) := Lib.hid (by have := FV.out.size; rw [hV3, hy0]; simp; omega)
            have O0 : Hid (V3.ownsRow W.heap.size 71 2 (.slice (some ⟨y0, 0, none⟩) 0 0) 0 (fl [])) := Lib.hid (by rw [hV3, hy0]; exact World.ownsRow_lit V2 #[] 0 FV.out.size (by unfold maxLen; omega) rfl)
            have AWAY : Hid (∀ q, ar = some q → R ≠ [] → q.block ≠ y0) := Lib.hid (fun q hq hne => by have := RR.out.lt (List.length_pos_iff.2 hne) q hq; rw [hy0]; omega)
            have Y12 : Hid (y12 ≠ y0) := Lib.hid (by have := ONE.out.lt (by simp) _ rfl; rw [hy0]; exact Nat.ne_of_lt this)
            have RR := Lib.hid (RR.out.keep0 FV'.out)
            have ONE := Lib.hid (ONE.out.keep0 FV'.out)
            have FV := Lib.hid (FV.out.trans FV'.out (U := []) (by simp) (by simp))
            clear FV' hV3 hy0
            refine wpAnyH_ready (rs := [5]) (by kernel_rfl) (by simp) ?_
            refine AllReadyH.cons (o := ⟨some 26, _, _, _, _, _⟩) rfl (fun K hK => ?_) AllReadyH.nil
            have hbz : W.heap.size ≤ V3.heap.size := FV.out.size
            refine step_appR rfl (.tmp 21) (.tmp 25) 53 rfl W.heap.size 71 j0 Try.underlying53 RI.out RZ0.out RZ1.out RZ2.out (.slice (some ⟨y0, 0, none⟩) 0 0) 0 (fl []) rfl O0.out ar R.length cr R rfl RR.out rfl CC.out (by have := RLEN.out; omega) hbz ?_
            intro a5 c5 V4 happ
            have GR := happ.grown
            have FV' : Hid (Frm [y0] V3 V4) := Lib.hid ((Frm.refl _ _).grown GR (fun k hk => .inl (by simp [Value.ownBlock] at hk; simp [hk])))
            have OW : Hid (OwnR V4 W.heap.size a5 c5 ([] ++ R)) := Lib.hid (own_app happ rfl rfl)
            have OW : Hid (OwnR V4 W.heap.size a5 c5 R) := Lib.hid OW.out
            have ONE := Lib.hid (ONE.out.keep FV'.out (fun _ x hx => by cases hx; simp; exact Y12.out))
            have FV := Lib.hid (FV.out.trans FV'.out (U := []) (by simp) (fun x hx => .inr (by simp at hx; rw [hx]; exact YN.out.1)))
            have hHeld4 : Frm [] W V4 := FV.out
            clear FV' happ GR hbz
            refine hK.out _ _ (by repeat (first | assumption | apply Frm.alloc | apply Frm.drew | exact Frm.refl _ _)) (fun hHeld => ?_)
            clear hK K
            try simp only [Act.put, List.setIfInBounds_toArray, List.set_cons_zero, List.set_cons_succ]
            try simp only [Nat.zero_add]
            refine wpAnyH_ready (rs := [13]) (by kernel_rfl) (by simp) ?_
            refine AllReadyH.cons (o := ⟨some 34, _, _, _, _, _⟩) rfl (fun K hK => ?_) AllReadyH.nil
            have hbz : W.heap.size ≤ V4.heap.size := FV.out.size
            refine step_appR rfl (.tmp 26) (.tmp 33) 53 rfl W.heap.size 71 j0 Try.underlying53 RI.out RZ0.out RZ1.out RZ2.out (.slice a5 R.length c5) R.length (fl R) rfl OW.out (some ⟨y12, 0, none⟩) 1 1 [((pe, pe1) : Rg)] rfl ONE.out rfl (by intro h; cases h) (by have := RLEN.out; omega) hbz ?_
            intro a13 c13 V5 happ
            have FV : Hid (Frm [] W V5) := Lib.hid (frm_app FV.out happ (fun x hx => .inr (OW.out.lt x hx).1))
            have OW : Hid (OwnR V5 W.heap.size a13 c13 (R ++ [((pe, pe1) : Rg)])) := Lib.hid (own_app happ rfl rfl)
            have hHeld5 : Frm [] W V5 := FV.out
            clear happ hbz
            refine hK.out _ _ (by repeat (first | assumption | apply Frm.alloc | apply Frm.drew | exact Frm.refl _ _)) (fun hHeld => ?_)
            clear hK K
            try simp only [Act.put, List.setIfInBounds_toArray, List.set_cons_zero, List.set_cons_succ]
            refine wpAnyH_take (i := 14) (oi := ⟨some 10, _, _, _, _, _⟩) (v := ?_) rfl (by kernel_rfl) (by kernel_rfl) (by kernel_rfl) (fun _ _ _ h => h) (Or.inl ⟨by rfl, ?_⟩) (by assumption) ?_
            rotate_left 1
            · (intro w hSw; (try dsimp only at hSw); go_simp; all_goals with_reducible rfl)
            try simp only [Act.put, List.setIfInBounds_toArray, List.set_cons_zero, List.set_cons_succ]
            refine wpAnyH_done (by kernel_rfl) ?_ _
            have OUT : Hid (OwnR V5 W.heap.size a13 c13 (R ++ [((pe, pe1) : Rg)]) ∧ Frm [] W V5) := Lib.hid ⟨OW.out, FV.out⟩
            obtain ⟨VX, hVX⟩ : ∃ VX, VX = V5 := ⟨_, rfl⟩
            obtain ⟨aX, haX⟩ : ∃ aX, aX = a13 := ⟨_, rfl⟩
            obtain ⟨cX, hcX⟩ : ∃ cX, cX = c13 := ⟨_, rfl⟩
            rw [← hVX, ← haX, ← hcX]
            rw [← hVX, ← haX, ← hcX] at OUT
            clear hVX haX hcX
            go_wp2_with fail
            go_meet
            exact ⟨aX, cX, rfl, OUT⟩
        · go_simp
          refine hK.out _ _ (by repeat (first | assumption | apply Frm.alloc | apply Frm.drew | exact Frm.refl _ _)) (fun hHeld => ?_)
          clear hK K
          try simp only [Act.put, List.setIfInBounds_toArray, List.set_cons_zero, List.set_cons_succ]
          obtain ⟨V1, hV1⟩ : ∃ V1, V1 = V0.alloc (.cells #[.int .u64 (pe : Nat), .int .u64 (pe1 : Nat)] 71) := ⟨_, rfl⟩
          obtain ⟨y12, hy12⟩ : ∃ y12, y12 = V0.heap.size := ⟨_, rfl⟩
          rw [← hV1] at hHeld ⊢
          rw [← hy12]
          have FV' : Hid (Frm [] V0 V1) := Lib.hid (by rw [hV1]; exact (Frm.refl _ _).alloc _)
          have ONE : Hid (Rr V1 (some ⟨y12, 0, none⟩) [((pe, pe1) : Rg)]) := Lib.hid (by rw [hV1, hy12]; exact one_rg (pe, pe1) PEB.out)
          have FV := Lib.hid (FV.out.trans FV'.out (U := []) (by simp) (by simp))
          clear FV' hV1 hy12
          refine wpAnyH_ready (rs := [0, 4]) (by kernel_rfl) (by simp) ?_
          refine AllReadyH.cons (o := ⟨some 21, _, _, _, _, _⟩) rfl (fun K hK => ?_) (AllReadyH.cons (o := ⟨some 25, _, _, _, _, _⟩) rfl (fun K hK => ?_) AllReadyH.nil)
          · go_simp
            refine hK.out _ _ (by repeat (first | assumption | apply Frm.alloc | apply Frm.drew | exact Frm.refl _ _)) (fun hHeld => ?_)
            clear hK K
            try simp only [Act.put, List.setIfInBounds_toArray, List.set_cons_zero, List.set_cons_succ]
            obtain ⟨V2, hV2⟩ : ∃ V2, V2 = V1.alloc (.cells #[] 71) := ⟨_, rfl⟩
            obtain ⟨y0, hy0⟩ : ∃ y0, y0 = V1.heap.size := ⟨_, rfl⟩
            rw [← hV2] at hHeld ⊢
            rw [← hy0]
            have FV' : Hid (Frm [] V1 V2) := Lib.hid (by rw [hV2]; exact (Frm.refl _ _).alloc _)
            have YN : Hid (W.heap.size ≤ y0 ∧ y0 < V2.heap.size) := Lib.hid (by have := FV.out.size; rw [hV2, hy0]; simp; omega)
            have O0 : Hid (V2.ownsRow W.heap.size 71 2 (.slice (some ⟨y0, 0, none⟩) 0 0) 0 (fl [])) := Lib.hid (by rw [hV2, hy0]; exact World.ownsRow_lit V1 #[] 0 FV.out.size (by unfold maxLen; omega) rfl)
            have Y12 : Hid (y12 ≠ y0) := Lib.hid (by have := ONE.out.lt (by simp) _ rfl; rw [hy0]; exact Nat.ne_of_lt this)
            have ONE := Lib.hid (ONE.out.keep0 FV'.out)
            have FV := Lib.hid (FV.out.trans FV'.out (U := []) (by simp) (by simp))
            clear FV' hV2 hy0
            refine wpAnyH_ready (rs := [4]) (by kernel_rfl) (by simp) ?_
            refine AllReadyH.cons (o := ⟨some 25, _, _, _, _, _⟩) rfl (fun K hK => ?_) AllReadyH.nil
            go_simp
            go_at_call 38
            (with_reducible refine (OF.out V2 [y0] FV.out (fun x hx => by simp at hx; rw [hx]; exact YN.out.1)).mono ?_)
            rintro e V3 ⟨ar, cr, rfl, hrr, hnl, hlc, hcm, haw, hvn⟩
            have FV' := Lib.hid hvn
            have RR := Lib.hid hrr
            have CC : Hid (ar = none → cr = 0) := Lib.hid hnl
            have AWAY : Hid (∀ q, ar = some q → R ≠ [] → q.block ≠ y0) := Lib.hid (fun q hq hne h => haw hne q hq (by simp [h]))
            have O0 := Lib.hid (FV'.out.own O0.out (fun g hg => by simp))
            have YN : Hid (W.heap.size ≤ y0 ∧ y0 < V3.heap.size) := Lib.hid ⟨YN.out.1, Nat.lt_of_lt_of_le YN.out.2 FV'.out.size⟩
            have ONE := Lib.hid (ONE.out.keep0 FV'.out)
            have FV := Lib.hid (FV.out.trans FV'.out (U := []) (by simp) (by simp))
            have hHeld3 : Frm [] W V3 := FV.out
            clear FV' hrr hnl hlc hcm haw hvn
            go_wp2_with fail
            refine hK.out _ _ (by repeat (first | assumption | apply Frm.alloc | apply Frm.drew | exact Frm.refl _ _)) (fun hHeld => ?_)
            clear hK K
            try simp only [Act.put, List.setIfInBounds_toArray, List.set_cons_zero, List.set_cons_succ]
            refine wpAnyH_ready (rs := [5]) (by kernel_rfl) (by simp) ?_
            refine AllReadyH.cons (o := ⟨some 26, _, _, _, _, _⟩) rfl (fun K hK => ?_) AllReadyH.nil
            have hbz : W.heap.size ≤ V3.heap.size := FV.out.size
            refine step_appR rfl (.tmp 21) (.tmp 25) 53 rfl W.heap.size 71 j0 Try.underlying53 RI.out RZ0.out RZ1.out RZ2.out (.slice (some ⟨y0, 0, none⟩) 0 0) 0 (fl []) rfl O0.out ar R.length cr R rfl RR.out rfl CC.out (by have := RLEN.out; omega) hbz ?_
            intro a5 c5 V4 happ
            have GR := happ.grown
            have FV' : Hid (Frm [y0] V3 V4) := Lib.hid ((Frm.refl _ _).grown GR (fun k hk => .inl (by simp [Value.ownBlock] at hk; simp [hk])))
            have OW : Hid (OwnR V4 W.heap.size a5 c5 ([] ++ R)) := Lib.hid (own_app happ rfl rfl)
            have OW : Hid (OwnR V4 W.heap.size a5 c5 R) := Lib.hid OW.out
            have ONE := Lib.hid (ONE.out.keep FV'.out (fun _ x hx => by cases hx; simp; exact Y12.out))
            have FV := Lib.hid (FV.out.trans FV'.out (U := []) (by simp) (fun x hx => .inr (by simp at hx; rw [hx]; exact YN.out.1)))
            have hHeld4 : Frm [] W V4 := FV.out
            clear FV' happ GR hbz
            refine hK.out _ _ (by repeat (first | assumption | apply Frm.alloc | apply Frm.drew | exact Frm.refl _ _)) (fun hHeld => ?_)
            clear hK K
            try simp only [Act.put, List.setIfInBounds_toArray, List.set_cons_zero, List.set_cons_succ]
            try simp only [Nat.zero_add]
            refine wpAnyH_ready (rs := [13]) (by kernel_rfl) (by simp) ?_
            refine AllReadyH.cons (o := ⟨some 34, _, _, _, _, _⟩) rfl (fun K hK => ?_) AllReadyH.nil
            have hbz : W.heap.size ≤ V4.heap.size := FV.out.size
            refine step_appR rfl (.tmp 26) (.tmp 33) 53 rfl W.heap.size 71 j0 Try.underlying53 RI.out RZ0.out RZ1.out RZ2.out (.slice a5 R.length c5) R.length (fl R) rfl OW.out (some ⟨y12, 0, none⟩) 1 1 [((pe, pe1) : Rg)] rfl ONE.out rfl (by intro h; cases h) (by have := RLEN.out; omega) hbz ?_
            intro a13 c13 V5 happ
            have FV : Hid (Frm [] W V5) := Lib.hid (frm_app FV.out happ (fun x hx => .inr (OW.out.lt x hx).1))
            have OW : Hid (OwnR V5 W.heap.size a13 c13 (R ++ [((pe, pe1) : Rg)])) := Lib.hid (own_app happ rfl rfl)
            have hHeld5 : Frm [] W V5 := FV.out
            clear happ hbz
            refine hK.out _ _ (by repeat (first | assumption | apply Frm.alloc | apply Frm.drew | exact Frm.refl _ _)) (fun hHeld => ?_)
            clear hK K
            try simp only [Act.put, List.setIfInBounds_toArray, List.set_cons_zero, List.set_cons_succ]
            refine wpAnyH_take (i := 14) (oi := ⟨some 10, _, _, _, _, _⟩) (v := ?_) rfl (by kernel_rfl) (by kernel_rfl) (by kernel_rfl) (fun _ _ _ h => h) (Or.inl ⟨by rfl, ?_⟩) (by assumption) ?_
            rotate_left 1
            · (intro w hSw; (try dsimp only at hSw); go_simp; all_goals with_reducible rfl)
            try simp only [Act.put, List.setIfInBounds_toArray, List.set_cons_zero, List.set_cons_succ]
            refine wpAnyH_done (by kernel_rfl) ?_ _
            have OUT : Hid (OwnR V5 W.heap.size a13 c13 (R ++ [((pe, pe1) : Rg)]) ∧ Frm [] W V5) := Lib.hid ⟨OW.out, FV.out⟩
            obtain ⟨VX, hVX⟩ : ∃ VX, VX = V5 := ⟨_, rfl⟩
            obtain ⟨aX, haX⟩ : ∃ aX, aX = a13 := ⟨_, rfl⟩
            obtain ⟨cX, hcX⟩ : ∃ cX, cX = c13 := ⟨_, rfl⟩
            rw [← hVX, ← haX, ← hcX]
            rw [← hVX, ← haX, ← hcX] at OUT
            clear hVX haX hcX
            go_wp2_with fail
            go_meet
            exact ⟨aX, cX, rfl, OUT⟩
          · go_simp
            go_at_call 38
            (with_reducible refine (OF.out V1 [] FV.out (by simp)).mono ?_)
            rintro e V2 ⟨ar, cr, rfl, hrr, hnl, hlc, hcm, haw, hvn⟩
            have FV' := Lib.hid hvn
            have RR := Lib.hid hrr
            have CC : Hid (ar = none → cr = 0) := Lib.hid hnl
            have ONE := Lib.hid (ONE.out.keep0 FV'.out)
            have FV := Lib.hid (FV.out.trans FV'.out (U := []) (by simp) (by simp))
            have hHeld2 : Frm [] W V2 := FV.out
            clear FV' hrr hnl hlc hcm haw hvn
            go_wp2_with fail
            refine hK.out _ _ (by repeat (first | assumption | apply Frm.alloc | apply Frm.drew | exact Frm.refl _ _)) (fun hHeld => ?_)
            clear hK K
            try simp only [Act.put, List.setIfInBounds_toArray, List.set_cons_zero, List.set_cons_succ]
            refine wpAnyH_ready (rs := [0]) (by kernel_rfl) (by simp) ?_
            refine AllReadyH.cons (o := ⟨some 21, _, _, _, _, _⟩) rfl (fun K hK => ?_) AllReadyH.nil
            go_simp
            refine hK.out _ _ (by repeat (first | assumption | apply Frm.alloc | apply Frm.drew | exact Frm.refl _ _)) (fun hHeld => ?_)
            clear hK K
            try simp only [Act.put, List.setIfInBounds_toArray, List.set_cons_zero, List.set_cons_succ]
            obtain ⟨V3, hV3⟩ : ∃ V3, V3 = V2.alloc (.cells #[] 71) := ⟨_, rfl⟩
            obtain ⟨y0, hy0⟩ : ∃ y0, y0 = V2.heap.size := ⟨_, rfl⟩
            rw [← hV3] at hHeld ⊢
            rw [← hy0]
            have FV' : Hid (Frm [] V2 V3) := Lib.hid (by rw [hV3]; exact (Frm.refl _ _).alloc _)
            have YN : Hid (W.heap.size ≤ y0 ∧ y0 < V3.heap.size) := Lib.hid (by have := FV.out.size; rw [hV3, hy0]; simp; omega)
            have O0 : Hid (V3.ownsRow W.heap.size 71 2 (.slice (some ⟨y0, 0, none⟩) 0 0) 0 (fl [])) := Lib.hid (by rw [hV3, hy0]; exact World.ownsRow_lit V2 #[] 0 FV.out.size (by unfold maxLen; omega) rfl)
            have AWAY : Hid (∀ q, ar = some q → R ≠ [] → q.block ≠ y0) := Lib.hid (fun q hq hne => by have := RR.out.lt (List.length_pos_iff.2 hne) q hq; rw [hy0]; omega)
            have Y12 : Hid (y12 ≠ y0) := Lib.hid (by have := ONE.out.lt (by simp) _ rfl; rw [hy0]; exact Nat.ne_of_lt this)
            have RR := Lib.hid (RR.out.keep0 FV'.out)
            have ONE := Lib.hid (ONE.out.keep0 FV'.out)
            have FV := Lib.hid (FV.out.trans FV'.out (U := []) (by simp) (by simp))
            clear FV' hV3 hy0
            refine wpAnyH_ready (rs := [5]) (by kernel_rfl) (by simp) ?_
            refine AllReadyH.cons (o := ⟨some 26, _, _, _, _, _⟩) rfl (fun K hK => ?_) AllReadyH.nil
            have hbz : W.heap.size ≤ V3.heap.size := FV.out.size
            refine step_appR rfl (.tmp 21) (.tmp 25) 53 rfl W.heap.size 71 j0 Try.underlying53 RI.out RZ0.out RZ1.out RZ2.out (.slice (some ⟨y0, 0, none⟩) 0 0) 0 (fl []) rfl O0.out ar R.length cr R rfl RR.out rfl CC.out (by have := RLEN.out; omega) hbz ?_
            intro a5 c5 V4 happ
            have GR := happ.grown
            have FV' : Hid (Frm [y0] V3 V4) := Lib.hid ((Frm.refl _ _).grown GR (fun k hk => .inl (by simp [Value.ownBlock] at hk; simp [hk])))
            have OW : Hid (OwnR V4 W.heap.size a5 c5 ([] ++ R)) := Lib.hid (own_app happ rfl rfl)
            have OW : Hid (OwnR V4 W.heap.size a5 c5 R) := Lib.hid OW.out
            have ONE := Lib.hid (ONE.out.keep FV'.out (fun _ x hx => by cases hx; simp; exact Y12.out))
            have FV := Lib.hid (FV.out.trans FV'.out (U := []) (by simp) (fun x hx => .inr (by simp at hx; rw [hx]; exact YN.out.1)))
            have hHeld4 : Frm [] W V4 := FV.out
            clear FV' happ GR hbz
            refine hK.out _ _ (by repeat (first | assumption | apply Frm.alloc | apply Frm.drew | exact Frm.refl _ _)) (fun hHeld => ?_)
            clear hK K
            try simp only [Act.put, List.setIfInBounds_toArray, List.set_cons_zero, List.set_cons_succ]
            try simp only [Nat.zero_add]
            refine wpAnyH_ready (rs := [13]) (by kernel_rfl) (by simp) ?_
            refine AllReadyH.cons (o := ⟨some 34, _, _, _, _, _⟩) rfl (fun K hK => ?_) AllReadyH.nil
            have hbz : W.heap.size ≤ V4.heap.size := FV.out.size
            refine step_appR rfl (.tmp 26) (.tmp 33) 53 rfl W.heap.size 71 j0 Try.underlying53 RI.out RZ0.out RZ1.out RZ2.out (.slice a5 R.length c5) R.length (fl R) rfl OW.out (some ⟨y12, 0, none⟩) 1 1 [((pe, pe1) : Rg)] rfl ONE.out rfl (by intro h; cases h) (by have := RLEN.out; omega) hbz ?_
            intro a13 c13 V5 happ
            have FV : Hid (Frm [] W V5) := Lib.hid (frm_app FV.out happ (fun x hx => .inr (OW.out.lt x hx).1))
            have OW : Hid (OwnR V5 W.heap.size a13 c13 (R ++ [((pe, pe1) : Rg)])) := Lib.hid (own_app happ rfl rfl)
            have hHeld5 : Frm [] W V5 := FV.out
            clear happ hbz
            refine hK.out _ _ (by repeat (first | assumption | apply Frm.alloc | apply Frm.drew | exact Frm.refl _ _)) (fun hHeld => ?_)
            clear hK K
            try simp only [Act.put, List.setIfInBounds_toArray, List.set_cons_zero, List.set_cons_succ]
            refine wpAnyH_take (i := 14) (oi := ⟨some 10, _, _, _, _, _⟩) (v := ?_) rfl (by kernel_rfl) (by kernel_rfl) (by kernel_rfl) (fun _ _ _ h => h) (Or.inl ⟨by rfl, ?_⟩) (by assumption) ?_
            rotate_left 1
            · (intro w hSw; (try dsimp only at hSw); go_simp; all_goals with_reducible rfl)
            try simp only [Act.put, List.setIfInBounds_toArray, List.set_cons_zero, List.set_cons_succ]
            refine wpAnyH_done (by kernel_rfl) ?_ _
            have OUT : Hid (OwnR V5 W.heap.size a13 c13 (R ++ [((pe, pe1) : Rg)]) ∧ Frm [] W V5) := Lib.hid ⟨OW.out, FV.out⟩
            obtain ⟨VX, hVX⟩ : ∃ VX, VX = V5 := ⟨_, rfl⟩
            obtain ⟨aX, haX⟩ : ∃ aX, aX = a13 := ⟨_, rfl⟩
            obtain ⟨cX, hcX⟩ : ∃ cX, cX = c13 := ⟨_, rfl⟩
            rw [← hVX, ← haX, ← hcX]
            rw [← hVX, ← haX, ← hcX] at OUT
            clear hVX haX hcX
            go_wp2_with fail
            go_meet
            exact ⟨aX, cX, rfl, OUT⟩
      case rest =>
        obtain ⟨aX, cX, rfl, HOUT⟩ := hcut
        have r0 : ∀ z, Frm [] wc z → z.cell? ⟨g, 0, none⟩ = some (.int .u64 (ml : Nat)) := fun z hz => r0 z (HOUT.out.2.trans hz (by simp) (by simp))
        have r1 : ∀ z, Frm [] wc z → z.cell? ⟨g, 1, none⟩ = some (.int .u64 (me : Nat)) := fun z hz => r1 z (HOUT.out.2.trans hz (by simp) (by simp))
        have r2 : ∀ z, Frm [] wc z → z.cell? ⟨g, 2, none⟩ = some (.slice a n cap) := fun z hz => r2 z (HOUT.out.2.trans hz (by simp) (by simp))
        have r3 : ∀ z, Frm [] wc z → z.cell? ⟨g + 1, 0, none⟩ = some (.int .u64 (pl : Nat)) := fun z hz => r3 z (HOUT.out.2.trans hz (by simp) (by simp))
        have SUBC : Hid (∀ z, Frm [] wc z → Frm [] w z) := Lib.hid (fun z hz => SUB.out z (HOUT.out.2.trans hz (by simp) (by simp)))
        have GTC : Hid (∀ z, Frm [] wc z → g + 1 + 1 < z.heap.size) := Lib.hid (fun z hz => GT.out z (HOUT.out.2.trans hz (by simp) (by simp)))
        have B3C : Hid (Whole wc (g + 1 + 1) 28 #[.int .u64 0, .int .u64 0, .slice none 0 0]) := Lib.hid (HOUT.out.2.whole B3.out (by simp))
        have RX := Lib.hid (HOUT.out.1.rr (RBD.out.append (fun p hp => by rw [List.mem_singleton.1 hp]; exact PEB.out)))
        have SET := Lib.hid (fun z (hz : Frm [] wc z) => (set_any (l := R ++ [((pe, pe1) : Rg)]) (l' := []) (n := R.length + 1) (n' := 0) (cap := cX) (cap' := 0) (a' := none) (RX.out.1.keep0 hz) (by simp) RX.out.2.1 (Rr.nil _ _) rfl (fun _ => rfl) (by have := RLEN.out; omega)).mono fun e w' hg => hg.x)
        have NXT : Hid (∀ z (out : List Rg) (ao : Option Addr) (ko co : Nat), Frm [] wc z → Hid (ko = out.length) → Hid (Rr z ao out ∧ CapOk ao out.length co ∧ (∀ q, ao = some q → wc.heap.size ≤ q.block)) → Hid (Rt out ∧ (∀ x, Mem out x ↔ Mem (R ++ [((pe, pe1) : Rg)]) x ∧ ¬ Mem [] x) ∧ out.length ≤ 2 * (R.length + 1 + 0)) → Hid (Added (hels Y) p0 (holdH pl out (hels Y))) ∧ Hid (∃ T : List Hx, hels T = holdH pl out (hels Y) ∧ RgsOk T ∧ Srt (hels T) ∧ T.length ≤ 1000 ∧ Hid (Calls Try.prog 40 #[.agg #[.int .u64 (ml : Nat), .int .u64 (me : Nat), .slice a n cap], .int .u64 (pl : Nat), .slice ao ko co] z fun e w' => ∃ (a : Option Addr) (c : Nat), e = .returned (.agg #[.int .u64 (ml : Nat), .int .u64 (me : Nat), .slice a T.length c]) ∧ HxL w' ((g + 1 + 1) :: F) a T ∧ (T ≠ [] → ∀ q, a = some q → z.heap.size ≤ q.block) ∧ Frm [] z w'))) := Lib.hid (fun z out ao ko co hz h1 h2 h3 => by
          have hm : ∀ x, Mem out x ↔ Mem R x ∨ x = pe := fun x => by
            rw [h3.out.2.1, mem_append]
            have e1 : Mem [((pe, pe1) : Rg)] x ↔ x = pe := by
              have := HPE1.out
              unfold Mem
              simp
              omega
            rw [e1]
            exact ⟨fun h => h.1, fun h => ⟨h, Mem.nil _⟩⟩
          have hln := rt_add_len RRT.out h3.out.1 hm
          have hadd : Added (hels Y) p0 (holdH pl out (hels Y)) := by
            rw [P0.out]
            exact ⟨out, h3.out.1, fun x => by rw [hm x, HR.out], by rw [HR.out] at hln; exact hln, rfl⟩
          have ok := hadd.ok OKH.out.1 OKH.out.2
          have bd := hadd.bd BB.out
          have hx : HxOk z ((g + 1 + 1) :: F) ⟨(pl, out), ao, co⟩ := ⟨h2.out.1, fun _ q hq hm => by
            have h4 := h2.out.2.2 q hq
            have h5 := GTC.out wc (Frm.refl _ _)
            have h6 := (SUBC.out wc (Frm.refl _ _)).size
            rcases List.mem_cons.1 hm with h7 | h7
            · omega
            · have := HF00.out _ h7; omega, h2.out.2.1.1, PL.out, h2.out.2.1.2⟩
          have hT := HX.out out ao co
          refine ⟨hadd, hoX pl ⟨(pl, out), ao, co⟩ (decide (out = [])) Y, hT, ?_, by rw [hT]; exact ok.1, ?_, HOLD.out z ao ko co out (SUBC.out z hz) (GTC.out z hz) hx h1.out⟩
          · exact rgsOk_of (b := 101) (by rw [hT]; exact ok.2) (by rw [hT]; exact bd.1) (by omega)
          · rw [← hels_length, hT]
            have h4 := bd.2
            rw [hels_length] at h4
            have h5 := NN.out
            omega)
        clear HOLD HX OF
        go_upto_region 6 with (fail)
        refine wp_region_tail (S := fun w' => Frm [] wc w') (tl := (fun j => decide (9 ≤ j))) (by kernel_rfl) (Frm.drew (Frm.refl _ _)) (fun hHeld => ?_)
        refine tail_take (i := 0) (oi := ⟨some 35, _, _, _, _, _⟩) (v := ?_) rfl (by kernel_rfl) (by kernel_rfl) (by kernel_rfl) (by kernel_rfl) (by kernel_rfl) (fun _ _ _ h => h) (Or.inl ⟨by rfl, ?_⟩) (by assumption) ?_
        rotate_left 1
        · (intro w hSw; (try dsimp only at hSw); go_simp; all_goals with_reducible rfl)
        try simp only [Act.put, List.setIfInBounds_toArray, List.set_cons_zero, List.set_cons_succ]
        refine tail_take (i := 1) (oi := ⟨some 36, _, _, _, _, _⟩) (v := ?_) rfl (by kernel_rfl) (by kernel_rfl) (by kernel_rfl) (by kernel_rfl) (by kernel_rfl) (fun _ _ _ h => h) (Or.inl ⟨by rfl, ?_⟩) (by assumption) ?_
        rotate_left 1
        · (intro w hSw; (try dsimp only at hSw); go_simp; all_goals with_reducible rfl)
        try simp only [Act.put, List.setIfInBounds_toArray, List.set_cons_zero, List.set_cons_succ]
        refine tail_take (i := 2) (oi := ⟨some 37, _, _, _, _, _⟩) (v := ?_) rfl (by kernel_rfl) (by kernel_rfl) (by kernel_rfl) (by kernel_rfl) (by kernel_rfl) (fun _ _ _ h => h) (Or.inl ⟨by rfl, ?_⟩) (by assumption) ?_
        rotate_left 1
        · (intro w hSw; (try dsimp only at hSw); go_simp; all_goals with_reducible rfl)
        try simp only [Act.put, List.setIfInBounds_toArray, List.set_cons_zero, List.set_cons_succ]
        refine tail_take (i := 3) (oi := ⟨some 38, _, _, _, _, _⟩) (v := ?_) rfl (by kernel_rfl) (by kernel_rfl) (by kernel_rfl) (by kernel_rfl) (by kernel_rfl) (fun _ _ _ h => h) (Or.inl ⟨by rfl, ?_⟩) (by assumption) ?_
        rotate_left 1
        · (intro w hSw; (try dsimp only at hSw); go_simp; all_goals with_reducible rfl)
        try simp only [Act.put, List.setIfInBounds_toArray, List.set_cons_zero, List.set_cons_succ]
        refine tail_take (i := 4) (oi := ⟨some 39, _, _, _, _, _⟩) (v := ?_) rfl (by kernel_rfl) (by kernel_rfl) (by kernel_rfl) (by kernel_rfl) (by kernel_rfl) (fun _ _ _ h => h) (Or.inl ⟨by rfl, ?_⟩) (by assumption) ?_
        rotate_left 1
        · (intro w hSw; (try dsimp only at hSw); go_simp; all_goals with_reducible rfl)
        try simp only [Act.put, List.setIfInBounds_toArray, List.set_cons_zero, List.set_cons_succ]
        refine tail_take (i := 5) (oi := ⟨some 40, _, _, _, _, _⟩) (v := ?_) rfl (by kernel_rfl) (by kernel_rfl) (by kernel_rfl) (by kernel_rfl) (by kernel_rfl) (fun _ _ _ h => h) (Or.inl ⟨by rfl, ?_⟩) (by assumption) ?_
        rotate_left 1
        · (intro w hSw; (try dsimp only at hSw); go_simp; all_goals with_reducible rfl)
        try simp only [Act.put, List.setIfInBounds_toArray, List.set_cons_zero, List.set_cons_succ]
        refine tail_one (i := 6) (o := ⟨some 41, _, _, _, _, _⟩) (by kernel_rfl) rfl (fun K hK => ?_)
        go_simp
        ((with_reducible refine (SET.out _ (by repeat (first | assumption | apply Frm.drew | exact Frm.refl _ _))).mono ?_); rintro e w5 ⟨ao, ko, co, out, rfl, KO, OO, SO, F5⟩; have hHeld5 : Frm [] wc w5 := Frm.trans (by repeat (first | assumption | apply Frm.drew | exact Frm.refl _ _)) F5.out (by simp) (by simp); obtain ⟨ADD, HT⟩ := NXT.out w5 out ao ko co hHeld5 KO (Lib.hid ⟨OO.out.1, OO.out.2.1, fun q hq => OO.out.2.2 q hq⟩) SO; obtain ⟨T, TE, TR, TS, TL, TC⟩ := HT.out; have TE := Lib.hid TE; have TR := Lib.hid TR; have TS := Lib.hid TS; clear HT)
        go_wp2_with fail
        refine hK.out _ _ (fun _ => by assumption) (fun _ => ?_)
        clear hK K
        try simp only [Act.put, List.setIfInBounds_toArray, List.set_cons_zero, List.set_cons_succ]
        refine tail_one (i := 7) (o := ⟨some 42, _, _, _, _, _⟩) (by kernel_rfl) rfl (fun K hK => ?_)
        go_simp
        ((with_reducible refine TC.out.mono ?_); rintro e w6 ⟨a6, c6, rfl, hl6, _, hf6⟩; have hHeld6 : Frm [] wc w6 := hHeld5.trans hf6 (by simp) (by simp); obtain ⟨tn, htn⟩ : ∃ tn, tn = T.length := ⟨_, rfl⟩; rw [← htn]; have TX := Lib.hid (TI.out w6 T a6 tn c6 (SUBC.out _ hHeld6) (GTC.out _ hHeld6) hl6 htn (by omega) TS.out TR.out); clear htn)
        go_wp2_with fail
        refine hK.out _ _ (fun _ => by assumption) (fun _ => ?_)
        clear hK K
        try simp only [Act.put, List.setIfInBounds_toArray, List.set_cons_zero, List.set_cons_succ]
        refine tail_one (i := 8) (o := ⟨some 43, _, _, _, _, _⟩) (by kernel_rfl) rfl (fun K hK => ?_)
        go_simp
        ((with_reducible refine TX.out.mono ?_); rintro e w7 ⟨M, Zt, at', ct, rfl, hre, hst, hze, hl7, hf7⟩; have hHeld7 : Frm [] wc w7 := hHeld6.trans hf7 (by simp) (by simp); have b7 := hHeld7.whole B3C.out (by simp); have q0 := b7.cell 0; have q1 := b7.cell 1; have q2 := b7.cell 2; have k0 := b7.free 0; have k1 := b7.free 1; have k2 := b7.free 2; simp only [List.getElem?_toArray, List.getElem?_cons_zero, List.getElem?_cons_succ] at q0 q1 q2; clear b7; obtain ⟨zt, hzt⟩ : ∃ zt, zt = Zt.length := ⟨_, rfl⟩; rw [← hzt]; have HZT := Lib.hid hzt; clear hzt)
        go_wp2_with fail
        refine hK.out _ _ (fun _ => by assumption) (fun _ => ?_)
        clear hK K
        try simp only [Act.put, List.setIfInBounds_toArray, List.set_cons_zero, List.set_cons_succ]
        refine tail_one (i := 9) (o := ⟨none, _, _, _, _, _⟩) (by kernel_rfl) rfl (fun K hK => ?_)
        go_simp
        refine hK.out _ _ (fun h => absurd h (by decide)) (fun _ => ?_)
        clear hK K
        try simp only [Act.put, List.setIfInBounds_toArray, List.set_cons_zero, List.set_cons_succ]
        refine tail_one (i := 10) (o := ⟨some 9, _, _, _, _, _⟩) (by kernel_rfl) rfl (fun K hK => ?_)
        go_simp
        refine hK.out _ _ (fun h => absurd h (by decide)) (fun _ => ?_)
        clear hK K
        try simp only [Act.put, List.setIfInBounds_toArray, List.set_cons_zero, List.set_cons_succ]
        refine tail_done (by kernel_rfl) ?_ _
        have ok := ADD.out.ok OKH.out.1 OKH.out.2
        rw [TE.out] at hre hst hze
        rw [tightH_left ok.1 (fun h hh => (ok.2 h hh).1)] at hze
        obtain ⟨FA, FB⟩ := FIN.out w7 M Zt at' zt ct _ (HOUT.out.2.trans hHeld7 (by simp) (by simp)) ADD.out HZT ⟨hre, hst⟩ hze hl7
        have FA := Lib.hid FA
        have FB := Lib.hid FB
        clear r0 r1 r2 r3 r4 q0 q1 q2 k0 k1 k2 hHeld5 hHeld6 hHeld7
        go_wp2
        refine bodyPost_ret (ANS.out _ M.l M.e at' zt ct 0 _ rfl rfl FA.out) rfl ?_
        exact FB.out
    · have b2 := F3.out.whole B2.out (by simp)
      have q0 := b2.cell 0
      have q1 := b2.cell 1
      have q2 := b2.cell 2
      have k0 := b2.free 0
      have k1 := b2.free 1
      have k2 := b2.free 2
      simp only [List.getElem?_toArray, List.getElem?_cons_zero, List.getElem?_cons_succ] at q0 q1 q2
      obtain ⟨FA, FB⟩ := NOW.out w3 31 F3.out
      have FA := Lib.hid FA
      have FB := Lib.hid FB
      clear b2 x0 x1 x2 y0 y1 f3
      go_wp2
      refine bodyPost_ret (ANS.out _ 0 0 none 0 0 31 _ rfl rfl FA.out) rfl ?_
      exact Q2.out trivial (AB.out.1 trivial) _ _ FB.out
end Go.Proofs.Ytghadpihmhaepaa
