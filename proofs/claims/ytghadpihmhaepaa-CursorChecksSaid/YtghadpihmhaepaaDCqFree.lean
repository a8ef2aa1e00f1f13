/- Contract of the program's free. -/
import Derived.Test.YtghadpihmhaepaaCB
import Derived.Test.YtghadpihmhaepaaCC
import Derived.RegionTactic
import Derived.BigRegion
namespace Go.Proofs.Ytghadpihmhaepaa
open Go.RowKit
set_option maxRecDepth 100000

theorem cqcellN_eq {w : World} {p : Addr} {n : Nat} (h : w.cell? p = some (.int .u64 (n : Nat))) : (match w.cell? p with | some v => (intOf v).toNat | none => 0) = n := by
  rw [h]
  simp [intOf]
def cqN (w : World) (p : Addr) : Nat := match w.cell? p with
  | some v => (intOf v).toNat
  | none => 0
theorem cqN_eq {w : World} {p : Addr} {n : Nat} (h : w.cell? p = some (.int .u64 (n : Nat))) : cqN w p = n := cqcellN_eq h
/-- As far as it goes: what is next there isn't held. -/
def FreeEnd (w : World) (X : List Ld) (o : Nat) (H : List Hel) (m : Ps) (e : Ending) (w' : World) : Prop := ∃ (M q : Ps) (b : Bool), e = .returned (.tuple #[M.val, q.val, .bool b]) ∧ (q, b) = nextV X o M ∧ Reach X o H m M ∧ Stop X o H M ∧ M.e < 18446744073709551616 ∧ Frm [] w w'
theorem cqof_in {H : List Hel} (q : Nat) : ofH H q = [] ∨ ∃ h ∈ H, ofH H q = h.2 := by
  unfold ofH
  split
  · rename_i h hf
    exact .inr ⟨h, List.mem_of_find?_eq_some hf, rfl⟩
  · exact .inl rfl
theorem endP_fits {X : List Ld} {o : Nat} (hf : ∀ x ∈ X, x.fits) (ho : o < 18446744073709551616) : (endP X o).e < 18446744073709551616 := by
  unfold endP
  split
  · show (0 : Nat) < _
    omega
  · rename_i x h
    exact Ld.size_lt (hf x (List.mem_of_getLast? h)) ho
theorem nextV_fits {X : List Ld} {o : Nat} (hf : ∀ x ∈ X, x.fits) (ho : o < 18446744073709551616) (m : Ps) : (nextV X o m).1.e < 18446744073709551616 := by
  unfold nextV
  cases h : nextP X o m with
  | none => exact endP_fits hf ho
  | some q =>
    obtain ⟨k, hk, _, h2, rfl⟩ := nextP_some h
    have := Ld.size_lt (ld_fits_at hf k) ho
    show Ld.ahead _ _ _ < _
    omega
set_option maxHeartbeats 8000000 in
theorem cqfree_any (al : Option Addr) (nl cl : Nat) (X : List Ld) (o : Nat) (ah : Option Addr) (nh ch : Nat) (F : List Nat) (Y : List Hx) (m : Ps) (w : World) (hx : LdL w [] al X) (hnl : nl = X.length) (hszl : nl < 4611686018427387904) (ho : o < 18446744073709551616) (hfx : ∀ x ∈ X, x.fits) (h : HxL w F ah Y) (hs : Srt (hels Y)) (hn : nh = Y.length) (hsz : nh < 4611686018427387904) (hr : RgsOk Y) (hme : m.e < 18446744073709551616) :
    Calls Try.prog 48 #[.slice al nl cl, .int .u64 (o : Nat), .slice ah nh ch, m.val] w (FreeEnd w X o (hels Y) m) := by
  obtain ⟨w1, hw1⟩ : ∃ w1, w1 = ((w.alloc (.cells #[.int .u64 (m.l : Nat), .int .u64 (m.e : Nat)] 25)).alloc (.cells #[.int .u64 0, .int .u64 0] 25)).alloc (.cells #[.int .u64 0, .int .u64 0] 25) := ⟨_, rfl⟩
  obtain ⟨g, hg⟩ : ∃ g, g = w.heap.size := ⟨_, rfl⟩
  have F1 : Hid (Frm [] w w1) := Lib.hid (by rw [hw1]; exact (((Frm.refl _ _).alloc _).alloc _).alloc _)
  have B0 : Hid (Whole w1 g 25 #[.int .u64 (m.l : Nat), .int .u64 (m.e : Nat)]) := Lib.hid (by rw [hw1, hg]; exact ((Whole.made _ _ _).alloc _).alloc _)
  have B1 : Hid (Whole w1 (g + 1) 25 #[.int .u64 0, .int .u64 0]) := Lib.hid (by
    rw [hw1, hg]
    have := Whole.made (w.alloc (.cells #[.int .u64 (m.l : Nat), .int .u64 (m.e : Nat)] 25)) 25 #[.int .u64 0, .int .u64 0]
    rw [World.size_alloc] at this
    exact this.alloc _)
  have B2 : Hid (Whole w1 (g + 1 + 1) 25 #[.int .u64 ((0 : Nat) : Int), .int .u64 ((0 : Nat) : Int)]) := Lib.hid (by
    rw [hw1, hg]
    have := Whole.made ((w.alloc (.cells #[.int .u64 (m.l : Nat), .int .u64 (m.e : Nat)] 25)).alloc (.cells #[.int .u64 0, .int .u64 0] 25)) 25 #[.int .u64 0, .int .u64 0]
    rwa [World.size_alloc, World.size_alloc] at this)
  have GS : Hid (w.heap.size ≤ g) := Lib.hid (by omega)
  have NEXT := Lib.hid (fun (p : Ps) z (hz : Frm [] w z) => ldnext_any al nl cl X o p z (hx.sub hz) hnl hszl)
  have NFIT := Lib.hid (fun p => nextV_fits hfx ho p)
  have OF := Lib.hid (fun (q : Nat) z (hz : Frm [] w z) => cqof_any (cap := ch) q (h.sub hz) hs hn hsz)
  have OFR := Lib.hid (fun q => ofH_ok hr q)
  have OFB : Hid (∀ q, ∀ p ∈ ofH (hels Y) q, p.1 < 18446744073709551616 ∧ p.2 < 18446744073709551616) := Lib.hid (fun q => by
    rcases cqof_in (H := hels Y) q with h0 | ⟨hh, hm, h0⟩
    · rw [h0]; simp
    · rw [h0]
      obtain ⟨x, hx, rfl⟩ := List.mem_map.1 hm
      exact (h.ok x hx).rs.1)
  have R0 : Hid (Reach X o (hels Y) m m) := Lib.hid (.refl _)
  obtain ⟨m0, hm0⟩ : ∃ m0, m0 = m := ⟨_, rfl⟩
  obtain ⟨Q, hQ⟩ : ∃ Q, Q = FreeEnd w X o (hels Y) m := ⟨_, rfl⟩
  rw [← hQ]
  rw [← hm0] at hQ
  have R0 : Hid (Reach X o (hels Y) m0 m) := Lib.hid (by rw [hm0]; exact .refl _)
  have HQ := Lib.hid hQ; clear hQ
  have ME0 := Lib.hid hme; clear hme
  clear hm0 hx hnl h hs hn hr hfx ho
  generalize hels Y = H at OF OFR OFB R0 HQ
  obtain ⟨ml, me⟩ := m
  unfold Ps.val
  simp only at hw1 B0 R0 ME0 ⊢
  have HW1 := Lib.hid hw1; clear hw1
  have V0 : Hid (∀ (z : World) (a1 a2 b1 b2 : Nat) (bb : Bool) (tm : Array Value), tm.getD 8 undef = .pointer (some ⟨g + 1, 0, none⟩) → tm.getD 9 undef = .pointer (some ⟨g + 1 + 1, 0, none⟩) → tm.getD 10 undef = .bool bb → Whole z (g + 1) 25 #[.int .u64 (a1 : Nat), .int .u64 (a2 : Nat)] → Whole z (g + 1 + 1) 25 #[.int .u64 (b1 : Nat), .int .u64 (b2 : Nat)] → (results Try.f48 tm).run Try.prog z = .ok (.tuple #[.agg #[.int .u64 (a1 : Nat), .int .u64 (a2 : Nat)], .agg #[.int .u64 (b1 : Nat), .int .u64 (b2 : Nat)], .bool bb]) z) := Lib.hid (fun z a1 a2 b1 b2 bb tm h8 h9 h10 hw hw2 => by
    have c0 := hw.cell 0
    have c1 := hw.cell 1
    have d0 := hw2.cell 0
    have d1 := hw2.cell 1
    simp at c0 c1 d0 d1
    have h8' : tm[8]?.getD undef = .pointer (some ⟨g + 1, 0, none⟩) := by simpa using h8
    have h9' : tm[9]?.getD undef = .pointer (some ⟨g + 1 + 1, 0, none⟩) := by simpa using h9
    have h10' : tm[10]?.getD undef = .bool bb := by simpa using h10
    simp [results, Try.results48, go_sem, c0, c1, d0, d1, h8', h9', h10'])
  have HG := Lib.hid hg; clear hg
  go_enter Try.func48, Try.ntmps48
  go_wp2
  rw [← HW1.out, ← HG.out]
  go_loopw [10] (fun s10 wr => ∃ (mk : Ps) (u1 u2 : Nat), Hid (Reach X o H m0 mk) ∧ Hid (mk.e < 18446744073709551616) ∧ Hid (Whole wr g 25 #[.int .u64 (mk.l : Nat), .int .u64 (mk.e : Nat)]) ∧ Hid (Whole wr (g + 1 + 1) 25 #[.int .u64 (u1 : Nat), .int .u64 (u2 : Nat)]) ∧ Hid (Frm [g, g + 1 + 1] w1 wr)) (fun s10 wr => restP X o ⟨cqN wr ⟨g, 0, none⟩, cqN wr ⟨g, 1, none⟩⟩)
  case atStart => exact ⟨⟨ml, me⟩, 0, 0, R0, ME0, B0, B2, Lib.hid (Frm.refl _ _)⟩
  case round =>
    obtain ⟨mk, u1, u2, RM, ME64, BM, BU, HF⟩ := hrel
    have FWR : Hid (Frm [] w wr) := Lib.hid (F1.out.trans HF.out (by simp) (fun x hx => by simp at hx; have := GS.out; exact .inr (by omega)))
    have r0 := BM.out.cell 0
    have r1 := BM.out.cell 1
    simp only [List.getElem?_toArray, List.getElem?_cons_zero, List.getElem?_cons_succ] at r0 r1
    have ME : Hid (restP X o ⟨cqN wr ⟨g, 0, none⟩, cqN wr ⟨g, 1, none⟩⟩ = restP X o mk) := Lib.hid (by rw [cqN_eq r0, cqN_eq r1])
    have NX := Lib.hid (NEXT.out mk wr FWR.out)
    have NF := Lib.hid (NFIT.out mk)
    have ENX : Hid (nextV X o mk = match nextP X o mk with | some q => (q, true) | none => (endP X o, false)) := Lib.hid rfl
    unfold nextR LRet at NX
    obtain ⟨⟨q, b⟩, hv⟩ : ∃ v, v = nextV X o mk := ⟨_, rfl⟩
    have HV : Hid ((q, b) = nextV X o mk) := Lib.hid hv
    rw [← hv] at NX ENX NF
    have NB : Hid ((b = false → nextP X o mk = none) ∧ (b = true → nextP X o mk = some q)) := Lib.hid (by
      have := ENX.out
      cases hnp : nextP X o mk with
      | none => rw [hnp] at this; simp only [Prod.mk.injEq] at this; exact ⟨fun _ => rfl, fun h => (by rw [this.2] at h; cases h)⟩
      | some p => rw [hnp] at this; simp only [Prod.mk.injEq] at this; exact ⟨fun h => (by rw [this.2] at h; cases h), fun _ => (by rw [this.1])⟩)
    clear hv ENX
    have OFX := Lib.hid (fun z hz => OF.out q.l z hz)
    have OFRX := Lib.hid (OFR.out q.l)
    have STP : Hid (∀ gp, nextP X o mk = some q → Mem (ofH H q.l) q.e → GapOf (ofH H q.l) q.e gp → Step X o H mk ⟨q.l, gp⟩) := Lib.hid (fun gp h1 h2 h3 => ⟨q, h1, h2, rfl, h3⟩)
    have ST : Hid ((∀ p, nextP X o mk = some p → ¬ Mem (ofH H p.l) p.e) → Stop X o H mk) := Lib.hid (fun h => h)
    obtain ⟨mkl, mke⟩ := mk
    obtain ⟨ql, qe⟩ := q
    unfold Ps.val at NX
    unfold RsEnd at OFX
    simp only at r0 r1 NX OFX OFRX BM ME64 NF STP
    go_wp2_with fail
    (with_reducible refine NX.out.mono ?_)
    rintro e w2 ⟨rfl, hf2⟩
    have b2 := hf2.whole BU.out (by simp)
    have q0 := b2.cell 0
    have q1 := b2.cell 1
    have k0 := b2.free 0
    have k1 := b2.free 1
    simp only [List.getElem?_toArray, List.getElem?_cons_zero, List.getElem?_cons_succ] at q0 q1
    obtain ⟨W, hW⟩ : ∃ W, W = (w2.setCell ⟨g + 1 + 1, 0, none⟩ (.int .u64 (ql : Nat))).setCell ⟨g + 1 + 1, 1, none⟩ (.int .u64 (qe : Nat)) := ⟨_, rfl⟩
    have FW : Hid (Frm [g + 1 + 1] wr W) := Lib.hid (by rw [hW]; exact ((hf2.weak (by simp)).setCell (.inl (by simp)) _).setCell (.inl (by simp)) _)
    have BW : Hid (Whole W (g + 1 + 1) 25 #[.int .u64 (ql : Nat), .int .u64 (qe : Nat)]) := Lib.hid (by
      have := (b2.put 0 (.int .u64 (ql : Nat))).put 1 (.int .u64 (qe : Nat))
      rw [hW]
      simpa using this)
    have BG : Hid (Whole W g 25 #[.int .u64 (mkl : Nat), .int .u64 (mke : Nat)]) := Lib.hid (FW.out.whole BM.out (by simp only [List.mem_singleton]; omega))
    have FW1 : Hid (Frm [g, g + 1 + 1] w1 W) := Lib.hid (HF.out.trans FW.out (by simp) (by simp))
    have BR : Hid (Whole W (g + 1) 25 #[.int .u64 0, .int .u64 0]) := Lib.hid (FW1.out.whole B1.out (by simp))
    have FV : Hid (∀ z, Frm [] W z → Frm [] w z) := Lib.hid (fun z hz => F1.out.trans (FW1.out.trans hz (U := [g, g + 1 + 1]) (by simp) (by simp)) (by simp) (fun x hx => by simp at hx; have := GS.out; exact .inr (by omega)))
    go_upto_region 2 with (fail)
    rw [← hW]
    clear hW b2 q0 q1 k0 k1 r0 r1 hf2 NX
    have z0 : ∀ z, Frm [] W z → z.cell? ⟨g + 1 + 1, 0, none⟩ = some (.int .u64 (ql : Nat)) := fun z hz => (hz.whole BW.out (by simp)).cell 0
    have z1 : ∀ z, Frm [] W z → z.cell? ⟨g + 1 + 1, 1, none⟩ = some (.int .u64 (qe : Nat)) := fun z hz => (hz.whole BW.out (by simp)).cell 1
    have z2 : ∀ z, Frm [] W z → z.cell? ⟨g, 0, none⟩ = some (.int .u64 (mkl : Nat)) := fun z hz => (hz.whole BG.out (by simp)).cell 0
    have z3 : ∀ z, Frm [] W z → z.cell? ⟨g, 1, none⟩ = some (.int .u64 (mke : Nat)) := fun z hz => (hz.whole BG.out (by simp)).cell 1
    obtain ⟨gp, hgp, hgp64⟩ := gap_ex OFRX.out.2 (OFB.out ql) qe NF.out
    have GP := Lib.hid hgp
    have GP64 := Lib.hid hgp64
    have OFY := Lib.hid (fun z (hz : Frm [] W z) => OFX.out z (FV.out z hz))
    obtain ⟨R, hR⟩ : ∃ R, R = ofH H ql := ⟨_, rfl⟩
    have GAP : Hid (∀ (z : World) (ar : Option Addr) (cr : Nat), Rr z ar R → Calls Try.prog 74 #[.slice ar R.length cr, .int .u64 (qe : Nat)] z fun e w' => e = .returned (.int .u64 (gp : Nat)) ∧ Frm [] z w') := Lib.hid (fun z ar cr hz => gap_any hz (by rw [hR]; exact OFRX.out.2) rfl (by rw [hR]; have := OFRX.out.1; omega) (by rw [hR]; exact hgp))
    rw [← hR] at OFY STP GP
    have ST2 : Hid (b = false ∨ gp = qe → Stop X o H ⟨mkl, mke⟩) := Lib.hid (fun hb => ST.out (fun p hp => by
      cases b with
      | false => rw [NB.out.1 rfl] at hp; cases hp
      | true =>
        rcases hb with h | h
        · cases h
        · rw [NB.out.2 rfl] at hp
          cases hp
          show ¬ Mem (ofH H ql) qe
          rw [← hR, ← h]
          exact GP.out.2.1))
    have STP2 : Hid (b = true → gp ≠ qe → Step X o H ⟨mkl, mke⟩ ⟨ql, gp⟩) := Lib.hid (fun hb hne => STP.out gp (NB.out.2 hb) (by
      have h1 := GP.out.1
      exact GP.out.2.2 qe (Nat.le_refl _) (by omega)) GP.out)
    have FIN : Hid (∀ z bb, bb = b → (b = false ∨ gp = qe) → Frm [] W z → Whole ((((z.setCell ⟨g + 1, 0, none⟩ (.int .u64 (mkl : Nat))).setCell ⟨g + 1, 1, none⟩ (.int .u64 (mke : Nat))).setCell ⟨g + 1 + 1, 0, none⟩ (.int .u64 (ql : Nat))).setCell ⟨g + 1 + 1, 1, none⟩ (.int .u64 (qe : Nat))) (g + 1) 25 #[.int .u64 (mkl : Nat), .int .u64 (mke : Nat)] ∧ Whole ((((z.setCell ⟨g + 1, 0, none⟩ (.int .u64 (mkl : Nat))).setCell ⟨g + 1, 1, none⟩ (.int .u64 (mke : Nat))).setCell ⟨g + 1 + 1, 0, none⟩ (.int .u64 (ql : Nat))).setCell ⟨g + 1 + 1, 1, none⟩ (.int .u64 (qe : Nat))) (g + 1 + 1) 25 #[.int .u64 (ql : Nat), .int .u64 (qe : Nat)] ∧ Q (.returned (.tuple #[.agg #[.int .u64 (mkl : Nat), .int .u64 (mke : Nat)], .agg #[.int .u64 (ql : Nat), .int .u64 (qe : Nat)], .bool bb])) (((((z.setCell ⟨g + 1, 0, none⟩ (.int .u64 (mkl : Nat))).setCell ⟨g + 1, 1, none⟩ (.int .u64 (mke : Nat))).setCell ⟨g + 1 + 1, 0, none⟩ (.int .u64 (ql : Nat))).setCell ⟨g + 1 + 1, 1, none⟩ (.int .u64 (qe : Nat))).drew)) := Lib.hid (fun z bb hbb hb hz => by
      subst hbb
      have hw := hz.whole BR.out (by simp)
      have hw2 := hz.whole BW.out (by simp)
      have hgs := GS.out
      refine ⟨?_, ?_, ?_⟩
      · have := (((hw.put 0 (.int .u64 (mkl : Nat))).put 1 (.int .u64 (mke : Nat))).other (p := ⟨g + 1 + 1, 0, none⟩) (by simp) (.int .u64 (ql : Nat))).other (p := ⟨g + 1 + 1, 1, none⟩) (by simp) (.int .u64 (qe : Nat))
        simpa using this
      · have := (((hw2.other (p := ⟨g + 1, 0, none⟩) (by simp) (.int .u64 (mkl : Nat))).other (p := ⟨g + 1, 1, none⟩) (by simp) (.int .u64 (mke : Nat))).put 0 (.int .u64 (ql : Nat))).put 1 (.int .u64 (qe : Nat))
        simpa using this
      · rw [HQ.out]
        exact ⟨⟨mkl, mke⟩, ⟨ql, qe⟩, bb, rfl, HV.out, RM.out, ST2.out hb, ME64.out, Frm.drew (((((FV.out _ hz).setCell (.inr (by simp; omega)) _).setCell (.inr (by simp; omega)) _).setCell (.inr (by simp; omega)) _).setCell (.inr (by simp; omega)) _)⟩)
    have NXT : Hid (∀ z, b = true → gp ≠ qe → Frm [] W z → Hid (Reach X o H m0 ⟨ql, gp⟩) ∧ Hid (Whole ((z.setCell ⟨g, 0, none⟩ (.int .u64 (ql : Nat))).setCell ⟨g, 1, none⟩ (.int .u64 (gp : Nat))) g 25 #[.int .u64 (ql : Nat), .int .u64 (gp : Nat)]) ∧ Hid (Whole ((z.setCell ⟨g, 0, none⟩ (.int .u64 (ql : Nat))).setCell ⟨g, 1, none⟩ (.int .u64 (gp : Nat))) (g + 1 + 1) 25 #[.int .u64 (ql : Nat), .int .u64 (qe : Nat)]) ∧ Hid (Frm [g, g + 1 + 1] w1 ((z.setCell ⟨g, 0, none⟩ (.int .u64 (ql : Nat))).setCell ⟨g, 1, none⟩ (.int .u64 (gp : Nat)))) ∧ Hid (restP X o ⟨cqN ((z.setCell ⟨g, 0, none⟩ (.int .u64 (ql : Nat))).setCell ⟨g, 1, none⟩ (.int .u64 (gp : Nat))) ⟨g, 0, none⟩, cqN ((z.setCell ⟨g, 0, none⟩ (.int .u64 (ql : Nat))).setCell ⟨g, 1, none⟩ (.int .u64 (gp : Nat))) ⟨g, 1, none⟩⟩ < restP X o ⟨mkl, mke⟩)) := Lib.hid (fun z hb hne hz => by
      have st := STP2.out hb hne
      have hw := hz.whole BG.out (by simp)
      have hw2 := hz.whole BW.out (by simp)
      have h1 : Whole ((z.setCell ⟨g, 0, none⟩ (.int .u64 (ql : Nat))).setCell ⟨g, 1, none⟩ (.int .u64 (gp : Nat))) g 25 #[.int .u64 (ql : Nat), .int .u64 (gp : Nat)] := by
        have := (hw.put 0 (.int .u64 (ql : Nat))).put 1 (.int .u64 (gp : Nat))
        simpa using this
      refine ⟨Lib.hid (RM.out.step st), Lib.hid h1, Lib.hid ?_, Lib.hid ?_, Lib.hid ?_⟩
      · have := (hw2.other (p := ⟨g, 0, none⟩) (by simp; omega) (.int .u64 (ql : Nat))).other (p := ⟨g, 1, none⟩) (by simp; omega) (.int .u64 (gp : Nat))
        simpa using this
      · exact ((FW1.out.trans hz (U := [g, g + 1 + 1]) (by simp) (by simp)).setCell (.inl (by simp)) _).setCell (.inl (by simp)) _
      · have e0 := h1.cell 0
        have e1 := h1.cell 1
        simp only [List.getElem?_toArray, List.getElem?_cons_zero, List.getElem?_cons_succ] at e0 e1
        rw [cqN_eq e0, cqN_eq e1]
        exact st.rest)
    clear hgp hgp64 hR NB OFX OFRX STP ST ST2 STP2 OF OFR OFB NEXT NFIT
    refine wp_region_held_drew (S := fun w' => Frm [] W w') (by kernel_rfl) (Frm.drew (Frm.refl _ _)) (fun hHeld => ?_)
    refine wpAnyH_take (i := 0) (oi := ⟨some 19, _, _, _, _, _⟩) (v := ?_) rfl (by kernel_rfl) (by kernel_rfl) (by kernel_rfl) (fun _ _ _ h => h) (Or.inl ⟨by rfl, ?_⟩) (by assumption) ?_
    rotate_left 1
    · (intro w hSw; (try dsimp only at hSw); go_simp; all_goals with_reducible rfl)
    try simp only [Act.put, List.setIfInBounds_toArray, List.set_cons_zero, List.set_cons_succ]
    refine wpAnyH_take (i := 1) (oi := ⟨some 20, _, _, _, _, _⟩) (v := ?_) rfl (by kernel_rfl) (by kernel_rfl) (by kernel_rfl) (fun _ _ _ h => h) (Or.inl ⟨by rfl, ?_⟩) (by assumption) ?_
    rotate_left 1
    · (intro w hSw; (try dsimp only at hSw); go_simp; all_goals with_reducible rfl)
    try simp only [Act.put, List.setIfInBounds_toArray, List.set_cons_zero, List.set_cons_succ]
    refine wpAnyH_take (i := 2) (oi := ⟨some 21, _, _, _, _, _⟩) (v := ?_) rfl (by kernel_rfl) (by kernel_rfl) (by kernel_rfl) (fun _ _ _ h => h) (Or.inl ⟨by rfl, ?_⟩) (by assumption) ?_
    rotate_left 1
    · (intro w hSw; (try dsimp only at hSw); go_simp; all_goals with_reducible rfl)
    try simp only [Act.put, List.setIfInBounds_toArray, List.set_cons_zero, List.set_cons_succ]
    refine wpAnyH_take (i := 4) (oi := ⟨some 23, _, _, _, _, _⟩) (v := ?_) rfl (by kernel_rfl) (by kernel_rfl) (by kernel_rfl) (fun _ _ _ h => h) (Or.inl ⟨by rfl, ?_⟩) (by assumption) ?_
    rotate_left 1
    · (intro w hSw; (try dsimp only at hSw); go_simp; all_goals with_reducible rfl)
    try simp only [Act.put, List.setIfInBounds_toArray, List.set_cons_zero, List.set_cons_succ]
    refine wpAnyH_take (i := 5) (oi := ⟨some 24, _, _, _, _, _⟩) (v := ?_) rfl (by kernel_rfl) (by kernel_rfl) (by kernel_rfl) (fun _ _ _ h => h) (Or.inl ⟨by rfl, ?_⟩) (by assumption) ?_
    rotate_left 1
    · (intro w hSw; (try dsimp only at hSw); go_simp; all_goals with_reducible rfl)
    try simp only [Act.put, List.setIfInBounds_toArray, List.set_cons_zero, List.set_cons_succ]
    refine wpAnyH_ready (rs := [3]) (by kernel_rfl) (by simp) ?_
    refine AllReadyH.cons (o := ⟨some 22, _, _, _, _, _⟩) rfl (fun K hK => ?_) AllReadyH.nil
    go_simp
    go_at_call 46; (with_reducible refine (OFY.out _ hHeld).mono ?_); rintro e v2 ⟨ar, cr, rfl, hrr, _, _, _, _, hv2⟩; have RR := Lib.hid hrr; clear hrr; have hHeld2 : Frm [] W v2 := hHeld.trans hv2 (by simp) (by simp)
    go_wp2_with fail
    refine hK.out _ _ (by assumption) (fun hHeld => ?_)
    clear hK K
    try simp only [Act.put, List.setIfInBounds_toArray, List.set_cons_zero, List.set_cons_succ]
    refine wpAnyH_ready (rs := [6]) (by kernel_rfl) (by simp) ?_
    refine AllReadyH.cons (o := ⟨some 25, _, _, _, _, _⟩) rfl (fun K hK => ?_) AllReadyH.nil
    go_simp
    go_at_call 74; (with_reducible refine (GAP.out _ _ _ RR.out).mono ?_); rintro e v3 ⟨rfl, hv3⟩; have hHeld3 : Frm [] W v3 := hHeld.trans hv3 (by simp) (by simp)
    go_wp2_with fail
    refine hK.out _ _ (by assumption) (fun hHeld => ?_)
    clear hK K
    try simp only [Act.put, List.setIfInBounds_toArray, List.set_cons_zero, List.set_cons_succ]
    refine wpAnyH_take (i := 7) (oi := ⟨some 11, _, _, _, _, _⟩) (v := ?_) rfl (by kernel_rfl) (by kernel_rfl) (by kernel_rfl) (fun _ _ _ h => h) (Or.inl ⟨by rfl, ?_⟩) (by assumption) ?_
    rotate_left 1
    · (intro w hSw; (try dsimp only at hSw); go_simp; all_goals with_reducible rfl)
    try simp only [Act.put, List.setIfInBounds_toArray, List.set_cons_zero, List.set_cons_succ]
    refine wpAnyH_done (by kernel_rfl) ?_ _
    have F3 := Lib.hid hHeld
    have b0 := hHeld.whole BG.out (by simp)
    have b1 := hHeld.whole BR.out (by simp)
    have b2 := hHeld.whole BW.out (by simp)
    have x0 := b0.cell 0
    have x1 := b0.cell 1
    have y0 := b2.cell 0
    have y1 := b2.cell 1
    have q0 := b0.free 0
    have q1 := b0.free 1
    have o0 := b1.cell 0
    have o1 := b1.cell 1
    have o2 := b1.free 0
    have o3 := b1.free 1
    have y2 := b2.free 0
    have y3 := b2.free 1
    have u0 : ∀ z, Frm [] v3 z → z.cell? ⟨g, 0, none⟩ = some (.int .u64 (mkl : Nat)) := fun z hz => (hz.whole b0 (by simp)).cell 0
    have u1 : ∀ z, Frm [] v3 z → z.cell? ⟨g, 1, none⟩ = some (.int .u64 (mke : Nat)) := fun z hz => (hz.whole b0 (by simp)).cell 1
    have u2 : ∀ z, Frm [] v3 z → z.cell? ⟨g + 1 + 1, 0, none⟩ = some (.int .u64 (ql : Nat)) := fun z hz => (hz.whole b2 (by simp)).cell 0
    have u3 : ∀ z, Frm [] v3 z → z.cell? ⟨g + 1 + 1, 1, none⟩ = some (.int .u64 (qe : Nat)) := fun z hz => (hz.whole b2 (by simp)).cell 1
    have v0 : ∀ i, (W.drew).frozen? ⟨g, i, none⟩ = false := fun i => BG.out.free i
    simp only [List.getElem?_toArray, List.getElem?_cons_zero, List.getElem?_cons_succ] at x0 x1 y0 y1 o0 o1
    clear z0 z1 z2 z3 hHeld v0
    cases b
    · obtain ⟨FA, FB, FC⟩ := FIN.out v3 false rfl (.inl rfl) F3.out
      have FA := Lib.hid FA
      have FB := Lib.hid FB
      have FC := Lib.hid FC
      go_wp2
      go_region
      all_goals (go_wp2; refine bodyPost_ret (V0.out _ mkl mke ql qe false _ rfl rfl rfl FA.out FB.out) rfl ?_; exact FC.out)
    by_cases hge : gp = qe
    · obtain ⟨FA, FB, FC⟩ := FIN.out v3 true rfl (.inr hge) F3.out
      have FA := Lib.hid FA
      have FB := Lib.hid FB
      have FC := Lib.hid FC
      have e1 : ((gp : Int) == (qe : Int)) = true := by rw [beq_iff_eq]; omega
      clear hge
      go_wp2
      go_region
      all_goals (go_wp2; refine bodyPost_ret (V0.out _ mkl mke ql qe true _ rfl rfl rfl FA.out FB.out) rfl ?_; exact FC.out)
    · obtain ⟨N1, N2, N3, N4, N5⟩ := NXT.out v3 rfl hge F3.out
      have e1 : ((gp : Int) == (qe : Int)) = false := by rw [beq_eq_false_iff_ne]; omega
      clear hge
      go_wp2
      go_roundw
      case rel => exact ⟨⟨ql, gp⟩, ql, qe, N1, GP64, N2, N3, N4⟩
      case measure => rw [ME.out]; exact N5.out
end Go.Proofs.Ytghadpihmhaepaa
