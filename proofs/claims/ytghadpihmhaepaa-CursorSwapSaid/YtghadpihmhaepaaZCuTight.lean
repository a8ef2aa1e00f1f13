/- Contract of the document's tight. -/
import Derived.Test.YtghadpihmhaepaaMD
namespace Go.Proofs.Ytghadpihmhaepaa
open Go.RowKit
set_option maxRecDepth 100000

def cellN (w : World) (p : Addr) : Nat := match w.cell? p with
  | some v => (intOf v).toNat
  | none => 0
theorem cellN_eq {w : World} {p : Addr} {n : Nat} (h : w.cell? p = some (.int .u64 (n : Nat))) : cellN w p = n := by
  unfold cellN
  rw [h]
  simp [intOf]
def TiEnd (w : World) (F : List Nat) (X : List Ld) (o : Nat) (m : Ps) (Y : List Hx) (e : Ending) (w' : World) : Prop := ∃ (M : Ps) (Z : List Hx) (a : Option Addr) (c : Nat), e = .returned (crsV M a Z.length c) ∧ Reach X o (hels Y) m M ∧ Stop X o (hels Y) M ∧ hels Z = tightH M (hels Y) ∧ HxL w' F a Z ∧ Frm [] w w'
theorem ofH_in {H : List Hel} (q : Nat) : ofH H q = [] ∨ ∃ h ∈ H, ofH H q = h.2 := by
  unfold ofH
  split
  · rename_i h hf
    exact .inr ⟨h, List.mem_of_find?_eq_some hf, rfl⟩
  · exact .inl rfl
set_option maxHeartbeats 16000000 in
theorem crtight_any (al : Option Addr) (nl cl : Nat) (X : List Ld) (o : Nat) (m : Ps) (a : Option Addr) (n cap : Nat) (F : List Nat) (Y : List Hx) (w : World) (hx : LdL w [] al X) (hnl : nl = X.length) (hszl : nl < 4611686018427387904) (ht : tot X o ≤ 100000) (h : HxL w F a Y) (hn : n = Y.length) (hsz : n ≤ 1000) (hr : ∀ x ∈ Y, x.t.2.length ≤ 400 ∧ Rt x.t.2) (hs : Srt (hels Y)) (hF : ∀ x ∈ F, x < w.heap.size) (hme : m.e < 18446744073709551616) :
    Calls Try.prog 39 #[.slice al nl cl, .int .u64 (o : Nat), crsV m a n cap] w (TiEnd w F X o m Y) := by
  obtain ⟨w1, hw1⟩ : ∃ w1, w1 = (w.alloc (.cells #[.int .u64 (m.l : Nat), .int .u64 (m.e : Nat), .slice a n cap] 28)).alloc (.cells #[.int .u64 0, .int .u64 0, .slice none 0 0] 28) := ⟨_, rfl⟩
  obtain ⟨g, hg⟩ : ∃ g, g = w.heap.size := ⟨_, rfl⟩
  have F1 : Hid (Frm [] w w1) := Lib.hid (by rw [hw1]; exact ((Frm.refl _ _).alloc _).alloc _)
  have B0 : Hid (Whole w1 g 28 #[.int .u64 (m.l : Nat), .int .u64 (m.e : Nat), .slice a n cap]) := Lib.hid (by rw [hw1, hg]; exact (Whole.made _ _ _).alloc _)
  have B1 : Hid (Whole w1 (g + 1) 28 #[.int .u64 0, .int .u64 0, .slice none 0 0]) := Lib.hid (by
    rw [hw1, hg]
    have := Whole.made (w.alloc (.cells #[.int .u64 (m.l : Nat), .int .u64 (m.e : Nat), .slice a n cap] 28)) 28 #[.int .u64 0, .int .u64 0, .slice none 0 0]
    rwa [World.size_alloc] at this)
  have NEXT := Lib.hid (fun (p : Ps) z (hz : Frm [] w z) => rlnext_any al nl cl X o p z (hx.sub hz) hnl hszl ht)
  have OF := Lib.hid (fun (p : Ps) (q : Nat) z (hz : Frm [] w z) => crof_any p a n cap F Y q z (h.sub hz) hn (by omega))
  have OFR : Hid (∀ q, (ofH (hels Y) q).length < 4611686018427387904 ∧ Rt (ofH (hels Y) q)) := Lib.hid (fun q => by
    rcases ofH_in (H := hels Y) q with h0 | ⟨hh, hm, h0⟩
    · rw [h0]; exact ⟨by decide, Rt.nil⟩
    · rw [h0]
      obtain ⟨x, hx, rfl⟩ := List.mem_map.1 hm
      have := hr x hx
      exact ⟨by omega, this.2⟩)
  have H := Lib.hid h; clear h
  have HN := Lib.hid hn; clear hn
  have HR := Lib.hid hr; clear hr
  have HS := Lib.hid hs; clear hs
  have HF0 := Lib.hid hF; clear hF hx ht hnl
  have ME0 := Lib.hid hme; clear hme
  have GS : Hid (w.heap.size ≤ g) := Lib.hid (by omega)
  have G1 : Hid (g + 1 < w1.heap.size) := Lib.hid B1.out.lt
  obtain ⟨Q, hQ⟩ : ∃ Q, Q = TiEnd w F X o m Y := ⟨_, rfl⟩
  rw [← hQ]
  have HQ := Lib.hid hQ; clear hQ
  unfold crsV
  have R0 : Hid (Reach X o (hels Y) m m) := Lib.hid (.refl _)
  obtain ⟨m0, hm0⟩ : ∃ m0, m0 = m := ⟨_, rfl⟩
  rw [← hm0] at HQ
  have R0 : Hid (Reach X o (hels Y) m0 m) := Lib.hid (by rw [hm0]; exact .refl _)
  clear hm0
  obtain ⟨ml, me⟩ := m
  simp only at hw1 B0 R0 ME0 ⊢
  have HW1 := Lib.hid hw1; clear hw1
  have V0 : Hid (∀ (z : World) (ul ue : Nat) (a : Option Addr) (sl c : Nat) (tm : Array Value), tm.getD 6 undef = .pointer (some ⟨g + 1, 0, none⟩) → Whole z (g + 1) 28 #[.int .u64 (ul : Nat), .int .u64 (ue : Nat), .slice a sl c] → (results Try.f39 tm).run Try.prog z = .ok (.agg #[.int .u64 (ul : Nat), .int .u64 (ue : Nat), .slice a sl c]) z) := Lib.hid (fun z ul ue a sl c tm h6 hw => by
    have c0 := hw.cell 0
    have c1 := hw.cell 1
    have c2 := hw.cell 2
    simp at c0 c1 c2
    have h6' : tm[6]?.getD undef = .pointer (some ⟨g + 1, 0, none⟩) := by simpa using h6
    simp [results, Try.results39, go_sem, c0, c1, c2, h6'])
  have HG := Lib.hid hg; clear hg
  go_enter Try.func39, Try.ntmps39
  go_wp2
  rw [← HW1.out, ← HG.out]
  go_loopw [8] (fun s8 wr => ∃ mk : Ps, Hid (Reach X o (hels Y) m0 mk) ∧ Hid (mk.e < 18446744073709551616) ∧ Hid (Whole wr g 28 #[.int .u64 (mk.l : Nat), .int .u64 (mk.e : Nat), .slice a n cap]) ∧ Hid (Frm [g] w1 wr)) (fun s8 wr => restP X o ⟨cellN wr ⟨g, 0, none⟩, cellN wr ⟨g, 1, none⟩⟩)
  case atStart => exact ⟨⟨ml, me⟩, R0, ME0, B0, Lib.hid (Frm.refl _ _)⟩
  case round =>
    obtain ⟨mk, RM, ME64, BM, HF⟩ := hrel
    have FWR : Hid (Frm [] w wr) := Lib.hid (F1.out.trans HF.out (by simp) (fun x hx => by simp at hx; subst hx; exact .inr GS.out))
    have r0 := BM.out.cell 0
    have r1 := BM.out.cell 1
    have r2 := BM.out.cell 2
    simp only [List.getElem?_toArray, List.getElem?_cons_zero, List.getElem?_cons_succ] at r0 r1 r2
    have NX := Lib.hid (NEXT.out mk wr FWR.out)
    have ENX : Hid (nextV X o mk = match nextP X o mk with | some q => (q, true) | none => (endP X o, false)) := Lib.hid rfl
    unfold nextR LRet at NX
    obtain ⟨⟨q, b⟩, hv⟩ : ∃ v, v = nextV X o mk := ⟨_, rfl⟩
    rw [← hv] at NX ENX
    have NB : Hid ((b = false → nextP X o mk = none) ∧ (b = true → nextP X o mk = some q)) := Lib.hid (by
      have := ENX.out
      cases hnp : nextP X o mk with
      | none => rw [hnp] at this; simp only [Prod.mk.injEq] at this; exact ⟨fun _ => rfl, fun h => (by rw [this.2] at h; cases h)⟩
      | some p => rw [hnp] at this; simp only [Prod.mk.injEq] at this; exact ⟨fun h => (by rw [this.2] at h; cases h), fun _ => (by rw [this.1])⟩)
    have ME : Hid (restP X o ⟨cellN wr ⟨g, 0, none⟩, cellN wr ⟨g, 1, none⟩⟩ = restP X o mk) := Lib.hid (by rw [cellN_eq r0, cellN_eq r1])
    clear hv ENX
    have OFX := Lib.hid (fun z hz => OF.out mk q.l z hz)
    have OFRX := Lib.hid (OFR.out q.l)
    have STP : Hid (∀ gp, nextP X o mk = some q → Mem (ofH (hels Y) q.l) q.e → GapOf (ofH (hels Y) q.l) q.e gp → Step X o (hels Y) mk ⟨q.l, gp⟩) := Lib.hid (fun gp h1 h2 h3 => ⟨q, h1, h2, rfl, h3⟩)
    have ST : Hid ((∀ p, nextP X o mk = some p → ¬ Mem (ofH (hels Y) p.l) p.e) → Stop X o (hels Y) mk) := Lib.hid (fun h => h)
    obtain ⟨mkl, mke⟩ := mk
    obtain ⟨ql, qe⟩ := q
    unfold Ps.val at NX
    unfold crsV at OFX
    simp only at r0 r1 NX OFX OFRX BM ME64
    go_wp2_with fail
    (with_reducible refine NX.out.mono ?_)
    rintro e w2 ⟨rfl, hf2⟩
    obtain ⟨W, hW⟩ : ∃ W, W = w2.alloc (.cells #[.int .u64 (ql : Nat), .int .u64 (qe : Nat)] 25) := ⟨_, rfl⟩
    obtain ⟨y, hy⟩ : ∃ y, y = w2.heap.size := ⟨_, rfl⟩
    have FW : Hid (Frm [] wr W) := Lib.hid (by rw [hW]; exact hf2.alloc _)
    have BW : Hid (Whole W y 25 #[.int .u64 (ql : Nat), .int .u64 (qe : Nat)]) := Lib.hid (by rw [hW, hy]; exact Whole.made _ _ _)
    have YG : Hid (y ≠ g) := Lib.hid (by have := (hf2.whole BM.out (by simp)).lt; omega)
    have BG : Hid (Whole W g 28 #[.int .u64 (mkl : Nat), .int .u64 (mke : Nat), .slice a n cap]) := Lib.hid (FW.out.whole BM.out (by simp))
    have HWW := Lib.hid hW; clear hW
    have HY := Lib.hid hy; clear hy hf2 NX r0 r1 r2
    have FV : Hid (∀ z, Frm [] W z → Frm [] w z) := Lib.hid (fun z hz => FWR.out.trans (FW.out.trans hz (U := []) (by simp) (by simp)) (by simp) (by simp))
    have r0 : ∀ z, Frm [] W z → z.cell? ⟨g, 0, none⟩ = some (.int .u64 (mkl : Nat)) := fun z hz => (hz.whole BG.out (by simp)).cell 0
    have r1 : ∀ z, Frm [] W z → z.cell? ⟨g, 1, none⟩ = some (.int .u64 (mke : Nat)) := fun z hz => (hz.whole BG.out (by simp)).cell 1
    have r2 : ∀ z, Frm [] W z → z.cell? ⟨g, 2, none⟩ = some (.slice a n cap) := fun z hz => (hz.whole BG.out (by simp)).cell 2
    have z0 : ∀ z, Frm [] W z → z.cell? ⟨y, 0, none⟩ = some (.int .u64 (ql : Nat)) := fun z hz => (hz.whole BW.out (by simp)).cell 0
    have z1 : ∀ z, Frm [] W z → z.cell? ⟨y, 1, none⟩ = some (.int .u64 (qe : Nat)) := fun z hz => (hz.whole BW.out (by simp)).cell 1
    go_upto_region 2 with (fail)
    rw [← HWW.out, ← HY.out]
    cases b
    · have STO : Hid (Stop X o (hels Y) ⟨mkl, mke⟩) := Lib.hid (ST.out (fun p hp => by rw [NB.out.1 rfl] at hp; cases hp))
      refine wp_region_held_drew (S := fun w' => Frm [] W w') (by kernel_rfl) (Frm.drew (Frm.refl _ _)) (fun hHeld => ?_)
      refine wpAnyH_take (i := 0) (oi := ⟨some 20, _, _, _, _, _⟩) (v := ?_) rfl (by kernel_rfl) (by kernel_rfl) (by kernel_rfl) (fun _ _ _ h => h) (Or.inl ⟨by rfl, ?_⟩) (by assumption) ?_
      rotate_left 1
      · (intro w hSw; (try dsimp only at hSw); go_simp; all_goals with_reducible rfl)
      try simp only [Act.put, List.setIfInBounds_toArray, List.set_cons_zero, List.set_cons_succ]
      refine wpAnyH_take (i := 1) (oi := ⟨some 21, _, _, _, _, _⟩) (v := ?_) rfl (by kernel_rfl) (by kernel_rfl) (by kernel_rfl) (fun _ _ _ h => h) (Or.inl ⟨by rfl, ?_⟩) (by assumption) ?_
      rotate_left 1
      · (intro w hSw; (try dsimp only at hSw); go_simp; all_goals with_reducible rfl)
      try simp only [Act.put, List.setIfInBounds_toArray, List.set_cons_zero, List.set_cons_succ]
      refine wpAnyH_take (i := 2) (oi := ⟨some 22, _, _, _, _, _⟩) (v := ?_) rfl (by kernel_rfl) (by kernel_rfl) (by kernel_rfl) (fun _ _ _ h => h) (Or.inl ⟨by rfl, ?_⟩) (by assumption) ?_
      rotate_left 1
      · (intro w hSw; (try dsimp only at hSw); go_simp; all_goals with_reducible rfl)
      try simp only [Act.put, List.setIfInBounds_toArray, List.set_cons_zero, List.set_cons_succ]
      refine wpAnyH_take (i := 3) (oi := ⟨some 23, _, _, _, _, _⟩) (v := undef) rfl (by kernel_rfl) (by kernel_rfl) (by kernel_rfl) (fun _ _ _ h => h) (Or.inr ⟨by rfl, rfl⟩) (by assumption) ?_
      try simp only [Act.put, List.setIfInBounds_toArray, List.set_cons_zero, List.set_cons_succ]
      refine wpAnyH_take (i := 4) (oi := ⟨some 24, _, _, _, _, _⟩) (v := undef) rfl (by kernel_rfl) (by kernel_rfl) (by kernel_rfl) (fun _ _ _ h => h) (Or.inr ⟨by rfl, rfl⟩) (by assumption) ?_
      try simp only [Act.put, List.setIfInBounds_toArray, List.set_cons_zero, List.set_cons_succ]
      refine wpAnyH_take (i := 5) (oi := ⟨some 25, _, _, _, _, _⟩) (v := undef) rfl (by kernel_rfl) (by kernel_rfl) (by kernel_rfl) (fun _ _ _ h => h) (Or.inr ⟨by rfl, rfl⟩) (by assumption) ?_
      try simp only [Act.put, List.setIfInBounds_toArray, List.set_cons_zero, List.set_cons_succ]
      refine wpAnyH_take (i := 6) (oi := ⟨some 26, _, _, _, _, _⟩) (v := undef) rfl (by kernel_rfl) (by kernel_rfl) (by kernel_rfl) (fun _ _ _ h => h) (Or.inr ⟨by rfl, rfl⟩) (by assumption) ?_
      try simp only [Act.put, List.setIfInBounds_toArray, List.set_cons_zero, List.set_cons_succ]
      refine wpAnyH_take (i := 7) (oi := ⟨some 27, _, _, _, _, _⟩) (v := undef) rfl (by kernel_rfl) (by kernel_rfl) (by kernel_rfl) (fun _ _ _ h => h) (Or.inr ⟨by rfl, rfl⟩) (by assumption) ?_
      try simp only [Act.put, List.setIfInBounds_toArray, List.set_cons_zero, List.set_cons_succ]
      refine wpAnyH_take (i := 8) (oi := ⟨some 28, _, _, _, _, _⟩) (v := undef) rfl (by kernel_rfl) (by kernel_rfl) (by kernel_rfl) (fun _ _ _ h => h) (Or.inr ⟨by rfl, rfl⟩) (by assumption) ?_
      try simp only [Act.put, List.setIfInBounds_toArray, List.set_cons_zero, List.set_cons_succ]
      refine wpAnyH_take (i := 9) (oi := ⟨some 29, _, _, _, _, _⟩) (v := undef) rfl (by kernel_rfl) (by kernel_rfl) (by kernel_rfl) (fun _ _ _ h => h) (Or.inr ⟨by rfl, rfl⟩) (by assumption) ?_
      try simp only [Act.put, List.setIfInBounds_toArray, List.set_cons_zero, List.set_cons_succ]
      refine wpAnyH_take (i := 10) (oi := ⟨some 30, _, _, _, _, _⟩) (v := undef) rfl (by kernel_rfl) (by kernel_rfl) (by kernel_rfl) (fun _ _ _ h => h) (Or.inr ⟨by rfl, rfl⟩) (by assumption) ?_
      try simp only [Act.put, List.setIfInBounds_toArray, List.set_cons_zero, List.set_cons_succ]
      refine wpAnyH_take (i := 11) (oi := ⟨some 31, _, _, _, _, _⟩) (v := ?_) rfl (by kernel_rfl) (by kernel_rfl) (by kernel_rfl) (fun _ _ _ h => h) (Or.inl ⟨by rfl, ?_⟩) (by assumption) ?_
      rotate_left 1
      · (intro w hSw; (try dsimp only at hSw); go_simp; all_goals with_reducible rfl)
      try simp only [Act.put, List.setIfInBounds_toArray, List.set_cons_zero, List.set_cons_succ]
      refine wpAnyH_done (by kernel_rfl) ?_ _
      obtain ⟨V, hV⟩ : ∃ V, V = W.drew := ⟨_, rfl⟩
      rw [← hV] at hHeld ⊢
      clear hV
      clear NB OFX OFRX STP ST OF OFR
      have FVV : Hid (Frm [] W V) := Lib.hid hHeld
      obtain ⟨V2, hV2⟩ : ∃ V2, V2 = (V).alloc (.cells #[.int .u64 (mkl : Nat), .int .u64 (mke : Nat), .slice a n cap] 28) := ⟨_, rfl⟩
      obtain ⟨y2, hy2⟩ : ∃ y2, y2 = (V).heap.size := ⟨_, rfl⟩
      have GV : Hid (Whole V2 g 28 #[.int .u64 (mkl : Nat), .int .u64 (mke : Nat), .slice a n cap]) := Lib.hid (by rw [hV2]; exact (FVV.out.whole BG.out (by simp)).alloc _)
      have FX1 : Hid (Frm [g] w1 V) := Lib.hid (HF.out.trans (FW.out.trans hHeld (U := []) (by simp) (by simp)) (by simp) (by simp))
      have B1V0 : Hid (Whole V (g + 1) 28 #[.int .u64 0, .int .u64 0, .slice none 0 0]) := Lib.hid (FX1.out.whole B1.out (by simp))
      have B1V : Hid (Whole V2 (g + 1) 28 #[.int .u64 0, .int .u64 0, .slice none 0 0]) := Lib.hid (by rw [hV2]; exact B1V0.out.alloc _)
      have BO : Hid (Whole V2 y2 28 #[.int .u64 (mkl : Nat), .int .u64 (mke : Nat), .slice a n cap]) := Lib.hid (by rw [hV2, hy2]; exact Whole.made _ _ _)
      have W2 : Hid (Frm [] w V2) := Lib.hid (by rw [hV2]; exact (FV.out _ hHeld).alloc _)
      have YL : Hid (g + 1 < y2) := Lib.hid (by rw [hy2]; exact B1V0.out.lt)
      have Y2L : Hid (y2 < V2.heap.size) := Lib.hid BO.out.lt
      have FL2 : Hid (∀ z, Frm [] V2 z ∨ Frm [y2] V2 z → ∀ x ∈ y2 :: (g + 1) :: F, x < z.heap.size) := Lib.hid (fun z hz x hx => by
        have h1 : V2.heap.size ≤ z.heap.size := hz.elim (fun h => h.size) (fun h => h.size)
        have h2 := Y2L.out
        have h3 := YL.out
        have h4 := W2.out.size
        rcases List.mem_cons.1 hx with rfl | hx
        · omega
        · rcases List.mem_cons.1 hx with rfl | hx
          · omega
          · have := HF0.out x hx; omega)
      have IN2 : Hid (∀ x ∈ y2 :: (g + 1) :: F, x ∈ F ∨ w.heap.size ≤ x) := Lib.hid (fun x hx => by
        have h3 := YL.out
        have h4 := GS.out
        rcases List.mem_cons.1 hx with rfl | hx
        · exact .inr (by omega)
        · rcases List.mem_cons.1 hx with rfl | hx
          · exact .inr (by omega)
          · exact .inl hx)
      have HY2 : Hid (HxL V2 (y2 :: (g + 1) :: F) a Y) := Lib.hid (H.out.keep W2.out (by simp) IN2.out)
      have FWY : Hid (∀ z, Frm [y2] V2 z → Frm [] w z) := Lib.hid (fun z hz => W2.out.trans hz (by simp) (fun x hx => by
        have h3 := YL.out
        have h4 := GS.out
        simp at hx; subst hx; exact .inr (by omega)))
      have r0 := r0 _ hHeld
      have r1 := r1 _ hHeld
      have r2 := r2 _ hHeld
      have HV2 := Lib.hid hV2; clear hV2
      have HY2' := Lib.hid hy2; clear hy2 hHeld FX1 B1V0 z0 z1
      go_upto_region 5 with (fail)
      rw [← HV2.out, ← HY2'.out]
      clear r0 r1 r2
      go_wp2
      go_loopw [10] (fun s10 wr => ∃ (k : Nat) (aS : Option Addr) (cS : Nat) (S : List Hx), k ≤ n ∧ s10 = .int .i64 (k : Nat) ∧ Hid (hels S = ((hels Y).take k).foldl (stepT ⟨mkl, mke⟩) (hels Y)) ∧ Hid (S.length ≤ n + k ∧ Srt (hels S)) ∧ Hid (HxL wr (y2 :: (g + 1) :: F) aS S) ∧ Hid (Whole wr y2 28 #[.int .u64 (mkl : Nat), .int .u64 (mke : Nat), .slice aS S.length cS]) ∧ Hid (Frm [y2] V2 wr)) (fun s10 _ => n - (intOf s10).toNat)
      case atStart => exact ⟨0, a, cap, Y, Nat.zero_le _, rfl, Lib.hid rfl, Lib.hid ⟨by rw [HN.out]; omega, HS.out⟩, HY2, Lib.hid (by rw [← HN.out]; exact BO.out), Lib.hid (Frm.refl _ _)⟩
      case round =>
        obtain ⟨k, aS, cS, S, hk, rfl, FO, LN, HSR, BOR, F2⟩ := hrel
        have g0 := F2.out.whole GV.out (by simp only [List.mem_singleton]; have := YL.out; omega)
        have p0 := g0.cell 0
        have p1 := g0.cell 1
        have p2 := g0.cell 2
        simp only [List.getElem?_toArray, List.getElem?_cons_zero, List.getElem?_cons_succ] at p0 p1 p2
        by_cases hlt : k < n
        · have hlt' : (k : Int) < (n : Int) := by omega
          have hkY : k < Y.length := by have := HN.out; omega
          obtain ⟨b, off, rfl, d0, d1, hok⟩ := (H.out.sub (FWY.out _ F2.out)).at (i := k) hkY
          have OKX : Hid (HxOk w F (Y.getD k default)) := Lib.hid (H.out.ok _ (by simp [hkY]))
          have RTX : Hid ((Y.getD k default).t.2.length ≤ 400 ∧ Rt (Y.getD k default).t.2) := Lib.hid (HR.out _ (by simp [hkY]))
          have FN : Hid (((hels Y).take (k + 1)).foldl (stepT ⟨mkl, mke⟩) (hels Y) = stepT ⟨mkl, mke⟩ (hels S) (Y.getD k default).t) := Lib.hid (by rw [tightT_succ _ _ (by rw [hels_length]; exact hkY), ← FO.out, hels_getD])
          obtain ⟨x, hx⟩ : ∃ x, x = Y.getD k default := ⟨_, rfl⟩
          rw [← hx] at d0 d1 OKX RTX FN
          clear hx hok hkY
          obtain ⟨⟨led, rs⟩, ra, rc⟩ := x
          simp only at d0 d1 RTX FN
          obtain ⟨rn, hrn⟩ : ∃ rn, rn = rs.length := ⟨_, rfl⟩
          rw [← hrn] at d1
          have HRN2 := Lib.hid hrn; clear hrn
          obtain ⟨W3, hW3⟩ : ∃ W3, W3 = wr.alloc (.cells #[.int .u64 (led : Nat), .slice ra rn rc] 55) := ⟨_, rfl⟩
          obtain ⟨y3, hy3⟩ : ∃ y3, y3 = wr.heap.size := ⟨_, rfl⟩
          have FW3 : Hid (Frm [] wr W3) := Lib.hid (by rw [hW3]; exact (Frm.refl _ _).alloc _)
          have BW3 : Hid (Whole W3 y3 55 #[.int .u64 (led : Nat), .slice ra rn rc]) := Lib.hid (by rw [hW3, hy3]; exact Whole.made _ _ _)
          have BO3 : Hid (Whole W3 y2 28 #[.int .u64 (mkl : Nat), .int .u64 (mke : Nat), .slice aS S.length cS]) := Lib.hid (FW3.out.whole BOR.out (by simp))
          have GV3 : Hid (Whole W3 g 28 #[.int .u64 (mkl : Nat), .int .u64 (mke : Nat), .slice (some ⟨b, off, none⟩) n cap]) := Lib.hid (FW3.out.whole g0 (by simp))
          have F23 : Hid (Frm [y2] V2 W3) := Lib.hid (F2.out.trans FW3.out (by simp) (by simp))
          have HS3 : Hid (HxL W3 (y2 :: (g + 1) :: F) aS S) := Lib.hid (HSR.out.sub FW3.out)
          have N32 : Hid (y3 ≠ y2 ∧ y3 ≠ g ∧ g ≠ y2) := Lib.hid (by
            have h1 := BOR.out.lt
            have h2 := g0.lt
            have h3 := YL.out
            rw [hy3]; exact ⟨by omega, by omega, by omega⟩)
          have HW3 := Lib.hid hW3; clear hW3
          have HY3 := Lib.hid hy3; clear hy3 g0
          obtain ⟨sS, hsS⟩ : ∃ sS, sS = S.length := ⟨_, rfl⟩
          rw [← hsS] at BO3 BOR LN
          have HSS := Lib.hid hsS; clear hsS
          have LEN3 : Hid (sS ≤ 100000) := Lib.hid (by have := LN.out.1; omega)
          -- what a stored cursor leaves
          have KEEP : Hid (∀ z a4 n4 c4, Frm [y2] W3 z → HxL z (y2 :: (g + 1) :: F) a4 n4 → Whole z y2 28 #[.int .u64 (mkl : Nat), .int .u64 (mke : Nat), .slice aS sS cS] → (HxL (((z.setCell ⟨y2, 0, none⟩ (.int .u64 (mkl : Nat))).setCell ⟨y2, 1, none⟩ (.int .u64 (mke : Nat))).setCell ⟨y2, 2, none⟩ (.slice a4 n4.length c4)) (y2 :: (g + 1) :: F) a4 n4 ∧ Whole (((z.setCell ⟨y2, 0, none⟩ (.int .u64 (mkl : Nat))).setCell ⟨y2, 1, none⟩ (.int .u64 (mke : Nat))).setCell ⟨y2, 2, none⟩ (.slice a4 n4.length c4)) y2 28 #[.int .u64 (mkl : Nat), .int .u64 (mke : Nat), .slice a4 n4.length c4] ∧ Frm [y2] W3 (((z.setCell ⟨y2, 0, none⟩ (.int .u64 (mkl : Nat))).setCell ⟨y2, 1, none⟩ (.int .u64 (mke : Nat))).setCell ⟨y2, 2, none⟩ (.slice a4 n4.length c4)))) := Lib.hid (fun z a4 n4 c4 hz hl hw => by
            have f3 : Frm [y2] z (((z.setCell ⟨y2, 0, none⟩ (.int .u64 (mkl : Nat))).setCell ⟨y2, 1, none⟩ (.int .u64 (mke : Nat))).setCell ⟨y2, 2, none⟩ (.slice a4 n4.length c4)) := (((Frm.refl _ _).setCell (.inl (by simp)) _).setCell (.inl (by simp)) _).setCell (.inl (by simp)) _
            refine ⟨hl.keep f3 (fun x hx => .inl (by simp at hx; simp [hx])) (fun x hx => .inl hx), ?_, hz.trans f3 (by simp) (by simp)⟩
            have := ((hw.put 0 (.int .u64 (mkl : Nat))).put 1 (.int .u64 (mke : Nat))).put 2 (.slice a4 n4.length c4)
            simpa using this)
          go_upto_region 9 with (fail)
          rw [← HW3.out, ← HY3.out]
          clear p0 p1 p2 d0 d1
          have w0 := BW3.out.cell 0
          have w1' := BW3.out.cell 1
          have p0 := GV3.out.cell 0
          have p1 := GV3.out.cell 1
          have p2 := GV3.out.cell 2
          have o0 := BO3.out.cell 0
          have o1 := BO3.out.cell 1
          have o2 := BO3.out.cell 2
          simp only [List.getElem?_toArray, List.getElem?_cons_zero, List.getElem?_cons_succ] at w0 w1' p0 p1 p2 o0 o1 o2
          rcases Nat.lt_trichotomy led mkl with hc | hc | hc
          · have e1 : decide (led < mkl) = true := decide_eq_true hc
            have e1d : decide ((led : Int) < (mkl : Int)) = true := decide_eq_true (by omega)
            have e2 : ((led : Int) == (mkl : Int)) = false := by rw [beq_eq_false_iff_ne]; omega
            have HOLD := Lib.hid (crhold_any ⟨mkl, mke⟩ aS sS cS (y2 :: (g + 1) :: F) S led none 0 0 [] W3 HS3.out HSS.out LEN3.out ⟨Rr.nil _ _, fun h => absurd rfl h, fun _ => rfl, OKX.out.num, ⟨Nat.le_refl _, Nat.zero_le _⟩⟩ rfl (FL2.out _ (.inr F23.out)))
            obtain ⟨T, hT⟩ : ∃ T, T = hoX led ⟨(led, []), none, 0⟩ (decide (([] : List Rg) = [])) S := ⟨_, rfl⟩
            have TE : Hid (hels T = ((hels Y).take (k + 1)).foldl (stepT ⟨mkl, mke⟩) (hels Y)) := Lib.hid (by rw [hT, hels_hoX LN.out.2, FN.out]; unfold stepT; rw [if_pos hc])
            have TL : Hid (T.length ≤ n + (k + 1) ∧ Srt (hels T)) := Lib.hid (by
              rw [← hels_length T, TE.out, FN.out]
              have h1 := stepT_len (M := ⟨mkl, mke⟩) (S := hels S) (h := (led, rs))
              rw [hels_length, ← HSS.out] at h1
              have h2 := LN.out.1
              exact ⟨by omega, stepT_srt LN.out.2⟩)
            rw [← hT] at HOLD
            clear hT
            unfold CsEnd crsV at HOLD
            simp only at HOLD
            clear hc
            go_wp2_with fail
            (with_reducible refine HOLD.out.mono ?_)
            rintro e v4 ⟨a4, c4, rfl, hl4, _, hf4⟩
            have bo4 := hf4.whole BO3.out (by simp)
            have kk := KEEP.out v4 a4 T c4 (hf4.weak (by simp)) hl4 bo4
            obtain ⟨tn, htn⟩ : ∃ tn, tn = T.length := ⟨_, rfl⟩
            rw [← htn] at kk ⊢
            have HTN := Lib.hid htn; clear htn
            obtain ⟨K1, K2, K3⟩ := kk
            have x0 := (K3.whole BW3.out (by simp only [List.mem_singleton]; exact N32.out.1)).cell 0
            have x1 := (K3.whole BW3.out (by simp only [List.mem_singleton]; exact N32.out.1)).cell 1
            have x2 := (K3.whole GV3.out (by simp only [List.mem_singleton]; exact N32.out.2.2)).cell 0
            have x3 := (K3.whole GV3.out (by simp only [List.mem_singleton]; exact N32.out.2.2)).cell 1
            have q0 := bo4.cell 0
            have q1 := bo4.cell 1
            have q2 := bo4.cell 2
            have k0 := bo4.free 0
            have k1 := bo4.free 1
            have k2 := bo4.free 2
            simp only [List.getElem?_toArray, List.getElem?_cons_zero, List.getElem?_cons_succ] at q0 q1 q2 x0 x1 x2 x3
            have K1 := Lib.hid K1
            have K2 : Hid (Whole _ y2 28 #[.int .u64 (mkl : Nat), .int .u64 (mke : Nat), .slice a4 T.length c4]) := Lib.hid (by rw [← HTN.out]; exact K2)
            have K3 : Hid (Frm [y2] V2 _) := Lib.hid (F23.out.trans K3 (by simp) (by simp))
            clear bo4 hf4 hl4 w0 w1' p0 p1 p2 o0 o1 o2
            go_wp2
            go_roundw
            case rel => exact ⟨k + 1, a4, c4, T, by omega, by go_num, TE, TL, K1, K2, K3⟩
            case measure => simp [intOf]; omega
          · have e1 : decide (led < mkl) = false := decide_eq_false (by omega)
            have e1d : decide ((led : Int) < (mkl : Int)) = false := decide_eq_false (by omega)
            have e2 : ((led : Int) == (mkl : Int)) = true := by rw [beq_iff_eq]; omega
            have RS3 : Hid (Rr W3 ra rs) := Lib.hid (OKX.out.rs.keep0 (FWY.out _ F23.out))
            have SETC : Hid (∀ z ad, Frm [] W3 z → Rr z (some ad) [((0, mke) : Rg)] → Calls Try.prog 34 #[.slice ra rn rc, .slice (some ad) 1 1] z (GotS z (fun x => Mem rs x ∧ ¬ Mem [((0, mke) : Rg)] x))) := Lib.hid (fun z ad hz h1 => (set_any (RS3.out.keep0 hz) HRN2.out OKX.out.nil h1 rfl (fun h => by cases h) (by have h1 := RTX.out.1; have h2 := HRN2.out; show rn + 1 ≤ 1000; omega)).mono fun e w' hh => hh.s)
            have RONE : Hid (∀ z : World, Rr (z.alloc (.cells #[.int .u64 0, .int .u64 (mke : Nat)] 71)) (some ⟨z.heap.size, 0, none⟩) [((0, mke) : Rg)]) := Lib.hid (fun z => by
              refine ⟨fun p hp => by simp at hp; subst hp; exact ⟨by show 0 < _; decide, ME64.out⟩, fun _ => ⟨_, _, rfl, fun i hi => ?_⟩⟩
              have hb := Whole.made z 71 #[.int .u64 0, .int .u64 (mke : Nat)]
              simp at hi
              subst hi
              exact ⟨hb.cell 0, hb.cell 1⟩)
            have SETM : Hid (∀ out, Rt out → (∀ x, Mem out x ↔ Mem rs x ∧ ¬ Mem [((0, mke) : Rg)] x) → out = minR rs mke) := Lib.hid (fun out h1 h2 => rt_uniq h1 (rt_minR RTX.out.2 _) (fun x => by
              rw [h2, mem_minR]
              refine and_congr_right fun _ => ?_
              unfold Mem
              simp))
            have HOLD := Lib.hid (fun z (la : Option Addr) (ln lc : Nat) (l : List Rg) (hz : Frm [] W3 z) (hl : HxOk z (y2 :: (g + 1) :: F) ⟨(led, l), la, lc⟩) (hln : ln = l.length) => crhold_any ⟨mkl, mke⟩ aS sS cS (y2 :: (g + 1) :: F) S led la ln lc l z (HS3.out.sub hz) HSS.out LEN3.out hl hln (FL2.out _ (.inr (F23.out.trans hz (by simp) (by simp)))))
            have OKL : Hid (∀ z la lc, (Rr z la (minR rs mke) ∧ (la = none → lc = 0) ∧ (minR rs mke).length ≤ lc ∧ lc ≤ 9223372036854775807) → (∀ q, la = some q → V2.heap.size ≤ q.block) → HxOk z (y2 :: (g + 1) :: F) ⟨(led, minR rs mke), la, lc⟩) := Lib.hid (fun z la lc h1 h2 => ⟨h1.1, fun _ q hq hm => by have h3 := h2 q hq; have h4 := FL2.out V2 (.inl (Frm.refl _ _)) _ hm; omega, h1.2.1, OKX.out.num, h1.2.2⟩)
            unfold CsEnd crsV at HOLD
            simp only at HOLD
            have HC := Lib.hid hc; clear hc
            have hd : Frm [] W3 W3.drew := (Frm.refl _ _).drew
            have ww0 : ∀ z, Frm [y2] W3 z → z.cell? ⟨y3, 0, none⟩ = some (.int .u64 (led : Nat)) := fun z hz => (hz.whole BW3.out (by simp only [List.mem_singleton]; exact N32.out.1)).cell 0
            have ww1 : ∀ z, Frm [y2] W3 z → z.cell? ⟨y3, 1, none⟩ = some (.slice ra rn rc) := fun z hz => (hz.whole BW3.out (by simp only [List.mem_singleton]; exact N32.out.1)).cell 1
            have gg0 : ∀ z, Frm [y2] W3 z → z.cell? ⟨g, 0, none⟩ = some (.int .u64 (mkl : Nat)) := fun z hz => (hz.whole GV3.out (by simp only [List.mem_singleton]; exact N32.out.2.2)).cell 0
            have gg1 : ∀ z, Frm [y2] W3 z → z.cell? ⟨g, 1, none⟩ = some (.int .u64 (mke : Nat)) := fun z hz => (hz.whole GV3.out (by simp only [List.mem_singleton]; exact N32.out.2.2)).cell 1
            go_wp2
            clear w0 w1' p0 p1 p2
            have oo0 : ∀ z, Frm [] W3 z → z.cell? ⟨y2, 0, none⟩ = some (.int .u64 (mkl : Nat)) := fun z hz => (hz.whole BO3.out (by simp)).cell 0
            have oo1 : ∀ z, Frm [] W3 z → z.cell? ⟨y2, 1, none⟩ = some (.int .u64 (mke : Nat)) := fun z hz => (hz.whole BO3.out (by simp)).cell 1
            have oo2 : ∀ z, Frm [] W3 z → z.cell? ⟨y2, 2, none⟩ = some (.slice aS sS cS) := fun z hz => (hz.whole BO3.out (by simp)).cell 2
            refine wp_region_held_drew (S := fun w' => Frm [y2] W3 w') (by kernel_rfl) (Frm.drew (Frm.refl _ _)) (fun hHeld => ?_)
            refine wpAnyH_take (i := 1) (oi := ⟨some 73, _, _, _, _, _⟩) (v := ?_) rfl (by kernel_rfl) (by kernel_rfl) (by kernel_rfl) (fun _ _ _ h => h) (Or.inl ⟨by rfl, ?_⟩) (by assumption) ?_
            rotate_left 1
            · (intro w hSw; (try dsimp only at hSw); go_simp; all_goals with_reducible rfl)
            try simp only [Act.put, List.setIfInBounds_toArray, List.set_cons_zero, List.set_cons_succ]
            refine wpAnyH_take (i := 2) (oi := ⟨some 74, _, _, _, _, _⟩) (v := ?_) rfl (by kernel_rfl) (by kernel_rfl) (by kernel_rfl) (fun _ _ _ h => h) (Or.inl ⟨by rfl, ?_⟩) (by assumption) ?_
            rotate_left 1
            · (intro w hSw; (try dsimp only at hSw); go_simp; all_goals with_reducible rfl)
            try simp only [Act.put, List.setIfInBounds_toArray, List.set_cons_zero, List.set_cons_succ]
            refine wpAnyH_take (i := 3) (oi := ⟨some 75, _, _, _, _, _⟩) (v := ?_) rfl (by kernel_rfl) (by kernel_rfl) (by kernel_rfl) (fun _ _ _ h => h) (Or.inl ⟨by rfl, ?_⟩) (by assumption) ?_
            rotate_left 1
            · (intro w hSw; (try dsimp only at hSw); go_simp; all_goals with_reducible rfl)
            try simp only [Act.put, List.setIfInBounds_toArray, List.set_cons_zero, List.set_cons_succ]
            refine wpAnyH_take (i := 4) (oi := ⟨some 76, _, _, _, _, _⟩) (v := ?_) rfl (by kernel_rfl) (by kernel_rfl) (by kernel_rfl) (fun _ _ _ h => h) (Or.inl ⟨by rfl, ?_⟩) (by assumption) ?_
            rotate_left 1
            · (intro w hSw; (try dsimp only at hSw); go_simp; all_goals with_reducible rfl)
            try simp only [Act.put, List.setIfInBounds_toArray, List.set_cons_zero, List.set_cons_succ]
            refine wpAnyH_take (i := 5) (oi := ⟨some 77, _, _, _, _, _⟩) (v := ?_) rfl (by kernel_rfl) (by kernel_rfl) (by kernel_rfl) (fun _ _ _ h => h) (Or.inl ⟨by rfl, ?_⟩) (by assumption) ?_
            rotate_left 1
            · (intro w hSw; (try dsimp only at hSw); go_simp; all_goals with_reducible rfl)
            try simp only [Act.put, List.setIfInBounds_toArray, List.set_cons_zero, List.set_cons_succ]
            refine wpAnyH_take (i := 6) (oi := ⟨some 78, _, _, _, _, _⟩) (v := ?_) rfl (by kernel_rfl) (by kernel_rfl) (by kernel_rfl) (fun _ _ _ h => h) (Or.inl ⟨by rfl, ?_⟩) (by assumption) ?_
            rotate_left 1
            · (intro w hSw; (try dsimp only at hSw); go_simp; all_goals with_reducible rfl)
            try simp only [Act.put, List.setIfInBounds_toArray, List.set_cons_zero, List.set_cons_succ]
            refine wpAnyH_take (i := 7) (oi := ⟨some 79, _, _, _, _, _⟩) (v := ?_) rfl (by kernel_rfl) (by kernel_rfl) (by kernel_rfl) (fun _ _ _ h => h) (Or.inl ⟨by rfl, ?_⟩) (by assumption) ?_
            rotate_left 1
            · (intro w hSw; (try dsimp only at hSw); go_simp; all_goals with_reducible rfl)
            try simp only [Act.put, List.setIfInBounds_toArray, List.set_cons_zero, List.set_cons_succ]
            refine wpAnyH_take (i := 8) (oi := ⟨some 80, _, _, _, _, _⟩) (v := ?_) rfl (by kernel_rfl) (by kernel_rfl) (by kernel_rfl) (fun _ _ _ h => h) (Or.inl ⟨by rfl, ?_⟩) (by assumption) ?_
            rotate_left 1
            · (intro w hSw; (try dsimp only at hSw); go_simp; all_goals with_reducible rfl)
            try simp only [Act.put, List.setIfInBounds_toArray, List.set_cons_zero, List.set_cons_succ]
            refine wpAnyH_ready (rs := [0, 9]) (by kernel_rfl) (by simp) ?_
            refine AllReadyH.cons (o := ⟨some 72, _, _, _, _, _⟩) rfl (fun K hK => ?_) (AllReadyH.cons (o := ⟨some 81, _, _, _, _, _⟩) rfl (fun K hK => ?_) AllReadyH.nil)
            · go_simp
              refine hK.out _ _ (by assumption) (fun hHeld => ?_)
              clear hK K
              try simp only [Act.put, List.setIfInBounds_toArray, List.set_cons_zero, List.set_cons_succ]
              refine wpAnyH_ready (rs := [9]) (by kernel_rfl) (by simp) ?_
              refine AllReadyH.cons (o := ⟨some 81, _, _, _, _, _⟩) rfl (fun K hK => ?_) AllReadyH.nil
              go_simp
              refine hK.out _ _ (by repeat (first | assumption | apply Frm.alloc | apply Frm.drew | exact Frm.refl _ _)) (fun hHeld => ?_)
              clear hK K
              try simp only [Act.put, List.setIfInBounds_toArray, List.set_cons_zero, List.set_cons_succ]
              obtain ⟨v4, hv4⟩ : ∃ v4, v4 = (W3.alloc (.cells #[.int .u64 0, .int .u64 (mke : Nat)] 71)).drew := ⟨_, rfl⟩
              have P4 : Frm [] W3 v4 := by rw [hv4]; exact ((Frm.refl _ _).alloc _).drew
              have R4 : Hid (Rr v4 (some ⟨W3.heap.size, 0, none⟩) [((0, mke) : Rg)]) := Lib.hid (by rw [hv4]; exact (RONE.out W3).keep0 ((Frm.refl _ _).drew))
              rw [← hv4] at hHeld ⊢
              have HV4 := Lib.hid hv4; clear hv4
              refine wpAnyH_ready (rs := [10]) (by kernel_rfl) (by simp) ?_
              refine AllReadyH.cons (o := ⟨some 82, _, _, _, _, _⟩) rfl (fun K hK => ?_) AllReadyH.nil
              go_simp
              go_at_call 34
              (with_reducible refine (SETC.out _ _ P4 R4.out).mono ?_)
              rintro e v5 ⟨a5, m5, c5, out, rfl, HM5, RR5, FR5, RT5, MM5, FV5⟩
              obtain rfl := SETM.out out RT5.out MM5.out
              have P5 : Frm [] W3 v5 := P4.trans FV5.out (by simp) (by simp)
              have hHeld5 : Frm [y2] W3 v5 := hHeld.trans FV5.out (by simp) (by simp)
              have OK5 := Lib.hid (OKL.out v5 a5 c5 RR5.out (fun q hq => Nat.le_trans (Nat.le_trans F23.out.size P4.size) (FR5.out q hq)))
              go_wp2_with fail
              refine hK.out _ _ (by assumption) (fun hHeld => ?_)
              clear hK K
              try simp only [Act.put, List.setIfInBounds_toArray, List.set_cons_zero, List.set_cons_succ]
              refine wpAnyH_ready (rs := [11]) (by kernel_rfl) (by simp) ?_
              refine AllReadyH.cons (o := ⟨some 83, _, _, _, _, _⟩) rfl (fun K hK => ?_) AllReadyH.nil
              go_simp
              go_at_call 40
              (with_reducible refine (HOLD.out _ a5 m5 c5 _ P5 OK5.out HM5.out).mono ?_)
              rintro e v6 ⟨a6, c6, rfl, hl6, _, hf6⟩
              have P6 : Hid (Frm [] W3 v6) := Lib.hid (P5.trans hf6 (by simp) (by simp))
              have hHeld6 : Frm [y2] W3 v6 := hHeld.trans hf6 (by simp) (by simp)
              have HL6 := Lib.hid hl6; clear hl6 hf6
              go_wp2_with fail
              refine hK.out _ _ (by assumption) (fun hHeld => ?_)
              clear hK K
              try simp only [Act.put, List.setIfInBounds_toArray, List.set_cons_zero, List.set_cons_succ]
              obtain ⟨T, hT⟩ : ∃ T, T = hoX led ⟨(led, minR rs mke), a5, c5⟩ (decide (minR rs mke = [])) S := ⟨_, rfl⟩
              have TE : Hid (hels T = ((hels Y).take (k + 1)).foldl (stepT ⟨mkl, mke⟩) (hels Y)) := Lib.hid (by rw [hT, hels_hoX LN.out.2, FN.out]; unfold stepT; rw [if_neg (by have := HC.out; simp only; omega), if_pos (by simp only; exact HC.out)])
              have TL : Hid (T.length ≤ n + (k + 1) ∧ Srt (hels T)) := Lib.hid (by
                rw [← hels_length T, TE.out, FN.out]
                have h1 := stepT_len (M := ⟨mkl, mke⟩) (S := hels S) (h := (led, rs))
                rw [hels_length, ← HSS.out] at h1
                have h2 := LN.out.1
                exact ⟨by omega, stepT_srt LN.out.2⟩)
              rw [← hT] at HL6 ⊢
              clear hT
              have bo4 := P6.out.whole BO3.out (by simp)
              obtain ⟨K1, K2, K3⟩ := KEEP.out v6 a6 T c6 hHeld HL6.out bo4
              have q0 := bo4.cell 0
              have q1 := bo4.cell 1
              have q2 := bo4.cell 2
              have k0 := bo4.free 0
              have k1 := bo4.free 1
              have k2 := bo4.free 2
              simp only [List.getElem?_toArray, List.getElem?_cons_zero, List.getElem?_cons_succ] at q0 q1 q2
              have K1 := Lib.hid K1
              have K2 := Lib.hid K2
              have K4 : Hid (Frm [y2] V2 _) := Lib.hid (F23.out.trans K3 (by simp) (by simp))
              clear bo4
              refine wpAnyH_ready (rs := [12]) (by kernel_rfl) (by simp) ?_
              refine AllReadyH.cons (o := ⟨none, _, _, _, _, _⟩) rfl (fun K hK => ?_) AllReadyH.nil
              go_simp
              refine hK.out _ _ (by assumption) (fun hHeld => ?_)
              clear hK K
              refine wpAnyH_done (by kernel_rfl) ?_ _
              clear o0 o1 o2 oo0 oo1 oo2 q0 q1 q2 k0 k1 k2 ww0 ww1 gg0 gg1 hd hHeld K3 hHeld6
              go_wp2
              go_roundw
              case rel => exact ⟨k + 1, a6, c6, T, by omega, by go_num, TE, TL, K1, K2, K4⟩
              case measure => simp [intOf]; omega
            · go_simp
              refine hK.out _ _ (by repeat (first | assumption | apply Frm.alloc | apply Frm.drew | exact Frm.refl _ _)) (fun hHeld => ?_)
              clear hK K
              try simp only [Act.put, List.setIfInBounds_toArray, List.set_cons_zero, List.set_cons_succ]
              obtain ⟨v4, hv4⟩ : ∃ v4, v4 = (W3.alloc (.cells #[.int .u64 0, .int .u64 (mke : Nat)] 71)).drew := ⟨_, rfl⟩
              have P4 : Frm [] W3 v4 := by rw [hv4]; exact ((Frm.refl _ _).alloc _).drew
              have R4 : Hid (Rr v4 (some ⟨W3.heap.size, 0, none⟩) [((0, mke) : Rg)]) := Lib.hid (by rw [hv4]; exact (RONE.out W3).keep0 ((Frm.refl _ _).drew))
              rw [← hv4] at hHeld ⊢
              have HV4 := Lib.hid hv4; clear hv4
              refine wpAnyH_ready (rs := [0, 10]) (by kernel_rfl) (by simp) ?_
              refine AllReadyH.cons (o := ⟨some 72, _, _, _, _, _⟩) rfl (fun K hK => ?_) (AllReadyH.cons (o := ⟨some 82, _, _, _, _, _⟩) rfl (fun K hK => ?_) AllReadyH.nil)
              · go_simp
                refine hK.out _ _ (by assumption) (fun hHeld => ?_)
                clear hK K
                try simp only [Act.put, List.setIfInBounds_toArray, List.set_cons_zero, List.set_cons_succ]
                refine wpAnyH_ready (rs := [10]) (by kernel_rfl) (by simp) ?_
                refine AllReadyH.cons (o := ⟨some 82, _, _, _, _, _⟩) rfl (fun K hK => ?_) AllReadyH.nil
                go_simp
                go_at_call 34
                (with_reducible refine (SETC.out _ _ P4 R4.out).mono ?_)
                rintro e v5 ⟨a5, m5, c5, out, rfl, HM5, RR5, FR5, RT5, MM5, FV5⟩
                obtain rfl := SETM.out out RT5.out MM5.out
                have P5 : Frm [] W3 v5 := P4.trans FV5.out (by simp) (by simp)
                have hHeld5 : Frm [y2] W3 v5 := hHeld.trans FV5.out (by simp) (by simp)
                have OK5 := Lib.hid (OKL.out v5 a5 c5 RR5.out (fun q hq => Nat.le_trans (Nat.le_trans F23.out.size P4.size) (FR5.out q hq)))
                go_wp2_with fail
                refine hK.out _ _ (by assumption) (fun hHeld => ?_)
                clear hK K
                try simp only [Act.put, List.setIfInBounds_toArray, List.set_cons_zero, List.set_cons_succ]
                refine wpAnyH_ready (rs := [11]) (by kernel_rfl) (by simp) ?_
                refine AllReadyH.cons (o := ⟨some 83, _, _, _, _, _⟩) rfl (fun K hK => ?_) AllReadyH.nil
                go_simp
                go_at_call 40
                (with_reducible refine (HOLD.out _ a5 m5 c5 _ P5 OK5.out HM5.out).mono ?_)
                rintro e v6 ⟨a6, c6, rfl, hl6, _, hf6⟩
                have P6 : Hid (Frm [] W3 v6) := Lib.hid (P5.trans hf6 (by simp) (by simp))
                have hHeld6 : Frm [y2] W3 v6 := hHeld.trans hf6 (by simp) (by simp)
                have HL6 := Lib.hid hl6; clear hl6 hf6
                go_wp2_with fail
                refine hK.out _ _ (by assumption) (fun hHeld => ?_)
                clear hK K
                try simp only [Act.put, List.setIfInBounds_toArray, List.set_cons_zero, List.set_cons_succ]
                obtain ⟨T, hT⟩ : ∃ T, T = hoX led ⟨(led, minR rs mke), a5, c5⟩ (decide (minR rs mke = [])) S := ⟨_, rfl⟩
                have TE : Hid (hels T = ((hels Y).take (k + 1)).foldl (stepT ⟨mkl, mke⟩) (hels Y)) := Lib.hid (by rw [hT, hels_hoX LN.out.2, FN.out]; unfold stepT; rw [if_neg (by have := HC.out; simp only; omega), if_pos (by simp only; exact HC.out)])
                have TL : Hid (T.length ≤ n + (k + 1) ∧ Srt (hels T)) := Lib.hid (by
                  rw [← hels_length T, TE.out, FN.out]
                  have h1 := stepT_len (M := ⟨mkl, mke⟩) (S := hels S) (h := (led, rs))
                  rw [hels_length, ← HSS.out] at h1
                  have h2 := LN.out.1
                  exact ⟨by omega, stepT_srt LN.out.2⟩)
                rw [← hT] at HL6 ⊢
                clear hT
                have bo4 := P6.out.whole BO3.out (by simp)
                obtain ⟨K1, K2, K3⟩ := KEEP.out v6 a6 T c6 hHeld HL6.out bo4
                have q0 := bo4.cell 0
                have q1 := bo4.cell 1
                have q2 := bo4.cell 2
                have k0 := bo4.free 0
                have k1 := bo4.free 1
                have k2 := bo4.free 2
                simp only [List.getElem?_toArray, List.getElem?_cons_zero, List.getElem?_cons_succ] at q0 q1 q2
                have K1 := Lib.hid K1
                have K2 := Lib.hid K2
                have K4 : Hid (Frm [y2] V2 _) := Lib.hid (F23.out.trans K3 (by simp) (by simp))
                clear bo4
                refine wpAnyH_ready (rs := [12]) (by kernel_rfl) (by simp) ?_
                refine AllReadyH.cons (o := ⟨none, _, _, _, _, _⟩) rfl (fun K hK => ?_) AllReadyH.nil
                go_simp
                refine hK.out _ _ (by assumption) (fun hHeld => ?_)
                clear hK K
                refine wpAnyH_done (by kernel_rfl) ?_ _
                clear o0 o1 o2 oo0 oo1 oo2 q0 q1 q2 k0 k1 k2 ww0 ww1 gg0 gg1 hd hHeld K3 hHeld6
                go_wp2
                go_roundw
                case rel => exact ⟨k + 1, a6, c6, T, by omega, by go_num, TE, TL, K1, K2, K4⟩
                case measure => simp [intOf]; omega
              · go_simp
                go_at_call 34
                (with_reducible refine (SETC.out _ _ P4 R4.out).mono ?_)
                rintro e v5 ⟨a5, m5, c5, out, rfl, HM5, RR5, FR5, RT5, MM5, FV5⟩
                obtain rfl := SETM.out out RT5.out MM5.out
                have P5 : Frm [] W3 v5 := P4.trans FV5.out (by simp) (by simp)
                have hHeld5 : Frm [y2] W3 v5 := hHeld.trans FV5.out (by simp) (by simp)
                have OK5 := Lib.hid (OKL.out v5 a5 c5 RR5.out (fun q hq => Nat.le_trans (Nat.le_trans F23.out.size P4.size) (FR5.out q hq)))
                go_wp2_with fail
                refine hK.out _ _ (by assumption) (fun hHeld => ?_)
                clear hK K
                try simp only [Act.put, List.setIfInBounds_toArray, List.set_cons_zero, List.set_cons_succ]
                refine wpAnyH_ready (rs := [0]) (by kernel_rfl) (by simp) ?_
                refine AllReadyH.cons (o := ⟨some 72, _, _, _, _, _⟩) rfl (fun K hK => ?_) AllReadyH.nil
                go_simp
                refine hK.out _ _ (by assumption) (fun hHeld => ?_)
                clear hK K
                try simp only [Act.put, List.setIfInBounds_toArray, List.set_cons_zero, List.set_cons_succ]
                refine wpAnyH_ready (rs := [11]) (by kernel_rfl) (by simp) ?_
                refine AllReadyH.cons (o := ⟨some 83, _, _, _, _, _⟩) rfl (fun K hK => ?_) AllReadyH.nil
                go_simp
                go_at_call 40
                (with_reducible refine (HOLD.out _ a5 m5 c5 _ P5 OK5.out HM5.out).mono ?_)
                rintro e v6 ⟨a6, c6, rfl, hl6, _, hf6⟩
                have P6 : Hid (Frm [] W3 v6) := Lib.hid (P5.trans hf6 (by simp) (by simp))
                have hHeld6 : Frm [y2] W3 v6 := hHeld.trans hf6 (by simp) (by simp)
                have HL6 := Lib.hid hl6; clear hl6 hf6
                go_wp2_with fail
                refine hK.out _ _ (by assumption) (fun hHeld => ?_)
                clear hK K
                try simp only [Act.put, List.setIfInBounds_toArray, List.set_cons_zero, List.set_cons_succ]
                obtain ⟨T, hT⟩ : ∃ T, T = hoX led ⟨(led, minR rs mke), a5, c5⟩ (decide (minR rs mke = [])) S := ⟨_, rfl⟩
                have TE : Hid (hels T = ((hels Y).take (k + 1)).foldl (stepT ⟨mkl, mke⟩) (hels Y)) := Lib.hid (by rw [hT, hels_hoX LN.out.2, FN.out]; unfold stepT; rw [if_neg (by have := HC.out; simp only; omega), if_pos (by simp only; exact HC.out)])
                have TL : Hid (T.length ≤ n + (k + 1) ∧ Srt (hels T)) := Lib.hid (by
                  rw [← hels_length T, TE.out, FN.out]
                  have h1 := stepT_len (M := ⟨mkl, mke⟩) (S := hels S) (h := (led, rs))
                  rw [hels_length, ← HSS.out] at h1
                  have h2 := LN.out.1
                  exact ⟨by omega, stepT_srt LN.out.2⟩)
                rw [← hT] at HL6 ⊢
                clear hT
                have bo4 := P6.out.whole BO3.out (by simp)
                obtain ⟨K1, K2, K3⟩ := KEEP.out v6 a6 T c6 hHeld HL6.out bo4
                have q0 := bo4.cell 0
                have q1 := bo4.cell 1
                have q2 := bo4.cell 2
                have k0 := bo4.free 0
                have k1 := bo4.free 1
                have k2 := bo4.free 2
                simp only [List.getElem?_toArray, List.getElem?_cons_zero, List.getElem?_cons_succ] at q0 q1 q2
                have K1 := Lib.hid K1
                have K2 := Lib.hid K2
                have K4 : Hid (Frm [y2] V2 _) := Lib.hid (F23.out.trans K3 (by simp) (by simp))
                clear bo4
                refine wpAnyH_ready (rs := [12]) (by kernel_rfl) (by simp) ?_
                refine AllReadyH.cons (o := ⟨none, _, _, _, _, _⟩) rfl (fun K hK => ?_) AllReadyH.nil
                go_simp
                refine hK.out _ _ (by assumption) (fun hHeld => ?_)
                clear hK K
                refine wpAnyH_done (by kernel_rfl) ?_ _
                clear o0 o1 o2 oo0 oo1 oo2 q0 q1 q2 k0 k1 k2 ww0 ww1 gg0 gg1 hd hHeld K3 hHeld6
                go_wp2
                go_roundw
                case rel => exact ⟨k + 1, a6, c6, T, by omega, by go_num, TE, TL, K1, K2, K4⟩
                case measure => simp [intOf]; omega
          · have e1 : decide (led < mkl) = false := decide_eq_false (by omega)
            have e1d : decide ((led : Int) < (mkl : Int)) = false := decide_eq_false (by omega)
            have e2 : ((led : Int) == (mkl : Int)) = false := by rw [beq_eq_false_iff_ne]; omega
            have TE : Hid (hels S = ((hels Y).take (k + 1)).foldl (stepT ⟨mkl, mke⟩) (hels Y)) := Lib.hid (by rw [FN.out]; unfold stepT; rw [if_neg (by simp only; omega), if_neg (by simp only; omega)])
            have TL : Hid (S.length ≤ n + (k + 1) ∧ Srt (hels S)) := Lib.hid (by rw [← HSS.out]; exact ⟨by have := LN.out.1; omega, LN.out.2⟩)
            have BO3' : Hid (Whole W3 y2 28 #[.int .u64 (mkl : Nat), .int .u64 (mke : Nat), .slice aS S.length cS]) := Lib.hid (by rw [← HSS.out]; exact BO3.out)
            clear hc
            go_wp2
            go_roundw
            case rel => exact ⟨k + 1, aS, cS, S, by omega, by go_num, TE, TL, HS3, BO3', F23⟩
            case measure => simp [intOf]; omega
        · obtain rfl : k = n := by omega
          have TE : Hid (hels S = tightH ⟨mkl, mke⟩ (hels Y)) := Lib.hid (by rw [FO.out, HN.out, ← hels_length, List.take_length]; rfl)
          have b1 := F2.out.whole B1V.out (by simp only [List.mem_singleton]; have := YL.out; omega)
          obtain ⟨sS, hsS⟩ : ∃ sS, sS = S.length := ⟨_, rfl⟩
          have bo := BOR.out
          rw [← hsS] at bo
          have FIN : Hid (Whole (((wr.setCell ⟨g + 1, 0, none⟩ (.int .u64 (mkl : Nat))).setCell ⟨g + 1, 1, none⟩ (.int .u64 (mke : Nat))).setCell ⟨g + 1, 2, none⟩ (.slice aS sS cS)) (g + 1) 28 #[.int .u64 (mkl : Nat), .int .u64 (mke : Nat), .slice aS sS cS] ∧ Q (.returned (.agg #[.int .u64 (mkl : Nat), .int .u64 (mke : Nat), .slice aS sS cS])) (((wr.setCell ⟨g + 1, 0, none⟩ (.int .u64 (mkl : Nat))).setCell ⟨g + 1, 1, none⟩ (.int .u64 (mke : Nat))).setCell ⟨g + 1, 2, none⟩ (.slice aS sS cS))) := Lib.hid (by
            refine ⟨?_, ?_⟩
            · have := ((b1.put 0 (.int .u64 (mkl : Nat))).put 1 (.int .u64 (mke : Nat))).put 2 (.slice aS sS cS)
              simpa using this
            · rw [HQ.out]
              have f3 : Frm [g + 1] wr (((wr.setCell ⟨g + 1, 0, none⟩ (.int .u64 (mkl : Nat))).setCell ⟨g + 1, 1, none⟩ (.int .u64 (mke : Nat))).setCell ⟨g + 1, 2, none⟩ (.slice aS sS cS)) := (((Frm.refl _ _).setCell (.inl (by simp)) _).setCell (.inl (by simp)) _).setCell (.inl (by simp)) _
              exact ⟨⟨mkl, mke⟩, S, aS, cS, by unfold crsV; rw [hsS], RM.out, STO.out, TE.out, HSR.out.keep f3 (fun x hx => .inl (by simp at hx; simp [hx])) (fun x hx => .inl (by simp [hx])), (FWY.out _ F2.out).trans f3 (by simp) (fun x hx => .inr (by simp at hx; have := GS.out; omega))⟩)
          obtain ⟨FW1, FW2⟩ := FIN.out
          have FW1 := Lib.hid FW1
          have FW2 := Lib.hid FW2
          have o0 := bo.cell 0
          have o1 := bo.cell 1
          have o2 := bo.cell 2
          have q0 := b1.cell 0
          have q1 := b1.cell 1
          have q2 := b1.cell 2
          have k0 := b1.free 0
          have k1 := b1.free 1
          have k2 := b1.free 2
          simp only [List.getElem?_toArray, List.getElem?_cons_zero, List.getElem?_cons_succ] at o0 o1 o2 q0 q1 q2
          clear bo b1 hsS
          go_wp2
          refine bodyPost_ret (V0.out _ _ _ aS sS cS _ rfl FW1.out) rfl ?_
          exact FW2.out
    · obtain ⟨R, hR⟩ : ∃ R, R = ofH (hels Y) ql := ⟨_, rfl⟩
      have STOR : Hid (¬ Mem R qe → Stop X o (hels Y) ⟨mkl, mke⟩) := Lib.hid (fun hm => ST.out (fun p hp => by rw [NB.out.2 rfl] at hp; cases hp; rw [← hR]; exact hm))
      have STPR : Hid (∀ gp, Mem R qe → GapOf R qe gp → Step X o (hels Y) ⟨mkl, mke⟩ ⟨ql, gp⟩) := Lib.hid (fun gp h2 h3 => STP.out gp (NB.out.2 rfl) (by rw [← hR]; exact h2) (by rw [← hR]; exact h3))
      rw [← hR] at OFX OFRX
      clear hR NB STP ST
      obtain ⟨rn, hrn⟩ : ∃ rn, rn = R.length := ⟨_, rfl⟩
      have INX : Hid (∀ (z : World) (ar : Option Addr) (cr : Nat), Rr z ar R → Calls Try.prog 47 #[.slice ar rn cr, .int .u64 (qe : Nat)] z (BoolOf (Mem R qe) z)) := Lib.hid (fun z ar cr hz => (in_any hz hrn (by rw [hrn]; exact OFRX.out.1)).mono fun e w' hh => hh.1)
      unfold RsEnd at OFX
      rw [← hrn] at OFX
      have HRN := Lib.hid hrn; clear hrn
      by_cases hin : Mem R qe
      · have INX := Lib.hid (fun z ar cr hz => (INX.out z ar cr hz).mono fun e w' hh => BoolOf.yes hh hin)
        refine wp_region_held_drew (S := fun w' => Frm [] W w') (by kernel_rfl) (Frm.drew (Frm.refl _ _)) (fun hHeld => ?_)
        refine wpAnyH_take (i := 0) (oi := ⟨some 20, _, _, _, _, _⟩) (v := ?_) rfl (by kernel_rfl) (by kernel_rfl) (by kernel_rfl) (fun _ _ _ h => h) (Or.inl ⟨by rfl, ?_⟩) (by assumption) ?_
        rotate_left 1
        · (intro w hSw; (try dsimp only at hSw); go_simp; all_goals with_reducible rfl)
        try simp only [Act.put, List.setIfInBounds_toArray, List.set_cons_zero, List.set_cons_succ]
        refine wpAnyH_take (i := 1) (oi := ⟨some 21, _, _, _, _, _⟩) (v := ?_) rfl (by kernel_rfl) (by kernel_rfl) (by kernel_rfl) (fun _ _ _ h => h) (Or.inl ⟨by rfl, ?_⟩) (by assumption) ?_
        rotate_left 1
        · (intro w hSw; (try dsimp only at hSw); go_simp; all_goals with_reducible rfl)
        try simp only [Act.put, List.setIfInBounds_toArray, List.set_cons_zero, List.set_cons_succ]
        refine wpAnyH_take (i := 2) (oi := ⟨some 22, _, _, _, _, _⟩) (v := ?_) rfl (by kernel_rfl) (by kernel_rfl) (by kernel_rfl) (fun _ _ _ h => h) (Or.inl ⟨by rfl, ?_⟩) (by assumption) ?_
        rotate_left 1
        · (intro w hSw; (try dsimp only at hSw); go_simp; all_goals with_reducible rfl)
        try simp only [Act.put, List.setIfInBounds_toArray, List.set_cons_zero, List.set_cons_succ]
        refine wpAnyH_take (i := 3) (oi := ⟨some 23, _, _, _, _, _⟩) (v := ?_) rfl (by kernel_rfl) (by kernel_rfl) (by kernel_rfl) (fun _ _ _ h => h) (Or.inl ⟨by rfl, ?_⟩) (by assumption) ?_
        rotate_left 1
        · (intro w hSw; (try dsimp only at hSw); go_simp; all_goals with_reducible rfl)
        try simp only [Act.put, List.setIfInBounds_toArray, List.set_cons_zero, List.set_cons_succ]
        refine wpAnyH_take (i := 4) (oi := ⟨some 24, _, _, _, _, _⟩) (v := ?_) rfl (by kernel_rfl) (by kernel_rfl) (by kernel_rfl) (fun _ _ _ h => h) (Or.inl ⟨by rfl, ?_⟩) (by assumption) ?_
        rotate_left 1
        · (intro w hSw; (try dsimp only at hSw); go_simp; all_goals with_reducible rfl)
        try simp only [Act.put, List.setIfInBounds_toArray, List.set_cons_zero, List.set_cons_succ]
        refine wpAnyH_take (i := 5) (oi := ⟨some 25, _, _, _, _, _⟩) (v := ?_) rfl (by kernel_rfl) (by kernel_rfl) (by kernel_rfl) (fun _ _ _ h => h) (Or.inl ⟨by rfl, ?_⟩) (by assumption) ?_
        rotate_left 1
        · (intro w hSw; (try dsimp only at hSw); go_simp; all_goals with_reducible rfl)
        try simp only [Act.put, List.setIfInBounds_toArray, List.set_cons_zero, List.set_cons_succ]
        refine wpAnyH_take (i := 7) (oi := ⟨some 27, _, _, _, _, _⟩) (v := ?_) rfl (by kernel_rfl) (by kernel_rfl) (by kernel_rfl) (fun _ _ _ h => h) (Or.inl ⟨by rfl, ?_⟩) (by assumption) ?_
        rotate_left 1
        · (intro w hSw; (try dsimp only at hSw); go_simp; all_goals with_reducible rfl)
        try simp only [Act.put, List.setIfInBounds_toArray, List.set_cons_zero, List.set_cons_succ]
        refine wpAnyH_take (i := 8) (oi := ⟨some 28, _, _, _, _, _⟩) (v := ?_) rfl (by kernel_rfl) (by kernel_rfl) (by kernel_rfl) (fun _ _ _ h => h) (Or.inl ⟨by rfl, ?_⟩) (by assumption) ?_
        rotate_left 1
        · (intro w hSw; (try dsimp only at hSw); go_simp; all_goals with_reducible rfl)
        try simp only [Act.put, List.setIfInBounds_toArray, List.set_cons_zero, List.set_cons_succ]
        refine wpAnyH_ready (rs := [6]) (by kernel_rfl) (by simp) ?_
        refine AllReadyH.cons (o := ⟨some 26, _, _, _, _, _⟩) rfl (fun K hK => ?_) AllReadyH.nil
        go_simp
        go_at_call 38; (with_reducible refine (OFX.out _ (FV.out _ hHeld)).mono ?_); rintro e v2 ⟨ar, cr, rfl, hrr, _, _, _, _, hv2⟩; have RR := Lib.hid hrr; clear hrr; have hHeld2 : Frm [] W v2 := hHeld.trans hv2 (by simp) (by simp)
        go_wp2_with fail
        refine hK.out _ _ (by assumption) (fun hHeld => ?_)
        clear hK K
        try simp only [Act.put, List.setIfInBounds_toArray, List.set_cons_zero, List.set_cons_succ]
        refine wpAnyH_ready (rs := [9]) (by kernel_rfl) (by simp) ?_
        refine AllReadyH.cons (o := ⟨some 29, _, _, _, _, _⟩) rfl (fun K hK => ?_) AllReadyH.nil
        go_simp
        go_at_call 47; (with_reducible refine (INX.out _ _ _ RR.out).mono ?_); rintro e v3 ⟨rfl, hv3⟩; have hHeld3 : Frm [] W v3 := hHeld.trans hv3 (by simp) (by simp)
        go_wp2_with fail
        refine hK.out _ _ (by assumption) (fun hHeld => ?_)
        clear hK K
        try simp only [Act.put, List.setIfInBounds_toArray, List.set_cons_zero, List.set_cons_succ]
        refine wpAnyH_take (i := 10) (oi := ⟨some 30, _, _, _, _, _⟩) (v := ?_) rfl (by kernel_rfl) (by kernel_rfl) (by kernel_rfl) (fun _ _ _ h => h) (Or.inl ⟨by rfl, ?_⟩) (by assumption) ?_
        rotate_left 1
        · (intro w hSw; (try dsimp only at hSw); go_simp; all_goals with_reducible rfl)
        try simp only [Act.put, List.setIfInBounds_toArray, List.set_cons_zero, List.set_cons_succ]
        refine wpAnyH_take (i := 11) (oi := ⟨some 31, _, _, _, _, _⟩) (v := ?_) rfl (by kernel_rfl) (by kernel_rfl) (by kernel_rfl) (fun _ _ _ h => h) (Or.inl ⟨by rfl, ?_⟩) (by assumption) ?_
        rotate_left 1
        · (intro w hSw; (try dsimp only at hSw); go_simp; all_goals with_reducible rfl)
        try simp only [Act.put, List.setIfInBounds_toArray, List.set_cons_zero, List.set_cons_succ]
        refine wpAnyH_done (by kernel_rfl) ?_ _
        have F5 : Hid (Frm [] W _) := Lib.hid hHeld
        have hd : Frm [] W v3.drew := hHeld.drew
        have F5g : Hid (Frm [g] W v3) := Lib.hid (hHeld.weak (by simp))
        have y0g : ∀ z, Frm [g] W z → z.cell? ⟨y, 0, none⟩ = some (.int .u64 (ql : Nat)) := fun z hz => (hz.whole BW.out (by simp only [List.mem_singleton]; exact YG.out)).cell 0
        have y1g : ∀ z, Frm [g] W z → z.cell? ⟨y, 1, none⟩ = some (.int .u64 (qe : Nat)) := fun z hz => (hz.whole BW.out (by simp only [List.mem_singleton]; exact YG.out)).cell 1
        have hq64 : qe < 18446744073709551616 := by
          obtain ⟨p, hp, h1, h2⟩ := hin
          have := (RR.out.1 p hp).2
          omega
        obtain ⟨gp, hgp, hgp64⟩ := gap_ex OFRX.out.2 RR.out.1 qe hq64
        have GAPX : Hid (∀ (z : World) (ar : Option Addr) (cr : Nat), Rr z ar R → Calls Try.prog 72 #[.slice ar rn cr, .int .u64 (qe : Nat)] z fun e w' => e = .returned (.int .u64 (gp : Nat)) ∧ Frm [] z w') := Lib.hid (fun z ar cr hz => rgap_any hz OFRX.out.2 HRN.out (by rw [HRN.out]; exact OFRX.out.1) hq64 hgp hgp64)
        have NSTEP := Lib.hid (STPR.out gp hin hgp)
        have GP64 := Lib.hid hgp64
        clear hHeld hin hgp hgp64 hq64 STPR STOR INX z0 z1
        go_wp2
        refine wp_region_held_drew (S := fun w' => Frm [g] W w') (by kernel_rfl) (Frm.drew F5g.out) (fun hHeld => ?_)
        refine wpAnyH_take (i := 0) (oi := ⟨some 32, _, _, _, _, _⟩) (v := ?_) rfl (by kernel_rfl) (by kernel_rfl) (by kernel_rfl) (fun _ _ _ h => h) (Or.inl ⟨by rfl, ?_⟩) (by assumption) ?_
        rotate_left 1
        · (intro w hSw; (try dsimp only at hSw); go_simp; all_goals with_reducible rfl)
        try simp only [Act.put, List.setIfInBounds_toArray, List.set_cons_zero, List.set_cons_succ]
        refine wpAnyH_take (i := 1) (oi := ⟨some 33, _, _, _, _, _⟩) (v := ?_) rfl (by kernel_rfl) (by kernel_rfl) (by kernel_rfl) (fun _ _ _ h => h) (Or.inl ⟨by rfl, ?_⟩) (by assumption) ?_
        rotate_left 1
        · (intro w hSw; (try dsimp only at hSw); go_simp; all_goals with_reducible rfl)
        try simp only [Act.put, List.setIfInBounds_toArray, List.set_cons_zero, List.set_cons_succ]
        refine wpAnyH_take (i := 3) (oi := ⟨some 35, _, _, _, _, _⟩) (v := ?_) rfl (by kernel_rfl) (by kernel_rfl) (by kernel_rfl) (fun _ _ _ h => h) (Or.inl ⟨by rfl, ?_⟩) (by assumption) ?_
        rotate_left 1
        · (intro w hSw; (try dsimp only at hSw); go_simp; all_goals with_reducible rfl)
        try simp only [Act.put, List.setIfInBounds_toArray, List.set_cons_zero, List.set_cons_succ]
        refine wpAnyH_take (i := 4) (oi := ⟨some 36, _, _, _, _, _⟩) (v := ?_) rfl (by kernel_rfl) (by kernel_rfl) (by kernel_rfl) (fun _ _ _ h => h) (Or.inl ⟨by rfl, ?_⟩) (by assumption) ?_
        rotate_left 1
        · (intro w hSw; (try dsimp only at hSw); go_simp; all_goals with_reducible rfl)
        try simp only [Act.put, List.setIfInBounds_toArray, List.set_cons_zero, List.set_cons_succ]
        refine wpAnyH_take (i := 6) (oi := ⟨some 38, _, _, _, _, _⟩) (v := ?_) rfl (by kernel_rfl) (by kernel_rfl) (by kernel_rfl) (fun _ _ _ h => h) (Or.inl ⟨by rfl, ?_⟩) (by assumption) ?_
        rotate_left 1
        · (intro w hSw; (try dsimp only at hSw); go_simp; all_goals with_reducible rfl)
        try simp only [Act.put, List.setIfInBounds_toArray, List.set_cons_zero, List.set_cons_succ]
        refine wpAnyH_take (i := 7) (oi := ⟨some 39, _, _, _, _, _⟩) (v := ?_) rfl (by kernel_rfl) (by kernel_rfl) (by kernel_rfl) (fun _ _ _ h => h) (Or.inl ⟨by rfl, ?_⟩) (by assumption) ?_
        rotate_left 1
        · (intro w hSw; (try dsimp only at hSw); go_simp; all_goals with_reducible rfl)
        try simp only [Act.put, List.setIfInBounds_toArray, List.set_cons_zero, List.set_cons_succ]
        refine wpAnyH_ready (rs := [2]) (by kernel_rfl) (by simp) ?_
        refine AllReadyH.cons (o := ⟨some 34, _, _, _, _, _⟩) rfl (fun K hK => ?_) AllReadyH.nil
        go_simp
        refine hK.out _ _ (by assumption) (fun hHeld => ?_)
        clear hK K
        try simp only [Act.put, List.setIfInBounds_toArray, List.set_cons_zero, List.set_cons_succ]
        refine wpAnyH_ready (rs := [5]) (by kernel_rfl) (by simp) ?_
        refine AllReadyH.cons (o := ⟨some 37, _, _, _, _, _⟩) rfl (fun K hK => ?_) AllReadyH.nil
        go_simp
        go_at_call 38; (with_reducible refine (OFX.out _ (FV.out _ hd)).mono ?_); rintro e v4 ⟨ar2, cr2, rfl, hrr2, _, _, _, _, hv4⟩; have RR2 := Lib.hid hrr2; clear hrr2; have P4 : Hid (Frm [] W v4) := Lib.hid (hd.trans hv4 (by simp) (by simp)); have hHeld4 : Frm [g] W v4 := hHeld.trans hv4 (by simp) (by simp)
        go_wp2_with fail
        refine hK.out _ _ (by assumption) (fun hHeld => ?_)
        clear hK K
        try simp only [Act.put, List.setIfInBounds_toArray, List.set_cons_zero, List.set_cons_succ]
        refine wpAnyH_ready (rs := [8]) (by kernel_rfl) (by simp) ?_
        refine AllReadyH.cons (o := ⟨some 40, _, _, _, _, _⟩) rfl (fun K hK => ?_) AllReadyH.nil
        go_simp
        go_at_call 72; (with_reducible refine (GAPX.out _ _ _ RR2.out).mono ?_); rintro e v5 ⟨rfl, hv5⟩; have P5 : Hid (Frm [] W v5) := Lib.hid (P4.out.trans hv5 (by simp) (by simp)); have hHeld5 : Frm [g] W v5 := hHeld.trans hv5 (by simp) (by simp)
        go_wp2_with fail
        refine hK.out _ _ (by assumption) (fun hHeld => ?_)
        clear hK K
        try simp only [Act.put, List.setIfInBounds_toArray, List.set_cons_zero, List.set_cons_succ]
        refine wpAnyH_take (i := 9) (oi := ⟨some 41, _, _, _, _, _⟩) (v := ?_) rfl (by kernel_rfl) (by kernel_rfl) (by kernel_rfl) (fun _ _ _ h => h) (Or.inl ⟨by rfl, ?_⟩) (by assumption) ?_
        rotate_left 1
        · (intro w hSw; (try dsimp only at hSw); go_simp; all_goals with_reducible rfl)
        try simp only [Act.put, List.setIfInBounds_toArray, List.set_cons_zero, List.set_cons_succ]
        refine wpAnyH_take (i := 10) (oi := ⟨some 42, _, _, _, _, _⟩) (v := ?_) rfl (by kernel_rfl) (by kernel_rfl) (by kernel_rfl) (fun _ _ _ h => h) (Or.inl ⟨by rfl, ?_⟩) (by assumption) ?_
        rotate_left 1
        · (intro w hSw; (try dsimp only at hSw); go_simp; all_goals with_reducible rfl)
        try simp only [Act.put, List.setIfInBounds_toArray, List.set_cons_zero, List.set_cons_succ]
        have b5 := P5.out.whole BG.out (by simp)
        have q0 := b5.cell 0
        have q1 := b5.cell 1
        have k0 := b5.free 0
        have k1 := b5.free 1
        simp only [List.getElem?_toArray, List.getElem?_cons_zero, List.getElem?_cons_succ] at q0 q1
        have BN : Hid (Whole ((v5.setCell ⟨g, 0, none⟩ (.int .u64 (ql : Nat))).setCell ⟨g, 1, none⟩ (.int .u64 (gp : Nat))) g 28 #[.int .u64 (ql : Nat), .int .u64 (gp : Nat), .slice a n cap]) := Lib.hid (by
          have := (b5.put 0 (.int .u64 (ql : Nat))).put 1 (.int .u64 (gp : Nat))
          simpa using this)
        clear b5
        refine wpAnyH_ready (rs := [11]) (by kernel_rfl) (by simp) ?_
        refine AllReadyH.cons (o := ⟨none, _, _, _, _, _⟩) rfl (fun K hK => ?_) AllReadyH.nil
        go_simp
        refine hK.out _ _ ((hHeld.setCell (.inl (by simp)) _).setCell (.inl (by simp)) _) (fun hHeld => ?_)
        clear hK K
        refine wpAnyH_done (by kernel_rfl) ?_ _
        have FN : Hid (Frm [g] w1 ((v5.setCell ⟨g, 0, none⟩ (.int .u64 (ql : Nat))).setCell ⟨g, 1, none⟩ (.int .u64 (gp : Nat)))) := Lib.hid (HF.out.trans (FW.out.trans hHeld (U := [g]) (by simp) (by simp)) (by simp) (by simp))
        have RN : Hid (Reach X o (hels Y) m0 ⟨ql, gp⟩) := Lib.hid (.step RM.out NSTEP.out)
        have LESS : Hid (restP X o ⟨ql, gp⟩ < restP X o ⟨mkl, mke⟩) := Lib.hid NSTEP.out.rest
        clear r0 r1 r2 q0 q1 k0 k1 y0g y1g hd hHeld
        go_wp2
        go_roundw
        case rel => exact ⟨⟨ql, gp⟩, RN, GP64, BN, FN⟩
        case measure =>
          have c0 := BN.out.cell 0
          have c1 := BN.out.cell 1
          simp only [List.getElem?_toArray, List.getElem?_cons_zero, List.getElem?_cons_succ] at c0 c1
          rw [ME.out, cellN_eq c0, cellN_eq c1]
          exact LESS.out
      · have INX := Lib.hid (fun z ar cr hz => (INX.out z ar cr hz).mono fun e w' hh => BoolOf.no hh hin)
        refine wp_region_held_drew (S := fun w' => Frm [] W w') (by kernel_rfl) (Frm.drew (Frm.refl _ _)) (fun hHeld => ?_)
        refine wpAnyH_take (i := 0) (oi := ⟨some 20, _, _, _, _, _⟩) (v := ?_) rfl (by kernel_rfl) (by kernel_rfl) (by kernel_rfl) (fun _ _ _ h => h) (Or.inl ⟨by rfl, ?_⟩) (by assumption) ?_
        rotate_left 1
        · (intro w hSw; (try dsimp only at hSw); go_simp; all_goals with_reducible rfl)
        try simp only [Act.put, List.setIfInBounds_toArray, List.set_cons_zero, List.set_cons_succ]
        refine wpAnyH_take (i := 1) (oi := ⟨some 21, _, _, _, _, _⟩) (v := ?_) rfl (by kernel_rfl) (by kernel_rfl) (by kernel_rfl) (fun _ _ _ h => h) (Or.inl ⟨by rfl, ?_⟩) (by assumption) ?_
        rotate_left 1
        · (intro w hSw; (try dsimp only at hSw); go_simp; all_goals with_reducible rfl)
        try simp only [Act.put, List.setIfInBounds_toArray, List.set_cons_zero, List.set_cons_succ]
        refine wpAnyH_take (i := 2) (oi := ⟨some 22, _, _, _, _, _⟩) (v := ?_) rfl (by kernel_rfl) (by kernel_rfl) (by kernel_rfl) (fun _ _ _ h => h) (Or.inl ⟨by rfl, ?_⟩) (by assumption) ?_
        rotate_left 1
        · (intro w hSw; (try dsimp only at hSw); go_simp; all_goals with_reducible rfl)
        try simp only [Act.put, List.setIfInBounds_toArray, List.set_cons_zero, List.set_cons_succ]
        refine wpAnyH_take (i := 3) (oi := ⟨some 23, _, _, _, _, _⟩) (v := ?_) rfl (by kernel_rfl) (by kernel_rfl) (by kernel_rfl) (fun _ _ _ h => h) (Or.inl ⟨by rfl, ?_⟩) (by assumption) ?_
        rotate_left 1
        · (intro w hSw; (try dsimp only at hSw); go_simp; all_goals with_reducible rfl)
        try simp only [Act.put, List.setIfInBounds_toArray, List.set_cons_zero, List.set_cons_succ]
        refine wpAnyH_take (i := 4) (oi := ⟨some 24, _, _, _, _, _⟩) (v := ?_) rfl (by kernel_rfl) (by kernel_rfl) (by kernel_rfl) (fun _ _ _ h => h) (Or.inl ⟨by rfl, ?_⟩) (by assumption) ?_
        rotate_left 1
        · (intro w hSw; (try dsimp only at hSw); go_simp; all_goals with_reducible rfl)
        try simp only [Act.put, List.setIfInBounds_toArray, List.set_cons_zero, List.set_cons_succ]
        refine wpAnyH_take (i := 5) (oi := ⟨some 25, _, _, _, _, _⟩) (v := ?_) rfl (by kernel_rfl) (by kernel_rfl) (by kernel_rfl) (fun _ _ _ h => h) (Or.inl ⟨by rfl, ?_⟩) (by assumption) ?_
        rotate_left 1
        · (intro w hSw; (try dsimp only at hSw); go_simp; all_goals with_reducible rfl)
        try simp only [Act.put, List.setIfInBounds_toArray, List.set_cons_zero, List.set_cons_succ]
        refine wpAnyH_take (i := 7) (oi := ⟨some 27, _, _, _, _, _⟩) (v := ?_) rfl (by kernel_rfl) (by kernel_rfl) (by kernel_rfl) (fun _ _ _ h => h) (Or.inl ⟨by rfl, ?_⟩) (by assumption) ?_
        rotate_left 1
        · (intro w hSw; (try dsimp only at hSw); go_simp; all_goals with_reducible rfl)
        try simp only [Act.put, List.setIfInBounds_toArray, List.set_cons_zero, List.set_cons_succ]
        refine wpAnyH_take (i := 8) (oi := ⟨some 28, _, _, _, _, _⟩) (v := ?_) rfl (by kernel_rfl) (by kernel_rfl) (by kernel_rfl) (fun _ _ _ h => h) (Or.inl ⟨by rfl, ?_⟩) (by assumption) ?_
        rotate_left 1
        · (intro w hSw; (try dsimp only at hSw); go_simp; all_goals with_reducible rfl)
        try simp only [Act.put, List.setIfInBounds_toArray, List.set_cons_zero, List.set_cons_succ]
        refine wpAnyH_ready (rs := [6]) (by kernel_rfl) (by simp) ?_
        refine AllReadyH.cons (o := ⟨some 26, _, _, _, _, _⟩) rfl (fun K hK => ?_) AllReadyH.nil
        go_simp
        go_at_call 38; (with_reducible refine (OFX.out _ (FV.out _ hHeld)).mono ?_); rintro e v2 ⟨ar, cr, rfl, hrr, _, _, _, _, hv2⟩; have RR := Lib.hid hrr; clear hrr; have hHeld2 : Frm [] W v2 := hHeld.trans hv2 (by simp) (by simp)
        go_wp2_with fail
        refine hK.out _ _ (by assumption) (fun hHeld => ?_)
        clear hK K
        try simp only [Act.put, List.setIfInBounds_toArray, List.set_cons_zero, List.set_cons_succ]
        refine wpAnyH_ready (rs := [9]) (by kernel_rfl) (by simp) ?_
        refine AllReadyH.cons (o := ⟨some 29, _, _, _, _, _⟩) rfl (fun K hK => ?_) AllReadyH.nil
        go_simp
        go_at_call 47; (with_reducible refine (INX.out _ _ _ RR.out).mono ?_); rintro e v3 ⟨rfl, hv3⟩; have hHeld3 : Frm [] W v3 := hHeld.trans hv3 (by simp) (by simp)
        go_wp2_with fail
        refine hK.out _ _ (by assumption) (fun hHeld => ?_)
        clear hK K
        try simp only [Act.put, List.setIfInBounds_toArray, List.set_cons_zero, List.set_cons_succ]
        refine wpAnyH_take (i := 10) (oi := ⟨some 30, _, _, _, _, _⟩) (v := ?_) rfl (by kernel_rfl) (by kernel_rfl) (by kernel_rfl) (fun _ _ _ h => h) (Or.inl ⟨by rfl, ?_⟩) (by assumption) ?_
        rotate_left 1
        · (intro w hSw; (try dsimp only at hSw); go_simp; all_goals with_reducible rfl)
        try simp only [Act.put, List.setIfInBounds_toArray, List.set_cons_zero, List.set_cons_succ]
        refine wpAnyH_take (i := 11) (oi := ⟨some 31, _, _, _, _, _⟩) (v := ?_) rfl (by kernel_rfl) (by kernel_rfl) (by kernel_rfl) (fun _ _ _ h => h) (Or.inl ⟨by rfl, ?_⟩) (by assumption) ?_
        rotate_left 1
        · (intro w hSw; (try dsimp only at hSw); go_simp; all_goals with_reducible rfl)
        try simp only [Act.put, List.setIfInBounds_toArray, List.set_cons_zero, List.set_cons_succ]
        refine wpAnyH_done (by kernel_rfl) ?_ _
        have STO : Hid (Stop X o (hels Y) ⟨mkl, mke⟩) := Lib.hid (STOR.out hin)
        clear hin INX OFX OFRX STPR STOR OF OFR
        have FVV : Hid (Frm [] W v3) := Lib.hid hHeld
        obtain ⟨V2, hV2⟩ : ∃ V2, V2 = (v3).alloc (.cells #[.int .u64 (mkl : Nat), .int .u64 (mke : Nat), .slice a n cap] 28) := ⟨_, rfl⟩
        obtain ⟨y2, hy2⟩ : ∃ y2, y2 = (v3).heap.size := ⟨_, rfl⟩
        have GV : Hid (Whole V2 g 28 #[.int .u64 (mkl : Nat), .int .u64 (mke : Nat), .slice a n cap]) := Lib.hid (by rw [hV2]; exact (FVV.out.whole BG.out (by simp)).alloc _)
        have FX1 : Hid (Frm [g] w1 v3) := Lib.hid (HF.out.trans (FW.out.trans hHeld (U := []) (by simp) (by simp)) (by simp) (by simp))
        have B1V0 : Hid (Whole v3 (g + 1) 28 #[.int .u64 0, .int .u64 0, .slice none 0 0]) := Lib.hid (FX1.out.whole B1.out (by simp))
        have B1V : Hid (Whole V2 (g + 1) 28 #[.int .u64 0, .int .u64 0, .slice none 0 0]) := Lib.hid (by rw [hV2]; exact B1V0.out.alloc _)
        have BO : Hid (Whole V2 y2 28 #[.int .u64 (mkl : Nat), .int .u64 (mke : Nat), .slice a n cap]) := Lib.hid (by rw [hV2, hy2]; exact Whole.made _ _ _)
        have W2 : Hid (Frm [] w V2) := Lib.hid (by rw [hV2]; exact (FV.out _ hHeld).alloc _)
        have YL : Hid (g + 1 < y2) := Lib.hid (by rw [hy2]; exact B1V0.out.lt)
        have Y2L : Hid (y2 < V2.heap.size) := Lib.hid BO.out.lt
        have FL2 : Hid (∀ z, Frm [] V2 z ∨ Frm [y2] V2 z → ∀ x ∈ y2 :: (g + 1) :: F, x < z.heap.size) := Lib.hid (fun z hz x hx => by
          have h1 : V2.heap.size ≤ z.heap.size := hz.elim (fun h => h.size) (fun h => h.size)
          have h2 := Y2L.out
          have h3 := YL.out
          have h4 := W2.out.size
          rcases List.mem_cons.1 hx with rfl | hx
          · omega
          · rcases List.mem_cons.1 hx with rfl | hx
            · omega
            · have := HF0.out x hx; omega)
        have IN2 : Hid (∀ x ∈ y2 :: (g + 1) :: F, x ∈ F ∨ w.heap.size ≤ x) := Lib.hid (fun x hx => by
          have h3 := YL.out
          have h4 := GS.out
          rcases List.mem_cons.1 hx with rfl | hx
          · exact .inr (by omega)
          · rcases List.mem_cons.1 hx with rfl | hx
            · exact .inr (by omega)
            · exact .inl hx)
        have HY2 : Hid (HxL V2 (y2 :: (g + 1) :: F) a Y) := Lib.hid (H.out.keep W2.out (by simp) IN2.out)
        have FWY : Hid (∀ z, Frm [y2] V2 z → Frm [] w z) := Lib.hid (fun z hz => W2.out.trans hz (by simp) (fun x hx => by
          have h3 := YL.out
          have h4 := GS.out
          simp at hx; subst hx; exact .inr (by omega)))
        have r0 := r0 _ hHeld
        have r1 := r1 _ hHeld
        have r2 := r2 _ hHeld
        have HV2 := Lib.hid hV2; clear hV2
        have HY2' := Lib.hid hy2; clear hy2 hHeld FX1 B1V0 z0 z1
        go_upto_region 5 with (fail)
        rw [← HV2.out, ← HY2'.out]
        clear r0 r1 r2
        go_wp2
        go_loopw [10] (fun s10 wr => ∃ (k : Nat) (aS : Option Addr) (cS : Nat) (S : List Hx), k ≤ n ∧ s10 = .int .i64 (k : Nat) ∧ Hid (hels S = ((hels Y).take k).foldl (stepT ⟨mkl, mke⟩) (hels Y)) ∧ Hid (S.length ≤ n + k ∧ Srt (hels S)) ∧ Hid (HxL wr (y2 :: (g + 1) :: F) aS S) ∧ Hid (Whole wr y2 28 #[.int .u64 (mkl : Nat), .int .u64 (mke : Nat), .slice aS S.length cS]) ∧ Hid (Frm [y2] V2 wr)) (fun s10 _ => n - (intOf s10).toNat)
        case atStart => exact ⟨0, a, cap, Y, Nat.zero_le _, rfl, Lib.hid rfl, Lib.hid ⟨by rw [HN.out]; omega, HS.out⟩, HY2, Lib.hid (by rw [← HN.out]; exact BO.out), Lib.hid (Frm.refl _ _)⟩
        case round =>
          obtain ⟨k, aS, cS, S, hk, rfl, FO, LN, HSR, BOR, F2⟩ := hrel
          have g0 := F2.out.whole GV.out (by simp only [List.mem_singleton]; have := YL.out; omega)
          have p0 := g0.cell 0
          have p1 := g0.cell 1
          have p2 := g0.cell 2
          simp only [List.getElem?_toArray, List.getElem?_cons_zero, List.getElem?_cons_succ] at p0 p1 p2
          by_cases hlt : k < n
          · have hlt' : (k : Int) < (n : Int) := by omega
            have hkY : k < Y.length := by have := HN.out; omega
            obtain ⟨b, off, rfl, d0, d1, hok⟩ := (H.out.sub (FWY.out _ F2.out)).at (i := k) hkY
            have OKX : Hid (HxOk w F (Y.getD k default)) := Lib.hid (H.out.ok _ (by simp [hkY]))
            have RTX : Hid ((Y.getD k default).t.2.length ≤ 400 ∧ Rt (Y.getD k default).t.2) := Lib.hid (HR.out _ (by simp [hkY]))
            have FN : Hid (((hels Y).take (k + 1)).foldl (stepT ⟨mkl, mke⟩) (hels Y) = stepT ⟨mkl, mke⟩ (hels S) (Y.getD k default).t) := Lib.hid (by rw [tightT_succ _ _ (by rw [hels_length]; exact hkY), ← FO.out, hels_getD])
            obtain ⟨x, hx⟩ : ∃ x, x = Y.getD k default := ⟨_, rfl⟩
            rw [← hx] at d0 d1 OKX RTX FN
            clear hx hok hkY
            obtain ⟨⟨led, rs⟩, ra, rc⟩ := x
            simp only at d0 d1 RTX FN
            obtain ⟨rn, hrn⟩ : ∃ rn, rn = rs.length := ⟨_, rfl⟩
            rw [← hrn] at d1
            have HRN2 := Lib.hid hrn; clear hrn
            obtain ⟨W3, hW3⟩ : ∃ W3, W3 = wr.alloc (.cells #[.int .u64 (led : Nat), .slice ra rn rc] 55) := ⟨_, rfl⟩
            obtain ⟨y3, hy3⟩ : ∃ y3, y3 = wr.heap.size := ⟨_, rfl⟩
            have FW3 : Hid (Frm [] wr W3) := Lib.hid (by rw [hW3]; exact (Frm.refl _ _).alloc _)
            have BW3 : Hid (Whole W3 y3 55 #[.int .u64 (led : Nat), .slice ra rn rc]) := Lib.hid (by rw [hW3, hy3]; exact Whole.made _ _ _)
            have BO3 : Hid (Whole W3 y2 28 #[.int .u64 (mkl : Nat), .int .u64 (mke : Nat), .slice aS S.length cS]) := Lib.hid (FW3.out.whole BOR.out (by simp))
            have GV3 : Hid (Whole W3 g 28 #[.int .u64 (mkl : Nat), .int .u64 (mke : Nat), .slice (some ⟨b, off, none⟩) n cap]) := Lib.hid (FW3.out.whole g0 (by simp))
            have F23 : Hid (Frm [y2] V2 W3) := Lib.hid (F2.out.trans FW3.out (by simp) (by simp))
            have HS3 : Hid (HxL W3 (y2 :: (g + 1) :: F) aS S) := Lib.hid (HSR.out.sub FW3.out)
            have N32 : Hid (y3 ≠ y2 ∧ y3 ≠ g ∧ g ≠ y2) := Lib.hid (by
              have h1 := BOR.out.lt
              have h2 := g0.lt
              have h3 := YL.out
              rw [hy3]; exact ⟨by omega, by omega, by omega⟩)
            have HW3 := Lib.hid hW3; clear hW3
            have HY3 := Lib.hid hy3; clear hy3 g0
            obtain ⟨sS, hsS⟩ : ∃ sS, sS = S.length := ⟨_, rfl⟩
            rw [← hsS] at BO3 BOR LN
            have HSS := Lib.hid hsS; clear hsS
            have LEN3 : Hid (sS ≤ 100000) := Lib.hid (by have := LN.out.1; omega)
            -- what a stored cursor leaves
            have KEEP : Hid (∀ z a4 n4 c4, Frm [y2] W3 z → HxL z (y2 :: (g + 1) :: F) a4 n4 → Whole z y2 28 #[.int .u64 (mkl : Nat), .int .u64 (mke : Nat), .slice aS sS cS] → (HxL (((z.setCell ⟨y2, 0, none⟩ (.int .u64 (mkl : Nat))).setCell ⟨y2, 1, none⟩ (.int .u64 (mke : Nat))).setCell ⟨y2, 2, none⟩ (.slice a4 n4.length c4)) (y2 :: (g + 1) :: F) a4 n4 ∧ Whole (((z.setCell ⟨y2, 0, none⟩ (.int .u64 (mkl : Nat))).setCell ⟨y2, 1, none⟩ (.int .u64 (mke : Nat))).setCell ⟨y2, 2, none⟩ (.slice a4 n4.length c4)) y2 28 #[.int .u64 (mkl : Nat), .int .u64 (mke : Nat), .slice a4 n4.length c4] ∧ Frm [y2] W3 (((z.setCell ⟨y2, 0, none⟩ (.int .u64 (mkl : Nat))).setCell ⟨y2, 1, none⟩ (.int .u64 (mke : Nat))).setCell ⟨y2, 2, none⟩ (.slice a4 n4.length c4)))) := Lib.hid (fun z a4 n4 c4 hz hl hw => by
              have f3 : Frm [y2] z (((z.setCell ⟨y2, 0, none⟩ (.int .u64 (mkl : Nat))).setCell ⟨y2, 1, none⟩ (.int .u64 (mke : Nat))).setCell ⟨y2, 2, none⟩ (.slice a4 n4.length c4)) := (((Frm.refl _ _).setCell (.inl (by simp)) _).setCell (.inl (by simp)) _).setCell (.inl (by simp)) _
              refine ⟨hl.keep f3 (fun x hx => .inl (by simp at hx; simp [hx])) (fun x hx => .inl hx), ?_, hz.trans f3 (by simp) (by simp)⟩
              have := ((hw.put 0 (.int .u64 (mkl : Nat))).put 1 (.int .u64 (mke : Nat))).put 2 (.slice a4 n4.length c4)
              simpa using this)
            go_upto_region 9 with (fail)
            rw [← HW3.out, ← HY3.out]
            clear p0 p1 p2 d0 d1
            have w0 := BW3.out.cell 0
            have w1' := BW3.out.cell 1
            have p0 := GV3.out.cell 0
            have p1 := GV3.out.cell 1
            have p2 := GV3.out.cell 2
            have o0 := BO3.out.cell 0
            have o1 := BO3.out.cell 1
            have o2 := BO3.out.cell 2
            simp only [List.getElem?_toArray, List.getElem?_cons_zero, List.getElem?_cons_succ] at w0 w1' p0 p1 p2 o0 o1 o2
            rcases Nat.lt_trichotomy led mkl with hc | hc | hc
            · have e1 : decide (led < mkl) = true := decide_eq_true hc
              have e1d : decide ((led : Int) < (mkl : Int)) = true := decide_eq_true (by omega)
              have e2 : ((led : Int) == (mkl : Int)) = false := by rw [beq_eq_false_iff_ne]; omega
              have HOLD := Lib.hid (crhold_any ⟨mkl, mke⟩ aS sS cS (y2 :: (g + 1) :: F) S led none 0 0 [] W3 HS3.out HSS.out LEN3.out ⟨Rr.nil _ _, fun h => absurd rfl h, fun _ => rfl, OKX.out.num, ⟨Nat.le_refl _, Nat.zero_le _⟩⟩ rfl (FL2.out _ (.inr F23.out)))
              obtain ⟨T, hT⟩ : ∃ T, T = hoX led ⟨(led, []), none, 0⟩ (decide (([] : List Rg) = [])) S := ⟨_, rfl⟩
              have TE : Hid (hels T = ((hels Y).take (k + 1)).foldl (stepT ⟨mkl, mke⟩) (hels Y)) := Lib.hid (by rw [hT, hels_hoX LN.out.2, FN.out]; unfold stepT; rw [if_pos hc])
              have TL : Hid (T.length ≤ n + (k + 1) ∧ Srt (hels T)) := Lib.hid (by
                rw [← hels_length T, TE.out, FN.out]
                have h1 := stepT_len (M := ⟨mkl, mke⟩) (S := hels S) (h := (led, rs))
                rw [hels_length, ← HSS.out] at h1
                have h2 := LN.out.1
                exact ⟨by omega, stepT_srt LN.out.2⟩)
              rw [← hT] at HOLD
              clear hT
              unfold CsEnd crsV at HOLD
              simp only at HOLD
              clear hc
              go_wp2_with fail
              (with_reducible refine HOLD.out.mono ?_)
              rintro e v4 ⟨a4, c4, rfl, hl4, _, hf4⟩
              have bo4 := hf4.whole BO3.out (by simp)
              have kk := KEEP.out v4 a4 T c4 (hf4.weak (by simp)) hl4 bo4
              obtain ⟨tn, htn⟩ : ∃ tn, tn = T.length := ⟨_, rfl⟩
              rw [← htn] at kk ⊢
              have HTN := Lib.hid htn; clear htn
              obtain ⟨K1, K2, K3⟩ := kk
              have x0 := (K3.whole BW3.out (by simp only [List.mem_singleton]; exact N32.out.1)).cell 0
              have x1 := (K3.whole BW3.out (by simp only [List.mem_singleton]; exact N32.out.1)).cell 1
              have x2 := (K3.whole GV3.out (by simp only [List.mem_singleton]; exact N32.out.2.2)).cell 0
              have x3 := (K3.whole GV3.out (by simp only [List.mem_singleton]; exact N32.out.2.2)).cell 1
              have q0 := bo4.cell 0
              have q1 := bo4.cell 1
              have q2 := bo4.cell 2
              have k0 := bo4.free 0
              have k1 := bo4.free 1
              have k2 := bo4.free 2
              simp only [List.getElem?_toArray, List.getElem?_cons_zero, List.getElem?_cons_succ] at q0 q1 q2 x0 x1 x2 x3
              have K1 := Lib.hid K1
              have K2 : Hid (Whole _ y2 28 #[.int .u64 (mkl : Nat), .int .u64 (mke : Nat), .slice a4 T.length c4]) := Lib.hid (by rw [← HTN.out]; exact K2)
              have K3 : Hid (Frm [y2] V2 _) := Lib.hid (F23.out.trans K3 (by simp) (by simp))
              clear bo4 hf4 hl4 w0 w1' p0 p1 p2 o0 o1 o2
              go_wp2
              go_roundw
              case rel => exact ⟨k + 1, a4, c4, T, by omega, by go_num, TE, TL, K1, K2, K3⟩
              case measure => simp [intOf]; omega
            · have e1 : decide (led < mkl) = false := decide_eq_false (by omega)
              have e1d : decide ((led : Int) < (mkl : Int)) = false := decide_eq_false (by omega)
              have e2 : ((led : Int) == (mkl : Int)) = true := by rw [beq_iff_eq]; omega
              have RS3 : Hid (Rr W3 ra rs) := Lib.hid (OKX.out.rs.keep0 (FWY.out _ F23.out))
              have SETC : Hid (∀ z ad, Frm [] W3 z → Rr z (some ad) [((0, mke) : Rg)] → Calls Try.prog 34 #[.slice ra rn rc, .slice (some ad) 1 1] z (GotS z (fun x => Mem rs x ∧ ¬ Mem [((0, mke) : Rg)] x))) := Lib.hid (fun z ad hz h1 => (set_any (RS3.out.keep0 hz) HRN2.out OKX.out.nil h1 rfl (fun h => by cases h) (by have h1 := RTX.out.1; have h2 := HRN2.out; show rn + 1 ≤ 1000; omega)).mono fun e w' hh => hh.s)
              have RONE : Hid (∀ z : World, Rr (z.alloc (.cells #[.int .u64 0, .int .u64 (mke : Nat)] 71)) (some ⟨z.heap.size, 0, none⟩) [((0, mke) : Rg)]) := Lib.hid (fun z => by
                refine ⟨fun p hp => by simp at hp; subst hp; exact ⟨by show 0 < _; decide, ME64.out⟩, fun _ => ⟨_, _, rfl, fun i hi => ?_⟩⟩
                have hb := Whole.made z 71 #[.int .u64 0, .int .u64 (mke : Nat)]
                simp at hi
                subst hi
                exact ⟨hb.cell 0, hb.cell 1⟩)
              have SETM : Hid (∀ out, Rt out → (∀ x, Mem out x ↔ Mem rs x ∧ ¬ Mem [((0, mke) : Rg)] x) → out = minR rs mke) := Lib.hid (fun out h1 h2 => rt_uniq h1 (rt_minR RTX.out.2 _) (fun x => by
                rw [h2, mem_minR]
                refine and_congr_right fun _ => ?_
                unfold Mem
                simp))
              have HOLD := Lib.hid (fun z (la : Option Addr) (ln lc : Nat) (l : List Rg) (hz : Frm [] W3 z) (hl : HxOk z (y2 :: (g + 1) :: F) ⟨(led, l), la, lc⟩) (hln : ln = l.length) => crhold_any ⟨mkl, mke⟩ aS sS cS (y2 :: (g + 1) :: F) S led la ln lc l z (HS3.out.sub hz) HSS.out LEN3.out hl hln (FL2.out _ (.inr (F23.out.trans hz (by simp) (by simp)))))
              have OKL : Hid (∀ z la lc, (Rr z la (minR rs mke) ∧ (la = none → lc = 0) ∧ (minR rs mke).length ≤ lc ∧ lc ≤ 9223372036854775807) → (∀ q, la = some q → V2.heap.size ≤ q.block) → HxOk z (y2 :: (g + 1) :: F) ⟨(led, minR rs mke), la, lc⟩) := Lib.hid (fun z la lc h1 h2 => ⟨h1.1, fun _ q hq hm => by have h3 := h2 q hq; have h4 := FL2.out V2 (.inl (Frm.refl _ _)) _ hm; omega, h1.2.1, OKX.out.num, h1.2.2⟩)
              unfold CsEnd crsV at HOLD
              simp only at HOLD
              have HC := Lib.hid hc; clear hc
              have hd : Frm [] W3 W3.drew := (Frm.refl _ _).drew
              have ww0 : ∀ z, Frm [y2] W3 z → z.cell? ⟨y3, 0, none⟩ = some (.int .u64 (led : Nat)) := fun z hz => (hz.whole BW3.out (by simp only [List.mem_singleton]; exact N32.out.1)).cell 0
              have ww1 : ∀ z, Frm [y2] W3 z → z.cell? ⟨y3, 1, none⟩ = some (.slice ra rn rc) := fun z hz => (hz.whole BW3.out (by simp only [List.mem_singleton]; exact N32.out.1)).cell 1
              have gg0 : ∀ z, Frm [y2] W3 z → z.cell? ⟨g, 0, none⟩ = some (.int .u64 (mkl : Nat)) := fun z hz => (hz.whole GV3.out (by simp only [List.mem_singleton]; exact N32.out.2.2)).cell 0
              have gg1 : ∀ z, Frm [y2] W3 z → z.cell? ⟨g, 1, none⟩ = some (.int .u64 (mke : Nat)) := fun z hz => (hz.whole GV3.out (by simp only [List.mem_singleton]; exact N32.out.2.2)).cell 1
              go_wp2
              clear w0 w1' p0 p1 p2
              have oo0 : ∀ z, Frm [] W3 z → z.cell? ⟨y2, 0, none⟩ = some (.int .u64 (mkl : Nat)) := fun z hz => (hz.whole BO3.out (by simp)).cell 0
              have oo1 : ∀ z, Frm [] W3 z → z.cell? ⟨y2, 1, none⟩ = some (.int .u64 (mke : Nat)) := fun z hz => (hz.whole BO3.out (by simp)).cell 1
              have oo2 : ∀ z, Frm [] W3 z → z.cell? ⟨y2, 2, none⟩ = some (.slice aS sS cS) := fun z hz => (hz.whole BO3.out (by simp)).cell 2
              refine wp_region_held_drew (S := fun w' => Frm [y2] W3 w') (by kernel_rfl) (Frm.drew (Frm.refl _ _)) (fun hHeld => ?_)
              refine wpAnyH_take (i := 1) (oi := ⟨some 73, _, _, _, _, _⟩) (v := ?_) rfl (by kernel_rfl) (by kernel_rfl) (by kernel_rfl) (fun _ _ _ h => h) (Or.inl ⟨by rfl, ?_⟩) (by assumption) ?_
              rotate_left 1
              · (intro w hSw; (try dsimp only at hSw); go_simp; all_goals with_reducible rfl)
              try simp only [Act.put, List.setIfInBounds_toArray, List.set_cons_zero, List.set_cons_succ]
              refine wpAnyH_take (i := 2) (oi := ⟨some 74, _, _, _, _, _⟩) (v := ?_) rfl (by kernel_rfl) (by kernel_rfl) (by kernel_rfl) (fun _ _ _ h => h) (Or.inl ⟨by rfl, ?_⟩) (by assumption) ?_
              rotate_left 1
              · (intro w hSw; (try dsimp only at hSw); go_simp; all_goals with_reducible rfl)
              try simp only [Act.put, List.setIfInBounds_toArray, List.set_cons_zero, List.set_cons_succ]
              refine wpAnyH_take (i := 3) (oi := ⟨some 75, _, _, _, _, _⟩) (v := ?_) rfl (by kernel_rfl) (by kernel_rfl) (by kernel_rfl) (fun _ _ _ h => h) (Or.inl ⟨by rfl, ?_⟩) (by assumption) ?_
              rotate_left 1
              · (intro w hSw; (try dsimp only at hSw); go_simp; all_goals with_reducible rfl)
              try simp only [Act.put, List.setIfInBounds_toArray, List.set_cons_zero, List.set_cons_succ]
              refine wpAnyH_take (i := 4) (oi := ⟨some 76, _, _, _, _, _⟩) (v := ?_) rfl (by kernel_rfl) (by kernel_rfl) (by kernel_rfl) (fun _ _ _ h => h) (Or.inl ⟨by rfl, ?_⟩) (by assumption) ?_
              rotate_left 1
              · (intro w hSw; (try dsimp only at hSw); go_simp; all_goals with_reducible rfl)
              try simp only [Act.put, List.setIfInBounds_toArray, List.set_cons_zero, List.set_cons_succ]
              refine wpAnyH_take (i := 5) (oi := ⟨some 77, _, _, _, _, _⟩) (v := ?_) rfl (by kernel_rfl) (by kernel_rfl) (by kernel_rfl) (fun _ _ _ h => h) (Or.inl ⟨by rfl, ?_⟩) (by assumption) ?_
              rotate_left 1
              · (intro w hSw; (try dsimp only at hSw); go_simp; all_goals with_reducible rfl)
              try simp only [Act.put, List.setIfInBounds_toArray, List.set_cons_zero, List.set_cons_succ]
              refine wpAnyH_take (i := 6) (oi := ⟨some 78, _, _, _, _, _⟩) (v := ?_) rfl (by kernel_rfl) (by kernel_rfl) (by kernel_rfl) (fun _ _ _ h => h) (Or.inl ⟨by rfl, ?_⟩) (by assumption) ?_
              rotate_left 1
              · (intro w hSw; (try dsimp only at hSw); go_simp; all_goals with_reducible rfl)
              try simp only [Act.put, List.setIfInBounds_toArray, List.set_cons_zero, List.set_cons_succ]
              refine wpAnyH_take (i := 7) (oi := ⟨some 79, _, _, _, _, _⟩) (v := ?_) rfl (by kernel_rfl) (by kernel_rfl) (by kernel_rfl) (fun _ _ _ h => h) (Or.inl ⟨by rfl, ?_⟩) (by assumption) ?_
              rotate_left 1
              · (intro w hSw; (try dsimp only at hSw); go_simp; all_goals with_reducible rfl)
              try simp only [Act.put, List.setIfInBounds_toArray, List.set_cons_zero, List.set_cons_succ]
              refine wpAnyH_take (i := 8) (oi := ⟨some 80, _, _, _, _, _⟩) (v := ?_) rfl (by kernel_rfl) (by kernel_rfl) (by kernel_rfl) (fun _ _ _ h => h) (Or.inl ⟨by rfl, ?_⟩) (by assumption) ?_
              rotate_left 1
              · (intro w hSw; (try dsimp only at hSw); go_simp; all_goals with_reducible rfl)
              try simp only [Act.put, List.setIfInBounds_toArray, List.set_cons_zero, List.set_cons_succ]
              refine wpAnyH_ready (rs := [0, 9]) (by kernel_rfl) (by simp) ?_
              refine AllReadyH.cons (o := ⟨some 72, _, _, _, _, _⟩) rfl (fun K hK => ?_) (AllReadyH.cons (o := ⟨some 81, _, _, _, _, _⟩) rfl (fun K hK => ?_) AllReadyH.nil)
              · go_simp
                refine hK.out _ _ (by assumption) (fun hHeld => ?_)
                clear hK K
                try simp only [Act.put, List.setIfInBounds_toArray, List.set_cons_zero, List.set_cons_succ]
                refine wpAnyH_ready (rs := [9]) (by kernel_rfl) (by simp) ?_
                refine AllReadyH.cons (o := ⟨some 81, _, _, _, _, _⟩) rfl (fun K hK => ?_) AllReadyH.nil
                go_simp
                refine hK.out _ _ (by repeat (first | assumption | apply Frm.alloc | apply Frm.drew | exact Frm.refl _ _)) (fun hHeld => ?_)
                clear hK K
                try simp only [Act.put, List.setIfInBounds_toArray, List.set_cons_zero, List.set_cons_succ]
                obtain ⟨v4, hv4⟩ : ∃ v4, v4 = (W3.alloc (.cells #[.int .u64 0, .int .u64 (mke : Nat)] 71)).drew := ⟨_, rfl⟩
                have P4 : Frm [] W3 v4 := by rw [hv4]; exact ((Frm.refl _ _).alloc _).drew
                have R4 : Hid (Rr v4 (some ⟨W3.heap.size, 0, none⟩) [((0, mke) : Rg)]) := Lib.hid (by rw [hv4]; exact (RONE.out W3).keep0 ((Frm.refl _ _).drew))
                rw [← hv4] at hHeld ⊢
                have HV4 := Lib.hid hv4; clear hv4
                refine wpAnyH_ready (rs := [10]) (by kernel_rfl) (by simp) ?_
                refine AllReadyH.cons (o := ⟨some 82, _, _, _, _, _⟩) rfl (fun K hK => ?_) AllReadyH.nil
                go_simp
                go_at_call 34
                (with_reducible refine (SETC.out _ _ P4 R4.out).mono ?_)
                rintro e v5 ⟨a5, m5, c5, out, rfl, HM5, RR5, FR5, RT5, MM5, FV5⟩
                obtain rfl := SETM.out out RT5.out MM5.out
                have P5 : Frm [] W3 v5 := P4.trans FV5.out (by simp) (by simp)
                have hHeld5 : Frm [y2] W3 v5 := hHeld.trans FV5.out (by simp) (by simp)
                have OK5 := Lib.hid (OKL.out v5 a5 c5 RR5.out (fun q hq => Nat.le_trans (Nat.le_trans F23.out.size P4.size) (FR5.out q hq)))
                go_wp2_with fail
                refine hK.out _ _ (by assumption) (fun hHeld => ?_)
                clear hK K
                try simp only [Act.put, List.setIfInBounds_toArray, List.set_cons_zero, List.set_cons_succ]
                refine wpAnyH_ready (rs := [11]) (by kernel_rfl) (by simp) ?_
                refine AllReadyH.cons (o := ⟨some 83, _, _, _, _, _⟩) rfl (fun K hK => ?_) AllReadyH.nil
                go_simp
                go_at_call 40
                (with_reducible refine (HOLD.out _ a5 m5 c5 _ P5 OK5.out HM5.out).mono ?_)
                rintro e v6 ⟨a6, c6, rfl, hl6, _, hf6⟩
                have P6 : Hid (Frm [] W3 v6) := Lib.hid (P5.trans hf6 (by simp) (by simp))
                have hHeld6 : Frm [y2] W3 v6 := hHeld.trans hf6 (by simp) (by simp)
                have HL6 := Lib.hid hl6; clear hl6 hf6
                go_wp2_with fail
                refine hK.out _ _ (by assumption) (fun hHeld => ?_)
                clear hK K
                try simp only [Act.put, List.setIfInBounds_toArray, List.set_cons_zero, List.set_cons_succ]
                obtain ⟨T, hT⟩ : ∃ T, T = hoX led ⟨(led, minR rs mke), a5, c5⟩ (decide (minR rs mke = [])) S := ⟨_, rfl⟩
                have TE : Hid (hels T = ((hels Y).take (k + 1)).foldl (stepT ⟨mkl, mke⟩) (hels Y)) := Lib.hid (by rw [hT, hels_hoX LN.out.2, FN.out]; unfold stepT; rw [if_neg (by have := HC.out; simp only; omega), if_pos (by simp only; exact HC.out)])
                have TL : Hid (T.length ≤ n + (k + 1) ∧ Srt (hels T)) := Lib.hid (by
                  rw [← hels_length T, TE.out, FN.out]
                  have h1 := stepT_len (M := ⟨mkl, mke⟩) (S := hels S) (h := (led, rs))
                  rw [hels_length, ← HSS.out] at h1
                  have h2 := LN.out.1
                  exact ⟨by omega, stepT_srt LN.out.2⟩)
                rw [← hT] at HL6 ⊢
                clear hT
                have bo4 := P6.out.whole BO3.out (by simp)
                obtain ⟨K1, K2, K3⟩ := KEEP.out v6 a6 T c6 hHeld HL6.out bo4
                have q0 := bo4.cell 0
                have q1 := bo4.cell 1
                have q2 := bo4.cell 2
                have k0 := bo4.free 0
                have k1 := bo4.free 1
                have k2 := bo4.free 2
                simp only [List.getElem?_toArray, List.getElem?_cons_zero, List.getElem?_cons_succ] at q0 q1 q2
                have K1 := Lib.hid K1
                have K2 := Lib.hid K2
                have K4 : Hid (Frm [y2] V2 _) := Lib.hid (F23.out.trans K3 (by simp) (by simp))
                clear bo4
                refine wpAnyH_ready (rs := [12]) (by kernel_rfl) (by simp) ?_
                refine AllReadyH.cons (o := ⟨none, _, _, _, _, _⟩) rfl (fun K hK => ?_) AllReadyH.nil
                go_simp
                refine hK.out _ _ (by assumption) (fun hHeld => ?_)
                clear hK K
                refine wpAnyH_done (by kernel_rfl) ?_ _
                clear o0 o1 o2 oo0 oo1 oo2 q0 q1 q2 k0 k1 k2 ww0 ww1 gg0 gg1 hd hHeld K3 hHeld6
                go_wp2
                go_roundw
                case rel => exact ⟨k + 1, a6, c6, T, by omega, by go_num, TE, TL, K1, K2, K4⟩
                case measure => simp [intOf]; omega
              · go_simp
                refine hK.out _ _ (by repeat (first | assumption | apply Frm.alloc | apply Frm.drew | exact Frm.refl _ _)) (fun hHeld => ?_)
                clear hK K
                try simp only [Act.put, List.setIfInBounds_toArray, List.set_cons_zero, List.set_cons_succ]
                obtain ⟨v4, hv4⟩ : ∃ v4, v4 = (W3.alloc (.cells #[.int .u64 0, .int .u64 (mke : Nat)] 71)).drew := ⟨_, rfl⟩
                have P4 : Frm [] W3 v4 := by rw [hv4]; exact ((Frm.refl _ _).alloc _).drew
                have R4 : Hid (Rr v4 (some ⟨W3.heap.size, 0, none⟩) [((0, mke) : Rg)]) := Lib.hid (by rw [hv4]; exact (RONE.out W3).keep0 ((Frm.refl _ _).drew))
                rw [← hv4] at hHeld ⊢
                have HV4 := Lib.hid hv4; clear hv4
                refine wpAnyH_ready (rs := [0, 10]) (by kernel_rfl) (by simp) ?_
                refine AllReadyH.cons (o := ⟨some 72, _, _, _, _, _⟩) rfl (fun K hK => ?_) (AllReadyH.cons (o := ⟨some 82, _, _, _, _, _⟩) rfl (fun K hK => ?_) AllReadyH.nil)
                · go_simp
                  refine hK.out _ _ (by assumption) (fun hHeld => ?_)
                  clear hK K
                  try simp only [Act.put, List.setIfInBounds_toArray, List.set_cons_zero, List.set_cons_succ]
                  refine wpAnyH_ready (rs := [10]) (by kernel_rfl) (by simp) ?_
                  refine AllReadyH.cons (o := ⟨some 82, _, _, _, _, _⟩) rfl (fun K hK => ?_) AllReadyH.nil
                  go_simp
                  go_at_call 34
                  (with_reducible refine (SETC.out _ _ P4 R4.out).mono ?_)
                  rintro e v5 ⟨a5, m5, c5, out, rfl, HM5, RR5, FR5, RT5, MM5, FV5⟩
                  obtain rfl := SETM.out out RT5.out MM5.out
                  have P5 : Frm [] W3 v5 := P4.trans FV5.out (by simp) (by simp)
                  have hHeld5 : Frm [y2] W3 v5 := hHeld.trans FV5.out (by simp) (by simp)
                  have OK5 := Lib.hid (OKL.out v5 a5 c5 RR5.out (fun q hq => Nat.le_trans (Nat.le_trans F23.out.size P4.size) (FR5.out q hq)))
                  go_wp2_with fail
                  refine hK.out _ _ (by assumption) (fun hHeld => ?_)
                  clear hK K
                  try simp only [Act.put, List.setIfInBounds_toArray, List.set_cons_zero, List.set_cons_succ]
                  refine wpAnyH_ready (rs := [11]) (by kernel_rfl) (by simp) ?_
                  refine AllReadyH.cons (o := ⟨some 83, _, _, _, _, _⟩) rfl (fun K hK => ?_) AllReadyH.nil
                  go_simp
                  go_at_call 40
                  (with_reducible refine (HOLD.out _ a5 m5 c5 _ P5 OK5.out HM5.out).mono ?_)
                  rintro e v6 ⟨a6, c6, rfl, hl6, _, hf6⟩
                  have P6 : Hid (Frm [] W3 v6) := Lib.hid (P5.trans hf6 (by simp) (by simp))
                  have hHeld6 : Frm [y2] W3 v6 := hHeld.trans hf6 (by simp) (by simp)
                  have HL6 := Lib.hid hl6; clear hl6 hf6
                  go_wp2_with fail
                  refine hK.out _ _ (by assumption) (fun hHeld => ?_)
                  clear hK K
                  try simp only [Act.put, List.setIfInBounds_toArray, List.set_cons_zero, List.set_cons_succ]
                  obtain ⟨T, hT⟩ : ∃ T, T = hoX led ⟨(led, minR rs mke), a5, c5⟩ (decide (minR rs mke = [])) S := ⟨_, rfl⟩
                  have TE : Hid (hels T = ((hels Y).take (k + 1)).foldl (stepT ⟨mkl, mke⟩) (hels Y)) := Lib.hid (by rw [hT, hels_hoX LN.out.2, FN.out]; unfold stepT; rw [if_neg (by have := HC.out; simp only; omega), if_pos (by simp only; exact HC.out)])
                  have TL : Hid (T.length ≤ n + (k + 1) ∧ Srt (hels T)) := Lib.hid (by
                    rw [← hels_length T, TE.out, FN.out]
                    have h1 := stepT_len (M := ⟨mkl, mke⟩) (S := hels S) (h := (led, rs))
                    rw [hels_length, ← HSS.out] at h1
                    have h2 := LN.out.1
                    exact ⟨by omega, stepT_srt LN.out.2⟩)
                  rw [← hT] at HL6 ⊢
                  clear hT
                  have bo4 := P6.out.whole BO3.out (by simp)
                  obtain ⟨K1, K2, K3⟩ := KEEP.out v6 a6 T c6 hHeld HL6.out bo4
                  have q0 := bo4.cell 0
                  have q1 := bo4.cell 1
                  have q2 := bo4.cell 2
                  have k0 := bo4.free 0
                  have k1 := bo4.free 1
                  have k2 := bo4.free 2
                  simp only [List.getElem?_toArray, List.getElem?_cons_zero, List.getElem?_cons_succ] at q0 q1 q2
                  have K1 := Lib.hid K1
                  have K2 := Lib.hid K2
                  have K4 : Hid (Frm [y2] V2 _) := Lib.hid (F23.out.trans K3 (by simp) (by simp))
                  clear bo4
                  refine wpAnyH_ready (rs := [12]) (by kernel_rfl) (by simp) ?_
                  refine AllReadyH.cons (o := ⟨none, _, _, _, _, _⟩) rfl (fun K hK => ?_) AllReadyH.nil
                  go_simp
                  refine hK.out _ _ (by assumption) (fun hHeld => ?_)
                  clear hK K
                  refine wpAnyH_done (by kernel_rfl) ?_ _
                  clear o0 o1 o2 oo0 oo1 oo2 q0 q1 q2 k0 k1 k2 ww0 ww1 gg0 gg1 hd hHeld K3 hHeld6
                  go_wp2
                  go_roundw
                  case rel => exact ⟨k + 1, a6, c6, T, by omega, by go_num, TE, TL, K1, K2, K4⟩
                  case measure => simp [intOf]; omega
                · go_simp
                  go_at_call 34
                  (with_reducible refine (SETC.out _ _ P4 R4.out).mono ?_)
                  rintro e v5 ⟨a5, m5, c5, out, rfl, HM5, RR5, FR5, RT5, MM5, FV5⟩
                  obtain rfl := SETM.out out RT5.out MM5.out
                  have P5 : Frm [] W3 v5 := P4.trans FV5.out (by simp) (by simp)
                  have hHeld5 : Frm [y2] W3 v5 := hHeld.trans FV5.out (by simp) (by simp)
                  have OK5 := Lib.hid (OKL.out v5 a5 c5 RR5.out (fun q hq => Nat.le_trans (Nat.le_trans F23.out.size P4.size) (FR5.out q hq)))
                  go_wp2_with fail
                  refine hK.out _ _ (by assumption) (fun hHeld => ?_)
                  clear hK K
                  try simp only [Act.put, List.setIfInBounds_toArray, List.set_cons_zero, List.set_cons_succ]
                  refine wpAnyH_ready (rs := [0]) (by kernel_rfl) (by simp) ?_
                  refine AllReadyH.cons (o := ⟨some 72, _, _, _, _, _⟩) rfl (fun K hK => ?_) AllReadyH.nil
                  go_simp
                  refine hK.out _ _ (by assumption) (fun hHeld => ?_)
                  clear hK K
                  try simp only [Act.put, List.setIfInBounds_toArray, List.set_cons_zero, List.set_cons_succ]
                  refine wpAnyH_ready (rs := [11]) (by kernel_rfl) (by simp) ?_
                  refine AllReadyH.cons (o := ⟨some 83, _, _, _, _, _⟩) rfl (fun K hK => ?_) AllReadyH.nil
                  go_simp
                  go_at_call 40
                  (with_reducible refine (HOLD.out _ a5 m5 c5 _ P5 OK5.out HM5.out).mono ?_)
                  rintro e v6 ⟨a6, c6, rfl, hl6, _, hf6⟩
                  have P6 : Hid (Frm [] W3 v6) := Lib.hid (P5.trans hf6 (by simp) (by simp))
                  have hHeld6 : Frm [y2] W3 v6 := hHeld.trans hf6 (by simp) (by simp)
                  have HL6 := Lib.hid hl6; clear hl6 hf6
                  go_wp2_with fail
                  refine hK.out _ _ (by assumption) (fun hHeld => ?_)
                  clear hK K
                  try simp only [Act.put, List.setIfInBounds_toArray, List.set_cons_zero, List.set_cons_succ]
                  obtain ⟨T, hT⟩ : ∃ T, T = hoX led ⟨(led, minR rs mke), a5, c5⟩ (decide (minR rs mke = [])) S := ⟨_, rfl⟩
                  have TE : Hid (hels T = ((hels Y).take (k + 1)).foldl (stepT ⟨mkl, mke⟩) (hels Y)) := Lib.hid (by rw [hT, hels_hoX LN.out.2, FN.out]; unfold stepT; rw [if_neg (by have := HC.out; simp only; omega), if_pos (by simp only; exact HC.out)])
                  have TL : Hid (T.length ≤ n + (k + 1) ∧ Srt (hels T)) := Lib.hid (by
                    rw [← hels_length T, TE.out, FN.out]
                    have h1 := stepT_len (M := ⟨mkl, mke⟩) (S := hels S) (h := (led, rs))
                    rw [hels_length, ← HSS.out] at h1
                    have h2 := LN.out.1
                    exact ⟨by omega, stepT_srt LN.out.2⟩)
                  rw [← hT] at HL6 ⊢
                  clear hT
                  have bo4 := P6.out.whole BO3.out (by simp)
                  obtain ⟨K1, K2, K3⟩ := KEEP.out v6 a6 T c6 hHeld HL6.out bo4
                  have q0 := bo4.cell 0
                  have q1 := bo4.cell 1
                  have q2 := bo4.cell 2
                  have k0 := bo4.free 0
                  have k1 := bo4.free 1
                  have k2 := bo4.free 2
                  simp only [List.getElem?_toArray, List.getElem?_cons_zero, List.getElem?_cons_succ] at q0 q1 q2
                  have K1 := Lib.hid K1
                  have K2 := Lib.hid K2
                  have K4 : Hid (Frm [y2] V2 _) := Lib.hid (F23.out.trans K3 (by simp) (by simp))
                  clear bo4
                  refine wpAnyH_ready (rs := [12]) (by kernel_rfl) (by simp) ?_
                  refine AllReadyH.cons (o := ⟨none, _, _, _, _, _⟩) rfl (fun K hK => ?_) AllReadyH.nil
                  go_simp
                  refine hK.out _ _ (by assumption) (fun hHeld => ?_)
                  clear hK K
                  refine wpAnyH_done (by kernel_rfl) ?_ _
                  clear o0 o1 o2 oo0 oo1 oo2 q0 q1 q2 k0 k1 k2 ww0 ww1 gg0 gg1 hd hHeld K3 hHeld6
                  go_wp2
                  go_roundw
                  case rel => exact ⟨k + 1, a6, c6, T, by omega, by go_num, TE, TL, K1, K2, K4⟩
                  case measure => simp [intOf]; omega
            · have e1 : decide (led < mkl) = false := decide_eq_false (by omega)
              have e1d : decide ((led : Int) < (mkl : Int)) = false := decide_eq_false (by omega)
              have e2 : ((led : Int) == (mkl : Int)) = false := by rw [beq_eq_false_iff_ne]; omega
              have TE : Hid (hels S = ((hels Y).take (k + 1)).foldl (stepT ⟨mkl, mke⟩) (hels Y)) := Lib.hid (by rw [FN.out]; unfold stepT; rw [if_neg (by simp only; omega), if_neg (by simp only; omega)])
              have TL : Hid (S.length ≤ n + (k + 1) ∧ Srt (hels S)) := Lib.hid (by rw [← HSS.out]; exact ⟨by have := LN.out.1; omega, LN.out.2⟩)
              have BO3' : Hid (Whole W3 y2 28 #[.int .u64 (mkl : Nat), .int .u64 (mke : Nat), .slice aS S.length cS]) := Lib.hid (by rw [← HSS.out]; exact BO3.out)
              clear hc
              go_wp2
              go_roundw
              case rel => exact ⟨k + 1, aS, cS, S, by omega, by go_num, TE, TL, HS3, BO3', F23⟩
              case measure => simp [intOf]; omega
          · obtain rfl : k = n := by omega
            have TE : Hid (hels S = tightH ⟨mkl, mke⟩ (hels Y)) := Lib.hid (by rw [FO.out, HN.out, ← hels_length, List.take_length]; rfl)
            have b1 := F2.out.whole B1V.out (by simp only [List.mem_singleton]; have := YL.out; omega)
            obtain ⟨sS, hsS⟩ : ∃ sS, sS = S.length := ⟨_, rfl⟩
            have bo := BOR.out
            rw [← hsS] at bo
            have FIN : Hid (Whole (((wr.setCell ⟨g + 1, 0, none⟩ (.int .u64 (mkl : Nat))).setCell ⟨g + 1, 1, none⟩ (.int .u64 (mke : Nat))).setCell ⟨g + 1, 2, none⟩ (.slice aS sS cS)) (g + 1) 28 #[.int .u64 (mkl : Nat), .int .u64 (mke : Nat), .slice aS sS cS] ∧ Q (.returned (.agg #[.int .u64 (mkl : Nat), .int .u64 (mke : Nat), .slice aS sS cS])) (((wr.setCell ⟨g + 1, 0, none⟩ (.int .u64 (mkl : Nat))).setCell ⟨g + 1, 1, none⟩ (.int .u64 (mke : Nat))).setCell ⟨g + 1, 2, none⟩ (.slice aS sS cS))) := Lib.hid (by
              refine ⟨?_, ?_⟩
              · have := ((b1.put 0 (.int .u64 (mkl : Nat))).put 1 (.int .u64 (mke : Nat))).put 2 (.slice aS sS cS)
                simpa using this
              · rw [HQ.out]
                have f3 : Frm [g + 1] wr (((wr.setCell ⟨g + 1, 0, none⟩ (.int .u64 (mkl : Nat))).setCell ⟨g + 1, 1, none⟩ (.int .u64 (mke : Nat))).setCell ⟨g + 1, 2, none⟩ (.slice aS sS cS)) := (((Frm.refl _ _).setCell (.inl (by simp)) _).setCell (.inl (by simp)) _).setCell (.inl (by simp)) _
                exact ⟨⟨mkl, mke⟩, S, aS, cS, by unfold crsV; rw [hsS], RM.out, STO.out, TE.out, HSR.out.keep f3 (fun x hx => .inl (by simp at hx; simp [hx])) (fun x hx => .inl (by simp [hx])), (FWY.out _ F2.out).trans f3 (by simp) (fun x hx => .inr (by simp at hx; have := GS.out; omega))⟩)
            obtain ⟨FW1, FW2⟩ := FIN.out
            have FW1 := Lib.hid FW1
            have FW2 := Lib.hid FW2
            have o0 := bo.cell 0
            have o1 := bo.cell 1
            have o2 := bo.cell 2
            have q0 := b1.cell 0
            have q1 := b1.cell 1
            have q2 := b1.cell 2
            have k0 := b1.free 0
            have k1 := b1.free 1
            have k2 := b1.free 2
            simp only [List.getElem?_toArray, List.getElem?_cons_zero, List.getElem?_cons_succ] at o0 o1 o2 q0 q1 q2
            clear bo b1 hsS
            go_wp2
            refine bodyPost_ret (V0.out _ _ _ aS sS cS _ rfl FW1.out) rfl ?_
            exact FW2.out
end Go.Proofs.Ytghadpihmhaepaa
