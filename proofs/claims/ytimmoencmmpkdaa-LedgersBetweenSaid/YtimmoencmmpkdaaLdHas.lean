/- Package ledgers: contracts of Has, Between. -/
import Derived.Test.YtimmoencmmpkdaaLdNext
import Derived.Test.YtimmoencmmpkdaaEqPs
namespace Go.Proofs.Ytimmoencmmpkdaa
open Go.RowKit
set_option maxRecDepth 100000

/-- Is there an entry at a place? -/
def hasP (X : List Ld) (o : Nat) (p : Ps) : Bool := decide (nextP X o p = some p)
theorem nextV_has (X : List Ld) (o : Nat) (p : Ps) : ((nextV X o p).2 && decide ((nextV X o p).1 = p)) = hasP X o p := by
  unfold nextV hasP
  cases nextP X o p <;> simp
set_option maxHeartbeats 1000000 in
theorem ldhas_any (a : Option Addr) (n cap : Nat) (X : List Ld) (o : Nat) (p : Ps) (w : World) (h : LdL w [] a X) (hn : n = X.length) (hsz : n < 4611686018427387904) :
    Calls Try.prog 21 #[.slice a n cap, .int .u64 (o : Nat), p.val] w (LRet w (.bool (hasP X o p))) := by
  have HNX := Lib.hid (fun z (hz : Frm [] w z) => ldnext_any a n cap X o p z (h.sub hz) hn hsz)
  rw [← nextV_has]
  unfold nextR at HNX
  generalize nextV X o p = v at HNX ⊢
  obtain ⟨d, hd⟩ : ∃ d, d = decide (v.1 = p) := ⟨_, rfl⟩
  rw [← hd]
  have HD := Lib.hid hd; clear hd
  obtain ⟨⟨ql, qe⟩, b⟩ := v
  obtain ⟨pl, pe⟩ := p
  clear h hn
  unfold LRet at HNX
  unfold Ps.val at HNX
  unfold Ps.val LRet
  simp only at HNX ⊢
  obtain ⟨g, hg⟩ : ∃ g, g = w.heap.size := ⟨_, rfl⟩
  obtain ⟨w1, hw1⟩ : ∃ w1, w1 = w.alloc (.cells #[.int .u64 (pl : Nat), .int .u64 (pe : Nat)] 36) := ⟨_, rfl⟩
  have F1 : Hid (Frm [] w w1) := Lib.hid (by rw [hw1]; exact (Frm.refl _ _).alloc _)
  have B1 : Hid (Whole w1 g 36 #[.int .u64 (pl : Nat), .int .u64 (pe : Nat)]) := Lib.hid (by rw [hw1, hg]; exact Whole.made _ _ _)
  have p0 := B1.out.cell 0
  have p1 := B1.out.cell 1
  simp at p0 p1
  have HG := Lib.hid hg
  have HW1 := Lib.hid hw1
  go_enter Try.func21, Try.ntmps21
  go_upto_region 1 with (fail)
  rw [← hw1, ← hg]
  clear hg hw1
  go_wp2_with fail
  (with_reducible refine (HNX.out _ F1.out).mono ?_)
  rintro e w2 ⟨rfl, hf2⟩
  have G2 : Hid (Frm [] w w2) := Lib.hid (F1.out.trans hf2 (by simp) (by simp))
  have bb := hf2.whole B1.out (by simp)
  have BB : Hid (Whole (w2.alloc (.cells #[.int .u64 (ql : Nat), .int .u64 (qe : Nat)] 36)) g 36 #[.int .u64 (pl : Nat), .int .u64 (pe : Nat)]) := Lib.hid (bb.alloc _)
  have FF : Hid (Frm [] w (w2.alloc (.cells #[.int .u64 (ql : Nat), .int .u64 (qe : Nat)] 36))) := Lib.hid (G2.out.alloc _)
  have q0 := BB.out.cell 0
  have q1 := BB.out.cell 1
  simp only [List.getElem?_toArray, List.getElem?_cons_zero, List.getElem?_cons_succ] at q0 q1
  have ee : ∀ w : World, (binOp .eql 36 (.agg #[.int .u64 (ql : Nat), .int .u64 (qe : Nat)]) (.agg #[.int .u64 (pl : Nat), .int .u64 (pe : Nat)])).run Try.prog w = .ok (.bool d) w := fun w => by rw [HD.out]; exact eql_ps ql qe pl pe w
  clear p0 p1 bb hf2 HNX
  cases b
  all_goals
    go_wp2
    go_ret
    exact ⟨by simp, FF.out⟩
set_option maxHeartbeats 4000000 in
/-- What it adds up goes round at 2^64: here it does not. -/
theorem ldbetween_any (a : Option Addr) (n cap : Nat) (X : List Ld) (o : Nat) (p q : Ps) (w : World) (h : LdL w [] a X) (hn : n = X.length) (hsz : n < 4611686018427387904) (ht : tot X o < 18446744073709551616) :
    Calls Try.prog 23 #[.slice a n cap, .int .u64 (o : Nat), p.val, q.val] w (LRet w (.int .u64 (btw X o p q : Nat))) := by
  have HAP := Lib.hid (fun (x : Ld) z => ldahead_any x o p z)
  have HAQ := Lib.hid (fun (x : Ld) z => ldahead_any x o q z)
  have LE := Lib.hid (fun (x : Ld) => And.intro (x.ahead_le o p) (x.ahead_le o q))
  have STEP := Lib.hid (fun k (hk : k < X.length) => btw_take (k := k) o p q hk)
  have TOT : Hid (∀ k, k < X.length → btw (X.take k) o p q + (X.getD k default).size o < 18446744073709551616) := Lib.hid (fun k hk => by
    have h1 := btw_le_tot (X.take k) o p q
    have h2 := tot_take o hk
    have h3 := tot_take_le X o (k + 1)
    omega)
  have SZ0 : Hid (∀ k, k < X.length → (X.getD k default).size o < 18446744073709551616) := Lib.hid (fun k hk => by have := size_le_tot (X := X) o hk; omega)
  have H := Lib.hid h; clear h
  have HN := Lib.hid hn; clear hn ht
  obtain ⟨R, hR⟩ : ∃ R, R = LRet w (.int .u64 (btw X o p q : Nat)) := ⟨_, rfl⟩
  rw [← hR]
  have HR := Lib.hid hR; clear hR
  generalize hbb : (fun k => btw (X.take k) o p q) = bt at *
  have BT0 : Hid (bt 0 = 0) := Lib.hid (by rw [← hbb]; rfl)
  have BTN : Hid (bt X.length = btw X o p q) := Lib.hid (by rw [← hbb]; show btw (X.take X.length) o p q = _; rw [List.take_length])
  have STP : Hid (∀ k, k < X.length → bt (k + 1) = bt k + ((X.getD k default).ahead o q - (X.getD k default).ahead o p)) := Lib.hid (by rw [← hbb]; exact STEP.out)
  have TT : Hid (∀ k, k < X.length → bt k + (X.getD k default).size o < 18446744073709551616) := Lib.hid (by rw [← hbb]; exact TOT.out)
  clear hbb STEP TOT
  obtain ⟨w1, hw1⟩ : ∃ w1, w1 = (w.alloc (.cells #[.int .u64 (p.l : Nat), .int .u64 (p.e : Nat)] 36)).alloc (.cells #[.int .u64 (q.l : Nat), .int .u64 (q.e : Nat)] 36) := ⟨_, rfl⟩
  have F1 : Hid (Frm [] w w1) := Lib.hid (by rw [hw1]; exact ((Frm.refl _ _).alloc _).alloc _)
  obtain ⟨g, hg⟩ : ∃ g, g = w.heap.size := ⟨_, rfl⟩
  have B1 : Hid (Whole w1 g 36 #[.int .u64 (p.l : Nat), .int .u64 (p.e : Nat)]) := Lib.hid (by rw [hw1, hg]; exact (Whole.made _ _ _).alloc _)
  have B2 : Hid (Whole w1 (g + 1) 36 #[.int .u64 (q.l : Nat), .int .u64 (q.e : Nat)]) := Lib.hid (by
    rw [hw1, hg]
    have := Whole.made (w.alloc (.cells #[.int .u64 (p.l : Nat), .int .u64 (p.e : Nat)] 36)) 36 #[.int .u64 (q.l : Nat), .int .u64 (q.e : Nat)]
    rwa [World.size_alloc] at this)
  obtain ⟨pl, pe⟩ := p
  obtain ⟨ql, qe⟩ := q
  unfold Ps.val at HAP HAQ
  unfold Ps.val
  simp only at hw1 B1 B2 HAP HAQ ⊢
  have HW1 := Lib.hid hw1; clear hw1
  go_enter Try.func23, Try.ntmps23
  go_wp2
  rw [← HW1.out, ← hg]
  have HG := Lib.hid hg; clear hg
  go_loopw [9, 16] (fun s9 s16 wr => ∃ k : Nat, k ≤ n ∧ s16 = .int .i64 k ∧ s9 = .int .u64 (bt k : Nat) ∧ Hid (Frm [] w1 wr)) (fun _ s16 _ => n - (intOf s16).toNat)
  case atStart => exact ⟨0, Nat.zero_le _, rfl, by rw [BT0.out]; rfl, Lib.hid (Frm.refl _ _)⟩
  case round =>
    obtain ⟨k, hk, rfl, rfl, HF⟩ := hrel
    by_cases hlt : k < n
    · have hlt' : (k : Int) < (n : Int) := by omega
      have hll := H.out.sub (F1.out.trans HF.out (U := []) (by simp) (by simp))
      have hkX : k < X.length := by have := HN.out; omega
      obtain ⟨b, off, rfl, d0, d1, d2, _⟩ := hll.at (i := k) hkX
      have st := STP.out k hkX
      have tt := TT.out k hkX
      have s0 := SZ0.out k hkX
      obtain ⟨x, hx⟩ : ∃ x, x = X.getD k default := ⟨_, rfl⟩
      rw [← hx] at d0 d1 d2 st tt s0
      have AP : Hid (∀ W', Calls Try.prog 34 #[x.val, .int .u64 (o : Nat), .agg #[.int .u64 (pl : Nat), .int .u64 (pe : Nat)]] W' fun e w' => e = .returned (.int .u64 (x.ahead o ⟨pl, pe⟩ : Nat)) ∧ Frm [] W' w') := Lib.hid (fun W' => HAP.out x W')
      have AQ : Hid (∀ W', Calls Try.prog 34 #[x.val, .int .u64 (o : Nat), .agg #[.int .u64 (ql : Nat), .int .u64 (qe : Nat)]] W' fun e w' => e = .returned (.int .u64 (x.ahead o ⟨ql, qe⟩ : Nat)) ∧ Frm [] W' w') := Lib.hid (fun W' => HAQ.out x W')
      obtain ⟨l1, l2⟩ := LE.out x
      clear hx hll hkX
      generalize x.ahead o ⟨pl, pe⟩ = ap at AP st l1
      generalize x.ahead o ⟨ql, qe⟩ = aq at AQ st l2
      generalize x.size o = sz at tt l1 l2 s0
      obtain ⟨b2, hb2⟩ : ∃ b2, b2 = bt (k + 1) := ⟨_, rfl⟩
      obtain ⟨b1, hb1⟩ : ∃ b1, b1 = bt k := ⟨_, rfl⟩
      rw [← hb2, ← hb1] at st
      rw [← hb1] at tt ⊢
      have HB2 := Lib.hid hb2; clear hb2 hb1
      obtain ⟨m, hm⟩ : ∃ m, m = min ap aq := ⟨_, rfl⟩
      have hmin : ∀ (w : World), (Builtin.min_ #[24, 24] 24 #[.int .u64 (ap : Int), .int .u64 (aq : Int)]).run Try.prog w = .ok (.int .u64 (m : Nat)) w := by
        intro w
        simp [go_sem]
        split <;> (first | (simp; omega) | omega)
      obtain ⟨df, hdf⟩ : ∃ df, df = aq - m := ⟨_, rfl⟩
      have hw2 : IntKind.u64.wrap ((aq : Int) - (m : Int)) = (df : Int) := by simp [IntKind.wrap, IntKind.bits, IntKind.signed]; omega
      have hw2' : ((aq : Int) - (m : Int)) % 18446744073709551616 = (df : Int) := by omega
      have hw3 : IntKind.u64.wrap ((b1 : Int) + (df : Int)) = (b2 : Int) := by simp [IntKind.wrap, IntKind.bits, IntKind.signed]; omega
      have hw3' : ((b1 : Int) + (df : Int)) % 18446744073709551616 = (b2 : Int) := by omega
      clear hm hdf st tt s0 l1 l2
      obtain ⟨xi, xc, xn⟩ := x
      unfold Ld.val at AP AQ
      simp only at d0 d1 d2 AP AQ
      obtain ⟨W, hW⟩ : ∃ W, W = wr.alloc (.cells #[.int .u64 (xi : Nat), .bool xc, .int .u64 (xn : Nat)] 32) := ⟨_, rfl⟩
      have FW : Hid (Frm [] w1 W) := Lib.hid (by rw [hW]; exact HF.out.alloc _)
      obtain ⟨y, hy⟩ : ∃ y, y = wr.heap.size := ⟨_, rfl⟩
      have BW : Hid (Whole W y 32 #[.int .u64 (xi : Nat), .bool xc, .int .u64 (xn : Nat)]) := Lib.hid (by rw [hW, hy]; exact Whole.made _ _ _)
      have p0 := (FW.out.whole B1.out (by simp)).cell 0
      have p1 := (FW.out.whole B1.out (by simp)).cell 1
      have q0 := (FW.out.whole B2.out (by simp)).cell 0
      have q1 := (FW.out.whole B2.out (by simp)).cell 1
      have y0 := BW.out.cell 0
      have y1 := BW.out.cell 1
      have y2 := BW.out.cell 2
      simp only [List.getElem?_toArray, List.getElem?_cons_zero, List.getElem?_cons_succ] at p0 p1 q0 q1 y0 y1 y2
      have HWW := Lib.hid hW; clear hW
      have HY := Lib.hid hy; clear hy
      go_upto_region 5 with (fail)
      rw [← HWW.out, ← HY.out]
      clear d0 d1 d2
      have r0 : ∀ z, Frm [] W z → z.cell? ⟨g, 0, none⟩ = some (.int .u64 (pl : Nat)) := fun z hz => (hz.cell (p := ⟨g, 0, none⟩) (block_lt_of_cell p0) (by simp)).trans p0
      have r1 : ∀ z, Frm [] W z → z.cell? ⟨g, 1, none⟩ = some (.int .u64 (pe : Nat)) := fun z hz => (hz.cell (p := ⟨g, 1, none⟩) (block_lt_of_cell p1) (by simp)).trans p1
      have r2 : ∀ z, Frm [] W z → z.cell? ⟨g + 1, 0, none⟩ = some (.int .u64 (ql : Nat)) := fun z hz => (hz.cell (p := ⟨g + 1, 0, none⟩) (block_lt_of_cell q0) (by simp)).trans q0
      have r3 : ∀ z, Frm [] W z → z.cell? ⟨g + 1, 1, none⟩ = some (.int .u64 (qe : Nat)) := fun z hz => (hz.cell (p := ⟨g + 1, 1, none⟩) (block_lt_of_cell q1) (by simp)).trans q1
      have r4 : ∀ z, Frm [] W z → z.cell? ⟨y, 0, none⟩ = some (.int .u64 (xi : Nat)) := fun z hz => (hz.whole BW.out (by simp)).cell 0
      have r5 : ∀ z, Frm [] W z → z.cell? ⟨y, 1, none⟩ = some (.bool xc) := fun z hz => (hz.whole BW.out (by simp)).cell 1
      have r6 : ∀ z, Frm [] W z → z.cell? ⟨y, 2, none⟩ = some (.int .u64 (xn : Nat)) := fun z hz => (hz.whole BW.out (by simp)).cell 2
      clear p0 p1 q0 q1 y0 y1 y2
      refine wp_region_held_drew (S := fun w' => Frm [] W w') (by kernel_rfl) (Frm.drew (Frm.refl _ _)) (fun hHeld => ?_)
      refine wpAnyH_take (i := 0) (oi := ⟨some 20, _, _, _, _, _⟩) (v := ?_) rfl (by kernel_rfl) (by kernel_rfl) (by kernel_rfl) (fun _ _ _ h => h) (Or.inl ⟨by rfl, ?_⟩) (by assumption) ?_
      rotate_left 1
      · (intro w hSw; (try dsimp only at hSw); go_simp; all_goals with_reducible rfl)
      try simp only [Act.put, List.setIfInBounds_toArray, List.set_cons_zero, List.set_cons_succ]
      refine wpAnyH_take (i := 1) (oi := ⟨some 21, _, _, _, _, _⟩) (v := ?_) rfl (by kernel_rfl) (by kernel_rfl) (by kernel_rfl) (fun _ _ _ h => h) (Or.inl ⟨by rfl, ?_⟩) (by assumption) ?_
      rotate_left 1
      · (intro w hSw; (try dsimp only at hSw); go_simp; all_goals with_reducible rfl)
      try simp only [Act.put, List.setIfInBounds_toArray, List.set_cons_zero, List.set_cons_succ]
      refine wpAnyH_take (i := 2) (oi := ⟨some 22, _, _, _, _, _⟩) (v := ?_) rfl (by kernel_rfl) (by kernel_rfl) (by kernel_rfl) (fun _ _ _ h => h) (Or.inl ⟨by rfl, ?_⟩) (by assumption) ?_
      rotate_left 1
      · (intro w hSw; (try dsimp only at hSw); go_simp; all_goals with_reducible rfl)
      try simp only [Act.put, List.setIfInBounds_toArray, List.set_cons_zero, List.set_cons_succ]
      refine wpAnyH_take (i := 4) (oi := ⟨some 24, _, _, _, _, _⟩) (v := ?_) rfl (by kernel_rfl) (by kernel_rfl) (by kernel_rfl) (fun _ _ _ h => h) (Or.inl ⟨by rfl, ?_⟩) (by assumption) ?_
      rotate_left 1
      · (intro w hSw; (try dsimp only at hSw); go_simp; all_goals with_reducible rfl)
      try simp only [Act.put, List.setIfInBounds_toArray, List.set_cons_zero, List.set_cons_succ]
      refine wpAnyH_take (i := 5) (oi := ⟨some 25, _, _, _, _, _⟩) (v := ?_) rfl (by kernel_rfl) (by kernel_rfl) (by kernel_rfl) (fun _ _ _ h => h) (Or.inl ⟨by rfl, ?_⟩) (by assumption) ?_
      rotate_left 1
      · (intro w hSw; (try dsimp only at hSw); go_simp; all_goals with_reducible rfl)
      try simp only [Act.put, List.setIfInBounds_toArray, List.set_cons_zero, List.set_cons_succ]
      refine wpAnyH_take (i := 6) (oi := ⟨some 26, _, _, _, _, _⟩) (v := ?_) rfl (by kernel_rfl) (by kernel_rfl) (by kernel_rfl) (fun _ _ _ h => h) (Or.inl ⟨by rfl, ?_⟩) (by assumption) ?_
      rotate_left 1
      · (intro w hSw; (try dsimp only at hSw); go_simp; all_goals with_reducible rfl)
      try simp only [Act.put, List.setIfInBounds_toArray, List.set_cons_zero, List.set_cons_succ]
      refine wpAnyH_ready (rs := [3]) (by kernel_rfl) (by simp) ?_
      refine AllReadyH.cons (o := ⟨some 23, _, _, _, _, _⟩) rfl (fun K hK => ?_) AllReadyH.nil
      go_simp
      go_at_call 34; (with_reducible refine (AP.out _).mono ?_); rintro e w' ⟨rfl, hf⟩; have hHeld2 : Frm [] W w' := hHeld.trans hf (by simp) (by simp)
      go_wp2_with fail
      refine hK.out _ _ (by assumption) (fun hHeld => ?_)
      clear hK K
      try simp only [Act.put, List.setIfInBounds_toArray, List.set_cons_zero, List.set_cons_succ]
      refine wpAnyH_ready (rs := [7]) (by kernel_rfl) (by simp) ?_
      refine AllReadyH.cons (o := ⟨some 27, _, _, _, _, _⟩) rfl (fun K hK => ?_) AllReadyH.nil
      go_simp
      go_at_call 34; (with_reducible refine (AQ.out _).mono ?_); rintro e w'2 ⟨rfl, hf2⟩; have hHeld3 : Frm [] W w'2 := hHeld.trans hf2 (by simp) (by simp)
      go_wp2_with fail
      refine hK.out _ _ (by assumption) (fun hHeld => ?_)
      clear hK K
      try simp only [Act.put, List.setIfInBounds_toArray, List.set_cons_zero, List.set_cons_succ]
      refine wpAnyH_take (i := 8) (oi := ⟨some 12, _, _, _, _, _⟩) (v := ?_) rfl (by kernel_rfl) (by kernel_rfl) (by kernel_rfl) (fun _ _ _ h => h) (Or.inl ⟨by rfl, ?_⟩) (by assumption) ?_
      rotate_left 1
      · (intro w hSw; (try dsimp only at hSw); go_simp; all_goals with_reducible rfl)
      try simp only [Act.put, List.setIfInBounds_toArray, List.set_cons_zero, List.set_cons_succ]
      refine wpAnyH_take (i := 9) (oi := ⟨some 13, _, _, _, _, _⟩) (v := ?_) rfl (by kernel_rfl) (by kernel_rfl) (by kernel_rfl) (fun _ _ _ h => h) (Or.inl ⟨by rfl, ?_⟩) (by assumption) ?_
      rotate_left 1
      · (intro w hSw; (try dsimp only at hSw); go_simp; all_goals with_reducible rfl)
      try simp only [Act.put, List.setIfInBounds_toArray, List.set_cons_zero, List.set_cons_succ]
      refine wpAnyH_done (by kernel_rfl) ?_ _
      have HFIN : Hid (Frm [] w1 _) := Lib.hid (FW.out.trans hHeld (by simp) (by simp))
      clear r0 r1 r2 r3 r4 r5 r6
      go_wp2
      go_roundw
      case rel => exact ⟨k + 1, by omega, by go_num, by rw [HB2.out], HFIN⟩
      case measure => simp [intOf]; omega
    · obtain rfl : k = n := by omega
      have FWR : Hid (Frm [] w wr) := Lib.hid (F1.out.trans HF.out (by simp) (by simp))
      have E : Hid (bt k = btw X o ⟨pl, pe⟩ ⟨ql, qe⟩) := Lib.hid (by rw [HN.out]; exact BTN.out)
      go_wp2
      show R (.returned (.int .u64 (bt k : Nat))) wr
      rw [HR.out, E.out]
      exact ⟨rfl, FWR.out⟩
end Go.Proofs.Ytimmoencmmpkdaa
