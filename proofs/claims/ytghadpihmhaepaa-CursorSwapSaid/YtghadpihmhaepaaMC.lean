/- Contracts and mathematics that the proofs of this seat stand on: LdHas, LdRefN, CuNext, RgAdd, RgAdd2, RgEnds, RgRemove, RgSetMath, RgPut, RgPut2, RgREnds. -/
import Derived.Test.YtghadpihmhaepaaMB
import Derived.Test.YtghadpihmhaepaaMA
import Derived.StillTailTactics
import Derived.Deep.RegionHeld3
import Derived.Deep.DeepCutAuto
/- Package ledgers: contracts of Has, Between. -/
namespace Go.Proofs.Ytghadpihmhaepaa
open Go.RowKit
set_option maxRecDepth 100000

/-- Is there an entry at a place? -/
def hasP (X : List Ld) (o : Nat) (p : Ps) : Bool := decide (nextP X o p = some p)
theorem nextV_has (X : List Ld) (o : Nat) (p : Ps) : ((nextV X o p).2 && decide ((nextV X o p).1 = p)) = hasP X o p := by
  unfold nextV hasP
  cases nextP X o p <;> simp
set_option maxHeartbeats 1000000 in
theorem ldhas_any (a : Option Addr) (n cap : Nat) (X : List Ld) (o : Nat) (p : Ps) (w : World) (h : LdL w [] a X) (hn : n = X.length) (hsz : n < 4611686018427387904) :
    Calls Try.prog 28 #[.slice a n cap, .int .u64 (o : Nat), p.val] w (LRet w (.bool (hasP X o p))) := by
  have HNX := Lib.hid (fun z (hz : Frm [] w z) => ldnext_any a n cap X o p z (h.sub hz) hn hsz)
  rw [← nextV_has]
  unfold nextR at HNX
  generalize nextV X o p = v at HNX ⊢
  obtain ⟨d, hd⟩ : ∃ d, d = decide (v.1 = p) := ⟨_, rfl⟩
  rw [← hd]
  have HD := Lib.hid hd; clear hd
  obtain ⟨⟨ql, qe⟩, b⟩ := v
  obtain ⟨pl, pe⟩ := p
  clear h hn
  unfold LRet at HNX
  unfold Ps.val at HNX
  unfold Ps.val LRet
  simp only at HNX ⊢
  obtain ⟨g, hg⟩ : ∃ g, g = w.heap.size := ⟨_, rfl⟩
  obtain ⟨w1, hw1⟩ : ∃ w1, w1 = w.alloc (.cells #[.int .u64 (pl : Nat), .int .u64 (pe : Nat)] 25) := ⟨_, rfl⟩
  have F1 : Hid (Frm [] w w1) := Lib.hid (by rw [hw1]; exact (Frm.refl _ _).alloc _)
  have B1 : Hid (Whole w1 g 25 #[.int .u64 (pl : Nat), .int .u64 (pe : Nat)]) := Lib.hid (by rw [hw1, hg]; exact Whole.made _ _ _)
  have p0 := B1.out.cell 0
  have p1 := B1.out.cell 1
  simp at p0 p1
  have HG := Lib.hid hg
  have HW1 := Lib.hid hw1
  go_enter Try.func28, Try.ntmps28
  go_upto_region 1 with (fail)
  rw [← hw1, ← hg]
  clear hg hw1
  go_wp2_with fail
  (with_reducible refine (HNX.out _ F1.out).mono ?_)
  rintro e w2 ⟨rfl, hf2⟩
  have G2 : Hid (Frm [] w w2) := Lib.hid (F1.out.trans hf2 (by simp) (by simp))
  have bb := hf2.whole B1.out (by simp)
  have BB : Hid (Whole (w2.alloc (.cells #[.int .u64 (ql : Nat), .int .u64 (qe : Nat)] 25)) g 25 #[.int .u64 (pl : Nat), .int .u64 (pe : Nat)]) := Lib.hid (bb.alloc _)
  have FF : Hid (Frm [] w (w2.alloc (.cells #[.int .u64 (ql : Nat), .int .u64 (qe : Nat)] 25))) := Lib.hid (G2.out.alloc _)
  have q0 := BB.out.cell 0
  have q1 := BB.out.cell 1
  simp only [List.getElem?_toArray, List.getElem?_cons_zero, List.getElem?_cons_succ] at q0 q1
  have ee : ∀ w : World, (binOp .eql 25 (.agg #[.int .u64 (ql : Nat), .int .u64 (qe : Nat)]) (.agg #[.int .u64 (pl : Nat), .int .u64 (pe : Nat)])).run Try.prog w = .ok (.bool d) w := fun w => by rw [HD.out]; exact eql_ps ql qe pl pe w
  clear p0 p1 bb hf2 HNX
  cases b
  all_goals
    go_wp2
    go_ret
    exact ⟨by simp, FF.out⟩
set_option maxHeartbeats 4000000 in
/-- What it adds up goes round at 2^64: here it does not. -/
theorem ldbetween_any (a : Option Addr) (n cap : Nat) (X : List Ld) (o : Nat) (p q : Ps) (w : World) (h : LdL w [] a X) (hn : n = X.length) (hsz : n < 4611686018427387904) (ht : tot X o < 18446744073709551616) :
    Calls Try.prog 49 #[.slice a n cap, .int .u64 (o : Nat), p.val, q.val] w (LRet w (.int .u64 (btw X o p q : Nat))) := by
  have HAP := Lib.hid (fun (x : Ld) z => ldahead_any x o p z)
  have HAQ := Lib.hid (fun (x : Ld) z => ldahead_any x o q z)
  have LE := Lib.hid (fun (x : Ld) => And.intro (x.ahead_le o p) (x.ahead_le o q))
  have STEP := Lib.hid (fun k (hk : k < X.length) => btw_take (k := k) o p q hk)
  have TOT : Hid (∀ k, k < X.length → btw (X.take k) o p q + (X.getD k default).size o < 18446744073709551616) := Lib.hid (fun k hk => by
    have h1 := btw_le_tot (X.take k) o p q
    have h2 := tot_take o hk
    have h3 := tot_take_le X o (k + 1)
    omega)
  have SZ0 : Hid (∀ k, k < X.length → (X.getD k default).size o < 18446744073709551616) := Lib.hid (fun k hk => by have := size_le_tot (X := X) o hk; omega)
  have H := Lib.hid h; clear h
  have HN := Lib.hid hn; clear hn ht
  obtain ⟨R, hR⟩ : ∃ R, R = LRet w (.int .u64 (btw X o p q : Nat)) := ⟨_, rfl⟩
  rw [← hR]
  have HR := Lib.hid hR; clear hR
  generalize hbb : (fun k => btw (X.take k) o p q) = bt at *
  have BT0 : Hid (bt 0 = 0) := Lib.hid (by rw [← hbb]; rfl)
  have BTN : Hid (bt X.length = btw X o p q) := Lib.hid (by rw [← hbb]; show btw (X.take X.length) o p q = _; rw [List.take_length])
  have STP : Hid (∀ k, k < X.length → bt (k + 1) = bt k + ((X.getD k default).ahead o q - (X.getD k default).ahead o p)) := Lib.hid (by rw [← hbb]; exact STEP.out)
  have TT : Hid (∀ k, k < X.length → bt k + (X.getD k default).size o < 18446744073709551616) := Lib.hid (by rw [← hbb]; exact TOT.out)
  clear hbb STEP TOT
  obtain ⟨w1, hw1⟩ : ∃ w1, w1 = (w.alloc (.cells #[.int .u64 (p.l : Nat), .int .u64 (p.e : Nat)] 25)).alloc (.cells #[.int .u64 (q.l : Nat), .int .u64 (q.e : Nat)] 25) := ⟨_, rfl⟩
  have F1 : Hid (Frm [] w w1) := Lib.hid (by rw [hw1]; exact ((Frm.refl _ _).alloc _).alloc _)
  obtain ⟨g, hg⟩ : ∃ g, g = w.heap.size := ⟨_, rfl⟩
  have B1 : Hid (Whole w1 g 25 #[.int .u64 (p.l : Nat), .int .u64 (p.e : Nat)]) := Lib.hid (by rw [hw1, hg]; exact (Whole.made _ _ _).alloc _)
  have B2 : Hid (Whole w1 (g + 1) 25 #[.int .u64 (q.l : Nat), .int .u64 (q.e : Nat)]) := Lib.hid (by
    rw [hw1, hg]
    have := Whole.made (w.alloc (.cells #[.int .u64 (p.l : Nat), .int .u64 (p.e : Nat)] 25)) 25 #[.int .u64 (q.l : Nat), .int .u64 (q.e : Nat)]
    rwa [World.size_alloc] at this)
  obtain ⟨pl, pe⟩ := p
  obtain ⟨ql, qe⟩ := q
  unfold Ps.val at HAP HAQ
  unfold Ps.val
  simp only at hw1 B1 B2 HAP HAQ ⊢
  have HW1 := Lib.hid hw1; clear hw1
  go_enter Try.func49, Try.ntmps49
  go_wp2
  rw [← HW1.out, ← hg]
  have HG := Lib.hid hg; clear hg
  go_loopw [9, 16] (fun s9 s16 wr => ∃ k : Nat, k ≤ n ∧ s16 = .int .i64 k ∧ s9 = .int .u64 (bt k : Nat) ∧ Hid (Frm [] w1 wr)) (fun _ s16 _ => n - (intOf s16).toNat)
  case atStart => exact ⟨0, Nat.zero_le _, rfl, by rw [BT0.out]; rfl, Lib.hid (Frm.refl _ _)⟩
  case round =>
    obtain ⟨k, hk, rfl, rfl, HF⟩ := hrel
    by_cases hlt : k < n
    · have hlt' : (k : Int) < (n : Int) := by omega
      have hll := H.out.sub (F1.out.trans HF.out (U := []) (by simp) (by simp))
      have hkX : k < X.length := by have := HN.out; omega
      obtain ⟨b, off, rfl, d0, d1, d2, _⟩ := hll.at (i := k) hkX
      have st := STP.out k hkX
      have tt := TT.out k hkX
      have s0 := SZ0.out k hkX
      obtain ⟨x, hx⟩ : ∃ x, x = X.getD k default := ⟨_, rfl⟩
      rw [← hx] at d0 d1 d2 st tt s0
      have AP : Hid (∀ W', Calls Try.prog 75 #[x.val, .int .u64 (o : Nat), .agg #[.int .u64 (pl : Nat), .int .u64 (pe : Nat)]] W' fun e w' => e = .returned (.int .u64 (x.ahead o ⟨pl, pe⟩ : Nat)) ∧ Frm [] W' w') := Lib.hid (fun W' => HAP.out x W')
      have AQ : Hid (∀ W', Calls Try.prog 75 #[x.val, .int .u64 (o : Nat), .agg #[.int .u64 (ql : Nat), .int .u64 (qe : Nat)]] W' fun e w' => e = .returned (.int .u64 (x.ahead o ⟨ql, qe⟩ : Nat)) ∧ Frm [] W' w') := Lib.hid (fun W' => HAQ.out x W')
      obtain ⟨l1, l2⟩ := LE.out x
      clear hx hll hkX
      generalize x.ahead o ⟨pl, pe⟩ = ap at AP st l1
      generalize x.ahead o ⟨ql, qe⟩ = aq at AQ st l2
      generalize x.size o = sz at tt l1 l2 s0
      obtain ⟨b2, hb2⟩ : ∃ b2, b2 = bt (k + 1) := ⟨_, rfl⟩
      obtain ⟨b1, hb1⟩ : ∃ b1, b1 = bt k := ⟨_, rfl⟩
      rw [← hb2, ← hb1] at st
      rw [← hb1] at tt ⊢
      have HB2 := Lib.hid hb2; clear hb2 hb1
      obtain ⟨m, hm⟩ : ∃ m, m = min ap aq := ⟨_, rfl⟩
      have hmin : ∀ (w : World), (Builtin.min_ #[23, 23] 23 #[.int .u64 (ap : Int), .int .u64 (aq : Int)]).run Try.prog w = .ok (.int .u64 (m : Nat)) w := by
        intro w
        simp [go_sem]
        (first | omega | (split <;> (first | (simp; omega) | omega)))
      obtain ⟨df, hdf⟩ : ∃ df, df = aq - m := ⟨_, rfl⟩
      have hw2 : IntKind.u64.wrap ((aq : Int) - (m : Int)) = (df : Int) := by simp [IntKind.wrap, IntKind.bits, IntKind.signed]; omega
      have hw2' : ((aq : Int) - (m : Int)) % 18446744073709551616 = (df : Int) := by omega
      have hw3 : IntKind.u64.wrap ((b1 : Int) + (df : Int)) = (b2 : Int) := by simp [IntKind.wrap, IntKind.bits, IntKind.signed]; omega
      have hw3' : ((b1 : Int) + (df : Int)) % 18446744073709551616 = (b2 : Int) := by omega
      clear hm hdf st tt s0 l1 l2
      obtain ⟨xi, xc, xn⟩ := x
      unfold Ld.val at AP AQ
      simp only at d0 d1 d2 AP AQ
      obtain ⟨W, hW⟩ : ∃ W, W = wr.alloc (.cells #[.int .u64 (xi : Nat), .bool xc, .int .u64 (xn : Nat)] 69) := ⟨_, rfl⟩
      have FW : Hid (Frm [] w1 W) := Lib.hid (by rw [hW]; exact HF.out.alloc _)
      obtain ⟨y, hy⟩ : ∃ y, y = wr.heap.size := ⟨_, rfl⟩
      have BW : Hid (Whole W y 69 #[.int .u64 (xi : Nat), .bool xc, .int .u64 (xn : Nat)]) := Lib.hid (by rw [hW, hy]; exact Whole.made _ _ _)
      have p0 := (FW.out.whole B1.out (by simp)).cell 0
      have p1 := (FW.out.whole B1.out (by simp)).cell 1
      have q0 := (FW.out.whole B2.out (by simp)).cell 0
      have q1 := (FW.out.whole B2.out (by simp)).cell 1
      have y0 := BW.out.cell 0
      have y1 := BW.out.cell 1
      have y2 := BW.out.cell 2
      simp only [List.getElem?_toArray, List.getElem?_cons_zero, List.getElem?_cons_succ] at p0 p1 q0 q1 y0 y1 y2
      have HWW := Lib.hid hW; clear hW
      have HY := Lib.hid hy; clear hy
      go_upto_region 5 with (fail)
      rw [← HWW.out, ← HY.out]
      clear d0 d1 d2
      have r0 : ∀ z, Frm [] W z → z.cell? ⟨g, 0, none⟩ = some (.int .u64 (pl : Nat)) := fun z hz => (hz.cell (p := ⟨g, 0, none⟩) (block_lt_of_cell p0) (by simp)).trans p0
      have r1 : ∀ z, Frm [] W z → z.cell? ⟨g, 1, none⟩ = some (.int .u64 (pe : Nat)) := fun z hz => (hz.cell (p := ⟨g, 1, none⟩) (block_lt_of_cell p1) (by simp)).trans p1
      have r2 : ∀ z, Frm [] W z → z.cell? ⟨g + 1, 0, none⟩ = some (.int .u64 (ql : Nat)) := fun z hz => (hz.cell (p := ⟨g + 1, 0, none⟩) (block_lt_of_cell q0) (by simp)).trans q0
      have r3 : ∀ z, Frm [] W z → z.cell? ⟨g + 1, 1, none⟩ = some (.int .u64 (qe : Nat)) := fun z hz => (hz.cell (p := ⟨g + 1, 1, none⟩) (block_lt_of_cell q1) (by simp)).trans q1
      have r4 : ∀ z, Frm [] W z → z.cell? ⟨y, 0, none⟩ = some (.int .u64 (xi : Nat)) := fun z hz => (hz.whole BW.out (by simp)).cell 0
      have r5 : ∀ z, Frm [] W z → z.cell? ⟨y, 1, none⟩ = some (.bool xc) := fun z hz => (hz.whole BW.out (by simp)).cell 1
      have r6 : ∀ z, Frm [] W z → z.cell? ⟨y, 2, none⟩ = some (.int .u64 (xn : Nat)) := fun z hz => (hz.whole BW.out (by simp)).cell 2
      clear p0 p1 q0 q1 y0 y1 y2
      refine wp_region_held_drew (S := fun w' => Frm [] W w') (by kernel_rfl) (Frm.drew (Frm.refl _ _)) (fun hHeld => ?_)
      refine wpAnyH_take (i := 0) (oi := ⟨some 20, _, _, _, _, _⟩) (v := ?_) rfl (by kernel_rfl) (by kernel_rfl) (by kernel_rfl) (fun _ _ _ h => h) (Or.inl ⟨by rfl, ?_⟩) (by assumption) ?_
      rotate_left 1
      · (intro w hSw; (try dsimp only at hSw); go_simp; all_goals with_reducible rfl)
      try simp only [Act.put, List.setIfInBounds_toArray, List.set_cons_zero, List.set_cons_succ]
      refine wpAnyH_take (i := 1) (oi := ⟨some 21, _, _, _, _, _⟩) (v := ?_) rfl (by kernel_rfl) (by kernel_rfl) (by kernel_rfl) (fun _ _ _ h => h) (Or.inl ⟨by rfl, ?_⟩) (by assumption) ?_
      rotate_left 1
      · (intro w hSw; (try dsimp only at hSw); go_simp; all_goals with_reducible rfl)
      try simp only [Act.put, List.setIfInBounds_toArray, List.set_cons_zero, List.set_cons_succ]
      refine wpAnyH_take (i := 2) (oi := ⟨some 22, _, _, _, _, _⟩) (v := ?_) rfl (by kernel_rfl) (by kernel_rfl) (by kernel_rfl) (fun _ _ _ h => h) (Or.inl ⟨by rfl, ?_⟩) (by assumption) ?_
      rotate_left 1
      · (intro w hSw; (try dsimp only at hSw); go_simp; all_goals with_reducible rfl)
      try simp only [Act.put, List.setIfInBounds_toArray, List.set_cons_zero, List.set_cons_succ]
      refine wpAnyH_take (i := 4) (oi := ⟨some 24, _, _, _, _, _⟩) (v := ?_) rfl (by kernel_rfl) (by kernel_rfl) (by kernel_rfl) (fun _ _ _ h => h) (Or.inl ⟨by rfl, ?_⟩) (by assumption) ?_
      rotate_left 1
      · (intro w hSw; (try dsimp only at hSw); go_simp; all_goals with_reducible rfl)
      try simp only [Act.put, List.setIfInBounds_toArray, List.set_cons_zero, List.set_cons_succ]
      refine wpAnyH_take (i := 5) (oi := ⟨some 25, _, _, _, _, _⟩) (v := ?_) rfl (by kernel_rfl) (by kernel_rfl) (by kernel_rfl) (fun _ _ _ h => h) (Or.inl ⟨by rfl, ?_⟩) (by assumption) ?_
      rotate_left 1
      · (intro w hSw; (try dsimp only at hSw); go_simp; all_goals with_reducible rfl)
      try simp only [Act.put, List.setIfInBounds_toArray, List.set_cons_zero, List.set_cons_succ]
      refine wpAnyH_take (i := 6) (oi := ⟨some 26, _, _, _, _, _⟩) (v := ?_) rfl (by kernel_rfl) (by kernel_rfl) (by kernel_rfl) (fun _ _ _ h => h) (Or.inl ⟨by rfl, ?_⟩) (by assumption) ?_
      rotate_left 1
      · (intro w hSw; (try dsimp only at hSw); go_simp; all_goals with_reducible rfl)
      try simp only [Act.put, List.setIfInBounds_toArray, List.set_cons_zero, List.set_cons_succ]
      refine wpAnyH_ready (rs := [3]) (by kernel_rfl) (by simp) ?_
      refine AllReadyH.cons (o := ⟨some 23, _, _, _, _, _⟩) rfl (fun K hK => ?_) AllReadyH.nil
      go_simp
      go_at_call 75; (with_reducible refine (AP.out _).mono ?_); rintro e w' ⟨rfl, hf⟩; have hHeld2 : Frm [] W w' := hHeld.trans hf (by simp) (by simp)
      go_wp2_with fail
      refine hK.out _ _ (by assumption) (fun hHeld => ?_)
      clear hK K
      try simp only [Act.put, List.setIfInBounds_toArray, List.set_cons_zero, List.set_cons_succ]
      refine wpAnyH_ready (rs := [7]) (by kernel_rfl) (by simp) ?_
      refine AllReadyH.cons (o := ⟨some 27, _, _, _, _, _⟩) rfl (fun K hK => ?_) AllReadyH.nil
      go_simp
      go_at_call 75; (with_reducible refine (AQ.out _).mono ?_); rintro e w'2 ⟨rfl, hf2⟩; have hHeld3 : Frm [] W w'2 := hHeld.trans hf2 (by simp) (by simp)
      go_wp2_with fail
      refine hK.out _ _ (by assumption) (fun hHeld => ?_)
      clear hK K
      try simp only [Act.put, List.setIfInBounds_toArray, List.set_cons_zero, List.set_cons_succ]
      refine wpAnyH_take (i := 8) (oi := ⟨some 12, _, _, _, _, _⟩) (v := ?_) rfl (by kernel_rfl) (by kernel_rfl) (by kernel_rfl) (fun _ _ _ h => h) (Or.inl ⟨by rfl, ?_⟩) (by assumption) ?_
      rotate_left 1
      · (intro w hSw; (try dsimp only at hSw); go_simp; all_goals with_reducible rfl)
      try simp only [Act.put, List.setIfInBounds_toArray, List.set_cons_zero, List.set_cons_succ]
      refine wpAnyH_take (i := 9) (oi := ⟨some 13, _, _, _, _, _⟩) (v := ?_) rfl (by kernel_rfl) (by kernel_rfl) (by kernel_rfl) (fun _ _ _ h => h) (Or.inl ⟨by rfl, ?_⟩) (by assumption) ?_
      rotate_left 1
      · (intro w hSw; (try dsimp only at hSw); go_simp; all_goals with_reducible rfl)
      try simp only [Act.put, List.setIfInBounds_toArray, List.set_cons_zero, List.set_cons_succ]
      refine wpAnyH_done (by kernel_rfl) ?_ _
      have HFIN : Hid (Frm [] w1 _) := Lib.hid (FW.out.trans hHeld (by simp) (by simp))
      clear r0 r1 r2 r3 r4 r5 r6
      go_wp2
      go_roundw
      case rel => exact ⟨k + 1, by omega, by go_num, by rw [HB2.out], HFIN⟩
      case measure => simp [intOf]; omega
    · obtain rfl : k = n := by omega
      have FWR : Hid (Frm [] w wr) := Lib.hid (F1.out.trans HF.out (by simp) (by simp))
      have E : Hid (bt k = btw X o ⟨pl, pe⟩ ⟨ql, qe⟩) := Lib.hid (by rw [HN.out]; exact BTN.out)
      go_wp2
      show R (.returned (.int .u64 (bt k : Nat))) wr
      rw [HR.out, E.out]
      exact ⟨rfl, FWR.out⟩
end Go.Proofs.Ytghadpihmhaepaa
/- Contracts of the document's Next, Has, Between. -/
namespace Go.Proofs.Ytghadpihmhaepaa
open Go.RowKit
set_option maxRecDepth 100000

/-- Found one by one. -/
theorem find_at {L : List Ps} {P : Ps → Bool} {k : Nat} (hk : k < L.length) (h1 : ∀ j, j < k → P (L.getD j default) = false) (h2 : P (L.getD k default) = true) : L.find? P = some (L.getD k default) := by
  rw [List.find?_eq_some_iff_append]
  refine ⟨h2, L.take k, L.drop (k + 1), ?_, fun a ha => ?_⟩
  · have e : L.getD k default = L[k] := by simp [hk]
    rw [e, ← List.drop_eq_getElem_cons hk, List.take_append_drop]
  · obtain ⟨i, hi, rfl⟩ := List.getElem_of_mem ha
    rw [List.length_take] at hi
    have e : L.getD i default = L[i]'(by omega) := by simp [show i < L.length by omega]
    have := h1 i (by omega)
    rw [e] at this
    simp [List.getElem_take, this]
theorem find_none_at {L : List Ps} {P : Ps → Bool} (h1 : ∀ j, j < L.length → P (L.getD j default) = false) : L.find? P = none := by
  rw [List.find?_eq_none]
  intro a ha
  obtain ⟨i, hi, rfl⟩ := List.getElem_of_mem ha
  have := h1 i hi
  rw [show L.getD i default = L[i] by simp [hi]] at this
  simp [this]
set_option maxHeartbeats 8000000 in
theorem rlnext_any (a : Option Addr) (n cap : Nat) (X : List Ld) (o : Nat) (p : Ps) (w : World) (h : LdL w [] a X) (hn : n = X.length) (hsz : n < 4611686018427387904) (ht : tot X o ≤ 100000) :
    Calls Try.prog 71 #[.slice a n cap, .int .u64 (o : Nat), p.val] w (LRet w (nextR X o p)) := by
  have HAL := Lib.hid (fun z (hz : Frm [] w z) => rlall_any a n cap X o z (h.sub hz) hn hsz ht)
  have HSZ := Lib.hid (fun (x : Ld) z => rlsize_any x o z)
  have HOR := Lib.hid (fun (q : Ps) z => rlorder_any q p z)
  have MN : Hid (allP X o = [] ∨ True) := Lib.hid (.inr trivial)
  have LEN := Lib.hid (allP_length X o)
  have FND := Lib.hid (nextP_find X o p)
  obtain ⟨L, hL⟩ : ∃ L, L = allP X o := ⟨_, rfl⟩
  obtain ⟨M, hM⟩ : ∃ M, M = tot X o := ⟨_, rfl⟩
  rw [← hL, ← hM] at HAL LEN
  rw [← hL] at FND
  have hM16 : M ≤ 100000 := by omega
  obtain ⟨w1, hw1⟩ : ∃ w1, w1 = (w.alloc (.cells #[.int .u64 (p.l : Nat), .int .u64 (p.e : Nat)] 25)).alloc (.cells #[.int .u64 0, .int .u64 0] 25) := ⟨_, rfl⟩
  have F1 : Hid (Frm [] w w1) := Lib.hid (by rw [hw1]; exact ((Frm.refl _ _).alloc _).alloc _)
  obtain ⟨g, hg⟩ : ∃ g, g = w.heap.size := ⟨_, rfl⟩
  have B1 : Hid (Whole w1 g 25 #[.int .u64 (p.l : Nat), .int .u64 (p.e : Nat)]) := Lib.hid (by rw [hw1, hg]; exact (Whole.made _ _ _).alloc _)
  have B2 : Hid (Whole w1 (g + 1) 25 #[.int .u64 0, .int .u64 0]) := Lib.hid (by
    rw [hw1, hg]
    have := Whole.made (w.alloc (.cells #[.int .u64 (p.l : Nat), .int .u64 (p.e : Nat)] 25)) 25 #[.int .u64 0, .int .u64 0]
    rwa [World.size_alloc] at this)
  have GS : Hid (w.heap.size ≤ g) := Lib.hid (by omega)
  have H := Lib.hid h; clear h
  have HN := Lib.hid hn; clear hn ht hL hM MN
  obtain ⟨R, hR⟩ : ∃ R, R = LRet w (nextR X o p) := ⟨_, rfl⟩
  rw [← hR]
  have HR := Lib.hid hR; clear hR
  have FIN : Hid (∀ (z : World) (q : Ps), Frm [] w1 z → Whole ((z.setCell ⟨g + 1, 0, none⟩ (.int .u64 (q.l : Nat))).setCell ⟨g + 1, 1, none⟩ (.int .u64 (q.e : Nat))) (g + 1) 25 #[.int .u64 (q.l : Nat), .int .u64 (q.e : Nat)] ∧ Frm [] w ((z.setCell ⟨g + 1, 0, none⟩ (.int .u64 (q.l : Nat))).setCell ⟨g + 1, 1, none⟩ (.int .u64 (q.e : Nat)))) := Lib.hid (fun z q hz => by
    have hw := hz.whole B2.out (by simp)
    refine ⟨?_, ?_⟩
    · have := (hw.put 0 (.int .u64 (q.l : Nat))).put 1 (.int .u64 (q.e : Nat))
      simpa using this
    · have h1 := F1.out.trans hz (U := []) (by simp) (by simp)
      exact (h1.setCell (.inr (by have := GS.out; simp; omega)) _).setCell (.inr (by have := GS.out; simp; omega)) _)
  have V0 : Hid (∀ (z : World) (q : Ps) (b : Bool) (tm : Array Value), tm.getD 6 undef = .pointer (some ⟨g + 1, 0, none⟩) → tm.getD 7 undef = .bool b → Whole z (g + 1) 25 #[.int .u64 (q.l : Nat), .int .u64 (q.e : Nat)] → (results Try.f71 tm).run Try.prog z = .ok (.tuple #[q.val, .bool b]) z) := Lib.hid (fun z q b tm h6 h7 hw => by
    have c0 := hw.cell 0
    have c1 := hw.cell 1
    simp at c0 c1
    have h6' : tm[6]?.getD undef = .pointer (some ⟨g + 1, 0, none⟩) := by simpa using h6
    have h7' : tm[7]?.getD undef = .bool b := by simpa using h7
    unfold Ps.val
    simp [results, Try.results71, go_sem, c0, c1, h6', h7'])
  obtain ⟨pl, pe⟩ := p
  unfold Ps.val at HOR
  unfold Ps.val
  simp only at hw1 B1 HOR ⊢
  have HW1 := Lib.hid hw1; clear hw1
  go_enter Try.func71, Try.ntmps71
  go_wp2_with fail
  rw [← HW1.out, ← hg]
  have HG := Lib.hid hg; clear hg
  (with_reducible refine (HAL.out _ F1.out).mono ?_)
  rintro e w2 ⟨a2, c2, rfl, ho2, hf2⟩
  have F2 := Lib.hid hf2
  have L2 : Hid (PsL w2 [] a2 L) := Lib.hid ho2.sl
  clear hf2 ho2 HAL
  go_wp2
  go_loopw [9] (fun s9 wr => ∃ k : Nat, k ≤ M ∧ s9 = .int .i64 (k : Nat) ∧ Hid (∀ j, j < k → (L.getD j default).lt ⟨pl, pe⟩) ∧ Hid (Frm [] w2 wr)) (fun s9 _ => M - (intOf s9).toNat)
  case atStart => exact ⟨0, Nat.zero_le _, rfl, Lib.hid (fun i hi => by omega), Lib.hid (Frm.refl _ _)⟩
  case round =>
    obtain ⟨k, hk, rfl, HI, HF⟩ := hrel
    have FR : Hid (Frm [] w1 wr) := Lib.hid (F2.out.trans HF.out (by simp) (by simp))
    by_cases hlt : k < M
    · have hlt' : (k : Int) < (M : Int) := by omega
      obtain ⟨b, off, rfl, d0, d1, _⟩ := (L2.out.sub HF.out).at (i := k) (by have := LEN.out; omega)
      have bb := FR.out.whole B1.out (by simp)
      have r0 : ∀ z, Frm [] wr z → z.cell? ⟨g, 0, none⟩ = some (.int .u64 (pl : Nat)) := fun z hz => (hz.whole bb (by simp)).cell 0
      have r1 : ∀ z, Frm [] wr z → z.cell? ⟨g, 1, none⟩ = some (.int .u64 (pe : Nat)) := fun z hz => (hz.whole bb (by simp)).cell 1
      obtain ⟨x, hx⟩ : ∃ x, x = L.getD k default := ⟨_, rfl⟩
      rw [← hx] at d0 d1
      have YES : Hid (¬ x.lt ⟨pl, pe⟩ → nextP X o ⟨pl, pe⟩ = some x) := Lib.hid (fun hc => by
        rw [← FND.out, hx]
        exact find_at (by have := LEN.out; omega) (fun j hj => decide_eq_false (fun h => h (HI.out j hj))) (by rw [decide_eq_true_iff, ← hx]; exact hc))
      have NO : Hid (x.lt ⟨pl, pe⟩ → ∀ j, j < k + 1 → (L.getD j default).lt ⟨pl, pe⟩) := Lib.hid (fun hc j hj => by
        rcases Nat.lt_or_eq_of_le (Nat.le_of_lt_succ hj) with h1 | rfl
        · exact HI.out j h1
        · rw [← hx]; exact hc)
      have ORX := Lib.hid (HOR.out x)
      obtain ⟨c, hc⟩ : ∃ c, c = ordP x ⟨pl, pe⟩ := ⟨_, rfl⟩
      rw [← hc] at ORX
      have CC : Hid ((0 ≤ c → ¬ x.lt ⟨pl, pe⟩) ∧ (¬ 0 ≤ c → x.lt ⟨pl, pe⟩)) := Lib.hid ⟨fun h => by rw [hc] at h; exact ordP_ge.1 h, fun h => by rw [hc] at h; exact Classical.not_not.1 (fun h2 => h (ordP_ge.2 h2))⟩
      clear hx hc bb
      obtain ⟨xl, xe⟩ := x
      unfold LRet at ORX
      simp only at d0 d1 ORX
      have c0 : ∀ z, Frm [] wr z → z.cell? ⟨b, off + k * 2, none⟩ = some (.int .u64 (xl : Nat)) := fun z hz => (hz.cell (p := ⟨b, off + k * 2, none⟩) (block_lt_of_cell d0) (by simp)).trans d0
      have c1 : ∀ z, Frm [] wr z → z.cell? ⟨b, off + k * 2 + 1, none⟩ = some (.int .u64 (xe : Nat)) := fun z hz => (hz.cell (p := ⟨b, off + k * 2 + 1, none⟩) (block_lt_of_cell d1) (by simp)).trans d1
      clear d0 d1
      by_cases hc0 : 0 ≤ c
      · have e1 : decide (0 ≤ c) = true := decide_eq_true hc0
        have NX := Lib.hid (YES.out (CC.out.1 hc0))
        clear YES NO CC
        go_wp2
        refine wp_region_held_drew (S := fun w' => Frm [] wr w') (by kernel_rfl) (Frm.drew (Frm.refl _ _)) (fun hHeld => ?_)
        refine wpAnyH_take (i := 0) (oi := ⟨some 20, _, _, _, _, _⟩) (v := ?_) rfl (by kernel_rfl) (by kernel_rfl) (by kernel_rfl) (fun _ _ _ h => h) (Or.inl ⟨by rfl, ?_⟩) (by assumption) ?_
        rotate_left 1
        · (intro w hSw; (try dsimp only at hSw); go_simp; all_goals with_reducible rfl)
        try simp only [Act.put, List.setIfInBounds_toArray, List.set_cons_zero, List.set_cons_succ]
        refine wpAnyH_take (i := 1) (oi := ⟨some 21, _, _, _, _, _⟩) (v := ?_) rfl (by kernel_rfl) (by kernel_rfl) (by kernel_rfl) (fun _ _ _ h => h) (Or.inl ⟨by rfl, ?_⟩) (by assumption) ?_
        rotate_left 1
        · (intro w hSw; (try dsimp only at hSw); go_simp; all_goals with_reducible rfl)
        try simp only [Act.put, List.setIfInBounds_toArray, List.set_cons_zero, List.set_cons_succ]
        refine wpAnyH_take (i := 2) (oi := ⟨some 22, _, _, _, _, _⟩) (v := ?_) rfl (by kernel_rfl) (by kernel_rfl) (by kernel_rfl) (fun _ _ _ h => h) (Or.inl ⟨by rfl, ?_⟩) (by assumption) ?_
        rotate_left 1
        · (intro w hSw; (try dsimp only at hSw); go_simp; all_goals with_reducible rfl)
        try simp only [Act.put, List.setIfInBounds_toArray, List.set_cons_zero, List.set_cons_succ]
        refine wpAnyH_take (i := 3) (oi := ⟨some 23, _, _, _, _, _⟩) (v := ?_) rfl (by kernel_rfl) (by kernel_rfl) (by kernel_rfl) (fun _ _ _ h => h) (Or.inl ⟨by rfl, ?_⟩) (by assumption) ?_
        rotate_left 1
        · (intro w hSw; (try dsimp only at hSw); go_simp; all_goals with_reducible rfl)
        try simp only [Act.put, List.setIfInBounds_toArray, List.set_cons_zero, List.set_cons_succ]
        refine wpAnyH_take (i := 4) (oi := ⟨some 24, _, _, _, _, _⟩) (v := ?_) rfl (by kernel_rfl) (by kernel_rfl) (by kernel_rfl) (fun _ _ _ h => h) (Or.inl ⟨by rfl, ?_⟩) (by assumption) ?_
        rotate_left 1
        · (intro w hSw; (try dsimp only at hSw); go_simp; all_goals with_reducible rfl)
        try simp only [Act.put, List.setIfInBounds_toArray, List.set_cons_zero, List.set_cons_succ]
        refine wpAnyH_ready (rs := [5]) (by kernel_rfl) (by simp) ?_
        refine AllReadyH.cons (o := ⟨some 25, _, _, _, _, _⟩) rfl (fun K hK => ?_) AllReadyH.nil
        go_simp
        go_at_call 43; (with_reducible refine (ORX.out _).mono ?_); rintro e w3 ⟨rfl, hf3⟩; have hHeld3 : Frm [] wr w3 := hHeld.trans hf3 (by simp) (by simp)
        go_wp2_with fail
        refine hK.out _ _ (by assumption) (fun hHeld => ?_)
        clear hK K
        try simp only [Act.put, List.setIfInBounds_toArray, List.set_cons_zero, List.set_cons_succ]
        refine wpAnyH_take (i := 6) (oi := ⟨some 26, _, _, _, _, _⟩) (v := ?_) rfl (by kernel_rfl) (by kernel_rfl) (by kernel_rfl) (fun _ _ _ h => h) (Or.inl ⟨by rfl, ?_⟩) (by assumption) ?_
        rotate_left 1
        · (intro w hSw; (try dsimp only at hSw); go_simp; all_goals with_reducible rfl)
        try simp only [Act.put, List.setIfInBounds_toArray, List.set_cons_zero, List.set_cons_succ]
        refine wpAnyH_done (by kernel_rfl) ?_ _
        have FX : Hid (Frm [] w1 w3) := Lib.hid (FR.out.trans hHeld (by simp) (by simp))
        have y0 := c0 _ hHeld
        have y1 := c1 _ hHeld
        have q0 := (FX.out.whole B2.out (by simp)).cell 0
        have q1 := (FX.out.whole B2.out (by simp)).cell 1
        have k0 := (FX.out.whole B2.out (by simp)).free 0
        have k1 := (FX.out.whole B2.out (by simp)).free 1
        simp only [List.getElem?_toArray, List.getElem?_cons_zero, List.getElem?_cons_succ] at q0 q1
        obtain ⟨FW1, FW2⟩ := FIN.out w3 ⟨xl, xe⟩ FX.out
        have FW1 := Lib.hid FW1
        have FW2 := Lib.hid FW2
        clear r0 r1 c0 c1 hHeld
        go_wp2
        refine bodyPost_ret (V0.out _ ⟨xl, xe⟩ true _ rfl rfl FW1.out) rfl ?_
        rw [HR.out, nextR_some NX.out]
        exact ⟨rfl, FW2.out⟩
      · have e1 : decide (0 ≤ c) = false := decide_eq_false hc0
        have NX := Lib.hid (NO.out (CC.out.2 hc0))
        clear YES NO CC
        go_wp2
        refine wp_region_held_drew (S := fun w' => Frm [] wr w') (by kernel_rfl) (Frm.drew (Frm.refl _ _)) (fun hHeld => ?_)
        refine wpAnyH_take (i := 0) (oi := ⟨some 20, _, _, _, _, _⟩) (v := ?_) rfl (by kernel_rfl) (by kernel_rfl) (by kernel_rfl) (fun _ _ _ h => h) (Or.inl ⟨by rfl, ?_⟩) (by assumption) ?_
        rotate_left 1
        · (intro w hSw; (try dsimp only at hSw); go_simp; all_goals with_reducible rfl)
        try simp only [Act.put, List.setIfInBounds_toArray, List.set_cons_zero, List.set_cons_succ]
        refine wpAnyH_take (i := 1) (oi := ⟨some 21, _, _, _, _, _⟩) (v := ?_) rfl (by kernel_rfl) (by kernel_rfl) (by kernel_rfl) (fun _ _ _ h => h) (Or.inl ⟨by rfl, ?_⟩) (by assumption) ?_
        rotate_left 1
        · (intro w hSw; (try dsimp only at hSw); go_simp; all_goals with_reducible rfl)
        try simp only [Act.put, List.setIfInBounds_toArray, List.set_cons_zero, List.set_cons_succ]
        refine wpAnyH_take (i := 2) (oi := ⟨some 22, _, _, _, _, _⟩) (v := ?_) rfl (by kernel_rfl) (by kernel_rfl) (by kernel_rfl) (fun _ _ _ h => h) (Or.inl ⟨by rfl, ?_⟩) (by assumption) ?_
        rotate_left 1
        · (intro w hSw; (try dsimp only at hSw); go_simp; all_goals with_reducible rfl)
        try simp only [Act.put, List.setIfInBounds_toArray, List.set_cons_zero, List.set_cons_succ]
        refine wpAnyH_take (i := 3) (oi := ⟨some 23, _, _, _, _, _⟩) (v := ?_) rfl (by kernel_rfl) (by kernel_rfl) (by kernel_rfl) (fun _ _ _ h => h) (Or.inl ⟨by rfl, ?_⟩) (by assumption) ?_
        rotate_left 1
        · (intro w hSw; (try dsimp only at hSw); go_simp; all_goals with_reducible rfl)
        try simp only [Act.put, List.setIfInBounds_toArray, List.set_cons_zero, List.set_cons_succ]
        refine wpAnyH_take (i := 4) (oi := ⟨some 24, _, _, _, _, _⟩) (v := ?_) rfl (by kernel_rfl) (by kernel_rfl) (by kernel_rfl) (fun _ _ _ h => h) (Or.inl ⟨by rfl, ?_⟩) (by assumption) ?_
        rotate_left 1
        · (intro w hSw; (try dsimp only at hSw); go_simp; all_goals with_reducible rfl)
        try simp only [Act.put, List.setIfInBounds_toArray, List.set_cons_zero, List.set_cons_succ]
        refine wpAnyH_ready (rs := [5]) (by kernel_rfl) (by simp) ?_
        refine AllReadyH.cons (o := ⟨some 25, _, _, _, _, _⟩) rfl (fun K hK => ?_) AllReadyH.nil
        go_simp
        go_at_call 43; (with_reducible refine (ORX.out _).mono ?_); rintro e w3 ⟨rfl, hf3⟩; have hHeld3 : Frm [] wr w3 := hHeld.trans hf3 (by simp) (by simp)
        go_wp2_with fail
        refine hK.out _ _ (by assumption) (fun hHeld => ?_)
        clear hK K
        try simp only [Act.put, List.setIfInBounds_toArray, List.set_cons_zero, List.set_cons_succ]
        refine wpAnyH_take (i := 6) (oi := ⟨some 26, _, _, _, _, _⟩) (v := ?_) rfl (by kernel_rfl) (by kernel_rfl) (by kernel_rfl) (fun _ _ _ h => h) (Or.inl ⟨by rfl, ?_⟩) (by assumption) ?_
        rotate_left 1
        · (intro w hSw; (try dsimp only at hSw); go_simp; all_goals with_reducible rfl)
        try simp only [Act.put, List.setIfInBounds_toArray, List.set_cons_zero, List.set_cons_succ]
        refine wpAnyH_done (by kernel_rfl) ?_ _
        have FX : Hid (Frm [] w2 w3) := Lib.hid (HF.out.trans hHeld (by simp) (by simp))
        clear r0 r1 c0 c1 hHeld
        go_wp2
        go_roundw
        case rel => exact ⟨k + 1, by omega, by go_num, NX, FX⟩
        case measure => simp [intOf]; omega
    · obtain rfl : k = M := by omega
      have NO : Hid (nextP X o ⟨pl, pe⟩ = none) := Lib.hid (by
        rw [← FND.out]
        exact find_none_at (fun j hj => decide_eq_false (fun h => h (HI.out j (by have := LEN.out; omega)))))
      have FWR : Hid (Frm [] w wr) := Lib.hid (F1.out.trans FR.out (by simp) (by simp))
      rcases Nat.eq_zero_or_pos n with h0 | h0
      · have d0 : ((n : Int) == 0) = true := by rw [beq_iff_eq]; omega
        have hX : X = [] := List.eq_nil_of_length_eq_zero (by have := HN.out; omega)
        have q0 := (FR.out.whole B2.out (by simp)).cell 0
        have q1 := (FR.out.whole B2.out (by simp)).cell 1
        have k0 := (FR.out.whole B2.out (by simp)).free 0
        have k1 := (FR.out.whole B2.out (by simp)).free 1
        simp only [List.getElem?_toArray, List.getElem?_cons_zero, List.getElem?_cons_succ] at q0 q1
        obtain ⟨FW1, FW2⟩ := FIN.out wr ⟨0, 0⟩ FR.out
        have FW1 := Lib.hid FW1
        have FW2 := Lib.hid FW2
        have EX : Hid (endP X o = ⟨0, 0⟩) := Lib.hid (by rw [hX]; rfl)
        clear hX h0
        go_wp2
        refine bodyPost_ret (V0.out _ ⟨0, 0⟩ false _ rfl rfl FW1.out) rfl ?_
        rw [HR.out, nextR_none NO.out, EX.out]
        exact ⟨rfl, FW2.out⟩
      · obtain ⟨j, hj⟩ : ∃ j, j = n - 1 := ⟨_, rfl⟩
        have d0 : ((n : Int) == 0) = false := by rw [beq_eq_false_iff_ne]; omega
        have s1 : (n : Int) - 1 = (j : Int) := by omega
        have s2 : (j : Int) < (n : Int) := by omega
        have s3 : j < n := by omega
        have hwj : IntKind.i64.wrap (j : Int) = (j : Int) := by simp [IntKind.wrap, IntKind.bits, IntKind.signed]; omega
        obtain ⟨b, off, rfl, e0, e1, e2, _⟩ := (H.out.sub FWR.out).at (i := j) (by have := HN.out; omega)
        have EX := Lib.hid (endP_last (X := X) o (by rintro rfl; have := HN.out; simp at this; omega))
        have ell : X.getD j default = lastL X := by unfold lastL; rw [← HN.out, hj]
        rw [ell] at e0 e1 e2
        have SX := Lib.hid (HSZ.out (lastL X))
        generalize lastL X = x at EX SX e0 e1 e2
        obtain ⟨xi, xc, xn⟩ := x
        unfold Ld.val LRet at SX
        simp only at EX SX e0 e1 e2
        generalize Ld.size ⟨xi, xc, xn⟩ o = sz at EX SX
        obtain ⟨W, hW⟩ : ∃ W, W = wr.alloc (.cells #[.int .u64 (xi : Nat), .bool xc, .int .u64 (xn : Nat)] 69) := ⟨_, rfl⟩
        obtain ⟨y, hy⟩ : ∃ y, y = wr.heap.size := ⟨_, rfl⟩
        have FW : Hid (Frm [] w1 W) := Lib.hid (by rw [hW]; exact FR.out.alloc _)
        have BW : Hid (Whole W y 69 #[.int .u64 (xi : Nat), .bool xc, .int .u64 (xn : Nat)]) := Lib.hid (by rw [hW, hy]; exact Whole.made _ _ _)
        have YG : Hid (y ≠ g + 1) := Lib.hid (by
          have h1 := (FR.out.whole B2.out (by simp)).lt
          rw [hy]; omega)
        have r4 : ∀ z, Frm [g + 1] W z → z.cell? ⟨y, 0, none⟩ = some (.int .u64 (xi : Nat)) := fun z hz => (hz.whole BW.out (by simp; exact YG.out)).cell 0
        have r5 : ∀ z, Frm [g + 1] W z → z.cell? ⟨y, 1, none⟩ = some (.bool xc) := fun z hz => (hz.whole BW.out (by simp; exact YG.out)).cell 1
        have r6 : ∀ z, Frm [g + 1] W z → z.cell? ⟨y, 2, none⟩ = some (.int .u64 (xn : Nat)) := fun z hz => (hz.whole BW.out (by simp; exact YG.out)).cell 2
        have HWW := Lib.hid hW; clear hW
        have HY := Lib.hid hy; clear hy ell hj h0
        go_upto_region 10 with (fail)
        rw [← HWW.out, ← HY.out]
        refine wp_region_held_drew (S := fun w' => Frm [g + 1] W w') (by kernel_rfl) (Frm.drew (Frm.refl _ _)) (fun hHeld => ?_)
        refine wpAnyH_take (i := 0) (oi := ⟨some 41, _, _, _, _, _⟩) (v := ?_) rfl (by kernel_rfl) (by kernel_rfl) (by kernel_rfl) (fun _ _ _ h => h) (Or.inl ⟨by rfl, ?_⟩) (by assumption) ?_
        rotate_left 1
        · (intro w hSw; (try dsimp only at hSw); go_simp; all_goals with_reducible rfl)
        try simp only [Act.put, List.setIfInBounds_toArray, List.set_cons_zero, List.set_cons_succ]
        refine wpAnyH_take (i := 1) (oi := ⟨some 42, _, _, _, _, _⟩) (v := ?_) rfl (by kernel_rfl) (by kernel_rfl) (by kernel_rfl) (fun _ _ _ h => h) (Or.inl ⟨by rfl, ?_⟩) (by assumption) ?_
        rotate_left 1
        · (intro w hSw; (try dsimp only at hSw); go_simp; all_goals with_reducible rfl)
        try simp only [Act.put, List.setIfInBounds_toArray, List.set_cons_zero, List.set_cons_succ]
        refine wpAnyH_take (i := 2) (oi := ⟨some 43, _, _, _, _, _⟩) (v := ?_) rfl (by kernel_rfl) (by kernel_rfl) (by kernel_rfl) (fun _ _ _ h => h) (Or.inl ⟨by rfl, ?_⟩) (by assumption) ?_
        rotate_left 1
        · (intro w hSw; (try dsimp only at hSw); go_simp; all_goals with_reducible rfl)
        try simp only [Act.put, List.setIfInBounds_toArray, List.set_cons_zero, List.set_cons_succ]
        refine wpAnyH_take (i := 3) (oi := ⟨some 44, _, _, _, _, _⟩) (v := ?_) rfl (by kernel_rfl) (by kernel_rfl) (by kernel_rfl) (fun _ _ _ h => h) (Or.inl ⟨by rfl, ?_⟩) (by assumption) ?_
        rotate_left 1
        · (intro w hSw; (try dsimp only at hSw); go_simp; all_goals with_reducible rfl)
        try simp only [Act.put, List.setIfInBounds_toArray, List.set_cons_zero, List.set_cons_succ]
        refine wpAnyH_ready (rs := [4]) (by kernel_rfl) (by simp) ?_
        refine AllReadyH.cons (o := ⟨some 45, _, _, _, _, _⟩) rfl (fun K hK => ?_) AllReadyH.nil
        go_simp
        go_at_call 51; (with_reducible refine (SX.out _).mono ?_); rintro e w4 ⟨rfl, hf4⟩; have hHeld4 : Frm [g + 1] W w4 := hHeld.trans hf4 (by simp) (by simp); have HF4 : Hid (Frm [] W w4) := Lib.hid ((((Frm.refl [] W).drew)).trans hf4 (by simp) (by simp))
        go_wp2_with fail
        refine hK.out _ _ (by assumption) (fun hHeld => ?_)
        clear hK K
        try simp only [Act.put, List.setIfInBounds_toArray, List.set_cons_zero, List.set_cons_succ]
        refine wpAnyH_take (i := 5) (oi := ⟨some 46, _, _, _, _, _⟩) (v := ?_) rfl (by kernel_rfl) (by kernel_rfl) (by kernel_rfl) (fun _ _ _ h => h) (Or.inl ⟨by rfl, ?_⟩) (by assumption) ?_
        rotate_left 1
        · (intro w hSw; (try dsimp only at hSw); go_simp; all_goals with_reducible rfl)
        try simp only [Act.put, List.setIfInBounds_toArray, List.set_cons_zero, List.set_cons_succ]
        have F4 : Hid (Frm [] w1 w4) := Lib.hid (FW.out.trans HF4.out (by simp) (by simp))
        have q0 := (F4.out.whole B2.out (by simp)).cell 0
        have q1 := (F4.out.whole B2.out (by simp)).cell 1
        have k0 := (F4.out.whole B2.out (by simp)).free 0
        have k1 := (F4.out.whole B2.out (by simp)).free 1
        simp only [List.getElem?_toArray, List.getElem?_cons_zero, List.getElem?_cons_succ] at q0 q1
        obtain ⟨FW1, FW2⟩ := FIN.out w4 ⟨xi, sz⟩ F4.out
        have FW1 := Lib.hid FW1
        have FW2 := Lib.hid FW2
        refine wpAnyH_ready (rs := [6]) (by kernel_rfl) (by simp) ?_
        refine AllReadyH.cons (o := ⟨none, _, _, _, _, _⟩) rfl (fun K hK => ?_) AllReadyH.nil
        go_simp
        refine hK.out _ _ ((hHeld.setCell (.inl (by simp)) _).setCell (.inl (by simp)) _) (fun hHeld => ?_)
        clear hK K
        refine wpAnyH_take (i := 7) (oi := ⟨some 7, _, _, _, _, _⟩) (v := ?_) rfl (by kernel_rfl) (by kernel_rfl) (by kernel_rfl) (fun _ _ _ h => h) (Or.inl ⟨by rfl, ?_⟩) (by assumption) ?_
        rotate_left 1
        · (intro w hSw; (try dsimp only at hSw); go_simp; all_goals with_reducible rfl)
        try simp only [Act.put, List.setIfInBounds_toArray, List.set_cons_zero, List.set_cons_succ]
        refine wpAnyH_done (by kernel_rfl) ?_ _
        clear r4 r5 r6 q0 q1 k0 k1
        go_wp2
        refine bodyPost_ret (V0.out _ ⟨xi, sz⟩ false _ rfl rfl FW1.out) rfl ?_
        rw [HR.out, nextR_none NO.out, EX.out]
        exact ⟨rfl, FW2.out⟩
set_option maxHeartbeats 1000000 in
theorem rlhas_any (a : Option Addr) (n cap : Nat) (X : List Ld) (o : Nat) (p : Ps) (w : World) (h : LdL w [] a X) (hn : n = X.length) (hsz : n < 4611686018427387904) (ht : tot X o ≤ 100000) :
    Calls Try.prog 37 #[.slice a n cap, .int .u64 (o : Nat), p.val] w (LRet w (.bool (hasP X o p))) := by
  have HNX := Lib.hid (fun z (hz : Frm [] w z) => rlnext_any a n cap X o p z (h.sub hz) hn hsz ht)
  rw [← nextV_has]
  unfold nextR at HNX
  generalize nextV X o p = v at HNX ⊢
  obtain ⟨d, hd⟩ : ∃ d, d = decide (v.1 = p) := ⟨_, rfl⟩
  rw [← hd]
  have HD := Lib.hid hd; clear hd
  obtain ⟨⟨ql, qe⟩, b⟩ := v
  obtain ⟨pl, pe⟩ := p
  clear h hn ht
  unfold LRet at HNX
  unfold Ps.val at HNX
  unfold Ps.val LRet
  simp only at HNX ⊢
  obtain ⟨g, hg⟩ : ∃ g, g = w.heap.size := ⟨_, rfl⟩
  obtain ⟨w1, hw1⟩ : ∃ w1, w1 = w.alloc (.cells #[.int .u64 (pl : Nat), .int .u64 (pe : Nat)] 25) := ⟨_, rfl⟩
  have F1 : Hid (Frm [] w w1) := Lib.hid (by rw [hw1]; exact (Frm.refl _ _).alloc _)
  have B1 : Hid (Whole w1 g 25 #[.int .u64 (pl : Nat), .int .u64 (pe : Nat)]) := Lib.hid (by rw [hw1, hg]; exact Whole.made _ _ _)
  have p0 := B1.out.cell 0
  have p1 := B1.out.cell 1
  simp at p0 p1
  have HG := Lib.hid hg
  have HW1 := Lib.hid hw1
  go_enter Try.func37, Try.ntmps37
  go_upto_region 1 with (fail)
  rw [← hw1, ← hg]
  clear hg hw1
  go_wp2_with fail
  (with_reducible refine (HNX.out _ F1.out).mono ?_)
  rintro e w2 ⟨rfl, hf2⟩
  have G2 : Hid (Frm [] w w2) := Lib.hid (F1.out.trans hf2 (by simp) (by simp))
  have bb := hf2.whole B1.out (by simp)
  have BB : Hid (Whole (w2.alloc (.cells #[.int .u64 (ql : Nat), .int .u64 (qe : Nat)] 25)) g 25 #[.int .u64 (pl : Nat), .int .u64 (pe : Nat)]) := Lib.hid (bb.alloc _)
  have FF : Hid (Frm [] w (w2.alloc (.cells #[.int .u64 (ql : Nat), .int .u64 (qe : Nat)] 25))) := Lib.hid (G2.out.alloc _)
  have q0 := BB.out.cell 0
  have q1 := BB.out.cell 1
  simp only [List.getElem?_toArray, List.getElem?_cons_zero, List.getElem?_cons_succ] at q0 q1
  have ee : ∀ w : World, (binOp .eql 25 (.agg #[.int .u64 (ql : Nat), .int .u64 (qe : Nat)]) (.agg #[.int .u64 (pl : Nat), .int .u64 (pe : Nat)])).run Try.prog w = .ok (.bool d) w := fun w => by rw [HD.out]; exact eql_ps ql qe pl pe w
  clear p0 p1 bb hf2 HNX
  cases b
  all_goals
    go_wp2
    go_ret
    exact ⟨by simp, FF.out⟩
theorem count_take {L : List Ps} {P : Ps → Bool} {k : Nat} (hk : k < L.length) : (L.take (k + 1)).countP P = (L.take k).countP P + (if P (L.getD k default) = true then 1 else 0) := by
  have e : L.getD k default = L[k] := by simp [hk]
  rw [e, List.take_succ_eq_append_getElem hk, List.countP_append, List.countP_singleton]
end Go.Proofs.Ytghadpihmhaepaa
/- Contracts of the document's NextFree, Backlog. -/
namespace Go.Proofs.Ytghadpihmhaepaa
open Go.RowKit
set_option maxRecDepth 100000

instance (c : Crs) (p : Ps) : Decidable (ackedC c p) := inferInstanceAs (Decidable (p.lt c.mark ∨ Mem (ofH c.held p.l) p.e))
/-- How many aren't acked. -/
def backC (X : List Ld) (o : Nat) (c : Crs) : Nat := (allP X o).countP (fun r => decide (¬ ackedC c r))
/-- The first one from a place on that isn't acked. -/
def nextC (X : List Ld) (o : Nat) (c : Crs) (p : Ps) : Option Ps := (allP X o).find? (fun q => decide (¬ q.lt p ∧ ¬ ackedC c q))
def nextCV : Option Ps → Value
  | some q => .tuple #[q.val, .bool true]
  | none => .tuple #[(⟨0, 0⟩ : Ps).val, .bool false]
set_option maxHeartbeats 8000000 in
theorem crback_any (a : Option Addr) (n cap : Nat) (X : List Ld) (o : Nat) (m : Ps) (ah : Option Addr) (nh ch : Nat) (F : List Nat) (H : List Hx) (w : World) (h : LdL w [] a X) (hn : n = X.length) (hsz : n < 4611686018427387904) (ht : tot X o ≤ 100000) (hh : HxL w F ah H) (hnh : nh = H.length) (hszh : nh < 4611686018427387904) (hr : ∀ x ∈ H, x.t.2.length < 4611686018427387904) :
    Calls Try.prog 23 #[.slice a n cap, .int .u64 (o : Nat), crsV m ah nh ch] w (LRet w (.int .u64 (backC X o ⟨m, hels H⟩ : Nat))) := by
  have HAL := Lib.hid (fun z (hz : Frm [] w z) => rlall_any a n cap X o z (h.sub hz) hn hsz ht)
  have HAK := Lib.hid (fun (p : Ps) z (hz : Frm [] w z) => cracked_any m ah nh ch F H p z (hh.sub hz) hnh hszh hr)
  have LEN := Lib.hid (allP_length X o)
  obtain ⟨C, hC⟩ : ∃ C, C = (⟨m, hels H⟩ : Crs) := ⟨_, rfl⟩
  rw [← hC] at HAK ⊢
  clear hC
  have CNT : Hid (backC X o C = (allP X o).countP (fun r => decide (¬ ackedC C r))) := Lib.hid rfl
  obtain ⟨L, hL⟩ : ∃ L, L = allP X o := ⟨_, rfl⟩
  obtain ⟨M, hM⟩ : ∃ M, M = tot X o := ⟨_, rfl⟩
  rw [← hL, ← hM] at HAL LEN
  rw [← hL] at CNT
  have hM16 : M ≤ 100000 := by omega
  obtain ⟨ct, hct⟩ : ∃ ct : Nat → Nat, ct = fun k => (L.take k).countP (fun r => decide (¬ ackedC C r)) := ⟨_, rfl⟩
  have C0 : Hid (ct 0 = 0) := Lib.hid (by rw [hct]; simp)
  have CN : Hid (ct M = backC X o C) := Lib.hid (by rw [hct, CNT.out, ← LEN.out]; show (L.take L.length).countP _ = _; rw [List.take_length])
  have CS : Hid (∀ k, k < M → ct (k + 1) = ct k + (if ¬ ackedC C (L.getD k default) then 1 else 0)) := Lib.hid (fun k hk => by
    rw [hct]
    show (L.take (k + 1)).countP _ = _
    rw [count_take (by have := LEN.out; omega)]
    simp only [decide_eq_true_iff])
  have CB : Hid (∀ k, ct k ≤ k) := Lib.hid (fun k => by
    rw [hct]
    exact Nat.le_trans List.countP_le_length (by rw [List.length_take]; exact Nat.min_le_left _ _))
  obtain ⟨w1, hw1⟩ : ∃ w1, w1 = w.alloc (.cells #[.int .u64 (m.l : Nat), .int .u64 (m.e : Nat), .slice ah nh ch] 28) := ⟨_, rfl⟩
  have F1 : Hid (Frm [] w w1) := Lib.hid (by rw [hw1]; exact (Frm.refl _ _).alloc _)
  obtain ⟨g, hg⟩ : ∃ g, g = w.heap.size := ⟨_, rfl⟩
  have B1 : Hid (Whole w1 g 28 #[.int .u64 (m.l : Nat), .int .u64 (m.e : Nat), .slice ah nh ch]) := Lib.hid (by rw [hw1, hg]; exact Whole.made _ _ _)
  clear h hn ht hL hM hct CNT hh hnh hr
  obtain ⟨B, hB⟩ : ∃ B, B = backC X o C := ⟨_, rfl⟩
  rw [← hB] at CN ⊢
  clear hB
  obtain ⟨R, hR⟩ : ∃ R, R = LRet w (.int .u64 (B : Nat)) := ⟨_, rfl⟩
  rw [← hR]
  have HR := Lib.hid hR; clear hR
  obtain ⟨ml, me⟩ := m
  unfold crsV at HAK ⊢
  simp only at hw1 B1 HAK ⊢
  have HW1 := Lib.hid hw1; clear hw1
  go_enter Try.func23, Try.ntmps23
  go_wp2_with fail
  rw [← HW1.out, ← hg]
  have HG := Lib.hid hg; clear hg
  (with_reducible refine (HAL.out _ F1.out).mono ?_)
  rintro e w2 ⟨a2, c2, rfl, ho2, hf2⟩
  have F2 := Lib.hid hf2
  have L2 : Hid (PsL w2 [] a2 L) := Lib.hid ho2.sl
  clear hf2 ho2 HAL
  go_wp2
  go_loopw [8, 9] (fun s8 s9 wr => ∃ k : Nat, k ≤ M ∧ s9 = .int .i64 (k : Nat) ∧ s8 = .int .u64 (ct k : Nat) ∧ Hid (Frm [] w2 wr)) (fun _ s9 _ => M - (intOf s9).toNat)
  case atStart => exact ⟨0, Nat.zero_le _, rfl, by rw [C0.out]; rfl, Lib.hid (Frm.refl _ _)⟩
  case round =>
    obtain ⟨k, hk, rfl, rfl, HF⟩ := hrel
    have FR : Hid (Frm [] w1 wr) := Lib.hid (F2.out.trans HF.out (by simp) (by simp))
    by_cases hlt : k < M
    · have hlt' : (k : Int) < (M : Int) := by omega
      obtain ⟨b, off, rfl, d0, d1, _⟩ := (L2.out.sub HF.out).at (i := k) (by have := LEN.out; omega)
      have b1 := FR.out.whole B1.out (by simp)
      have r0 : ∀ z, Frm [] wr z → z.cell? ⟨g, 0, none⟩ = some (.int .u64 (ml : Nat)) := fun z hz => (hz.whole b1 (by simp)).cell 0
      have r1 : ∀ z, Frm [] wr z → z.cell? ⟨g, 1, none⟩ = some (.int .u64 (me : Nat)) := fun z hz => (hz.whole b1 (by simp)).cell 1
      have r2 : ∀ z, Frm [] wr z → z.cell? ⟨g, 2, none⟩ = some (.slice ah nh ch) := fun z hz => (hz.whole b1 (by simp)).cell 2
      have cs := CS.out k hlt
      have cb := CB.out k
      obtain ⟨x, hx⟩ : ∃ x, x = L.getD k default := ⟨_, rfl⟩
      rw [← hx] at d0 d1 cs
      have AKX : Hid (∀ z, Frm [] wr z → Calls Try.prog 19 #[.agg #[.int .u64 (ml : Nat), .int .u64 (me : Nat), .slice ah nh ch], x.val] z (BoolOf (ackedC C x) z)) := Lib.hid (fun z hz => HAK.out x z (F1.out.trans (FR.out.trans hz (U := []) (by simp) (by simp)) (by simp) (by simp)))
      obtain ⟨t2, ht2⟩ : ∃ t2, t2 = ct (k + 1) := ⟨_, rfl⟩
      obtain ⟨t1, ht1⟩ : ∃ t1, t1 = ct k := ⟨_, rfl⟩
      rw [← ht2, ← ht1] at cs
      rw [← ht1] at cb ⊢
      have HT2 := Lib.hid ht2
      clear hx ht2 ht1 b1
      by_cases h1 : ackedC C x
      · replace cs : t2 = t1 := by rw [if_neg (fun h2 => h2 h1)] at cs; exact cs
        have T12 : Hid (t1 = ct (k + 1)) := Lib.hid (by rw [← HT2.out]; omega)
        have AKX := Lib.hid (fun z hz => (AKX.out z hz).mono fun e w' hh => BoolOf.yes hh h1)
        obtain ⟨xl, xe⟩ := x
        unfold Ps.val at AKX
        simp only at d0 d1 AKX
        have c0 : ∀ z, Frm [] wr z → z.cell? ⟨b, off + k * 2, none⟩ = some (.int .u64 (xl : Nat)) := fun z hz => (hz.cell (p := ⟨b, off + k * 2, none⟩) (block_lt_of_cell d0) (by simp)).trans d0
        have c1 : ∀ z, Frm [] wr z → z.cell? ⟨b, off + k * 2 + 1, none⟩ = some (.int .u64 (xe : Nat)) := fun z hz => (hz.cell (p := ⟨b, off + k * 2 + 1, none⟩) (block_lt_of_cell d1) (by simp)).trans d1
        clear d0 d1 cs cb h1
        go_wp2
        refine wp_region_held_drew (S := fun w' => Frm [] wr w') (by kernel_rfl) (Frm.drew (Frm.refl _ _)) (fun hHeld => ?_)
        refine wpAnyH_take (i := 0) (oi := ⟨some 19, _, _, _, _, _⟩) (v := ?_) rfl (by kernel_rfl) (by kernel_rfl) (by kernel_rfl) (fun _ _ _ h => h) (Or.inl ⟨by rfl, ?_⟩) (by assumption) ?_
        rotate_left 1
        · (intro w hSw; (try dsimp only at hSw); go_simp; all_goals with_reducible rfl)
        try simp only [Act.put, List.setIfInBounds_toArray, List.set_cons_zero, List.set_cons_succ]
        refine wpAnyH_take (i := 1) (oi := ⟨some 20, _, _, _, _, _⟩) (v := ?_) rfl (by kernel_rfl) (by kernel_rfl) (by kernel_rfl) (fun _ _ _ h => h) (Or.inl ⟨by rfl, ?_⟩) (by assumption) ?_
        rotate_left 1
        · (intro w hSw; (try dsimp only at hSw); go_simp; all_goals with_reducible rfl)
        try simp only [Act.put, List.setIfInBounds_toArray, List.set_cons_zero, List.set_cons_succ]
        refine wpAnyH_take (i := 2) (oi := ⟨some 21, _, _, _, _, _⟩) (v := ?_) rfl (by kernel_rfl) (by kernel_rfl) (by kernel_rfl) (fun _ _ _ h => h) (Or.inl ⟨by rfl, ?_⟩) (by assumption) ?_
        rotate_left 1
        · (intro w hSw; (try dsimp only at hSw); go_simp; all_goals with_reducible rfl)
        try simp only [Act.put, List.setIfInBounds_toArray, List.set_cons_zero, List.set_cons_succ]
        refine wpAnyH_take (i := 3) (oi := ⟨some 22, _, _, _, _, _⟩) (v := ?_) rfl (by kernel_rfl) (by kernel_rfl) (by kernel_rfl) (fun _ _ _ h => h) (Or.inl ⟨by rfl, ?_⟩) (by assumption) ?_
        rotate_left 1
        · (intro w hSw; (try dsimp only at hSw); go_simp; all_goals with_reducible rfl)
        try simp only [Act.put, List.setIfInBounds_toArray, List.set_cons_zero, List.set_cons_succ]
        refine wpAnyH_take (i := 4) (oi := ⟨some 23, _, _, _, _, _⟩) (v := ?_) rfl (by kernel_rfl) (by kernel_rfl) (by kernel_rfl) (fun _ _ _ h => h) (Or.inl ⟨by rfl, ?_⟩) (by assumption) ?_
        rotate_left 1
        · (intro w hSw; (try dsimp only at hSw); go_simp; all_goals with_reducible rfl)
        try simp only [Act.put, List.setIfInBounds_toArray, List.set_cons_zero, List.set_cons_succ]
        refine wpAnyH_ready (rs := [5]) (by kernel_rfl) (by simp) ?_
        refine AllReadyH.cons (o := ⟨some 24, _, _, _, _, _⟩) rfl (fun K hK => ?_) AllReadyH.nil
        go_simp
        go_at_call 19; (with_reducible refine (AKX.out _ hHeld).mono ?_); rintro e w3 ⟨rfl, hf3⟩; have hHeld3 : Frm [] wr w3 := hHeld.trans hf3 (by simp) (by simp)
        go_wp2_with fail
        refine hK.out _ _ (by assumption) (fun hHeld => ?_)
        clear hK K
        try simp only [Act.put, List.setIfInBounds_toArray, List.set_cons_zero, List.set_cons_succ]
        refine wpAnyH_take (i := 6) (oi := ⟨some 25, _, _, _, _, _⟩) (v := ?_) rfl (by kernel_rfl) (by kernel_rfl) (by kernel_rfl) (fun _ _ _ h => h) (Or.inl ⟨by rfl, ?_⟩) (by assumption) ?_
        rotate_left 1
        · (intro w hSw; (try dsimp only at hSw); go_simp; all_goals with_reducible rfl)
        try simp only [Act.put, List.setIfInBounds_toArray, List.set_cons_zero, List.set_cons_succ]
        refine wpAnyH_done (by kernel_rfl) ?_ _
        have FX : Hid (Frm [] w2 _) := Lib.hid (HF.out.trans hHeld (by simp) (by simp))
        clear r0 r1 r2 c0 c1 hHeld
        go_wp2
        go_roundw
        case rel => exact ⟨k + 1, by omega, by go_num, by rw [T12.out], FX⟩
        case measure => simp [intOf]; omega
      · replace cs : t2 = t1 + 1 := by rw [if_pos h1] at cs; exact cs
        have hw1 : IntKind.u64.wrap ((t1 : Int) + 1) = (t2 : Int) := by simp [IntKind.wrap, IntKind.bits, IntKind.signed]; omega
        have hw2 : (t1 : Int) + 1 = (t2 : Int) := by omega
        have hw3 : IntKind.u64.wrap (t2 : Int) = (t2 : Int) := by simp [IntKind.wrap, IntKind.bits, IntKind.signed]; omega
        have AKX := Lib.hid (fun z hz => (AKX.out z hz).mono fun e w' hh => BoolOf.no hh h1)
        obtain ⟨xl, xe⟩ := x
        unfold Ps.val at AKX
        simp only at d0 d1 AKX
        have c0 : ∀ z, Frm [] wr z → z.cell? ⟨b, off + k * 2, none⟩ = some (.int .u64 (xl : Nat)) := fun z hz => (hz.cell (p := ⟨b, off + k * 2, none⟩) (block_lt_of_cell d0) (by simp)).trans d0
        have c1 : ∀ z, Frm [] wr z → z.cell? ⟨b, off + k * 2 + 1, none⟩ = some (.int .u64 (xe : Nat)) := fun z hz => (hz.cell (p := ⟨b, off + k * 2 + 1, none⟩) (block_lt_of_cell d1) (by simp)).trans d1
        clear d0 d1 cs cb h1
        go_wp2
        refine wp_region_held_drew (S := fun w' => Frm [] wr w') (by kernel_rfl) (Frm.drew (Frm.refl _ _)) (fun hHeld => ?_)
        refine wpAnyH_take (i := 0) (oi := ⟨some 19, _, _, _, _, _⟩) (v := ?_) rfl (by kernel_rfl) (by kernel_rfl) (by kernel_rfl) (fun _ _ _ h => h) (Or.inl ⟨by rfl, ?_⟩) (by assumption) ?_
        rotate_left 1
        · (intro w hSw; (try dsimp only at hSw); go_simp; all_goals with_reducible rfl)
        try simp only [Act.put, List.setIfInBounds_toArray, List.set_cons_zero, List.set_cons_succ]
        refine wpAnyH_take (i := 1) (oi := ⟨some 20, _, _, _, _, _⟩) (v := ?_) rfl (by kernel_rfl) (by kernel_rfl) (by kernel_rfl) (fun _ _ _ h => h) (Or.inl ⟨by rfl, ?_⟩) (by assumption) ?_
        rotate_left 1
        · (intro w hSw; (try dsimp only at hSw); go_simp; all_goals with_reducible rfl)
        try simp only [Act.put, List.setIfInBounds_toArray, List.set_cons_zero, List.set_cons_succ]
        refine wpAnyH_take (i := 2) (oi := ⟨some 21, _, _, _, _, _⟩) (v := ?_) rfl (by kernel_rfl) (by kernel_rfl) (by kernel_rfl) (fun _ _ _ h => h) (Or.inl ⟨by rfl, ?_⟩) (by assumption) ?_
        rotate_left 1
        · (intro w hSw; (try dsimp only at hSw); go_simp; all_goals with_reducible rfl)
        try simp only [Act.put, List.setIfInBounds_toArray, List.set_cons_zero, List.set_cons_succ]
        refine wpAnyH_take (i := 3) (oi := ⟨some 22, _, _, _, _, _⟩) (v := ?_) rfl (by kernel_rfl) (by kernel_rfl) (by kernel_rfl) (fun _ _ _ h => h) (Or.inl ⟨by rfl, ?_⟩) (by assumption) ?_
        rotate_left 1
        · (intro w hSw; (try dsimp only at hSw); go_simp; all_goals with_reducible rfl)
        try simp only [Act.put, List.setIfInBounds_toArray, List.set_cons_zero, List.set_cons_succ]
        refine wpAnyH_take (i := 4) (oi := ⟨some 23, _, _, _, _, _⟩) (v := ?_) rfl (by kernel_rfl) (by kernel_rfl) (by kernel_rfl) (fun _ _ _ h => h) (Or.inl ⟨by rfl, ?_⟩) (by assumption) ?_
        rotate_left 1
        · (intro w hSw; (try dsimp only at hSw); go_simp; all_goals with_reducible rfl)
        try simp only [Act.put, List.setIfInBounds_toArray, List.set_cons_zero, List.set_cons_succ]
        refine wpAnyH_ready (rs := [5]) (by kernel_rfl) (by simp) ?_
        refine AllReadyH.cons (o := ⟨some 24, _, _, _, _, _⟩) rfl (fun K hK => ?_) AllReadyH.nil
        go_simp
        go_at_call 19; (with_reducible refine (AKX.out _ hHeld).mono ?_); rintro e w3 ⟨rfl, hf3⟩; have hHeld3 : Frm [] wr w3 := hHeld.trans hf3 (by simp) (by simp)
        go_wp2_with fail
        refine hK.out _ _ (by assumption) (fun hHeld => ?_)
        clear hK K
        try simp only [Act.put, List.setIfInBounds_toArray, List.set_cons_zero, List.set_cons_succ]
        refine wpAnyH_take (i := 6) (oi := ⟨some 25, _, _, _, _, _⟩) (v := ?_) rfl (by kernel_rfl) (by kernel_rfl) (by kernel_rfl) (fun _ _ _ h => h) (Or.inl ⟨by rfl, ?_⟩) (by assumption) ?_
        rotate_left 1
        · (intro w hSw; (try dsimp only at hSw); go_simp; all_goals with_reducible rfl)
        try simp only [Act.put, List.setIfInBounds_toArray, List.set_cons_zero, List.set_cons_succ]
        refine wpAnyH_done (by kernel_rfl) ?_ _
        have FX : Hid (Frm [] w2 _) := Lib.hid (HF.out.trans hHeld (by simp) (by simp))
        clear r0 r1 r2 c0 c1 hHeld
        go_wp2
        go_roundw
        case rel => exact ⟨k + 1, by omega, by go_num, by rw [HT2.out], FX⟩
        case measure => simp [intOf]; omega
    · obtain rfl : k = M := by omega
      have FWR : Hid (Frm [] w wr) := Lib.hid (F1.out.trans FR.out (by simp) (by simp))
      have E : Hid (R (.returned (.int .u64 (ct k : Nat))) wr) := Lib.hid (by rw [HR.out, CN.out]; exact ⟨rfl, FWR.out⟩)
      go_wp2
      exact E.out
set_option maxHeartbeats 8000000 in
theorem crfree_any (a : Option Addr) (n cap : Nat) (X : List Ld) (o : Nat) (m : Ps) (ah : Option Addr) (nh ch : Nat) (F : List Nat) (H : List Hx) (p : Ps) (w : World) (h : LdL w [] a X) (hn : n = X.length) (hsz : n < 4611686018427387904) (ht : tot X o ≤ 100000) (hh : HxL w F ah H) (hnh : nh = H.length) (hszh : nh < 4611686018427387904) (hr : ∀ x ∈ H, x.t.2.length < 4611686018427387904) :
    Calls Try.prog 21 #[.slice a n cap, .int .u64 (o : Nat), crsV m ah nh ch, p.val] w (LRet w (nextCV (nextC X o ⟨m, hels H⟩ p))) := by
  have HAL := Lib.hid (fun z (hz : Frm [] w z) => rlall_any a n cap X o z (h.sub hz) hn hsz ht)
  have HAK := Lib.hid (fun (p : Ps) z (hz : Frm [] w z) => cracked_any m ah nh ch F H p z (hh.sub hz) hnh hszh hr)
  have HOR := Lib.hid (fun (q : Ps) z => rlorder_any q p z)
  have LEN := Lib.hid (allP_length X o)
  obtain ⟨C, hC⟩ : ∃ C, C = (⟨m, hels H⟩ : Crs) := ⟨_, rfl⟩
  rw [← hC] at HAK ⊢
  clear hC
  have FND : Hid ((allP X o).find? (fun q => decide (¬ q.lt p ∧ ¬ ackedC C q)) = nextC X o C p) := Lib.hid rfl
  obtain ⟨L, hL⟩ : ∃ L, L = allP X o := ⟨_, rfl⟩
  obtain ⟨M, hM⟩ : ∃ M, M = tot X o := ⟨_, rfl⟩
  rw [← hL, ← hM] at HAL LEN
  rw [← hL] at FND
  obtain ⟨N, hN⟩ : ∃ N, N = nextC X o C p := ⟨_, rfl⟩
  rw [← hN] at FND ⊢
  have hM16 : M ≤ 100000 := by omega
  obtain ⟨w1, hw1⟩ : ∃ w1, w1 = ((w.alloc (.cells #[.int .u64 (m.l : Nat), .int .u64 (m.e : Nat), .slice ah nh ch] 28)).alloc (.cells #[.int .u64 (p.l : Nat), .int .u64 (p.e : Nat)] 25)).alloc (.cells #[.int .u64 0, .int .u64 0] 25) := ⟨_, rfl⟩
  have F1 : Hid (Frm [] w w1) := Lib.hid (by rw [hw1]; exact (((Frm.refl _ _).alloc _).alloc _).alloc _)
  obtain ⟨g, hg⟩ : ∃ g, g = w.heap.size := ⟨_, rfl⟩
  have B0 : Hid (Whole w1 g 28 #[.int .u64 (m.l : Nat), .int .u64 (m.e : Nat), .slice ah nh ch]) := Lib.hid (by rw [hw1, hg]; exact ((Whole.made _ _ _).alloc _).alloc _)
  have B1 : Hid (Whole w1 (g + 1) 25 #[.int .u64 (p.l : Nat), .int .u64 (p.e : Nat)]) := Lib.hid (by
    rw [hw1, hg]
    have := Whole.made (w.alloc (.cells #[.int .u64 (m.l : Nat), .int .u64 (m.e : Nat), .slice ah nh ch] 28)) 25 #[.int .u64 (p.l : Nat), .int .u64 (p.e : Nat)]
    rw [World.size_alloc] at this
    exact this.alloc _)
  have B2 : Hid (Whole w1 (g + 1 + 1) 25 #[.int .u64 0, .int .u64 0]) := Lib.hid (by
    rw [hw1, hg]
    have := Whole.made ((w.alloc (.cells #[.int .u64 (m.l : Nat), .int .u64 (m.e : Nat), .slice ah nh ch] 28)).alloc (.cells #[.int .u64 (p.l : Nat), .int .u64 (p.e : Nat)] 25)) 25 #[.int .u64 0, .int .u64 0]
    rwa [World.size_alloc, World.size_alloc] at this)
  have GS : Hid (w.heap.size ≤ g) := Lib.hid (by omega)
  clear h hn ht hL hM hN hh hnh hr
  obtain ⟨R, hR⟩ : ∃ R, R = LRet w (nextCV N) := ⟨_, rfl⟩
  rw [← hR]
  have HR := Lib.hid hR; clear hR
  have FIN : Hid (∀ (z : World) (q : Ps), Frm [] w1 z → Whole ((z.setCell ⟨g + 1 + 1, 0, none⟩ (.int .u64 (q.l : Nat))).setCell ⟨g + 1 + 1, 1, none⟩ (.int .u64 (q.e : Nat))) (g + 1 + 1) 25 #[.int .u64 (q.l : Nat), .int .u64 (q.e : Nat)] ∧ Frm [] w ((z.setCell ⟨g + 1 + 1, 0, none⟩ (.int .u64 (q.l : Nat))).setCell ⟨g + 1 + 1, 1, none⟩ (.int .u64 (q.e : Nat)))) := Lib.hid (fun z q hz => by
    have hw := hz.whole B2.out (by simp)
    refine ⟨?_, ?_⟩
    · have := (hw.put 0 (.int .u64 (q.l : Nat))).put 1 (.int .u64 (q.e : Nat))
      simpa using this
    · have h1 := F1.out.trans hz (U := []) (by simp) (by simp)
      exact (h1.setCell (.inr (by have := GS.out; simp; omega)) _).setCell (.inr (by have := GS.out; simp; omega)) _)
  have V0 : Hid (∀ (z : World) (q : Ps) (b : Bool) (tm : Array Value), tm.getD 8 undef = .pointer (some ⟨g + 1 + 1, 0, none⟩) → tm.getD 9 undef = .bool b → Whole z (g + 1 + 1) 25 #[.int .u64 (q.l : Nat), .int .u64 (q.e : Nat)] → (results Try.f21 tm).run Try.prog z = .ok (.tuple #[q.val, .bool b]) z) := Lib.hid (fun z q b tm h6 h7 hw => by
    have c0 := hw.cell 0
    have c1 := hw.cell 1
    simp at c0 c1
    have h6' : tm[8]?.getD undef = .pointer (some ⟨g + 1 + 1, 0, none⟩) := by simpa using h6
    have h7' : tm[9]?.getD undef = .bool b := by simpa using h7
    unfold Ps.val
    simp [results, Try.results21, go_sem, c0, c1, h6', h7'])
  obtain ⟨pl, pe⟩ := p
  obtain ⟨ml, me⟩ := m
  unfold Ps.val at HOR
  unfold crsV at HAK
  unfold crsV Ps.val
  simp only at hw1 B0 B1 HOR HAK ⊢
  have HW1 := Lib.hid hw1; clear hw1
  go_enter Try.func21, Try.ntmps21
  go_wp2_with fail
  rw [← HW1.out, ← hg]
  have HG := Lib.hid hg; clear hg
  (with_reducible refine (HAL.out _ F1.out).mono ?_)
  rintro e w2 ⟨a2, c2, rfl, ho2, hf2⟩
  have F2 := Lib.hid hf2
  have L2 : Hid (PsL w2 [] a2 L) := Lib.hid ho2.sl
  clear hf2 ho2 HAL
  go_wp2
  go_loopw [11] (fun s11 wr => ∃ k : Nat, k ≤ M ∧ s11 = .int .i64 (k : Nat) ∧ Hid (∀ j, j < k → ¬ (¬ (L.getD j default).lt ⟨pl, pe⟩ ∧ ¬ ackedC C (L.getD j default))) ∧ Hid (Frm [] w2 wr)) (fun s11 _ => M - (intOf s11).toNat)
  case atStart => exact ⟨0, Nat.zero_le _, rfl, Lib.hid (fun i hi => by omega), Lib.hid (Frm.refl _ _)⟩
  case round =>
    obtain ⟨k, hk, rfl, HI, HF⟩ := hrel
    have FR : Hid (Frm [] w1 wr) := Lib.hid (F2.out.trans HF.out (by simp) (by simp))
    by_cases hlt : k < M
    · have hlt' : (k : Int) < (M : Int) := by omega
      obtain ⟨b, off, rfl, d0, d1, _⟩ := (L2.out.sub HF.out).at (i := k) (by have := LEN.out; omega)
      have b0 := FR.out.whole B0.out (by simp)
      have bb := FR.out.whole B1.out (by simp)
      have r0 : ∀ z, Frm [] wr z → z.cell? ⟨g + 1, 0, none⟩ = some (.int .u64 (pl : Nat)) := fun z hz => (hz.whole bb (by simp)).cell 0
      have r1 : ∀ z, Frm [] wr z → z.cell? ⟨g + 1, 1, none⟩ = some (.int .u64 (pe : Nat)) := fun z hz => (hz.whole bb (by simp)).cell 1
      have r2 : ∀ z, Frm [] wr z → z.cell? ⟨g, 0, none⟩ = some (.int .u64 (ml : Nat)) := fun z hz => (hz.whole b0 (by simp)).cell 0
      have r3 : ∀ z, Frm [] wr z → z.cell? ⟨g, 1, none⟩ = some (.int .u64 (me : Nat)) := fun z hz => (hz.whole b0 (by simp)).cell 1
      have r4 : ∀ z, Frm [] wr z → z.cell? ⟨g, 2, none⟩ = some (.slice ah nh ch) := fun z hz => (hz.whole b0 (by simp)).cell 2
      obtain ⟨x, hx⟩ : ∃ x, x = L.getD k default := ⟨_, rfl⟩
      rw [← hx] at d0 d1
      have YES : Hid (¬ x.lt ⟨pl, pe⟩ ∧ ¬ ackedC C x → N = some x) := Lib.hid (fun hc => by
        rw [← FND.out, hx]
        exact find_at (by have := LEN.out; omega) (fun j hj => decide_eq_false (HI.out j hj)) (by rw [decide_eq_true_iff, ← hx]; exact hc))
      have NO : Hid (¬ (¬ x.lt ⟨pl, pe⟩ ∧ ¬ ackedC C x) → ∀ j, j < k + 1 → ¬ (¬ (L.getD j default).lt ⟨pl, pe⟩ ∧ ¬ ackedC C (L.getD j default))) := Lib.hid (fun hc j hj => by
        rcases Nat.lt_or_eq_of_le (Nat.le_of_lt_succ hj) with h1 | rfl
        · exact HI.out j h1
        · rw [← hx]; exact hc)
      have ORX := Lib.hid (HOR.out x)
      have AKX : Hid (∀ z, Frm [] wr z → Calls Try.prog 19 #[.agg #[.int .u64 (ml : Nat), .int .u64 (me : Nat), .slice ah nh ch], x.val] z (BoolOf (ackedC C x) z)) := Lib.hid (fun z hz => HAK.out x z (F1.out.trans (FR.out.trans hz (U := []) (by simp) (by simp)) (by simp) (by simp)))
      obtain ⟨c, hc⟩ : ∃ c, c = ordP x ⟨pl, pe⟩ := ⟨_, rfl⟩
      rw [← hc] at ORX
      have CC : Hid ((0 ≤ c → ¬ x.lt ⟨pl, pe⟩) ∧ (¬ 0 ≤ c → x.lt ⟨pl, pe⟩)) := Lib.hid ⟨fun h => by rw [hc] at h; exact ordP_ge.1 h, fun h => by rw [hc] at h; exact Classical.not_not.1 (fun h2 => h (ordP_ge.2 h2))⟩
      clear hx hc bb b0
      by_cases hc0 : 0 ≤ c
      · have e1 : decide (0 ≤ c) = true := decide_eq_true hc0
        by_cases h1 : ackedC C x
        · have NX := Lib.hid (NO.out (fun h => h.2 h1))
          have AKX := Lib.hid (fun z hz => (AKX.out z hz).mono fun e w' hh => BoolOf.yes hh h1)
          obtain ⟨xl, xe⟩ := x
          unfold LRet at ORX
          unfold Ps.val at AKX
          simp only at d0 d1 ORX AKX
          have c0 : ∀ z, Frm [] wr z → z.cell? ⟨b, off + k * 2, none⟩ = some (.int .u64 (xl : Nat)) := fun z hz => (hz.cell (p := ⟨b, off + k * 2, none⟩) (block_lt_of_cell d0) (by simp)).trans d0
          have c1 : ∀ z, Frm [] wr z → z.cell? ⟨b, off + k * 2 + 1, none⟩ = some (.int .u64 (xe : Nat)) := fun z hz => (hz.cell (p := ⟨b, off + k * 2 + 1, none⟩) (block_lt_of_cell d1) (by simp)).trans d1
          clear d0 d1 YES NO CC h1
          go_wp2
          refine wp_region_held_drew (S := fun w' => Frm [] wr w') (by kernel_rfl) (Frm.drew (Frm.refl _ _)) (fun hHeld => ?_)
          refine wpAnyH_take (i := 0) (oi := ⟨some 21, _, _, _, _, _⟩) (v := ?_) rfl (by kernel_rfl) (by kernel_rfl) (by kernel_rfl) (fun _ _ _ h => h) (Or.inl ⟨by rfl, ?_⟩) (by assumption) ?_
          rotate_left 1
          · (intro w hSw; (try dsimp only at hSw); go_simp; all_goals with_reducible rfl)
          try simp only [Act.put, List.setIfInBounds_toArray, List.set_cons_zero, List.set_cons_succ]
          refine wpAnyH_take (i := 1) (oi := ⟨some 22, _, _, _, _, _⟩) (v := ?_) rfl (by kernel_rfl) (by kernel_rfl) (by kernel_rfl) (fun _ _ _ h => h) (Or.inl ⟨by rfl, ?_⟩) (by assumption) ?_
          rotate_left 1
          · (intro w hSw; (try dsimp only at hSw); go_simp; all_goals with_reducible rfl)
          try simp only [Act.put, List.setIfInBounds_toArray, List.set_cons_zero, List.set_cons_succ]
          refine wpAnyH_take (i := 2) (oi := ⟨some 23, _, _, _, _, _⟩) (v := ?_) rfl (by kernel_rfl) (by kernel_rfl) (by kernel_rfl) (fun _ _ _ h => h) (Or.inl ⟨by rfl, ?_⟩) (by assumption) ?_
          rotate_left 1
          · (intro w hSw; (try dsimp only at hSw); go_simp; all_goals with_reducible rfl)
          try simp only [Act.put, List.setIfInBounds_toArray, List.set_cons_zero, List.set_cons_succ]
          refine wpAnyH_take (i := 3) (oi := ⟨some 24, _, _, _, _, _⟩) (v := ?_) rfl (by kernel_rfl) (by kernel_rfl) (by kernel_rfl) (fun _ _ _ h => h) (Or.inl ⟨by rfl, ?_⟩) (by assumption) ?_
          rotate_left 1
          · (intro w hSw; (try dsimp only at hSw); go_simp; all_goals with_reducible rfl)
          try simp only [Act.put, List.setIfInBounds_toArray, List.set_cons_zero, List.set_cons_succ]
          refine wpAnyH_take (i := 4) (oi := ⟨some 25, _, _, _, _, _⟩) (v := ?_) rfl (by kernel_rfl) (by kernel_rfl) (by kernel_rfl) (fun _ _ _ h => h) (Or.inl ⟨by rfl, ?_⟩) (by assumption) ?_
          rotate_left 1
          · (intro w hSw; (try dsimp only at hSw); go_simp; all_goals with_reducible rfl)
          try simp only [Act.put, List.setIfInBounds_toArray, List.set_cons_zero, List.set_cons_succ]
          refine wpAnyH_ready (rs := [5]) (by kernel_rfl) (by simp) ?_
          refine AllReadyH.cons (o := ⟨some 26, _, _, _, _, _⟩) rfl (fun K hK => ?_) AllReadyH.nil
          go_simp
          go_at_call 43; (with_reducible refine (ORX.out _).mono ?_); rintro e w3 ⟨rfl, hf3⟩; have hHeld3 : Frm [] wr w3 := hHeld.trans hf3 (by simp) (by simp)
          go_wp2_with fail
          refine hK.out _ _ (by assumption) (fun hHeld => ?_)
          clear hK K
          try simp only [Act.put, List.setIfInBounds_toArray, List.set_cons_zero, List.set_cons_succ]
          refine wpAnyH_take (i := 6) (oi := ⟨some 27, _, _, _, _, _⟩) (v := ?_) rfl (by kernel_rfl) (by kernel_rfl) (by kernel_rfl) (fun _ _ _ h => h) (Or.inl ⟨by rfl, ?_⟩) (by assumption) ?_
          rotate_left 1
          · (intro w hSw; (try dsimp only at hSw); go_simp; all_goals with_reducible rfl)
          try simp only [Act.put, List.setIfInBounds_toArray, List.set_cons_zero, List.set_cons_succ]
          refine wpAnyH_take (i := 7) (oi := ⟨some 28, _, _, _, _, _⟩) (v := ?_) rfl (by kernel_rfl) (by kernel_rfl) (by kernel_rfl) (fun _ _ _ h => h) (Or.inl ⟨by rfl, ?_⟩) (by assumption) ?_
          rotate_left 1
          · (intro w hSw; (try dsimp only at hSw); go_simp; all_goals with_reducible rfl)
          try simp only [Act.put, List.setIfInBounds_toArray, List.set_cons_zero, List.set_cons_succ]
          refine wpAnyH_take (i := 8) (oi := ⟨some 29, _, _, _, _, _⟩) (v := ?_) rfl (by kernel_rfl) (by kernel_rfl) (by kernel_rfl) (fun _ _ _ h => h) (Or.inl ⟨by rfl, ?_⟩) (by assumption) ?_
          rotate_left 1
          · (intro w hSw; (try dsimp only at hSw); go_simp; all_goals with_reducible rfl)
          try simp only [Act.put, List.setIfInBounds_toArray, List.set_cons_zero, List.set_cons_succ]
          refine wpAnyH_take (i := 9) (oi := ⟨some 30, _, _, _, _, _⟩) (v := ?_) rfl (by kernel_rfl) (by kernel_rfl) (by kernel_rfl) (fun _ _ _ h => h) (Or.inl ⟨by rfl, ?_⟩) (by assumption) ?_
          rotate_left 1
          · (intro w hSw; (try dsimp only at hSw); go_simp; all_goals with_reducible rfl)
          try simp only [Act.put, List.setIfInBounds_toArray, List.set_cons_zero, List.set_cons_succ]
          refine wpAnyH_take (i := 10) (oi := ⟨some 31, _, _, _, _, _⟩) (v := ?_) rfl (by kernel_rfl) (by kernel_rfl) (by kernel_rfl) (fun _ _ _ h => h) (Or.inl ⟨by rfl, ?_⟩) (by assumption) ?_
          rotate_left 1
          · (intro w hSw; (try dsimp only at hSw); go_simp; all_goals with_reducible rfl)
          try simp only [Act.put, List.setIfInBounds_toArray, List.set_cons_zero, List.set_cons_succ]
          refine wpAnyH_take (i := 11) (oi := ⟨some 32, _, _, _, _, _⟩) (v := ?_) rfl (by kernel_rfl) (by kernel_rfl) (by kernel_rfl) (fun _ _ _ h => h) (Or.inl ⟨by rfl, ?_⟩) (by assumption) ?_
          rotate_left 1
          · (intro w hSw; (try dsimp only at hSw); go_simp; all_goals with_reducible rfl)
          try simp only [Act.put, List.setIfInBounds_toArray, List.set_cons_zero, List.set_cons_succ]
          refine wpAnyH_take (i := 12) (oi := ⟨some 33, _, _, _, _, _⟩) (v := ?_) rfl (by kernel_rfl) (by kernel_rfl) (by kernel_rfl) (fun _ _ _ h => h) (Or.inl ⟨by rfl, ?_⟩) (by assumption) ?_
          rotate_left 1
          · (intro w hSw; (try dsimp only at hSw); go_simp; all_goals with_reducible rfl)
          try simp only [Act.put, List.setIfInBounds_toArray, List.set_cons_zero, List.set_cons_succ]
          refine wpAnyH_ready (rs := [13]) (by kernel_rfl) (by simp) ?_
          refine AllReadyH.cons (o := ⟨some 34, _, _, _, _, _⟩) rfl (fun K hK => ?_) AllReadyH.nil
          go_simp
          go_at_call 19; (with_reducible refine (AKX.out _ hHeld).mono ?_); rintro e w4 ⟨rfl, hf4⟩; have hHeld4 : Frm [] wr w4 := hHeld.trans hf4 (by simp) (by simp)
          go_wp2_with fail
          refine hK.out _ _ (by assumption) (fun hHeld => ?_)
          clear hK K
          try simp only [Act.put, List.setIfInBounds_toArray, List.set_cons_zero, List.set_cons_succ]
          refine wpAnyH_take (i := 14) (oi := ⟨some 35, _, _, _, _, _⟩) (v := ?_) rfl (by kernel_rfl) (by kernel_rfl) (by kernel_rfl) (fun _ _ _ h => h) (Or.inl ⟨by rfl, ?_⟩) (by assumption) ?_
          rotate_left 1
          · (intro w hSw; (try dsimp only at hSw); go_simp; all_goals with_reducible rfl)
          try simp only [Act.put, List.setIfInBounds_toArray, List.set_cons_zero, List.set_cons_succ]
          refine wpAnyH_take (i := 15) (oi := ⟨some 36, _, _, _, _, _⟩) (v := ?_) rfl (by kernel_rfl) (by kernel_rfl) (by kernel_rfl) (fun _ _ _ h => h) (Or.inl ⟨by rfl, ?_⟩) (by assumption) ?_
          rotate_left 1
          · (intro w hSw; (try dsimp only at hSw); go_simp; all_goals with_reducible rfl)
          try simp only [Act.put, List.setIfInBounds_toArray, List.set_cons_zero, List.set_cons_succ]
          refine wpAnyH_done (by kernel_rfl) ?_ _
          have FX : Hid (Frm [] w2 _) := Lib.hid (HF.out.trans hHeld (by simp) (by simp))
          clear r0 r1 r2 r3 r4 c0 c1 hHeld
          go_wp2
          go_roundw
          case rel => exact ⟨k + 1, by omega, by go_num, NX, FX⟩
          case measure => simp [intOf]; omega
        · have NX := Lib.hid (YES.out ⟨CC.out.1 hc0, h1⟩)
          have AKX := Lib.hid (fun z hz => (AKX.out z hz).mono fun e w' hh => BoolOf.no hh h1)
          obtain ⟨xl, xe⟩ := x
          unfold LRet at ORX
          unfold Ps.val at AKX
          simp only at d0 d1 ORX AKX
          have c0 : ∀ z, Frm [] wr z → z.cell? ⟨b, off + k * 2, none⟩ = some (.int .u64 (xl : Nat)) := fun z hz => (hz.cell (p := ⟨b, off + k * 2, none⟩) (block_lt_of_cell d0) (by simp)).trans d0
          have c1 : ∀ z, Frm [] wr z → z.cell? ⟨b, off + k * 2 + 1, none⟩ = some (.int .u64 (xe : Nat)) := fun z hz => (hz.cell (p := ⟨b, off + k * 2 + 1, none⟩) (block_lt_of_cell d1) (by simp)).trans d1
          clear d0 d1 YES NO CC h1
          go_wp2
          refine wp_region_held_drew (S := fun w' => Frm [] wr w') (by kernel_rfl) (Frm.drew (Frm.refl _ _)) (fun hHeld => ?_)
          refine wpAnyH_take (i := 0) (oi := ⟨some 21, _, _, _, _, _⟩) (v := ?_) rfl (by kernel_rfl) (by kernel_rfl) (by kernel_rfl) (fun _ _ _ h => h) (Or.inl ⟨by rfl, ?_⟩) (by assumption) ?_
          rotate_left 1
          · (intro w hSw; (try dsimp only at hSw); go_simp; all_goals with_reducible rfl)
          try simp only [Act.put, List.setIfInBounds_toArray, List.set_cons_zero, List.set_cons_succ]
          refine wpAnyH_take (i := 1) (oi := ⟨some 22, _, _, _, _, _⟩) (v := ?_) rfl (by kernel_rfl) (by kernel_rfl) (by kernel_rfl) (fun _ _ _ h => h) (Or.inl ⟨by rfl, ?_⟩) (by assumption) ?_
          rotate_left 1
          · (intro w hSw; (try dsimp only at hSw); go_simp; all_goals with_reducible rfl)
          try simp only [Act.put, List.setIfInBounds_toArray, List.set_cons_zero, List.set_cons_succ]
          refine wpAnyH_take (i := 2) (oi := ⟨some 23, _, _, _, _, _⟩) (v := ?_) rfl (by kernel_rfl) (by kernel_rfl) (by kernel_rfl) (fun _ _ _ h => h) (Or.inl ⟨by rfl, ?_⟩) (by assumption) ?_
          rotate_left 1
          · (intro w hSw; (try dsimp only at hSw); go_simp; all_goals with_reducible rfl)
          try simp only [Act.put, List.setIfInBounds_toArray, List.set_cons_zero, List.set_cons_succ]
          refine wpAnyH_take (i := 3) (oi := ⟨some 24, _, _, _, _, _⟩) (v := ?_) rfl (by kernel_rfl) (by kernel_rfl) (by kernel_rfl) (fun _ _ _ h => h) (Or.inl ⟨by rfl, ?_⟩) (by assumption) ?_
          rotate_left 1
          · (intro w hSw; (try dsimp only at hSw); go_simp; all_goals with_reducible rfl)
          try simp only [Act.put, List.setIfInBounds_toArray, List.set_cons_zero, List.set_cons_succ]
          refine wpAnyH_take (i := 4) (oi := ⟨some 25, _, _, _, _, _⟩) (v := ?_) rfl (by kernel_rfl) (by kernel_rfl) (by kernel_rfl) (fun _ _ _ h => h) (Or.inl ⟨by rfl, ?_⟩) (by assumption) ?_
          rotate_left 1
          · (intro w hSw; (try dsimp only at hSw); go_simp; all_goals with_reducible rfl)
          try simp only [Act.put, List.setIfInBounds_toArray, List.set_cons_zero, List.set_cons_succ]
          refine wpAnyH_ready (rs := [5]) (by kernel_rfl) (by simp) ?_
          refine AllReadyH.cons (o := ⟨some 26, _, _, _, _, _⟩) rfl (fun K hK => ?_) AllReadyH.nil
          go_simp
          go_at_call 43; (with_reducible refine (ORX.out _).mono ?_); rintro e w3 ⟨rfl, hf3⟩; have hHeld3 : Frm [] wr w3 := hHeld.trans hf3 (by simp) (by simp)
          go_wp2_with fail
          refine hK.out _ _ (by assumption) (fun hHeld => ?_)
          clear hK K
          try simp only [Act.put, List.setIfInBounds_toArray, List.set_cons_zero, List.set_cons_succ]
          refine wpAnyH_take (i := 6) (oi := ⟨some 27, _, _, _, _, _⟩) (v := ?_) rfl (by kernel_rfl) (by kernel_rfl) (by kernel_rfl) (fun _ _ _ h => h) (Or.inl ⟨by rfl, ?_⟩) (by assumption) ?_
          rotate_left 1
          · (intro w hSw; (try dsimp only at hSw); go_simp; all_goals with_reducible rfl)
          try simp only [Act.put, List.setIfInBounds_toArray, List.set_cons_zero, List.set_cons_succ]
          refine wpAnyH_take (i := 7) (oi := ⟨some 28, _, _, _, _, _⟩) (v := ?_) rfl (by kernel_rfl) (by kernel_rfl) (by kernel_rfl) (fun _ _ _ h => h) (Or.inl ⟨by rfl, ?_⟩) (by assumption) ?_
          rotate_left 1
          · (intro w hSw; (try dsimp only at hSw); go_simp; all_goals with_reducible rfl)
          try simp only [Act.put, List.setIfInBounds_toArray, List.set_cons_zero, List.set_cons_succ]
          refine wpAnyH_take (i := 8) (oi := ⟨some 29, _, _, _, _, _⟩) (v := ?_) rfl (by kernel_rfl) (by kernel_rfl) (by kernel_rfl) (fun _ _ _ h => h) (Or.inl ⟨by rfl, ?_⟩) (by assumption) ?_
          rotate_left 1
          · (intro w hSw; (try dsimp only at hSw); go_simp; all_goals with_reducible rfl)
          try simp only [Act.put, List.setIfInBounds_toArray, List.set_cons_zero, List.set_cons_succ]
          refine wpAnyH_take (i := 9) (oi := ⟨some 30, _, _, _, _, _⟩) (v := ?_) rfl (by kernel_rfl) (by kernel_rfl) (by kernel_rfl) (fun _ _ _ h => h) (Or.inl ⟨by rfl, ?_⟩) (by assumption) ?_
          rotate_left 1
          · (intro w hSw; (try dsimp only at hSw); go_simp; all_goals with_reducible rfl)
          try simp only [Act.put, List.setIfInBounds_toArray, List.set_cons_zero, List.set_cons_succ]
          refine wpAnyH_take (i := 10) (oi := ⟨some 31, _, _, _, _, _⟩) (v := ?_) rfl (by kernel_rfl) (by kernel_rfl) (by kernel_rfl) (fun _ _ _ h => h) (Or.inl ⟨by rfl, ?_⟩) (by assumption) ?_
          rotate_left 1
          · (intro w hSw; (try dsimp only at hSw); go_simp; all_goals with_reducible rfl)
          try simp only [Act.put, List.setIfInBounds_toArray, List.set_cons_zero, List.set_cons_succ]
          refine wpAnyH_take (i := 11) (oi := ⟨some 32, _, _, _, _, _⟩) (v := ?_) rfl (by kernel_rfl) (by kernel_rfl) (by kernel_rfl) (fun _ _ _ h => h) (Or.inl ⟨by rfl, ?_⟩) (by assumption) ?_
          rotate_left 1
          · (intro w hSw; (try dsimp only at hSw); go_simp; all_goals with_reducible rfl)
          try simp only [Act.put, List.setIfInBounds_toArray, List.set_cons_zero, List.set_cons_succ]
          refine wpAnyH_take (i := 12) (oi := ⟨some 33, _, _, _, _, _⟩) (v := ?_) rfl (by kernel_rfl) (by kernel_rfl) (by kernel_rfl) (fun _ _ _ h => h) (Or.inl ⟨by rfl, ?_⟩) (by assumption) ?_
          rotate_left 1
          · (intro w hSw; (try dsimp only at hSw); go_simp; all_goals with_reducible rfl)
          try simp only [Act.put, List.setIfInBounds_toArray, List.set_cons_zero, List.set_cons_succ]
          refine wpAnyH_ready (rs := [13]) (by kernel_rfl) (by simp) ?_
          refine AllReadyH.cons (o := ⟨some 34, _, _, _, _, _⟩) rfl (fun K hK => ?_) AllReadyH.nil
          go_simp
          go_at_call 19; (with_reducible refine (AKX.out _ hHeld).mono ?_); rintro e w4 ⟨rfl, hf4⟩; have hHeld4 : Frm [] wr w4 := hHeld.trans hf4 (by simp) (by simp)
          go_wp2_with fail
          refine hK.out _ _ (by assumption) (fun hHeld => ?_)
          clear hK K
          try simp only [Act.put, List.setIfInBounds_toArray, List.set_cons_zero, List.set_cons_succ]
          refine wpAnyH_take (i := 14) (oi := ⟨some 35, _, _, _, _, _⟩) (v := ?_) rfl (by kernel_rfl) (by kernel_rfl) (by kernel_rfl) (fun _ _ _ h => h) (Or.inl ⟨by rfl, ?_⟩) (by assumption) ?_
          rotate_left 1
          · (intro w hSw; (try dsimp only at hSw); go_simp; all_goals with_reducible rfl)
          try simp only [Act.put, List.setIfInBounds_toArray, List.set_cons_zero, List.set_cons_succ]
          refine wpAnyH_take (i := 15) (oi := ⟨some 36, _, _, _, _, _⟩) (v := ?_) rfl (by kernel_rfl) (by kernel_rfl) (by kernel_rfl) (fun _ _ _ h => h) (Or.inl ⟨by rfl, ?_⟩) (by assumption) ?_
          rotate_left 1
          · (intro w hSw; (try dsimp only at hSw); go_simp; all_goals with_reducible rfl)
          try simp only [Act.put, List.setIfInBounds_toArray, List.set_cons_zero, List.set_cons_succ]
          refine wpAnyH_done (by kernel_rfl) ?_ _
          have FX : Hid (Frm [] w1 w4) := Lib.hid (FR.out.trans hHeld (by simp) (by simp))
          have y0 := c0 _ hHeld
          have y1 := c1 _ hHeld
          have q0 := (FX.out.whole B2.out (by simp)).cell 0
          have q1 := (FX.out.whole B2.out (by simp)).cell 1
          have k0 := (FX.out.whole B2.out (by simp)).free 0
          have k1 := (FX.out.whole B2.out (by simp)).free 1
          simp only [List.getElem?_toArray, List.getElem?_cons_zero, List.getElem?_cons_succ] at q0 q1
          obtain ⟨FW1, FW2⟩ := FIN.out w4 ⟨xl, xe⟩ FX.out
          have FW1 := Lib.hid FW1
          have FW2 := Lib.hid FW2
          clear r0 r1 r2 r3 r4 c0 c1 hHeld
          go_wp2
          refine bodyPost_ret (V0.out _ ⟨xl, xe⟩ true _ rfl rfl FW1.out) rfl ?_
          rw [HR.out, NX.out]
          exact ⟨rfl, FW2.out⟩
      · have e1 : decide (0 ≤ c) = false := decide_eq_false hc0
        have NX := Lib.hid (NO.out (fun h => h.1 (CC.out.2 hc0)))
        obtain ⟨xl, xe⟩ := x
        unfold LRet at ORX
        simp only at d0 d1 ORX
        have c0 : ∀ z, Frm [] wr z → z.cell? ⟨b, off + k * 2, none⟩ = some (.int .u64 (xl : Nat)) := fun z hz => (hz.cell (p := ⟨b, off + k * 2, none⟩) (block_lt_of_cell d0) (by simp)).trans d0
        have c1 : ∀ z, Frm [] wr z → z.cell? ⟨b, off + k * 2 + 1, none⟩ = some (.int .u64 (xe : Nat)) := fun z hz => (hz.cell (p := ⟨b, off + k * 2 + 1, none⟩) (block_lt_of_cell d1) (by simp)).trans d1
        clear d0 d1 YES NO CC AKX
        go_wp2
        refine wp_region_held_drew (S := fun w' => Frm [] wr w') (by kernel_rfl) (Frm.drew (Frm.refl _ _)) (fun hHeld => ?_)
        refine wpAnyH_take (i := 0) (oi := ⟨some 21, _, _, _, _, _⟩) (v := ?_) rfl (by kernel_rfl) (by kernel_rfl) (by kernel_rfl) (fun _ _ _ h => h) (Or.inl ⟨by rfl, ?_⟩) (by assumption) ?_
        rotate_left 1
        · (intro w hSw; (try dsimp only at hSw); go_simp; all_goals with_reducible rfl)
        try simp only [Act.put, List.setIfInBounds_toArray, List.set_cons_zero, List.set_cons_succ]
        refine wpAnyH_take (i := 1) (oi := ⟨some 22, _, _, _, _, _⟩) (v := ?_) rfl (by kernel_rfl) (by kernel_rfl) (by kernel_rfl) (fun _ _ _ h => h) (Or.inl ⟨by rfl, ?_⟩) (by assumption) ?_
        rotate_left 1
        · (intro w hSw; (try dsimp only at hSw); go_simp; all_goals with_reducible rfl)
        try simp only [Act.put, List.setIfInBounds_toArray, List.set_cons_zero, List.set_cons_succ]
        refine wpAnyH_take (i := 2) (oi := ⟨some 23, _, _, _, _, _⟩) (v := ?_) rfl (by kernel_rfl) (by kernel_rfl) (by kernel_rfl) (fun _ _ _ h => h) (Or.inl ⟨by rfl, ?_⟩) (by assumption) ?_
        rotate_left 1
        · (intro w hSw; (try dsimp only at hSw); go_simp; all_goals with_reducible rfl)
        try simp only [Act.put, List.setIfInBounds_toArray, List.set_cons_zero, List.set_cons_succ]
        refine wpAnyH_take (i := 3) (oi := ⟨some 24, _, _, _, _, _⟩) (v := ?_) rfl (by kernel_rfl) (by kernel_rfl) (by kernel_rfl) (fun _ _ _ h => h) (Or.inl ⟨by rfl, ?_⟩) (by assumption) ?_
        rotate_left 1
        · (intro w hSw; (try dsimp only at hSw); go_simp; all_goals with_reducible rfl)
        try simp only [Act.put, List.setIfInBounds_toArray, List.set_cons_zero, List.set_cons_succ]
        refine wpAnyH_take (i := 4) (oi := ⟨some 25, _, _, _, _, _⟩) (v := ?_) rfl (by kernel_rfl) (by kernel_rfl) (by kernel_rfl) (fun _ _ _ h => h) (Or.inl ⟨by rfl, ?_⟩) (by assumption) ?_
        rotate_left 1
        · (intro w hSw; (try dsimp only at hSw); go_simp; all_goals with_reducible rfl)
        try simp only [Act.put, List.setIfInBounds_toArray, List.set_cons_zero, List.set_cons_succ]
        refine wpAnyH_ready (rs := [5]) (by kernel_rfl) (by simp) ?_
        refine AllReadyH.cons (o := ⟨some 26, _, _, _, _, _⟩) rfl (fun K hK => ?_) AllReadyH.nil
        go_simp
        go_at_call 43; (with_reducible refine (ORX.out _).mono ?_); rintro e w3 ⟨rfl, hf3⟩; have hHeld3 : Frm [] wr w3 := hHeld.trans hf3 (by simp) (by simp)
        go_wp2_with fail
        refine hK.out _ _ (by assumption) (fun hHeld => ?_)
        clear hK K
        try simp only [Act.put, List.setIfInBounds_toArray, List.set_cons_zero, List.set_cons_succ]
        refine wpAnyH_take (i := 6) (oi := ⟨some 27, _, _, _, _, _⟩) (v := ?_) rfl (by kernel_rfl) (by kernel_rfl) (by kernel_rfl) (fun _ _ _ h => h) (Or.inl ⟨by rfl, ?_⟩) (by assumption) ?_
        rotate_left 1
        · (intro w hSw; (try dsimp only at hSw); go_simp; all_goals with_reducible rfl)
        try simp only [Act.put, List.setIfInBounds_toArray, List.set_cons_zero, List.set_cons_succ]
        refine wpAnyH_take (i := 7) (oi := ⟨some 28, _, _, _, _, _⟩) (v := ?_) rfl (by kernel_rfl) (by kernel_rfl) (by kernel_rfl) (fun _ _ _ h => h) (Or.inl ⟨by rfl, ?_⟩) (by assumption) ?_
        rotate_left 1
        · (intro w hSw; (try dsimp only at hSw); go_simp; all_goals with_reducible rfl)
        try simp only [Act.put, List.setIfInBounds_toArray, List.set_cons_zero, List.set_cons_succ]
        refine wpAnyH_take (i := 8) (oi := ⟨some 29, _, _, _, _, _⟩) (v := undef) rfl (by kernel_rfl) (by kernel_rfl) (by kernel_rfl) (fun _ _ _ h => h) (Or.inr ⟨by rfl, rfl⟩) (by assumption) ?_
        try simp only [Act.put, List.setIfInBounds_toArray, List.set_cons_zero, List.set_cons_succ]
        refine wpAnyH_take (i := 9) (oi := ⟨some 30, _, _, _, _, _⟩) (v := undef) rfl (by kernel_rfl) (by kernel_rfl) (by kernel_rfl) (fun _ _ _ h => h) (Or.inr ⟨by rfl, rfl⟩) (by assumption) ?_
        try simp only [Act.put, List.setIfInBounds_toArray, List.set_cons_zero, List.set_cons_succ]
        refine wpAnyH_take (i := 10) (oi := ⟨some 31, _, _, _, _, _⟩) (v := undef) rfl (by kernel_rfl) (by kernel_rfl) (by kernel_rfl) (fun _ _ _ h => h) (Or.inr ⟨by rfl, rfl⟩) (by assumption) ?_
        try simp only [Act.put, List.setIfInBounds_toArray, List.set_cons_zero, List.set_cons_succ]
        refine wpAnyH_take (i := 11) (oi := ⟨some 32, _, _, _, _, _⟩) (v := undef) rfl (by kernel_rfl) (by kernel_rfl) (by kernel_rfl) (fun _ _ _ h => h) (Or.inr ⟨by rfl, rfl⟩) (by assumption) ?_
        try simp only [Act.put, List.setIfInBounds_toArray, List.set_cons_zero, List.set_cons_succ]
        refine wpAnyH_take (i := 12) (oi := ⟨some 33, _, _, _, _, _⟩) (v := undef) rfl (by kernel_rfl) (by kernel_rfl) (by kernel_rfl) (fun _ _ _ h => h) (Or.inr ⟨by rfl, rfl⟩) (by assumption) ?_
        try simp only [Act.put, List.setIfInBounds_toArray, List.set_cons_zero, List.set_cons_succ]
        refine wpAnyH_take (i := 13) (oi := ⟨some 34, _, _, _, _, _⟩) (v := undef) rfl (by kernel_rfl) (by kernel_rfl) (by kernel_rfl) (fun _ _ _ h => h) (Or.inr ⟨by rfl, rfl⟩) (by assumption) ?_
        try simp only [Act.put, List.setIfInBounds_toArray, List.set_cons_zero, List.set_cons_succ]
        refine wpAnyH_take (i := 14) (oi := ⟨some 35, _, _, _, _, _⟩) (v := undef) rfl (by kernel_rfl) (by kernel_rfl) (by kernel_rfl) (fun _ _ _ h => h) (Or.inr ⟨by rfl, rfl⟩) (by assumption) ?_
        try simp only [Act.put, List.setIfInBounds_toArray, List.set_cons_zero, List.set_cons_succ]
        refine wpAnyH_take (i := 15) (oi := ⟨some 36, _, _, _, _, _⟩) (v := ?_) rfl (by kernel_rfl) (by kernel_rfl) (by kernel_rfl) (fun _ _ _ h => h) (Or.inl ⟨by rfl, ?_⟩) (by assumption) ?_
        rotate_left 1
        · (intro w hSw; (try dsimp only at hSw); go_simp; all_goals with_reducible rfl)
        try simp only [Act.put, List.setIfInBounds_toArray, List.set_cons_zero, List.set_cons_succ]
        refine wpAnyH_done (by kernel_rfl) ?_ _
        have FX : Hid (Frm [] w2 _) := Lib.hid (HF.out.trans hHeld (by simp) (by simp))
        clear r0 r1 r2 r3 r4 c0 c1 hHeld
        go_wp2
        go_roundw
        case rel => exact ⟨k + 1, by omega, by go_num, NX, FX⟩
        case measure => simp [intOf]; omega
    · obtain rfl : k = M := by omega
      have NO : Hid (N = none) := Lib.hid (by
        rw [← FND.out]
        exact find_none_at (fun j hj => decide_eq_false (HI.out j (by have := LEN.out; omega))))
      have q0 := (FR.out.whole B2.out (by simp)).cell 0
      have q1 := (FR.out.whole B2.out (by simp)).cell 1
      have k0 := (FR.out.whole B2.out (by simp)).free 0
      have k1 := (FR.out.whole B2.out (by simp)).free 1
      simp only [List.getElem?_toArray, List.getElem?_cons_zero, List.getElem?_cons_succ] at q0 q1
      obtain ⟨FW1, FW2⟩ := FIN.out wr ⟨0, 0⟩ FR.out
      have FW1 := Lib.hid FW1
      have FW2 := Lib.hid FW2
      go_wp2
      refine bodyPost_ret (V0.out _ ⟨0, 0⟩ false _ rfl rfl FW1.out) rfl ?_
      rw [HR.out, NO.out]
      exact ⟨rfl, FW2.out⟩
end Go.Proofs.Ytghadpihmhaepaa
/- Contract of Add. -/
namespace Go.Proofs.Ytghadpihmhaepaa
open Go.RowKit

/-- The address of a piece from place lo on. -/
def cutR (a : Option Addr) (cap lo : Nat) : Option Addr := if cap = lo then a else a.map (·.add (lo * 2))
theorem size_rg (w : World) : (Go.sizeOf 71).run Try.prog w = .ok 2 w := by kernel_rfl
theorem run_cutR_h (w : World) (a : Option Addr) (n cap hi : Nat) (h : Int) (hh : h = (hi : Nat)) (h2 : hi ≤ cap) :
    (Instr.slice 53 (.slice a n cap) none (some (.int .i64 h)) none).run Try.prog w = .ok (.slice (cutR a cap 0) hi cap) w := by
  subst hh
  have ht' : Try.prog.underlying 53 = some (.slice (Try.prog.elem 53)) := by simp [Program.elem, Try.underlying53]
  have he : Try.prog.elem 53 = 71 := by simp [Program.elem, Try.underlying53]
  rw [run_slice_h w _ _ _ _ ht' _ _ (by omega) (by omega), he, size_rg]
  simp [Result.andThen, sliced, cutR]
theorem run_cutR_l (w : World) (a : Option Addr) (n cap lo : Nat) (l : Int) (hl : l = (lo : Nat)) (h1 : lo ≤ n) :
    (Instr.slice 53 (.slice a n cap) (some (.int .i64 l)) none none).run Try.prog w = .ok (.slice (cutR a cap lo) (n - lo) (cap - lo)) w := by
  subst hl
  have ht' : Try.prog.underlying 53 = some (.slice (Try.prog.elem 53)) := by simp [Program.elem, Try.underlying53]
  have he : Try.prog.elem 53 = 71 := by simp [Program.elem, Try.underlying53]
  rw [run_slice_l w _ _ _ _ ht' _ _ (by omega) (by omega), he, size_rg]
  simp [Result.andThen, sliced, cutR]
theorem Rr.take {w : World} {a : Option Addr} {l : List Rg} (h : Rr w a l) (k : Nat) : Rr w a (l.take k) := by
  refine ⟨fun p hp => h.1 p (List.mem_of_mem_take hp), fun h0 => ?_⟩
  have hl : (l.take k).length ≤ l.length := List.length_take_le' k l
  obtain ⟨b, off, ha, hc⟩ := h.2 (by omega)
  refine ⟨b, off, ha, fun i hi => ?_⟩
  rw [List.length_take] at hi
  rw [getD_take (by omega)]
  exact hc i (by omega)
theorem Rr.cut {w : World} {a : Option Addr} {l : List Rg} {cap : Nat} (h : Rr w a l) (hc : l.length ≤ cap) (lo : Nat) : Rr w (cutR a cap lo) (l.drop lo) := by
  refine ⟨fun p hp => h.1 p (List.mem_of_mem_drop hp), fun h0 => ?_⟩
  rw [List.length_drop] at h0
  obtain ⟨b, off, rfl, hcl⟩ := h.2 (by omega)
  refine ⟨b, off + lo * 2, ?_, fun i hi => ?_⟩
  · unfold cutR
    rw [if_neg (by omega)]
    simp [addr_add]
  · rw [List.length_drop] at hi
    rw [getD_drop]
    have := hcl (lo + i) (by omega)
    have e : off + (lo + i) * 2 = off + lo * 2 + i * 2 := by omega
    rw [e] at this
    exact this
theorem cutR_none {a : Option Addr} {cap lo : Nat} (h : a = none → cap = 0) (hc : cutR a cap lo = none) : cap - lo = 0 := by
  unfold cutR at hc
  by_cases hlo : cap = lo
  · omega
  · rw [if_neg hlo] at hc
    have := h (by simpa using hc)
    omega

/-- A call hands back right ranges of its own: those of the numbers S, so many at most. -/
def Got (w : World) (S : Nat → Prop) (m : Nat) (e : Ending) (w' : World) : Prop := ∃ out, RetR w out e w' ∧ Rt out ∧ Bd out ∧ (∀ x, Mem out x ↔ S x) ∧ out.length ≤ m

theorem retR_from {w w1 w' : World} {l : List Rg} {e : Ending} (hf : Frm [] w w1) (h : RetR w1 l e w') : RetR w l e w' := by
  obtain ⟨a, c, rfl, ho, hf2⟩ := h
  refine ⟨a, c, rfl, ?_, hf.trans hf2 (by simp) (by simp)⟩
  have hs := hf.size
  obtain ⟨o1, o2⟩ := ho
  refine ⟨o1, ?_⟩
  rcases o2 with o2 | ⟨g, cap, cur, hv, hb, r⟩
  · exact .inl o2
  · exact .inr ⟨g, cap, cur, hv, by omega, r⟩

end Go.Proofs.Ytghadpihmhaepaa
/- Contract of Add, of a range that has a number. -/
namespace Go.Proofs.Ytghadpihmhaepaa
open Go.RowKit

/-- A range that stands in a block of its own. -/
theorem Whole.made2 {w : World} (o : Obj) (t : TypeId) (cs : Array Value) {g : Nat} (hg : g = w.heap.size + 1) : Whole ((w.alloc o).alloc (.cells cs t)) g t cs := by
  subst hg
  have := Whole.made (w.alloc o) t cs
  simpa using this

theorem Frm.drew1 (w : World) : Frm [] w w.drew := (Frm.refl _ _).drew
/-- Concat of three slices that were just laid side by side. -/
theorem cat_lit {W : World} {sA sK sB : Sl} (hA : SlIn W sA) (hK : SlIn W sK) (hB : SlIn W sB) (hfit : sA.l.length + sK.l.length + sB.l.length ≤ 100000) :
    Calls Try.prog 98 #[.slice (some ⟨W.heap.size, 0, none⟩) 3 3] (W.alloc (.cells #[.slice sA.a sA.l.length sA.cap, .slice sK.a sK.l.length sK.cap, .slice sB.a sB.l.length sB.cap] 53)).drew (RetR W (sA.l ++ (sK.l ++ sB.l))) := by
  have hf : Frm [] W (W.alloc (.cells #[.slice sA.a sA.l.length sA.cap, .slice sK.a sK.l.length sK.cap, .slice sB.a sB.l.length sB.cap] 53)).drew := ((Frm.refl _ _).alloc _).drew
  have hw : Whole (W.alloc (.cells #[.slice sA.a sA.l.length sA.cap, .slice sK.a sK.l.length sK.cap, .slice sB.a sB.l.length sB.cap] 53)).drew W.heap.size 53 #[.slice sA.a sA.l.length sA.cap, .slice sK.a sK.l.length sK.cap, .slice sB.a sB.l.length sB.cap] := (Whole.made W _ _).drew
  have hin : SlsIn (W.alloc (.cells #[.slice sA.a sA.l.length sA.cap, .slice sK.a sK.l.length sK.cap, .slice sB.a sB.l.length sB.cap] 53)).drew W.heap.size [sA, sK, sB] := by
    intro k hk
    simp at hk
    have hc := hw.cell k
    rcases k with _ | _ | _ | k
    · exact ⟨hc, hA.keep hf⟩
    · exact ⟨hc, hK.keep hf⟩
    · exact ⟨hc, hB.keep hf⟩
    · omega
  have e : all [sA, sK, sB] = sA.l ++ (sK.l ++ sB.l) := by simp [all]
  refine (concatR_any (n := 3) hin rfl (by decide) (by rw [e]; simp; omega)).mono fun x w' h => ?_
  rw [e] at h
  exact retR_from hf h
theorem cat_one {W : World} {sA sB : Sl} {s : Rg} (hA : SlIn W sA) (hB : SlIn W sB) (hs : s.1 < 18446744073709551616 ∧ s.2 < 18446744073709551616) {nA nB : Nat} (hnA : nA = sA.l.length) (hnB : nB = sB.l.length) (hfit : sA.l.length + 1 + sB.l.length ≤ 100000) :
    Calls Try.prog 98 #[.slice (some ⟨W.heap.size + 1, 0, none⟩) 3 3] ((W.alloc (.cells #[.int .u64 (s.1 : Nat), .int .u64 (s.2 : Nat)] 71)).alloc (.cells #[.slice sA.a nA sA.cap, .slice (some ⟨W.heap.size, 0, none⟩) 1 1, .slice sB.a nB sB.cap] 53)).drew (RetR W (sA.l ++ ([s] ++ sB.l))) := by
  subst hnA hnB
  have hf : Frm [] W (W.alloc (.cells #[.int .u64 (s.1 : Nat), .int .u64 (s.2 : Nat)] 71)) := (Frm.refl _ _).alloc _
  have hw := Whole.made W 71 #[.int .u64 (s.1 : Nat), .int .u64 (s.2 : Nat)]
  have hr : Rr (W.alloc (.cells #[.int .u64 (s.1 : Nat), .int .u64 (s.2 : Nat)] 71)) (some ⟨W.heap.size, 0, none⟩) [s] := by
    refine ⟨by simp; exact hs, fun _ => ⟨W.heap.size, 0, rfl, fun i hi => ?_⟩⟩
    simp at hi
    subst hi
    exact ⟨hw.cell 0, hw.cell 1⟩
  have h := cat_lit (sK := ⟨some ⟨W.heap.size, 0, none⟩, 1, [s]⟩) (hA.keep hf) ⟨hr, fun h => by simp at h, by simp, by simp⟩ (hB.keep hf) (by simpa using hfit)
  have e : (W.alloc (.cells #[.int .u64 (s.1 : Nat), .int .u64 (s.2 : Nat)] 71)).heap.size = W.heap.size + 1 := by simp
  rw [e] at h
  exact h.mono fun x w' h => retR_from hf h

/-- The same as RetR, its length by a name. -/
def RetN (w : World) (l : List Rg) (e : Ending) (w' : World) : Prop := ∃ a' m cap', e = .returned (.slice a' m cap') ∧ Hid (m = l.length) ∧ Hid (OwnR w' w.heap.size a' cap' l) ∧ Frm [] w w'
theorem RetR.n {w w' : World} {l : List Rg} {e : Ending} (h : RetR w l e w') : RetN w l e w' := by
  obtain ⟨a, c, rfl, ho, hf⟩ := h
  exact ⟨a, _, c, rfl, rfl, ho, hf⟩
theorem RetR.of {w w' : World} {l : List Rg} {a : Option Addr} {m c : Nat} (hm : m = l.length) (ho : OwnR w' w.heap.size a c l) (hf : Frm [] w w') : RetR w l (.returned (.slice a m c)) w' := by subst hm; exact ⟨a, c, rfl, ho, hf⟩

set_option maxRecDepth 100000 in
set_option maxHeartbeats 4000000 in
theorem add_some {w : World} {a : Option Addr} {l : List Rg} (h : Rr w a l) (hr : Rt l) {n cap : Nat} (hn : n = l.length) (hnc : n ≤ cap) (hcm : cap ≤ 9223372036854775807) (hnil : a = none → cap = 0) (hsz : n ≤ 1000) {r1 r2 : Nat} (he : r1 < r2) (hb2 : r2 < 18446744073709551616) :
    Calls Try.prog 69 #[.slice a n cap, .agg #[.int .u64 r1, .int .u64 r2]] w (Got w (fun x => Mem l x ∨ (r1 ≤ x ∧ x < r2)) (n + 1)) := by
  have hmf : ∀ (fn : Fn) (first cap : Array Value) (w : World), (Instr.makeFunc fn first cap).run Try.prog w = .ok (.func fn first cap) w := fun _ _ _ _ => rfl
  obtain ⟨W0, hW0⟩ : ∃ W0, W0 = (w.alloc (.cells #[.slice a n cap] 53)).alloc (.cells #[.int .u64 r1, .int .u64 r2] 71) := ⟨_, rfl⟩
  obtain ⟨g2, hg2⟩ : ∃ g2, g2 = w.heap.size := ⟨_, rfl⟩
  obtain ⟨g3, hg3⟩ : ∃ g3, g3 = w.heap.size + 1 := ⟨_, rfl⟩
  have h2 : Whole W0 g2 53 #[.slice a n cap] := by rw [hW0, hg2]; exact (Whole.made w _ _).alloc _
  have h3 : Whole W0 g3 71 #[.int .u64 r1, .int .u64 r2] := by rw [hW0]; exact Whole.made2 _ _ _ hg3
  have hF : Frm [] w W0 := by rw [hW0]; exact ((Frm.refl _ _).alloc _).alloc _
  have hg23 : g2 < g3 := by omega
  have hgw : w.heap.size ≤ g2 := by omega
  have HF := Lib.hid hF; clear hF
  have H := Lib.hid h; clear h
  have HR := Lib.hid hr; clear hr
  have HN := Lib.hid hn; clear hn
  have HNIL := Lib.hid hnil; clear hnil
  have HW0 := Lib.hid hW0; clear hW0
  have HG2 := Lib.hid hg2; clear hg2
  have HG3 := Lib.hid hg3; clear hg3
  have H2 := Lib.hid h2
  have H3 := Lib.hid h3
  have c0 := h3.cell 0
  have c1 := h3.cell 1
  simp only [List.getElem?_toArray] at c0 c1
  clear h2 h3
  go_enter Try.func69, Try.ntmps69
  go_wp2_with fail
  rw [← HW0.out, ← HG3.out, ← HG2.out]
  refine (empty_any r1 r2 _).mono ?_
  rintro e w1 hbo
  obtain ⟨rfl, hf⟩ := hbo.no (by omega)
  have k2 := (hf.whole H2.out (by simp)).cell 0
  simp only [List.getElem?_toArray] at k2
  have HF1 := Lib.hid hf
  clear hf hbo c0 c1
  go_wp2_with fail
  have hrr1 := H.out.keep0 (HF.out.trans HF1.out (U := []) (by simp) (by simp))
  have HH2 := Lib.hid (HF1.out.whole H2.out (by simp))
  have HH3 := Lib.hid (HF1.out.whole H3.out (by simp))
  refine (search_any 96 #[.pointer (some ⟨g2, 0, none⟩), .pointer (some ⟨g3, 0, none⟩)] n (fun i => decide (r1 ≤ (l.getD i (0, 0)).2)) w1 enters_add1 (by omega)
    (fun wr i hf hi => add1_any (r := (r1, r2)) (hrr1.keep0 hf) (by have := HN.out; omega) HN.out ((hf.whole HH2.out (by simp)).cell 0) ((hf.whole HH3.out (by simp)).cell 0) ((hf.whole HH3.out (by simp)).cell 1))
    (fun i j hij hj hd => by
      have h1 := rt_le HR.out hij (by have := HN.out; omega)
      have h2 : r1 ≤ (l.getD i (0, 0)).2 := of_decide_eq_true hd
      exact decide_eq_true (show r1 ≤ (l.getD j (0, 0)).2 by omega))).mono ?_
  rintro e w2 ⟨fr, rfl, hfr, f1, f2, hf⟩
  have F1 := Lib.hid f1; clear f1
  have F2 := Lib.hid f2; clear f2
  have HF2 := Lib.hid (HF1.out.trans hf (U := []) (by simp) (by simp))
  clear hf k2 hrr1 HH2 HH3
  have k2 := (HF2.out.whole H2.out (by simp)).cell 0
  simp only [List.getElem?_toArray] at k2
  go_wp2_with fail
  have hrr2 := H.out.keep0 (HF.out.trans HF2.out (U := []) (by simp) (by simp))
  have HH2 := Lib.hid (HF2.out.whole H2.out (by simp))
  have HH3 := Lib.hid (HF2.out.whole H3.out (by simp))
  refine (search_any 97 #[.pointer (some ⟨g2, 0, none⟩), .pointer (some ⟨g3, 0, none⟩)] n (fun i => decide (r2 < (l.getD i (0, 0)).1)) w2 enters_add2 (by omega)
    (fun wr i hf hi => add2_any (r := (r1, r2)) (hrr2.keep0 hf) (by have := HN.out; omega) HN.out ((hf.whole HH2.out (by simp)).cell 0) ((hf.whole HH3.out (by simp)).cell 0) ((hf.whole HH3.out (by simp)).cell 1))
    (fun i j hij hj hd => by
      have h1 := rt_le HR.out hij (by have := HN.out; omega)
      have h2 : r2 < (l.getD i (0, 0)).1 := of_decide_eq_true hd
      exact decide_eq_true (show r2 < (l.getD j (0, 0)).1 by omega))).mono ?_
  rintro e w3 ⟨tt, rfl, hto, t1, t2, hf⟩
  have HF3 := Lib.hid (HF2.out.trans hf (U := []) (by simp) (by simp))
  clear hf k2 hrr2 HH2 HH3
  -- what the two places mean
  have hft : fr ≤ tt := by
    rcases Nat.lt_or_ge tt fr with hlt | hge
    · have e1 : ¬ r1 ≤ (l.getD tt (0, 0)).2 := of_decide_eq_false (F1.out tt hlt)
      have e2 : r2 < (l.getD tt (0, 0)).1 := of_decide_eq_true (t2 tt (Nat.le_refl _) (by omega))
      have e3 := rt_lt HR.out (i := tt) (by have := HN.out; omega)
      omega
    · exact hge
  obtain ⟨s, hs⟩ : ∃ s : Rg, s = if fr < tt then (min r1 (l.getD fr (0, 0)).1, max r2 (l.getD (tt - 1) (0, 0)).2) else (r1, r2) := ⟨_, rfl⟩
  have SPEC := Lib.hid (add_spec HR.out (r := (r1, r2)) he hft (by have := HN.out; omega)
    (fun i hi => by have e1 : ¬ r1 ≤ (l.getD i (0, 0)).2 := of_decide_eq_false (F1.out i hi); omega)
    (fun i hi hil => of_decide_eq_true (F2.out i hi (by have := HN.out; omega)))
    (fun i hi => by have e1 : ¬ r2 < (l.getD i (0, 0)).1 := of_decide_eq_false (t1 i hi); omega)
    (fun i hi hil => of_decide_eq_true (t2 i hi (by have := HN.out; omega))) hs)
  have bfr := getD_bd H.out.1 fr
  have bto := getD_bd H.out.1 (tt - 1)
  have hsb : s.1 < 18446744073709551616 ∧ s.2 < 18446744073709551616 := by
    rw [hs]; split <;> simp only <;> omega
  have BOUT : Hid (Bd (l.take fr ++ ([s] ++ l.drop tt))) := by
    intro p hp
    rcases List.mem_append.1 hp with hp | hp
    · exact H.out.1 p (List.mem_of_mem_take hp)
    · rcases List.mem_append.1 hp with hp | hp
      · simp only [List.mem_singleton] at hp; subst hp; exact hsb
      · exact H.out.1 p (List.mem_of_mem_drop hp)
  have LOUT : Hid ((l.take fr ++ ([s] ++ l.drop tt)).length ≤ n + 1) := by
    have := HN.out
    show (l.take fr ++ ([s] ++ l.drop tt)).length ≤ n + 1
    simp only [List.length_append, List.length_take, List.length_drop, List.length_cons, List.length_nil]; omega
  clear t1 t2 F1 F2
  have cA := fun w => run_cutR_h w a n cap fr (fr : Int) rfl (by omega)
  have cB := fun w => run_cutR_l w a n cap tt (tt : Int) rfl (by omega)
  obtain ⟨aA, haA⟩ : ∃ aA, aA = cutR a cap 0 := ⟨_, rfl⟩
  obtain ⟨aB, haB⟩ : ∃ aB, aB = cutR a cap tt := ⟨_, rfl⟩
  obtain ⟨nB, hnB⟩ : ∃ nB, nB = n - tt := ⟨_, rfl⟩
  obtain ⟨cB', hcB'⟩ : ∃ cB', cB' = cap - tt := ⟨_, rfl⟩
  rw [← haA] at cA
  rw [← haB, ← hnB, ← hcB'] at cB
  have SA : Hid (∀ w', Frm [] w w' → SlIn w' ⟨aA, cap, l.take fr⟩) := fun w' hf => by
    have hk := H.out.keep0 hf
    refine ⟨?_, fun h => ?_, ?_, hcm⟩
    · show Rr w' aA (l.take fr)
      rw [haA]
      have := (hk.cut (cap := cap) (by have := HN.out; omega) 0).take fr
      rwa [List.drop_zero] at this
    · have h' : cutR a cap 0 = none := by rw [← haA]; exact h
      have := cutR_none HNIL.out h'; show cap = 0; omega
    · show (l.take fr).length ≤ cap
      rw [List.length_take]; omega
  have SB : Hid (∀ w', Frm [] w w' → SlIn w' ⟨aB, cB', l.drop tt⟩) := fun w' hf => by
    have hk := H.out.keep0 hf
    refine ⟨?_, fun h => ?_, ?_, by show cB' ≤ _; omega⟩
    · show Rr w' aB (l.drop tt)
      rw [haB]
      exact hk.cut (cap := cap) (by have := HN.out; omega) tt
    · have h' : cutR a cap tt = none := by rw [← haB]; exact h
      have := cutR_none HNIL.out h'; show cB' = 0; omega
    · show (l.drop tt).length ≤ cB'
      rw [List.length_drop]; have := HN.out; omega
  have NA : Hid (fr = (l.take fr).length) := by show fr = _; rw [List.length_take]; have := HN.out; omega
  have NB : Hid (nB = (l.drop tt).length) := by show nB = _; rw [List.length_drop]; have := HN.out; omega
  have HS := Lib.hid hs
  clear haA haB hnB hcB' hs
  have k2 := (HF3.out.whole H2.out (by simp)).cell 0
  have k30 := (HF3.out.whole H3.out (by simp)).cell 0
  have k31 := (HF3.out.whole H3.out (by simp)).cell 1
  have f30 := (HF3.out.whole H3.out (by simp)).free 0
  have f31 := (HF3.out.whole H3.out (by simp)).free 1
  simp only [List.getElem?_toArray] at k2 k30 k31
  -- what stands in r behind the test
  have TAIL : ∀ (W : World), Frm [] w W → W.cell? ⟨g2, 0, none⟩ = some (.slice a n cap) → Whole W g3 71 #[.int .u64 s.1, .int .u64 s.2] → True := fun _ _ _ _ => trivial
  by_cases hlt : fr < tt
  · have hlt' : (fr : Int) < (tt : Int) := by omega
    have hs1 : s = (min r1 (l.getD fr (0, 0)).1, max r2 (l.getD (tt - 1) (0, 0)).2) := by rw [HS.out, if_pos hlt]
    obtain ⟨b, off, rfl, hc⟩ := (H.out.keep0 (HF.out.trans HF3.out (U := []) (by simp) (by simp))).2 (by have := HN.out; omega)
    obtain ⟨d0, _⟩ := hc fr (by have := HN.out; omega)
    obtain ⟨j, hj⟩ : ∃ j, j = tt - 1 := ⟨_, rfl⟩
    obtain ⟨_, d1⟩ := hc j (by have := HN.out; omega)
    rw [← hj] at hs1
    obtain ⟨x, hx⟩ : ∃ y, y = (l.getD fr (0, 0)).1 := ⟨_, rfl⟩
    obtain ⟨y, hy⟩ : ∃ y, y = (l.getD j (0, 0)).2 := ⟨_, rfl⟩
    rw [← hx] at d0 hs1
    rw [← hy] at d1 hs1
    have HS1 := Lib.hid hs1
    clear hc hx hy hs1 TAIL
    have hfn : (fr : Int) < (n : Int) := by omega
    have hjn : (j : Int) < (n : Int) := by omega
    obtain ⟨m1, hm1⟩ : ∃ m1, m1 = min r1 x := ⟨_, rfl⟩
    obtain ⟨m2, hm2⟩ : ∃ m2, m2 = max r2 y := ⟨_, rfl⟩
    have i1 : min (r1 : Int) (x : Int) = (m1 : Int) := by omega
    have i2 : max (r2 : Int) (y : Int) = (m2 : Int) := by omega
    have hwj : IntKind.i64.wrap ((tt : Int) - 1) = (j : Int) := by rw [IntWalk.i64_in _ (by omega)]; omega
    have HJ := Lib.hid hj; clear hj
    rw [← hm1, ← hm2] at HS1
    clear hm1 hm2
    go_wp2
    trace "A"
    go_still_tail 18, (by kernel_rfl)
    change wpList _ _ _ _ _ w3.drew
    trace "B"
    go_wp2
    have hf4 : Frm [] w ((w3.setCell ⟨g3, 0, none⟩ (.int .u64 (m1 : Int))).setCell ⟨g3, 1, none⟩ (.int .u64 (m2 : Int))).drew := (((HF.out.trans HF3.out (U := []) (by simp) (by simp)).setCell (.inr (by show _ ≤ g3; omega)) _).setCell (.inr (by show _ ≤ g3; omega)) _).drew
    have hw4 : Whole ((w3.setCell ⟨g3, 0, none⟩ (.int .u64 (m1 : Int))).setCell ⟨g3, 1, none⟩ (.int .u64 (m2 : Int))).drew g3 71 #[.int .u64 (m1 : Int), .int .u64 (m2 : Int)] := by
      have := ((HF3.out.whole H3.out (by simp)).put 0 (.int .u64 (m1 : Int))).put 1 (.int .u64 (m2 : Int))
      exact Whole.drew (by simpa using this)
    have hw2 : Whole ((w3.setCell ⟨g3, 0, none⟩ (.int .u64 (m1 : Int))).setCell ⟨g3, 1, none⟩ (.int .u64 (m2 : Int))).drew g2 53 #[.slice (some ⟨b, off, none⟩) n cap] := ((HF3.out.whole H2.out (by simp)).other (p := ⟨g3, 0, none⟩) (by show g2 ≠ g3; omega) _).other (p := ⟨g3, 1, none⟩) (by show g2 ≠ g3; omega) _
    obtain ⟨W4, hW4⟩ : ∃ W4, W4 = ((w3.setCell ⟨g3, 0, none⟩ (.int .u64 (m1 : Int))).setCell ⟨g3, 1, none⟩ (.int .u64 (m2 : Int))).drew := ⟨_, rfl⟩
    rw [← hW4] at hf4 hw4 hw2 ⊢
    clear hW4 k30 k31 f30 f31 k2 d0 d1 i1 i2 hwj
    have k2 := hw2.cell 0
    have k30 := hw4.cell 0
    have k31 := hw4.cell 1
    simp only [List.getElem?_toArray] at k2 k30 k31
    have hg2l := hw2.lt
    have hg3l := hw4.lt
    have HF4 := Lib.hid hf4
    clear hf4 hw4 hw2
    have hfw : Frm [] w W4 := HF4.out
    have CAT := Lib.hid ((cat_one (W := W4) (s := (m1, m2)) (SA.out W4 hfw) (SB.out W4 hfw) (by rw [← HS1.out]; exact hsb) NA.out NB.out (by show (l.take fr).length + 1 + (l.drop tt).length ≤ _; rw [List.length_take, List.length_drop]; have := HN.out; omega)).mono fun _ _ h => h.n)
    clear hfw
    go_region_held3 (fun w' => w'.cell? ⟨g2, 0, none⟩ = some (.slice (some ⟨b, off, none⟩) n cap) ∧ w'.cell? ⟨g3, 0, none⟩ = some (.int .u64 (m1 : Int)) ∧ w'.cell? ⟨g3, 1, none⟩ = some (.int .u64 (m2 : Int))) (first | go_keep | (refine ⟨?_, ?_, ?_⟩ <;> (rw [hf5.cell (by simpa using ‹_›) (by simp)]; assumption))) ((go_at_call 98; refine CAT.out.mono ?_; rintro e w5 ⟨a5, m5, c5, rfl, hm5, ho5, hf5⟩))
    have hs1 := HS1.out
    have FIN : Hid (Got w (fun x => Mem l x ∨ (r1 ≤ x ∧ x < r2)) (n + 1) (.returned (.slice a5 m5 c5)) w5) := ⟨l.take fr ++ ([s] ++ l.drop tt), by rw [hs1]; exact retR_from HF4.out (RetR.of hm5.out ho5.out hf5), SPEC.out.1, BOUT.out, SPEC.out.2, LOUT.out⟩
    clear hs1 hm5 ho5 hf5 CAT k2 k30 k31 HS HS1 SPEC BOUT LOUT
    go_wp2
    go_ret
    exact FIN.out
  · have hlt' : ¬ (fr : Int) < (tt : Int) := by omega
    have hs1 : s = (r1, r2) := by rw [HS.out, if_neg hlt]
    have HS1 := Lib.hid hs1
    clear hs1 TAIL
    go_wp2
    have hg2l := (HF3.out.whole H2.out (by simp)).lt
    have hg3l := (HF3.out.whole H3.out (by simp)).lt
    have HF4 := Lib.hid (HF.out.trans HF3.out (U := []) (by simp) (by simp))
    obtain ⟨W4, rfl⟩ : ∃ W4, W4 = w3 := ⟨_, rfl⟩
    have hfw : Frm [] w W4 := HF4.out
    have CAT := Lib.hid ((cat_one (W := W4) (s := (r1, r2)) (SA.out W4 hfw) (SB.out W4 hfw) (by rw [← HS1.out]; exact hsb) NA.out NB.out (by show (l.take fr).length + 1 + (l.drop tt).length ≤ _; rw [List.length_take, List.length_drop]; have := HN.out; omega)).mono fun _ _ h => h.n)
    clear hfw
    go_region_held3 (fun w' => w'.cell? ⟨g2, 0, none⟩ = some (.slice a n cap) ∧ w'.cell? ⟨g3, 0, none⟩ = some (.int .u64 (r1 : Int)) ∧ w'.cell? ⟨g3, 1, none⟩ = some (.int .u64 (r2 : Int))) (first | go_keep | (refine ⟨?_, ?_, ?_⟩ <;> (rw [hf5.cell (by simpa using ‹_›) (by simp)]; assumption))) ((go_at_call 98; refine CAT.out.mono ?_; rintro e w5 ⟨a5, m5, c5, rfl, hm5, ho5, hf5⟩))
    have hs1 := HS1.out
    have FIN : Hid (Got w (fun x => Mem l x ∨ (r1 ≤ x ∧ x < r2)) (n + 1) (.returned (.slice a5 m5 c5)) w5) := ⟨l.take fr ++ ([s] ++ l.drop tt), by rw [hs1]; exact retR_from HF4.out (RetR.of hm5.out ho5.out hf5), SPEC.out.1, BOUT.out, SPEC.out.2, LOUT.out⟩
    clear hs1 hm5 ho5 hf5 CAT k2 k30 k31 HS HS1 SPEC BOUT LOUT
    go_wp2
    go_ret
    exact FIN.out
end Go.Proofs.Ytghadpihmhaepaa
/- Contract of 'ends'. -/
namespace Go.Proofs.Ytghadpihmhaepaa
open Go.RowKit

/-- A range that was just laid. -/
theorem one_rg {W : World} (s : Rg) (hs : s.1 < 18446744073709551616 ∧ s.2 < 18446744073709551616) : Rr (W.alloc (.cells #[.int .u64 (s.1 : Nat), .int .u64 (s.2 : Nat)] 71)) (some ⟨W.heap.size, 0, none⟩) [s] := by
  have hw := Whole.made W 71 #[.int .u64 (s.1 : Nat), .int .u64 (s.2 : Nat)]
  refine ⟨by simp; exact hs, fun _ => ⟨W.heap.size, 0, rfl, fun i hi => ?_⟩⟩
  simp at hi
  subst hi
  exact ⟨hw.cell 0, hw.cell 1⟩

theorem own_app {w w' : World} {base : Nat} {v : Value} {n m : Nat} {l l2 : List Rg} {a' : Option Addr} {c' : Nat} (h : AppR w w' base 71 v n m (fl l) l2 a' c') (hn : n = l.length) (hm : m = l2.length) : OwnR w' base a' c' (l ++ l2) := by
  subst hn hm
  have h1 := h.own
  rw [← fl_append] at h1
  unfold OwnR
  rw [List.length_append]; exact h1

set_option maxHeartbeats 2000000 in
theorem ends_any {lo hi r1 r2 : Nat} (hlo : lo < 18446744073709551616) (hhi : hi < 18446744073709551616) (h1 : r1 < 18446744073709551616) (h2 : r2 < 18446744073709551616) (w : World) :
    Calls Try.prog 102 #[.int .u64 lo, .int .u64 hi, .agg #[.int .u64 r1, .int .u64 r2]] w (RetR w (endsL lo hi (r1, r2))) := by
  obtain ⟨i0, hi0, hz0, hz1, hz2⟩ := info_parts Try.info71
  have HI := Lib.hid hi0; clear hi0
  have HZ0 := Lib.hid hz0; clear hz0
  have HZ1 := Lib.hid hz1; clear hz1
  have HZ2 := Lib.hid hz2; clear hz2
  obtain ⟨W0, hW0⟩ : ∃ W0, W0 = w.alloc (.cells #[.int .u64 r1, .int .u64 r2] 71) := ⟨_, rfl⟩
  have hw0 : Whole W0 w.heap.size 71 #[.int .u64 r1, .int .u64 r2] := by rw [hW0]; exact Whole.made _ _ _
  have hf0 : Frm [] w W0 := by rw [hW0]; exact (Frm.refl _ _).alloc _
  obtain ⟨g, hg⟩ : ∃ g, g = w.heap.size := ⟨_, rfl⟩
  rw [← hg] at hw0
  have hs0 : w.heap.size ≤ W0.heap.size := hf0.size
  have HW0 := Lib.hid hW0; clear hW0
  have HG := Lib.hid hg; clear hg
  have HWH := Lib.hid hw0; clear hw0
  have HF0 := Lib.hid hf0; clear hf0
  have k0 := HWH.out.cell 0
  have k1 := HWH.out.cell 1
  simp only [List.getElem?_toArray] at k0 k1
  by_cases hA : lo < r1
  · have EA : Hid ((if lo < r1 then [((lo, r1) : Rg)] else []) = [((lo, r1) : Rg)]) := if_pos hA
    by_cases hB : r2 < hi
    · have EB : Hid ((if r2 < hi then [((r2, hi) : Rg)] else []) = [((r2, hi) : Rg)]) := if_pos hB
      go_enter Try.func102, Try.ntmps102
      go_upto_region 1 with (fail)
      rw [← HW0.out, ← HG.out]
      go_wp2_with (at_builtin; refine wpList_appR rfl (.tmp 12) (.tmp 17) 53 rfl w.heap.size 71 i0 Try.underlying53 HI.out HZ0.out HZ1.out HZ2.out _ 0 (fl []) rfl (World.ownsRow_nil _ _ _ _) _ 1 1 [(lo, r1)] rfl (one_rg (lo, r1) ⟨hlo, h1⟩) rfl (by intro h; cases h) (by omega) (by simp; omega) ?_)
      intro a1 c1 w1 happ
      have hf1 : Frm [] W0 w1 := frm_app ((Frm.refl _ _).alloc _) happ (by intro x hx; cases hx)
      have ho1 : OwnR w1 w.heap.size a1 c1 [(lo, r1)] := own_app happ rfl rfl
      have hs1 : w.heap.size ≤ w1.heap.size := Nat.le_trans hs0 hf1.size
      have HO1 := Lib.hid ho1
      have HF1 := Lib.hid hf1
      have k2 := (HF1.out.whole HWH.out (by simp)).cell 0
      have k3 := (HF1.out.whole HWH.out (by simp)).cell 1
      simp only [List.getElem?_toArray] at k2 k3
      clear happ ho1 hf1 k0 k1
      go_wp2_with (at_builtin; refine wpList_appR rfl (.tmp 23) (.tmp 28) 53 rfl w.heap.size 71 i0 Try.underlying53 HI.out HZ0.out HZ1.out HZ2.out _ 1 (fl [(lo, r1)]) rfl (HO1.out.keep ((Frm.refl [] w1).alloc _) (by simp)) _ 1 1 [(r2, hi)] rfl (one_rg (r2, hi) ⟨h2, hhi⟩) rfl (by intro h; cases h) (by omega) (by simp; omega) ?_)
      intro a2 c2 w2 happ
      have HF2 := Lib.hid (frm_app ((HF0.out.trans HF1.out (U := []) (by simp) (by simp)).alloc _) happ (fun x hx => .inr (HO1.out.lt x hx).1))
      have HO2 := Lib.hid (own_app happ rfl rfl)
      have FIN : Hid (RetR w (endsL lo hi (r1, r2)) (.returned (.slice a2 2 c2)) w2) := by
        show RetR _ _ _ _
        unfold endsL
        simp only
        rw [EA.out, EB.out]
        exact ⟨a2, c2, rfl, HO2.out, HF2.out⟩
      clear happ k2 k3
      go_wp2
      go_ret
      exact FIN.out
    · have EB : Hid ((if r2 < hi then [((r2, hi) : Rg)] else []) = []) := if_neg hB
      go_enter Try.func102, Try.ntmps102
      go_upto_region 1 with (fail)
      rw [← HW0.out, ← HG.out]
      go_wp2_with (at_builtin; refine wpList_appR rfl (.tmp 12) (.tmp 17) 53 rfl w.heap.size 71 i0 Try.underlying53 HI.out HZ0.out HZ1.out HZ2.out _ 0 (fl []) rfl (World.ownsRow_nil _ _ _ _) _ 1 1 [(lo, r1)] rfl (one_rg (lo, r1) ⟨hlo, h1⟩) rfl (by intro h; cases h) (by omega) (by simp; omega) ?_)
      intro a1 c1 w1 happ
      have hf1 : Frm [] W0 w1 := frm_app ((Frm.refl _ _).alloc _) happ (by intro x hx; cases hx)
      have HO1 := Lib.hid (own_app happ rfl rfl)
      have HF1 := Lib.hid hf1
      have k2 := (HF1.out.whole HWH.out (by simp)).cell 0
      have k3 := (HF1.out.whole HWH.out (by simp)).cell 1
      simp only [List.getElem?_toArray] at k2 k3
      have FIN : Hid (RetR w (endsL lo hi (r1, r2)) (.returned (.slice a1 1 c1)) w1) := by
        show RetR _ _ _ _
        unfold endsL
        simp only
        rw [EA.out, EB.out]
        exact ⟨a1, c1, rfl, HO1.out, HF0.out.trans HF1.out (by simp) (by simp)⟩
      clear happ hf1 k0 k1
      go_wp2
      go_ret
      exact FIN.out
  · have EA : Hid ((if lo < r1 then [((lo, r1) : Rg)] else []) = []) := if_neg hA
    by_cases hB : r2 < hi
    · have EB : Hid ((if r2 < hi then [((r2, hi) : Rg)] else []) = [((r2, hi) : Rg)]) := if_pos hB
      go_enter Try.func102, Try.ntmps102
      go_upto_region 1 with (fail)
      rw [← HW0.out, ← HG.out]
      go_wp2_with (at_builtin; refine wpList_appR rfl (.tmp 23) (.tmp 28) 53 rfl w.heap.size 71 i0 Try.underlying53 HI.out HZ0.out HZ1.out HZ2.out _ 0 (fl []) rfl (World.ownsRow_nil _ _ _ _) _ 1 1 [(r2, hi)] rfl (one_rg (r2, hi) ⟨h2, hhi⟩) rfl (by intro h; cases h) (by omega) (by simp; omega) ?_)
      intro a1 c1 w1 happ
      have hf1 : Frm [] W0 w1 := frm_app ((Frm.refl _ _).alloc _) happ (by intro x hx; cases hx)
      have HO1 := Lib.hid (own_app happ rfl rfl)
      have HF1 := Lib.hid hf1
      have FIN : Hid (RetR w (endsL lo hi (r1, r2)) (.returned (.slice a1 1 c1)) w1) := by
        show RetR _ _ _ _
        unfold endsL
        simp only
        rw [EA.out, EB.out]
        exact ⟨a1, c1, rfl, HO1.out, HF0.out.trans HF1.out (by simp) (by simp)⟩
      clear happ hf1 k0 k1
      go_wp2
      go_ret
      exact FIN.out
    · have EB : Hid ((if r2 < hi then [((r2, hi) : Rg)] else []) = []) := if_neg hB
      go_enter Try.func102, Try.ntmps102
      go_upto_region 1 with (fail)
      rw [← HW0.out, ← HG.out]
      have FIN : Hid (RetR w (endsL lo hi (r1, r2)) (.returned (.slice none 0 0)) W0) := by
        show RetR _ _ _ _
        unfold endsL
        simp only
        rw [EA.out, EB.out]
        exact ⟨none, 0, rfl, OwnR.nil _ _, HF0.out⟩
      go_wp2
      go_ret
      exact FIN.out
end Go.Proofs.Ytghadpihmhaepaa
/- Contract of Remove. -/
namespace Go.Proofs.Ytghadpihmhaepaa
open Go.RowKit

set_option maxHeartbeats 2000000 in
theorem remove_empty {w : World} {a : Option Addr} {l : List Rg} (h : Rr w a l) (hr : Rt l) {n cap : Nat} (hn : n = l.length) (hnil : a = none → cap = 0) (hsz : n ≤ 1000) {r1 r2 : Nat} (he : r2 ≤ r1) :
    Calls Try.prog 77 #[.slice a n cap, .agg #[.int .u64 r1, .int .u64 r2]] w (Got w (fun x => Mem l x ∧ ¬ (r1 ≤ x ∧ x < r2)) (n + 1)) := by
  obtain ⟨W0, hW0⟩ : ∃ W0, W0 = (w.alloc (.cells #[.slice a n cap] 53)).alloc (.cells #[.int .u64 r1, .int .u64 r2] 71) := ⟨_, rfl⟩
  obtain ⟨g2, hg2⟩ : ∃ g2, g2 = w.heap.size := ⟨_, rfl⟩
  obtain ⟨g3, hg3⟩ : ∃ g3, g3 = w.heap.size + 1 := ⟨_, rfl⟩
  have h2 : Whole W0 g2 53 #[.slice a n cap] := by rw [hW0, hg2]; exact (Whole.made w _ _).alloc _
  have h3 : Whole W0 g3 71 #[.int .u64 r1, .int .u64 r2] := by
    rw [hW0, hg3]
    have := Whole.made (w.alloc (.cells #[.slice a n cap] 53)) 71 #[.int .u64 r1, .int .u64 r2]
    simpa using this
  have hF : Frm [] w W0 := by rw [hW0]; exact ((Frm.refl _ _).alloc _).alloc _
  have HF := Lib.hid hF; clear hF
  have H := Lib.hid h; clear h
  have HR := Lib.hid hr; clear hr
  have HN := Lib.hid hn; clear hn
  have HNIL := Lib.hid hnil; clear hnil
  have HW0 := Lib.hid hW0; clear hW0
  have HG2 := Lib.hid hg2; clear hg2
  have HG3 := Lib.hid hg3; clear hg3
  have H2 := Lib.hid h2
  have c0 := h3.cell 0
  have c1 := h3.cell 1
  simp only [List.getElem?_toArray] at c0 c1
  clear h2 h3
  go_enter Try.func77, Try.ntmps77
  go_wp2_with fail
  refine (empty_any r1 r2 _).mono ?_
  rintro e w1 hbo
  obtain ⟨rfl, hf⟩ := hbo.yes he
  rw [← HW0.out] at hf
  have k2 := (hf.whole H2.out (by simp)).cell 0
  simp only [List.getElem?_toArray] at k2
  rw [HG2.out] at k2
  have HF1 := Lib.hid (HF.out.trans hf (U := []) (by simp) (by simp))
  clear hf hbo c0 c1
  go_wp2_with fail
  refine (cloneR_any (H.out.keep0 HF1.out) HN.out HNIL.out (by omega)).mono ?_
  rintro e w2 hret
  have hret2 := retR_from HF1.out hret
  obtain ⟨a2, c2, rfl, ho, hf2⟩ := hret2
  have FIN : Hid (Got w (fun x => Mem l x ∧ ¬ (r1 ≤ x ∧ x < r2)) (n + 1) (.returned (.slice a2 l.length c2)) w2) := ⟨l, ⟨a2, c2, rfl, ho, hf2⟩, HR.out, H.out.1, fun x => ⟨fun hx => ⟨hx, by omega⟩, fun hx => hx.1⟩, by have := HN.out; omega⟩
  clear hret ho hf2 k2
  go_wp2
  go_ret
  exact FIN.out
set_option maxRecDepth 100000 in
set_option maxHeartbeats 4000000 in
theorem remove_some {w : World} {a : Option Addr} {l : List Rg} (h : Rr w a l) (hr : Rt l) {n cap : Nat} (hn : n = l.length) (hnc : n ≤ cap) (hcm : cap ≤ 9223372036854775807) (hnil : a = none → cap = 0) (hsz : n ≤ 1000) {r1 r2 : Nat} (he : r1 < r2) (hb2 : r2 < 18446744073709551616) :
    Calls Try.prog 77 #[.slice a n cap, .agg #[.int .u64 r1, .int .u64 r2]] w (Got w (fun x => Mem l x ∧ ¬ (r1 ≤ x ∧ x < r2)) (n + 1)) := by
  have hmf : ∀ (fn : Fn) (first cap : Array Value) (w : World), (Instr.makeFunc fn first cap).run Try.prog w = .ok (.func fn first cap) w := fun _ _ _ _ => rfl
  obtain ⟨W0, hW0⟩ : ∃ W0, W0 = (w.alloc (.cells #[.slice a n cap] 53)).alloc (.cells #[.int .u64 r1, .int .u64 r2] 71) := ⟨_, rfl⟩
  obtain ⟨g2, hg2⟩ : ∃ g2, g2 = w.heap.size := ⟨_, rfl⟩
  obtain ⟨g3, hg3⟩ : ∃ g3, g3 = w.heap.size + 1 := ⟨_, rfl⟩
  have h2 : Whole W0 g2 53 #[.slice a n cap] := by rw [hW0, hg2]; exact (Whole.made w _ _).alloc _
  have h3 : Whole W0 g3 71 #[.int .u64 r1, .int .u64 r2] := by rw [hW0]; exact Whole.made2 _ _ _ hg3
  have hF : Frm [] w W0 := by rw [hW0]; exact ((Frm.refl _ _).alloc _).alloc _
  have hg23 : g2 < g3 := by omega
  have hgw : w.heap.size ≤ g2 := by omega
  have HF := Lib.hid hF; clear hF
  have H := Lib.hid h; clear h
  have HR := Lib.hid hr; clear hr
  have HN := Lib.hid hn; clear hn
  have HNIL := Lib.hid hnil; clear hnil
  have HW0 := Lib.hid hW0; clear hW0
  have HG2 := Lib.hid hg2; clear hg2
  have HG3 := Lib.hid hg3; clear hg3
  have H2 := Lib.hid h2
  have H3 := Lib.hid h3
  have c0 := h3.cell 0
  have c1 := h3.cell 1
  simp only [List.getElem?_toArray] at c0 c1
  clear h2 h3
  go_enter Try.func77, Try.ntmps77
  go_wp2_with fail
  rw [← HW0.out, ← HG3.out, ← HG2.out]
  refine (empty_any r1 r2 _).mono ?_
  rintro e w1 hbo
  obtain ⟨rfl, hf⟩ := hbo.no (by omega)
  have k2 := (hf.whole H2.out (by simp)).cell 0
  have k30 := (hf.whole H3.out (by simp)).cell 0
  simp only [List.getElem?_toArray] at k2 k30
  have HF1 := Lib.hid hf
  clear hf hbo c0 c1
  go_wp2_with fail
  have hrr1 := H.out.keep0 (HF.out.trans HF1.out (U := []) (by simp) (by simp))
  refine (behind_any hrr1 HR.out (cap := cap) (x := r1) HN.out (by omega)).mono ?_
  rintro e w2 ⟨fr, rfl, hfr, f1, f2, hf⟩
  have F1 := Lib.hid f1; clear f1
  have F2 := Lib.hid f2; clear f2
  have HF2 := Lib.hid (HF1.out.trans hf (U := []) (by simp) (by simp))
  clear hf k2 hrr1 k30
  have k2 := (HF2.out.whole H2.out (by simp)).cell 0
  simp only [List.getElem?_toArray] at k2
  go_wp2_with fail
  have hrr2 := H.out.keep0 (HF.out.trans HF2.out (U := []) (by simp) (by simp))
  have HH2 := Lib.hid (HF2.out.whole H2.out (by simp))
  have HH3 := Lib.hid (HF2.out.whole H3.out (by simp))
  refine (search_any 101 #[.pointer (some ⟨g2, 0, none⟩), .pointer (some ⟨g3, 0, none⟩)] n (fun i => decide (r2 ≤ (l.getD i (0, 0)).1)) w2 enters_rem1 (by omega)
    (fun wr i hf hi => rem1_any (r := (r1, r2)) (hrr2.keep0 hf) (by have := HN.out; omega) HN.out ((hf.whole HH2.out (by simp)).cell 0) ((hf.whole HH3.out (by simp)).cell 0) ((hf.whole HH3.out (by simp)).cell 1))
    (fun i j hij hj hd => by
      have h1 := rt_le HR.out hij (by have := HN.out; omega)
      have h2 : r2 ≤ (l.getD i (0, 0)).1 := of_decide_eq_true hd
      exact decide_eq_true (show r2 ≤ (l.getD j (0, 0)).1 by omega))).mono ?_
  rintro e w3 ⟨tt, rfl, hto, t1, t2, hf⟩
  have HF3 := Lib.hid (HF2.out.trans hf (U := []) (by simp) (by simp))
  clear hf k2 hrr2 HH2 HH3
  -- what the two places mean
  have hft : fr ≤ tt := by
    rcases Nat.lt_or_ge tt fr with hlt | hge
    · have e1 := F1.out tt hlt
      have e2 : r2 ≤ (l.getD tt (0, 0)).1 := of_decide_eq_true (t2 tt (Nat.le_refl _) (by have := HN.out; omega))
      have e3 := rt_lt HR.out (i := tt) (by have := HN.out; omega)
      omega
    · exact hge
  obtain ⟨kp, hkp⟩ : ∃ kp : List Rg, kp = if fr < tt then endsL (l.getD fr (0, 0)).1 (l.getD (tt - 1) (0, 0)).2 (r1, r2) else [] := ⟨_, rfl⟩
  have SPEC := Lib.hid (remove_spec HR.out (r := (r1, r2)) he hft (by have := HN.out; omega)
    (fun i hi => F1.out i hi)
    (fun i hi hil => F2.out i hi hil)
    (fun i hi => by have e1 : ¬ r2 ≤ (l.getD i (0, 0)).1 := of_decide_eq_false (t1 i hi); omega)
    (fun i hi hil => of_decide_eq_true (t2 i hi (by have := HN.out; omega))) hkp)
  have bfr := getD_bd H.out.1 fr
  have bto := getD_bd H.out.1 (tt - 1)
  have hkb : Bd kp ∧ kp.length ≤ 2 ∧ (kp ≠ [] → fr < tt) := by
    rw [hkp]
    split
    · refine ⟨fun p hp => ?_, ?_, fun _ => by assumption⟩
      · unfold endsL at hp
        rcases List.mem_append.1 hp with hp | hp
        · split at hp
          · simp only [List.mem_singleton] at hp
            subst hp; exact ⟨bfr.1, by show r1 < _; omega⟩
          · simp at hp
        · split at hp
          · simp only [List.mem_singleton] at hp
            subst hp; exact ⟨hb2, bto.2⟩
          · simp at hp
      · unfold endsL
        rw [List.length_append]
        split <;> split <;> simp
    · exact ⟨by intro p hp; simp at hp, by simp, fun h => absurd rfl h⟩
  have BOUT : Hid (Bd (l.take fr ++ (kp ++ l.drop tt))) := by
    intro p hp
    rcases List.mem_append.1 hp with hp | hp
    · exact H.out.1 p (List.mem_of_mem_take hp)
    · rcases List.mem_append.1 hp with hp | hp
      · exact hkb.1 p hp
      · exact H.out.1 p (List.mem_of_mem_drop hp)
  have LOUT : Hid ((l.take fr ++ (kp ++ l.drop tt)).length ≤ n + 1) := by
    have := HN.out
    show (l.take fr ++ (kp ++ l.drop tt)).length ≤ n + 1
    rcases Nat.eq_zero_or_pos kp.length with h0 | h0
    · simp only [List.length_append, List.length_take, List.length_drop]; omega
    · have := hkb.2.2 (fun h => by rw [h] at h0; simp at h0)
      simp only [List.length_append, List.length_take, List.length_drop]; omega
  clear t1 t2 F1 F2
  have cA := fun w => run_cutR_h w a n cap fr (fr : Int) rfl (by omega)
  have cB := fun w => run_cutR_l w a n cap tt (tt : Int) rfl (by omega)
  obtain ⟨aA, haA⟩ : ∃ aA, aA = cutR a cap 0 := ⟨_, rfl⟩
  obtain ⟨aB, haB⟩ : ∃ aB, aB = cutR a cap tt := ⟨_, rfl⟩
  obtain ⟨nB, hnB⟩ : ∃ nB, nB = n - tt := ⟨_, rfl⟩
  obtain ⟨cB', hcB'⟩ : ∃ cB', cB' = cap - tt := ⟨_, rfl⟩
  rw [← haA] at cA
  rw [← haB, ← hnB, ← hcB'] at cB
  have SA : Hid (∀ w', Frm [] w w' → SlIn w' ⟨aA, cap, l.take fr⟩) := fun w' hf => by
    have hk := H.out.keep0 hf
    refine ⟨?_, fun h => ?_, ?_, hcm⟩
    · show Rr w' aA (l.take fr)
      rw [haA]
      have := (hk.cut (cap := cap) (by have := HN.out; omega) 0).take fr
      rwa [List.drop_zero] at this
    · have h' : cutR a cap 0 = none := by rw [← haA]; exact h
      have := cutR_none HNIL.out h'; show cap = 0; omega
    · show (l.take fr).length ≤ cap
      rw [List.length_take]; omega
  have SB : Hid (∀ w', Frm [] w w' → SlIn w' ⟨aB, cB', l.drop tt⟩) := fun w' hf => by
    have hk := H.out.keep0 hf
    refine ⟨?_, fun h => ?_, ?_, by show cB' ≤ _; omega⟩
    · show Rr w' aB (l.drop tt)
      rw [haB]
      exact hk.cut (cap := cap) (by have := HN.out; omega) tt
    · have h' : cutR a cap tt = none := by rw [← haB]; exact h
      have := cutR_none HNIL.out h'; show cB' = 0; omega
    · show (l.drop tt).length ≤ cB'
      rw [List.length_drop]; have := HN.out; omega
  have NA : Hid (fr = (l.take fr).length) := by show fr = _; rw [List.length_take]; have := HN.out; omega
  have NB : Hid (nB = (l.drop tt).length) := by show nB = _; rw [List.length_drop]; have := HN.out; omega
  have HKP := Lib.hid hkp
  have HKB := Lib.hid hkb
  clear haA haB hnB hcB' hkp hkb
  have k2 := (HF3.out.whole H2.out (by simp)).cell 0
  have k30 := (HF3.out.whole H3.out (by simp)).cell 0
  have k31 := (HF3.out.whole H3.out (by simp)).cell 1
  simp only [List.getElem?_toArray] at k2 k30 k31
  by_cases hlt : fr < tt
  · have hlt' : (fr : Int) < (tt : Int) := by omega
    obtain ⟨b, off, rfl, hc⟩ := (H.out.keep0 (HF.out.trans HF3.out (U := []) (by simp) (by simp))).2 (by have := HN.out; omega)
    obtain ⟨d0, _⟩ := hc fr (by have := HN.out; omega)
    obtain ⟨j, hj⟩ : ∃ j, j = tt - 1 := ⟨_, rfl⟩
    obtain ⟨_, d1⟩ := hc j (by have := HN.out; omega)
    have hk1 : kp = endsL (l.getD fr (0, 0)).1 (l.getD j (0, 0)).2 (r1, r2) := by rw [HKP.out, if_pos hlt, hj]
    rw [← hj] at bto
    obtain ⟨x, hx⟩ : ∃ y, y = (l.getD fr (0, 0)).1 := ⟨_, rfl⟩
    obtain ⟨y, hy⟩ : ∃ y, y = (l.getD j (0, 0)).2 := ⟨_, rfl⟩
    rw [← hx] at d0 hk1 bfr
    rw [← hy] at d1 hk1 bto
    have HK1 := Lib.hid hk1
    clear hc hx hy hk1
    have hfn : (fr : Int) < (n : Int) := by omega
    have hjn : (j : Int) < (n : Int) := by omega
    have hwj : IntKind.i64.wrap ((tt : Int) - 1) = (j : Int) := by rw [IntWalk.i64_in _ (by omega)]; omega
    have HJ := Lib.hid hj; clear hj
    have EN := Lib.hid (ends_any (lo := x) (hi := y) (r1 := r1) (r2 := r2) bfr.1 bto.2 (by omega) hb2)
    clear bfr bto
    go_wp2
    go_still_tail 12, (by kernel_rfl)
    change wpList _ _ _ _ _ w3.drew
    go_wp2_with fail
    refine (EN.out w3.drew).mono ?_
    rintro e w4 hret
    have hret2 := hret.n
    obtain ⟨ak, mk, ck, rfl, hmk, hok, hf4⟩ := hret2
    have hf34 : Frm [] w3 w4 := (Frm.drew1 w3).trans hf4 (by simp) (by simp)
    have HF34 := Lib.hid hf34
    have SK : Hid (SlIn w4 ⟨ak, ck, kp⟩) := by
      have h := hok.out
      rw [← HK1.out] at h
      have h2 := h.rr HKB.out.1
      exact ⟨h2.1, h2.2.1, h2.2.2.1, by have := h2.2.2.2; unfold maxLen at this; show ck ≤ _; omega⟩
    have MK : Hid (mk = kp.length) := by rw [HK1.out]; exact hmk.out
    clear hret hf4 hf34 hmk hok EN k30 k31 k2 hwj
    have hw2 := HF34.out.whole (HF3.out.whole H2.out (by simp)) (by simp)
    have k2 := hw2.cell 0
    have hg2l := hw2.lt
    simp only [List.getElem?_toArray] at k2
    have HF4 := Lib.hid ((HF.out.trans HF3.out (U := []) (by simp) (by simp)).trans HF34.out (U := []) (by simp) (by simp))
    have hfw : Frm [] w w4 := HF4.out
    have CAT0 := (cat_lit (W := w4) (SA.out w4 hfw) SK.out (SB.out w4 hfw) (by show (l.take fr).length + kp.length + (l.drop tt).length ≤ _; rw [List.length_take, List.length_drop]; have := HN.out; have := HKB.out.2.1; omega)).mono fun _ _ h => h.n
    simp only at CAT0
    rw [← NA.out, ← NB.out, ← MK.out] at CAT0
    have CAT := Lib.hid CAT0
    clear hfw hw2 CAT0
    go_wp2
    go_region_held3 (fun w' => w'.cell? ⟨g2, 0, none⟩ = some (.slice (some ⟨b, off, none⟩) n cap)) (first | go_keep | (rw [hf5.cell (by simpa using ‹_›) (by simp)]; assumption)) ((go_at_call 98; refine CAT.out.mono ?_; rintro e w5 ⟨a5, m5, c5, rfl, hm5, ho5, hf5⟩))
    have FIN : Hid (Got w (fun x => Mem l x ∧ ¬ (r1 ≤ x ∧ x < r2)) (n + 1) (.returned (.slice a5 m5 c5)) w5) := ⟨l.take fr ++ (kp ++ l.drop tt), retR_from HF4.out (RetR.of hm5.out ho5.out hf5), SPEC.out.1, BOUT.out, SPEC.out.2, LOUT.out⟩
    clear hm5 ho5 hf5 CAT k2 HKP HK1 SPEC BOUT LOUT
    go_wp2
    go_ret
    exact FIN.out
  · have hlt' : ¬ (fr : Int) < (tt : Int) := by omega
    have hk1 : kp = [] := by rw [HKP.out, if_neg hlt]
    have HK1 := Lib.hid hk1
    clear hk1 bfr bto k30 k31
    have hg2l := (HF3.out.whole H2.out (by simp)).lt
    have HF4 := Lib.hid (HF.out.trans HF3.out (U := []) (by simp) (by simp))
    have hfw : Frm [] w w3 := HF4.out
    have CAT0 := (cat_lit (W := w3) (sK := ⟨none, 0, []⟩) (SA.out w3 hfw) ⟨Rr.nil _ _, fun _ => rfl, by simp, by simp⟩ (SB.out w3 hfw) (by show (l.take fr).length + 0 + (l.drop tt).length ≤ _; rw [List.length_take, List.length_drop]; have := HN.out; omega)).mono fun _ _ h => h.n
    simp only at CAT0
    rw [← NA.out, ← NB.out] at CAT0
    have CAT := Lib.hid CAT0
    clear hfw CAT0
    go_wp2
    go_region_held3 (fun w' => w'.cell? ⟨g2, 0, none⟩ = some (.slice a n cap)) (first | go_keep | (rw [hf5.cell (by simpa using ‹_›) (by simp)]; assumption)) ((go_at_call 98; refine CAT.out.mono ?_; rintro e w5 ⟨a5, m5, c5, rfl, hm5, ho5, hf5⟩))
    have hk1 := HK1.out
    have FIN : Hid (Got w (fun x => Mem l x ∧ ¬ (r1 ≤ x ∧ x < r2)) (n + 1) (.returned (.slice a5 m5 c5)) w5) := ⟨l.take fr ++ (kp ++ l.drop tt), by rw [hk1]; exact retR_from HF4.out (RetR.of hm5.out ho5.out hf5), SPEC.out.1, BOUT.out, SPEC.out.2, LOUT.out⟩
    clear hk1 hm5 ho5 hf5 CAT k2 HKP HK1 SPEC BOUT LOUT
    go_wp2
    go_ret
    exact FIN.out
end Go.Proofs.Ytghadpihmhaepaa
/- Plain mathematics behind the document's Set: a number more in a rising list; what holds between two numbers of the list of all ends. They speak of no program. -/
namespace Go.Proofs.Ytghadpihmhaepaa

/-- A rising list. -/
def Up (l : List Nat) : Prop := l.Pairwise (· < ·)
theorem up_at {l : List Nat} (h : Up l) {i j : Nat} (hij : i < j) (hj : j < l.length) : l.getD i 0 < l.getD j 0 := by
  have hi : i < l.length := by omega
  have e : l.getD i 0 = l[i] := by simp [hi]
  have e' : l.getD j 0 = l[j] := by simp [hj]
  rw [e, e']; exact List.pairwise_iff_getElem.1 h i j hi hj hij
theorem up_mem {l : List Nat} {x : Nat} (h : x ∈ l) : ∃ i, i < l.length ∧ l.getD i 0 = x := by
  obtain ⟨i, hi, rfl⟩ := List.getElem_of_mem h
  exact ⟨i, hi, by simp [hi]⟩
theorem mem_getD {l : List Nat} {i : Nat} (hi : i < l.length) : l.getD i 0 ∈ l := by
  have e : l.getD i 0 = l[i] := by simp [hi]
  rw [e]; exact List.getElem_mem hi
theorem mem_take_at {l : List Nat} {k x : Nat} (h : x ∈ l.take k) : ∃ i, i < k ∧ i < l.length ∧ l.getD i 0 = x := by
  obtain ⟨i, hi, rfl⟩ := List.getElem_of_mem h
  have hi' : i < k ∧ i < l.length := by rw [List.length_take] at hi; omega
  exact ⟨i, hi'.1, hi'.2, by simp [hi'.2]⟩
theorem mem_drop_at {l : List Nat} {k x : Nat} (h : x ∈ l.drop k) : ∃ i, k ≤ i ∧ i < l.length ∧ l.getD i 0 = x := by
  obtain ⟨i, hi, rfl⟩ := List.getElem_of_mem h
  have hi' : k + i < l.length := by rw [List.length_drop] at hi; omega
  exact ⟨k + i, by omega, hi', by simp [hi']⟩
theorem up_put {l : List Nat} (h : Up l) {n k : Nat} (_hk : k ≤ l.length) (h1 : ∀ i, i < k → l.getD i 0 < n) (h2 : k < l.length → n < l.getD k 0) :
    Up (l.take k ++ ([n] ++ l.drop k)) ∧ ∀ x, x ∈ l.take k ++ ([n] ++ l.drop k) ↔ x ∈ l ∨ x = n := by
  have hd : ∀ x ∈ l.drop k, n < x := by
    intro x hx
    obtain ⟨i, hi, hil, rfl⟩ := mem_drop_at hx
    have := h2 (by omega)
    rcases Nat.lt_or_eq_of_le hi with h3 | rfl
    · have := up_at h h3 hil; omega
    · exact this
  have ht : ∀ x ∈ l.take k, x < n := by
    intro x hx
    obtain ⟨i, hi, hil, rfl⟩ := mem_take_at hx
    exact h1 i hi
  constructor
  · unfold Up
    rw [List.pairwise_append]
    refine ⟨h.sublist (List.take_sublist _ _), ?_, ?_⟩
    · rw [List.singleton_append, List.pairwise_cons]
      exact ⟨hd, h.sublist (List.drop_sublist _ _)⟩
    · intro x hx y hy
      rcases List.mem_append.1 hy with hy | hy
      · simp only [List.mem_singleton] at hy
        subst hy; exact ht x hx
      · have := ht x hx; have := hd y hy; omega
  · intro x
    have e : x ∈ l ↔ x ∈ l.take k ∨ x ∈ l.drop k := by rw [← List.mem_append, List.take_append_drop]
    rw [e]
    simp only [List.mem_append, List.mem_singleton]
    constructor
    · rintro (h | h | h)
      · exact .inl (.inl h)
      · exact .inr h
      · exact .inl (.inr h)
    · rintro ((h | h) | h)
      · exact .inl h
      · exact .inr (.inr h)
      · exact .inr (.inl h)

/-- All ends of some are in c. -/
def Ends (l : List Rg) (c : List Nat) : Prop := ∀ p ∈ l, p.1 ∈ c ∧ p.2 ∈ c
theorem same_between {l : List Rg} {c : List Nat} (hc : Up c) (he : Ends l c) {i x : Nat} (hi : i + 1 < c.length) (h1 : c.getD i 0 ≤ x) (h2 : x < c.getD (i + 1) 0) : Mem l x ↔ Mem l (c.getD i 0) := by
  have key : ∀ y ∈ c, (y ≤ x ↔ y ≤ c.getD i 0) := by
    intro y hy
    obtain ⟨j, hj, rfl⟩ := up_mem hy
    constructor
    · intro h3
      rcases Nat.lt_or_ge i j with h4 | h4
      · have : c.getD (i + 1) 0 ≤ c.getD j 0 := by
          rcases Nat.lt_or_eq_of_le (Nat.succ_le_of_lt h4) with h5 | h5
          · exact Nat.le_of_lt (up_at hc h5 hj)
          · rw [← h5]; exact Nat.le_refl _
        omega
      · rcases Nat.lt_or_eq_of_le h4 with h5 | h5
        · exact Nat.le_of_lt (up_at hc h5 (by omega))
        · rw [h5]; exact Nat.le_refl _
    · intro h3; omega
  constructor
  · rintro ⟨p, hp, h3, h4⟩
    have k1 := key p.1 (he p hp).1
    have k2 := key p.2 (he p hp).2
    exact ⟨p, hp, by omega, by omega⟩
  · rintro ⟨p, hp, h3, h4⟩
    have k1 := key p.1 (he p hp).1
    have k2 := key p.2 (he p hp).2
    exact ⟨p, hp, by omega, by omega⟩

/-- What stands in out behind i of the ends. -/
structure SetTo (some none : List Rg) (c : List Nat) (i : Nat) (out : List Rg) : Prop where
  rt : Rt out
  bd : ∀ p ∈ out, p.1 < 18446744073709551616 ∧ p.2 < 18446744073709551616
  hi : ∀ p ∈ out, p.2 ≤ c.getD i 0
  mem : ∀ x, Mem out x ↔ x < c.getD i 0 ∧ Mem some x ∧ ¬ Mem none x
  len : out.length ≤ i
variable {some none : List Rg} {c : List Nat} {i : Nat} {out : List Rg}
theorem SetTo.zero (hc : Up c) (he : Ends some c) : SetTo some none c 0 [] where
  rt := Rt.nil
  bd := by simp
  hi := by simp
  mem := fun x => ⟨fun h => absurd h (Mem.nil x), fun ⟨h1, ⟨p, hp, h2, _⟩, _⟩ => by
    obtain ⟨j, hj, h3⟩ := up_mem (he p hp).1
    rcases Nat.eq_zero_or_pos j with rfl | h4
    · omega
    · have := up_at hc h4 hj; omega⟩
  len := Nat.le_refl _
theorem SetTo.skip (h : SetTo some none c i out) (hc : Up c) (he : Ends some c) (he' : Ends none c) (hi : i + 1 < c.length) (hno : ¬ Mem some (c.getD i 0) ∨ Mem none (c.getD i 0)) : SetTo some none c (i + 1) out where
  rt := h.rt
  bd := h.bd
  hi := fun p hp => by have := h.hi p hp; have := up_at hc (Nat.lt_add_one i) hi; omega
  mem := fun x => by
    have hlt := up_at hc (Nat.lt_add_one i) hi
    rw [h.mem x]
    constructor
    · rintro ⟨h1, h2⟩; exact ⟨by omega, h2⟩
    · rintro ⟨h1, h2, h3⟩
      rcases Nat.lt_or_ge x (c.getD i 0) with h4 | h4
      · exact ⟨h4, h2, h3⟩
      · have e1 := same_between hc he hi h4 h1
        have e2 := same_between hc he' hi h4 h1
        rcases hno with h5 | h5
        · exact absurd (e1.1 h2) h5
        · exact absurd (e2.2 h5) h3
  len := Nat.le_succ_of_le h.len
theorem SetTo.grow (h : SetTo some none c i out) (hc : Up c) (hcb : ∀ x ∈ c, x < 18446744073709551616) (he : Ends some c) (he' : Ends none c) (hi : i + 1 < c.length) (h1 : Mem some (c.getD i 0)) (h2 : ¬ Mem none (c.getD i 0))
    (hl : out.length ≤ 0 ∨ (out.getD (out.length - 1) (0, 0)).2 ≠ c.getD i 0) : SetTo some none c (i + 1) (out ++ [(c.getD i 0, c.getD (i + 1) 0)]) := by
  have hlt := up_at hc (Nat.lt_add_one i) hi
  have hall : ∀ p ∈ out, p.2 < c.getD i 0 := by
    intro p hp
    obtain ⟨j, hj, rfl⟩ := List.getElem_of_mem hp
    have ej : out[j] = out.getD j (0, 0) := by simp [hj]
    rcases hl with hl | hl
    · omega
    · have hlast : out.getD (out.length - 1) (0, 0) ∈ out := by
        have e : out.getD (out.length - 1) (0, 0) = out[out.length - 1] := by simp [show out.length - 1 < out.length by omega]
        rw [e]; exact List.getElem_mem _
      have h5 := h.hi _ hlast
      rw [ej]
      rcases Nat.lt_or_ge j (out.length - 1) with h6 | h6
      · have := rt_gap h.rt h6 (by omega)
        have := rt_lt h.rt (i := out.length - 1) (by omega)
        omega
      · rw [show j = out.length - 1 by omega]; omega
  refine ⟨?_, ?_, ?_, ?_, ?_⟩
  · rw [rt_append]
    exact ⟨h.rt, (rt_cons _ _).2 ⟨hlt, by simp, Rt.nil⟩, fun p hp q hq => by simp only [List.mem_singleton] at hq; subst hq; exact hall p hp⟩
  · intro p hp
    rcases List.mem_append.1 hp with hp | hp
    · exact h.bd p hp
    · simp only [List.mem_singleton] at hp
      subst hp; exact ⟨hcb _ (mem_getD (by omega)), hcb _ (mem_getD hi)⟩
  · intro p hp
    rcases List.mem_append.1 hp with hp | hp
    · have := h.hi p hp; omega
    · simp only [List.mem_singleton] at hp
      subst hp; exact Nat.le_refl _
  · intro x
    rw [mem_append, h.mem x, mem_cons]
    constructor
    · rintro (⟨h3, h4⟩ | h3 | h3)
      · exact ⟨by omega, h4⟩
      · simp only at h3
        exact ⟨h3.2, (same_between hc he hi h3.1 h3.2).2 h1, fun h4 => h2 ((same_between hc he' hi h3.1 h3.2).1 h4)⟩
      · exact absurd h3 (Mem.nil x)
    · rintro ⟨h3, h4⟩
      rcases Nat.lt_or_ge x (c.getD i 0) with h5 | h5
      · exact .inl ⟨h5, h4⟩
      · exact .inr (.inl ⟨h5, h3⟩)
  · have := h.len
    simp; omega
theorem set_last {l : List Rg} (h : 0 < l.length) (p : Rg) : l.set (l.length - 1) p = l.take (l.length - 1) ++ [p] := by
  rw [List.set_eq_take_append_cons_drop, if_pos (by omega)]
  rw [List.drop_eq_nil_of_le (by omega)]
theorem split_last {l : List Rg} (h : 0 < l.length) : l = l.take (l.length - 1) ++ [l.getD (l.length - 1) (0, 0)] := by
  have e : l.getD (l.length - 1) (0, 0) = l[l.length - 1] := by simp [show l.length - 1 < l.length by omega]
  rw [e, List.take_append_getElem]
  rw [List.take_of_length_le (by omega)]
theorem SetTo.stretch (h : SetTo some none c i out) (hc : Up c) (hcb : ∀ x ∈ c, x < 18446744073709551616) (he : Ends some c) (he' : Ends none c) (hi : i + 1 < c.length) (h1 : Mem some (c.getD i 0)) (h2 : ¬ Mem none (c.getD i 0))
    (h0 : 0 < out.length) (hl : (out.getD (out.length - 1) (0, 0)).2 = c.getD i 0) : SetTo some none c (i + 1) (out.set (out.length - 1) ((out.getD (out.length - 1) (0, 0)).1, c.getD (i + 1) 0)) := by
  have hlt := up_at hc (Nat.lt_add_one i) hi
  have es := split_last h0
  rw [set_last h0]
  obtain ⟨A, hA⟩ : ∃ A, A = out.take (out.length - 1) := ⟨_, rfl⟩
  obtain ⟨p, hp⟩ : ∃ p, p = out.getD (out.length - 1) (0, 0) := ⟨_, rfl⟩
  rw [← hA, ← hp] at es
  rw [← hp] at hl
  rw [← hA, ← hp]
  have hlen := h.len
  have hr := h.rt
  have hb := h.bd
  have hh := h.hi
  have hm := h.mem
  rw [es] at hlen hr hb hh hm
  obtain ⟨r1, r2, r3⟩ := (rt_append A [p]).1 hr
  have hp2 := ((rt_cons p []).1 r2).1
  refine ⟨?_, ?_, ?_, ?_, ?_⟩
  · rw [rt_append]
    exact ⟨r1, (rt_cons _ _).2 ⟨by show p.1 < _; omega, by simp, Rt.nil⟩, fun q hq s hs => by simp only [List.mem_singleton] at hs; subst hs; exact r3 q hq p (by simp)⟩
  · intro q hq
    rcases List.mem_append.1 hq with hq | hq
    · exact hb q (List.mem_append_left _ hq)
    · simp only [List.mem_singleton] at hq
      subst hq; exact ⟨(hb p (by simp)).1, hcb _ (mem_getD hi)⟩
  · intro q hq
    rcases List.mem_append.1 hq with hq | hq
    · have := hh q (List.mem_append_left _ hq); omega
    · simp only [List.mem_singleton] at hq
      subst hq; exact Nat.le_refl _
  · intro x
    have hmx := hm x
    rw [mem_append, mem_cons] at hmx
    rw [mem_append, mem_cons]
    simp only
    constructor
    · rintro (h3 | h3 | h3)
      · have := hmx.1 (.inl h3); exact ⟨by omega, this.2⟩
      · rcases Nat.lt_or_ge x (c.getD i 0) with h5 | h5
        · have := hmx.1 (.inr (.inl ⟨h3.1, by omega⟩)); exact ⟨by omega, this.2⟩
        · exact ⟨h3.2, (same_between hc he hi h5 h3.2).2 h1, fun h4 => h2 ((same_between hc he' hi h5 h3.2).1 h4)⟩
      · exact absurd h3 (Mem.nil x)
    · rintro ⟨h3, h4⟩
      rcases Nat.lt_or_ge x (c.getD i 0) with h5 | h5
      · rcases hmx.2 ⟨h5, h4⟩ with h6 | h6 | h6
        · exact .inl h6
        · exact .inr (.inl ⟨h6.1, by omega⟩)
        · exact absurd h6 (Mem.nil x)
      · exact .inr (.inl ⟨by omega, h3⟩)
  · rw [List.length_append] at hlen ⊢
    simp at hlen ⊢; omega
theorem SetTo.done (h : SetTo some none c i out) (hc : Up c) (he : Ends some c) (hi : ¬ i + 1 < c.length) (hi2 : i < c.length ∨ (c = [] ∧ i = 0)) : ∀ x, Mem out x ↔ Mem some x ∧ ¬ Mem none x := by
  intro x
  rw [h.mem x]
  constructor
  · rintro ⟨_, h1⟩; exact h1
  · rintro ⟨⟨p, hp, h3, h4⟩, h2⟩
    refine ⟨?_, ⟨p, hp, h3, h4⟩, h2⟩
    obtain ⟨j, hj, h5⟩ := up_mem (he p hp).2
    rcases hi2 with h6 | ⟨h6, _⟩
    · rcases Nat.lt_or_eq_of_le (show j ≤ i by omega) with h7 | rfl
      · have := up_at hc h7 h6; omega
      · omega
    · rw [h6] at hj; simp at hj
end Go.Proofs.Ytghadpihmhaepaa
/- Contract of the document's put: a number more in a rising list. -/
namespace Go.Proofs.Ytghadpihmhaepaa
open Go.RowKit

theorem Try.info23 : (Try.prog.info? 23).map (fun i => (i.zero, i.size, i.bytes)) = some (some (.int .u64 0), 1, 8) := by kernel_rfl
def uv (c : Nat) : Value := .int .u64 (c : Int)
/-- A slice at a reads as the numbers l. -/
def Uw (w : World) (a : Option Addr) (l : List Nat) : Prop :=
  (∀ c ∈ l, c < 18446744073709551616) ∧ (0 < l.length → ∃ b off, a = some ⟨b, off, none⟩ ∧ ∀ i, i < l.length → w.cell? ⟨b, off + i, none⟩ = some (.int .u64 (l.getD i 0 : Nat)))
theorem Uw.nil (w : World) (a : Option Addr) : Uw w a [] := ⟨by simp, fun h => absurd h (by simp)⟩
theorem Uw.keep {w w' : World} {a : Option Addr} {l : List Nat} (h : Uw w a l) (hf : Frm [] w w') : Uw w' a l := by
  refine ⟨h.1, fun h0 => ?_⟩
  obtain ⟨b, off, rfl, hc⟩ := h.2 h0
  exact ⟨b, off, rfl, fun i hi => (hf.cell (p := ⟨b, off + i, none⟩) (block_lt_of_cell (hc i hi)) (by simp)).trans (hc i hi)⟩
theorem u_bd {l : List Nat} (h : ∀ c ∈ l, c < 18446744073709551616) (i : Nat) : l.getD i 0 < 18446744073709551616 := by
  by_cases hi : i < l.length
  · exact h _ (mem_getD hi)
  · have e : l.getD i 0 = 0 := by simp [Nat.le_of_not_lt hi]
    rw [e]; simp
theorem getD_uv {l : List Nat} {i : Nat} (h : i < l.length) : (l.map uv)[i]? = some (uv (l.getD i 0)) := by simp [h]
theorem uv_one (l : List Nat) : ∀ u ∈ l.map uv, u.oneCell' = true := by
  intro u hu
  obtain ⟨c, _, rfl⟩ := List.mem_map.1 hu
  rfl
theorem Uw.take {w : World} {a : Option Addr} {l : List Nat} (h : Uw w a l) (k : Nat) : Uw w a (l.take k) := by
  refine ⟨fun p hp => h.1 p (List.mem_of_mem_take hp), fun h0 => ?_⟩
  have hl : (l.take k).length ≤ l.length := List.length_take_le' k l
  obtain ⟨b, off, ha, hc⟩ := h.2 (by omega)
  refine ⟨b, off, ha, fun i hi => ?_⟩
  rw [List.length_take] at hi
  have e : (l.take k).getD i 0 = l.getD i 0 := by simp [List.getD, show i < k by omega]
  rw [e]
  exact hc i (by omega)
def cutU (a : Option Addr) (cap lo : Nat) : Option Addr := if cap = lo then a else a.map (·.add lo)
theorem Uw.cut {w : World} {a : Option Addr} {l : List Nat} {cap : Nat} (h : Uw w a l) (hc : l.length ≤ cap) (lo : Nat) : Uw w (cutU a cap lo) (l.drop lo) := by
  refine ⟨fun p hp => h.1 p (List.mem_of_mem_drop hp), fun h0 => ?_⟩
  rw [List.length_drop] at h0
  obtain ⟨b, off, rfl, hcl⟩ := h.2 (by omega)
  refine ⟨b, off + lo, ?_, fun i hi => ?_⟩
  · unfold cutU
    rw [if_neg (by omega)]
    simp [addr_add]
  · rw [List.length_drop] at hi
    have e : (l.drop lo).getD i 0 = l.getD (lo + i) 0 := by simp [List.getD, List.getElem?_drop]
    rw [e]
    have := hcl (lo + i) (by omega)
    rw [← Nat.add_assoc] at this
    exact this
theorem cutU_none {a : Option Addr} {cap lo : Nat} (h : a = none → cap = 0) (hc : cutU a cap lo = none) : cap - lo = 0 := by
  unfold cutU at hc
  by_cases hlo : cap = lo
  · omega
  · rw [if_neg hlo] at hc
    have := h (by simpa using hc)
    omega
theorem size_u64 (w : World) : (Go.sizeOf 23).run Try.prog w = .ok 1 w := by kernel_rfl
theorem run_cutU_h (w : World) (a : Option Addr) (n cap hi : Nat) (h : Int) (hh : h = (hi : Nat)) (h2 : hi ≤ cap) :
    (Instr.slice 103 (.slice a n cap) none (some (.int .i64 h)) none).run Try.prog w = .ok (.slice (cutU a cap 0) hi cap) w := by
  subst hh
  have ht' : Try.prog.underlying 103 = some (.slice (Try.prog.elem 103)) := by simp [Program.elem, Try.underlying103]
  have he : Try.prog.elem 103 = 23 := by simp [Program.elem, Try.underlying103]
  rw [run_slice_h w _ _ _ _ ht' _ _ (by omega) (by omega), he, size_u64]
  simp [Result.andThen, sliced, cutU]
theorem run_cutU_l (w : World) (a : Option Addr) (n cap lo : Nat) (l : Int) (hl : l = (lo : Nat)) (h1 : lo ≤ n) :
    (Instr.slice 103 (.slice a n cap) (some (.int .i64 l)) none none).run Try.prog w = .ok (.slice (cutU a cap lo) (n - lo) (cap - lo)) w := by
  subst hl
  have ht' : Try.prog.underlying 103 = some (.slice (Try.prog.elem 103)) := by simp [Program.elem, Try.underlying103]
  have he : Try.prog.elem 103 = 23 := by simp [Program.elem, Try.underlying103]
  rw [run_slice_l w _ _ _ _ ht' _ _ (by omega) (by omega), he, size_u64]
  simp [Result.andThen, sliced, cutU]

/-- A row of the call's own with the numbers l. -/
def OwnU (w : World) (base : Nat) (a : Option Addr) (cap : Nat) (l : List Nat) : Prop := w.ownsRow base 23 1 (.slice a l.length cap) l.length (l.map uv)
theorem OwnU.uw {w : World} {base : Nat} {a : Option Addr} {cap : Nat} {l : List Nat} (h : OwnU w base a cap l) (hb : ∀ c ∈ l, c < 18446744073709551616) : Uw w a l ∧ (a = none → cap = 0) ∧ l.length ≤ cap ∧ cap ≤ 9223372036854775807 := by
  refine ⟨⟨hb, fun h0 => ?_⟩, ?_⟩
  · rcases h.2 with ⟨_, h1⟩ | ⟨g, cap', cur, hv, hb, hg, hnc, hcm, hcs, ht⟩
    · omega
    · simp only [Value.slice.injEq] at hv
      obtain ⟨rfl, _, rfl⟩ := hv
      refine ⟨g, 0, rfl, fun i hi => ?_⟩
      have hh : w.ownsRow base 23 1 (.slice (some ⟨g, 0, none⟩) l.length cap) l.length (l.map uv) := h
      rw [Nat.zero_add, hh.cellAt i (by omega), getD_uv hi]; rfl
  · rcases h.2 with ⟨hv, h1⟩ | ⟨g, cap', cur, hv, hb, hg, hnc, hcm, hcs, ht⟩
    · simp only [Value.slice.injEq] at hv
      exact ⟨fun _ => hv.2.2, by omega, by rw [hv.2.2]; simp⟩
    · simp only [Value.slice.injEq] at hv
      obtain ⟨rfl, _, rfl⟩ := hv
      unfold maxLen at hcm
      exact ⟨fun h => by simp at h, hnc, by omega⟩
theorem OwnU.keep {w w' : World} {base : Nat} {a : Option Addr} {cap : Nat} {l : List Nat} {S : List Nat} (h : OwnU w base a cap l) (hf : Frm S w w') (hn : ∀ x, a = some x → x.block ∉ S) : OwnU w' base a cap l :=
  hf.own h (fun g hg => by
    cases a with
    | none => simp [Value.ownBlock] at hg
    | some x => simp only [Value.ownBlock, Option.some.injEq] at hg; subst hg; exact hn x rfl)
theorem OwnU.lt {w : World} {base : Nat} {a : Option Addr} {cap : Nat} {l : List Nat} (h : OwnU w base a cap l) : ∀ x, a = some x → base ≤ x.block ∧ x.block < w.heap.size := fun x hx => World.ownsRow.lt h x.block (by rw [hx]; rfl)

section
variable {P : Program} {w : World}
structure AppU (w w' : World) (base : Nat) (e : TypeId) (v : Value) (n m : Nat) (xs : List Value) (l : List Nat) (a' : Option Addr) (cap' : Nat) : Prop where
  own : w'.ownsRow base e 1 (.slice a' (n + m) cap') (n + m) (xs ++ l.map uv)
  grown : w.grownBy w' v.ownBlock
  place : (Value.slice a' (n + m) cap').ownBlock = v.ownBlock ∨ (Value.slice a' (n + m) cap').ownBlock = some w.heap.size
theorem run_appU (base : Nat) (t ty e : TypeId) (i : TypeInfo) (ht : P.underlying t = some (.slice e)) (hi : P.info? e = some i) (hz : i.zero = some (.int .u64 0))
    (hsize : i.size = 1) (hby : i.bytes = 8) (v : Value) (n : Nat) (xs : List Value) (hown : w.ownsRow base e 1 v n xs)
    (ad : Option Addr) (m c : Nat) (l : List Nat) (hB : Uw w ad l) (hm : m = l.length) (hnil : ad = none → c = 0)
    (hfit : n + m ≤ 1000000) (hbase : base ≤ w.heap.size) :
    ∃ a' cap' w', (Builtin.append_ #[t, t] ty #[v, .slice ad m c]).run P w = .ok (.slice a' (n + m) cap') w' ∧ AppU w w' base e v n m xs l a' cap' := by
  have shape : ∀ (v' : Value) (w' : World) (k : Nat) (ys : List Value), w'.ownsRow base e 1 v' k ys → ∃ a' cap', v' = .slice a' k cap' := by
    intro v' w' k ys h
    rcases h.2 with ⟨hv, h0⟩ | ⟨g, cap', cur, hv, _⟩
    · exact ⟨none, 0, by rw [hv, h0]⟩
    · exact ⟨_, cap', hv⟩
  cases ad with
  | none =>
    have hc0 := hnil rfl
    subst hc0
    have hl0 : l = [] := by
      rcases Nat.eq_zero_or_pos l.length with h | h
      · exact List.eq_nil_of_length_eq_zero h
      · obtain ⟨b, off, h, _⟩ := hB.2 h; cases h
    subst hl0
    have hm0 : m = 0 := by simpa using hm
    subst hm0
    obtain ⟨a', cap', hv⟩ := shape v w n xs hown
    subst hv
    exact ⟨a', cap', w, run_append_owned_none (P := P) (w := w) base t ty e i 1 ht hi _ n xs hown, by simpa using hown, World.grownBy.refl _ _, .inl rfl⟩
  | some x =>
    have hnews : ∀ j u, (l.map uv)[j]? = some u → w.cell? (x.add j) = some u := by
      rcases Nat.eq_zero_or_pos l.length with h | h
      · have : l = [] := List.eq_nil_of_length_eq_zero h
        subst this; intro j u hu; simp at hu
      · obtain ⟨b, off, h, hh⟩ := hB.2 h
        cases h
        intro j u hu
        have hj : j < l.length := by
          rcases Nat.lt_or_ge j l.length with h' | h'
          · exact h'
          · rw [List.getElem?_eq_none (by simpa using h')] at hu; cases hu
        rw [getD_uv hj] at hu
        cases hu
        rw [addr_add]; exact hh j hj
    obtain ⟨v', w', hr, ho, hg, _, hpl⟩ := run_append_own_at (P := P) w base t ty e i (.int .u64 0) 1 8 ht hi hz hsize hby rfl (by decide) v n xs hown x m c (l.map uv) (by simp [hm]) hnews (uv_one l) (by unfold maxLen; omega) (by omega) hbase
    obtain ⟨a', cap', hv⟩ := shape v' w' (n + m) _ ho
    subst hv
    exact ⟨a', cap', w', hr, ho, hg, hpl⟩
theorem step_appU {ops : Array Oper} {o : Oper} {a : Act} {K : Act → World → Prop} {Q : Exit → Act → World → Prop} {E : Prop} (hgd : o.guard = none) (s x : Operand) (t : TypeId)
    (ho : o.op = .call { callee := .builtin .append, args := #[s, x], argTypes := #[t, t] })
    (base : Nat) (e : TypeId) (i : TypeInfo) (ht : P.underlying t = some (.slice e)) (hi : P.info? e = some i) (hz : i.zero = some (.int .u64 0))
    (hsize : i.size = 1) (hby : i.bytes = 8) (v : Value) (n : Nat) (xs : List Value) (hs : a.eval s = v) (hown : w.ownsRow base e 1 v n xs)
    (ad : Option Addr) (m c : Nat) (l : List Nat) (hx : a.eval x = .slice ad m c) (hB : Uw w ad l) (hm : m = l.length) (hnil : ad = none → c = 0)
    (hfit : n + m ≤ 1000000) (hbase : base ≤ w.heap.size)
    (h : ∀ a' cap' w', AppU w w' base e v n m xs l a' cap' → K (a.put o.dst (.slice a' (n + m) cap')) w') :
    if Region.wanted o (yielded ops a.tmps) = true then Oper.wp P o a w K Q else E := by
  have hw : Region.wanted o (yielded ops a.tmps) = true := by simp [Region.wanted, hgd]
  rw [if_pos hw]
  obtain ⟨a', cap', w', hr, h2⟩ := run_appU (P := P) base t o.type e i ht hi hz hsize hby v n xs hown ad m c l hB hm hnil hfit hbase
  unfold Oper.wp execOp
  simp only [ho, resolve, invoke, builtin, Sem.run_bind, Sem.run_pure, Result.andThen_ok, List.map_toArray, List.map_cons, List.map_nil, hs, hx, hr]
  exact h a' cap' w' h2
end
theorem frm_appU {S : List Nat} {w w1 w2 : World} {base : Nat} {e : TypeId} {a : Option Addr} {n n' cap m : Nat} {xs : List Value} {l : List Nat} {a' : Option Addr} {cap' : Nat} (hf : Frm S w w1) (h : AppU w1 w2 base e (.slice a n' cap) n m xs l a' cap') (ha : ∀ x, a = some x → x.block ∈ S ∨ w.heap.size ≤ x.block) : Frm S w w2 :=
  hf.grown h.grown (fun k hk => by
    cases a with
    | none => simp [Value.ownBlock] at hk
    | some x => simp only [Value.ownBlock, Option.some.injEq] at hk; subst hk; exact ha x rfl)
/-- A slice of numbers. -/
def UIn (w : World) (a : Option Addr) (cap : Nat) (l : List Nat) : Prop := Uw w a l ∧ (a = none → cap = 0) ∧ l.length ≤ cap ∧ cap ≤ 9223372036854775807
theorem UIn.keep {w w' : World} {a : Option Addr} {cap : Nat} {l : List Nat} (h : UIn w a cap l) (hf : Frm [] w w') : UIn w' a cap l := ⟨h.1.keep hf, h.2⟩
/-- A call hands back rising numbers: those of S, so many at most. -/
def GotU (w : World) (S : Nat → Prop) (m : Nat) (e : Ending) (w' : World) : Prop :=
  ∃ (a' : Option Addr) (k cap' : Nat) (l' : List Nat), e = .returned (.slice a' k cap') ∧ Hid (k = l'.length) ∧ Hid (UIn w' a' cap' l') ∧ Hid (Up l' ∧ (∀ x, x ∈ l' ↔ S x)) ∧ l'.length ≤ m ∧ Hid (Frm [] w w')
end Go.Proofs.Ytghadpihmhaepaa
/- Contract of the document's put: the walk. -/
namespace Go.Proofs.Ytghadpihmhaepaa
open Go.RowKit

theorem one_u {W : World} {n : Nat} (hn : n < 18446744073709551616) : Uw (W.alloc (.cells #[.int .u64 (n : Nat)] 23)) (some ⟨W.heap.size, 0, none⟩) [n] := by
  have hw := Whole.made W 23 #[.int .u64 (n : Nat)]
  refine ⟨by simp; exact hn, fun _ => ⟨W.heap.size, 0, rfl, fun i hi => ?_⟩⟩
  simp at hi
  subst hi
  exact hw.cell 0

theorem own_drew {w : World} {base : Nat} {e : TypeId} {size n : Nat} {v : Value} {xs : List Value} (h : w.ownsRow base e size v n xs) : w.drew.ownsRow base e size v n xs := h
theorem uw_whole {w : World} {g n : Nat} (h : Whole w g 23 #[.int .u64 (n : Nat)]) (hn : n < 18446744073709551616) : Uw w (some ⟨g, 0, none⟩) [n] := by
  refine ⟨by simp; exact hn, fun _ => ⟨g, 0, rfl, fun i hi => ?_⟩⟩
  simp at hi
  subst hi
  exact h.cell 0
theorem grown_whole {w w' : World} {g : Nat} {t : TypeId} {cs : Array Value} {row : Option Nat} (h : w.grownBy w' row) (hw : Whole w g t cs) (hne : row ≠ some g) : Whole w' g t cs := by
  unfold Whole
  rw [h.block g hw.lt (fun e => hne e.symm)]
  exact hw
theorem own_lit2 {w : World} (o : Obj) : ((w.alloc o).alloc (.cells #[] 23)).ownsRow w.heap.size 23 1 (.slice (some ⟨w.heap.size + 1, 0, none⟩) 0 0) 0 [] := by
  have h := World.ownsRow_lit (base := w.heap.size) (e := 23) (size := 1) (w.alloc o) #[] 0 (by simp) (by unfold maxLen; omega) rfl
  have e : (w.alloc o).heap.size = w.heap.size + 1 := by simp
  rw [e] at h
  exact h

def AtRel (l : List Nat) (n m : Nat) (i : Value) : Prop := ∃ k : Nat, k ≤ m ∧ i = .int .i64 k ∧ Hid (∀ t, t < k → l.getD t 0 < n)

set_option maxRecDepth 100000 in
set_option maxHeartbeats 4000000 in
theorem putU_any {w : World} {a : Option Addr} {cap m : Nat} {l : List Nat} (h : UIn w a cap l) (hu : Up l) (hm : m = l.length) (hsz : m ≤ 10000) {n : Nat} (hn : n < 18446744073709551616) :
    Calls Try.prog 90 #[.slice a m cap, .int .u64 n] w (GotU w (fun x => x ∈ l ∨ x = n) (m + 1)) := by
  have hmc : m ≤ cap := by rw [hm]; exact h.2.2.1
  have hcm := h.2.2.2
  have H := Lib.hid h; clear h
  have HU := Lib.hid hu; clear hu
  have HM := Lib.hid hm; clear hm
  go_enter Try.func90, Try.ntmps90
  go_wp2
  go_loop [5] (fun i => AtRel l n m i) (fun i => m - (intOf i).toNat)
  case atStart => exact ⟨0, Nat.zero_le _, rfl, fun t ht => absurd ht (Nat.not_lt_zero _)⟩
  case round =>
    obtain ⟨k, hk, rfl, HI⟩ := hrel
    by_cases hlt : k < m
    · obtain ⟨b, off, rfl, hc⟩ := H.out.1.2 (by have := HM.out; omega)
      have d0 := hc k (by have := HM.out; omega)
      clear hc
      have hyb := u_bd H.out.1.1 k
      obtain ⟨y, hy⟩ : ∃ y, y = l.getD k 0 := ⟨_, rfl⟩
      rw [← hy] at d0 hyb
      have HY := Lib.hid hy; clear hy
      have hlt' : (k : Int) < (m : Int) := by omega
      by_cases hyn : y < n
      · have HI2 : Hid (∀ t, t < k + 1 → l.getD t 0 < n) := by
          intro t ht
          rcases Nat.lt_or_eq_of_le (Nat.le_of_lt_succ ht) with h1 | rfl
          · exact HI.out t h1
          · rw [← HY.out]; exact hyn
        have hyn' : (y : Int) < (n : Int) := by omega
        clear hyn
        go_wp2
        go_round
        case rel => exact ⟨k + 1, by omega, by go_num, HI2⟩
        case measure => simp [intOf]; omega
      · by_cases hye : y = n
        · subst hye
          have FIN : Hid (GotU w (fun x => x ∈ l ∨ x = y) (m + 1) (.returned (.slice (some ⟨b, off, none⟩) m cap)) w) :=
            ⟨_, m, cap, l, rfl, HM.out, H.out, ⟨HU.out, fun x => ⟨.inl, fun h => h.elim id (fun h => by rw [h, HY.out]; exact mem_getD (by have := HM.out; omega))⟩⟩, by have := HM.out; omega, (Frm.refl _ _ : Frm [] w w)⟩
          have hlt2 : ¬ (y : Int) < (y : Int) := by omega
          have heq : ((y : Int) == (y : Int)) = true := by simp
          go_wp2
          go_ret
          exact FIN.out
        · have hlt2 : ¬ (y : Int) < (n : Int) := by omega
          have heq : ((y : Int) == (n : Int)) = false := by simp; omega
          have PUT := Lib.hid (up_put HU.out (n := n) (k := k) (by have := HM.out; omega) HI.out (fun _ => by rw [← HY.out]; omega))
          have cA := fun w => run_cutU_h w (some ⟨b, off, none⟩) m cap k (k : Int) rfl (by omega)
          have cB := fun w => run_cutU_l w (some ⟨b, off, none⟩) m cap k (k : Int) rfl (by omega)
          obtain ⟨aA, haA⟩ : ∃ aA, aA = cutU (some ⟨b, off, none⟩) cap 0 := ⟨_, rfl⟩
          obtain ⟨aB, haB⟩ : ∃ aB, aB = cutU (some ⟨b, off, none⟩) cap k := ⟨_, rfl⟩
          obtain ⟨nB, hnB⟩ : ∃ nB, nB = m - k := ⟨_, rfl⟩
          obtain ⟨cB', hcB'⟩ : ∃ cB', cB' = cap - k := ⟨_, rfl⟩
          rw [← haA] at cA
          rw [← haB, ← hnB, ← hcB'] at cB
          have HAA := Lib.hid haA; clear haA
          have HAB := Lib.hid haB; clear haB
          have HNB := Lib.hid hnB; clear hnB
          have HCB := Lib.hid hcB'; clear hcB'
          clear hye hyn
          go_wp2
          have F0 : Frm [] w w := Frm.refl _ _
          obtain ⟨i0, hi0, hz0, hz1, hz2⟩ := info_parts Try.info23
          have HI0 := Lib.hid hi0; clear hi0
          have HZ0 := Lib.hid hz0; clear hz0
          have HZ1 := Lib.hid hz1; clear hz1
          have HZ2 := Lib.hid hz2; clear hz2
          have O1 : Hid ((w.alloc (.cells #[] 23)).drew.ownsRow w.heap.size 23 1 (.slice (some ⟨w.heap.size, 0, none⟩) 0 0) 0 []) := own_drew (World.ownsRow_lit w #[] 0 (Nat.le_refl _) (by unfold maxLen; omega) rfl)
          have O2 : Hid (((w.alloc (.cells #[] 23)).alloc (.cells #[.int .u64 (n : Nat)] 23)).drew.ownsRow w.heap.size 23 1 (.slice (some ⟨w.heap.size, 0, none⟩) 0 0) 0 []) := own_drew ((World.ownsRow_lit w #[] 0 (Nat.le_refl _) (by unfold maxLen; omega) rfl).alloc _)
          have O3 : Hid (((w.alloc (.cells #[.int .u64 (n : Nat)] 23)).alloc (.cells #[] 23)).drew.ownsRow w.heap.size 23 1 (.slice (some ⟨w.heap.size + 1, 0, none⟩) 0 0) 0 []) := own_drew (own_lit2 _)
          have N2 : Hid (Whole ((w.alloc (.cells #[] 23)).alloc (.cells #[.int .u64 (n : Nat)] 23)).drew (w.heap.size + 1) 23 #[.int .u64 (n : Nat)]) := (Whole.made2 (w := w) (.cells #[] 23) 23 #[.int .u64 (n : Nat)] rfl).drew
          have N3 : Hid (Whole ((w.alloc (.cells #[.int .u64 (n : Nat)] 23)).alloc (.cells #[] 23)).drew w.heap.size 23 #[.int .u64 (n : Nat)]) := ((Whole.made w _ _).alloc _).drew
          have SA : Hid (∀ W, Frm [] w W → Uw W aA (l.take k)) := fun W hf => by
            have := ((H.out.1.keep hf).cut (cap := cap) (by have := HM.out; omega) 0).take k
            rw [List.drop_zero] at this
            rw [HAA.out]; exact this
          have SB : Hid (∀ W, Frm [] w W → Uw W aB (l.drop k)) := fun W hf => by
            rw [HAB.out]; exact (H.out.1.keep hf).cut (cap := cap) (by have := HM.out; omega) k
          have LA : Hid (k = (l.take k).length) := by show k = _; rw [List.length_take]; have := HM.out; omega
          have LB : Hid (nB = (l.drop k).length) := by show nB = _; rw [List.length_drop, HNB.out]; have := HM.out; omega
          have ZA : Hid (aA = none → cap = 0) := fun h => by rw [HAA.out] at h; have := cutU_none H.out.2.1 h; omega
          have ZB : Hid (aB = none → cB' = 0) := fun h => by rw [HAB.out] at h; have := cutU_none H.out.2.1 h; rw [HCB.out]; omega
          have ONE : Hid (∀ W : World, Uw (W.alloc (.cells #[.int .u64 (n : Nat)] 23)).drew (some ⟨W.heap.size, 0, none⟩) [n]) := fun W => one_u hn
          have hnB' : nB ≤ 10000 := by have := HNB.out; omega
          go_region_held3 (fun w' => Frm [] w w') (repeat (first | assumption | apply Frm.drew | apply Frm.alloc)) ((first
            | (refine step_appU rfl (.tmp 33) (.tmp 36) 103 rfl w.heap.size 23 i0 Try.underlying103 HI0.out HZ0.out HZ1.out HZ2.out _ 0 [] rfl O1.out _ _ _ (l.take k) rfl (SA.out _ (by assumption)) LA.out ZA.out (by omega) (by refine Frm.size (S := []) (w := w) ?_; assumption) ?_; intro a1 c1 w1 happ1; have hf1 : Frm [] w w1 := frm_appU (by assumption) happ1 (fun x hx => .inr (by cases hx; simp)); have ho1 : w1.ownsRow w.heap.size 23 1 (.slice a1 k c1) k ((l.take k).map uv) := (by have h := happ1.own; rw [Nat.zero_add, List.nil_append] at h; exact h))
            | (refine step_appU rfl (.tmp 33) (.tmp 36) 103 rfl w.heap.size 23 i0 Try.underlying103 HI0.out HZ0.out HZ1.out HZ2.out _ 0 [] rfl O2.out _ _ _ (l.take k) rfl (SA.out _ (by assumption)) LA.out ZA.out (by omega) (by refine Frm.size (S := []) (w := w) ?_; assumption) ?_; intro a1 c1 w1 happ1; have hf1 : Frm [] w w1 := frm_appU (by assumption) happ1 (fun x hx => .inr (by cases hx; simp)); have hn1 : Uw w1 (some ⟨w.heap.size + 1, 0, none⟩) [n] := uw_whole (grown_whole happ1.grown N2.out (show (some w.heap.size : Option Nat) ≠ some (w.heap.size + 1) by simp)) hn)
            | (refine step_appU rfl (.tmp 33) (.tmp 36) 103 rfl w.heap.size 23 i0 Try.underlying103 HI0.out HZ0.out HZ1.out HZ2.out _ 0 [] rfl O3.out _ _ _ (l.take k) rfl (SA.out _ (by assumption)) LA.out ZA.out (by omega) (by refine Frm.size (S := []) (w := w) ?_; assumption) ?_; intro a1 c1 w1 happ1; have hf1 : Frm [] w w1 := frm_appU (by assumption) happ1 (fun x hx => .inr (by cases hx; simp)); have hn1 : Uw w1 (some ⟨w.heap.size, 0, none⟩) [n] := uw_whole (grown_whole happ1.grown N3.out (show (some (w.heap.size + 1) : Option Nat) ≠ some w.heap.size by simp)) hn)
            | (refine step_appU rfl (.tmp 37) (.tmp 39) 103 rfl w.heap.size 23 i0 Try.underlying103 HI0.out HZ0.out HZ1.out HZ2.out _ _ _ rfl happ1.own _ _ _ [n] rfl hn1 rfl (by intro h; cases h) (by omega) (by refine Frm.size (S := []) (w := w) ?_; assumption) ?_; intro a2 c2 w2 happ2; have hf2 : Frm [] w w2 := frm_appU hf1 happ2 (fun x hx => .inr (World.ownsRow.lt happ1.own x.block (by rw [hx]; rfl)).1))
            | (refine step_appU rfl (.tmp 37) (.tmp 39) 103 rfl w.heap.size 23 i0 Try.underlying103 HI0.out HZ0.out HZ1.out HZ2.out _ _ _ rfl (own_drew (World.ownsRow.alloc ho1 _)) _ _ _ [n] rfl (ONE.out _) rfl (by intro h; cases h) (by omega) (by refine Frm.size (S := []) (w := w) ?_; assumption) ?_; intro a2 c2 w2 happ2; have hf2 : Frm [] w w2 := frm_appU (by assumption) happ2 (fun x hx => .inr (World.ownsRow.lt happ1.own x.block (by rw [hx]; rfl)).1))
            | (refine step_appU rfl (.tmp 40) (.tmp 43) 103 rfl w.heap.size 23 i0 Try.underlying103 HI0.out HZ0.out HZ1.out HZ2.out _ _ _ rfl happ2.own _ _ _ (l.drop k) rfl (SB.out _ (by assumption)) LB.out ZB.out (by omega) (by refine Frm.size (S := []) (w := w) ?_; assumption) ?_; intro a3 c3 w3 happ3; have hf3 : Frm [] w w3 := frm_appU hf2 happ3 (fun x hx => .inr (World.ownsRow.lt happ2.own x.block (by rw [hx]; rfl)).1))))
          all_goals
            have ho3 : OwnU w3 w.heap.size a3 c3 (l.take k ++ ([n] ++ l.drop k)) := by
              have h := happ3.own
              have e1 : (l.take k ++ ([n] ++ l.drop k)).length = k + 1 + nB := by
                rw [List.length_append, List.length_append, ← LA.out, ← LB.out]; simp; omega
              unfold OwnU
              rw [e1]
              simpa only [Nat.zero_add, List.nil_append, List.map_append, List.map_cons, List.map_nil, List.append_assoc] using h
            have FIN : Hid (GotU w (fun x => x ∈ l ∨ x = n) (m + 1) (.returned (.slice a3 (k + 1 + nB) c3)) w3) := by
              have hb : ∀ c ∈ l.take k ++ ([n] ++ l.drop k), c < 18446744073709551616 := fun c hc => by
                rcases (PUT.out.2 c).1 hc with h | h
                · exact H.out.1.1 c h
                · omega
              have e1 : k + 1 + nB = (l.take k ++ ([n] ++ l.drop k)).length := by
                rw [List.length_append, List.length_append, ← LA.out, ← LB.out]; simp; omega
              exact ⟨a3, _, c3, _, rfl, e1, ho3.uw hb, PUT.out, by rw [← e1]; have := HNB.out; omega, hf3⟩
            clear ho3 hf3 hf2 hf1 happ1 happ2 happ3 O1 O2 O3 N2 N3
            go_wp2
            go_ret
            exact FIN.out
    · obtain rfl : k = m := by omega
      have hlt2 : ¬ (k : Int) < (k : Int) := by omega
      have PUT := Lib.hid (up_put HU.out (n := n) (k := k) (by have := HM.out; omega) HI.out (fun h => by have := HM.out; omega))
      have cA := fun w => run_cutU_h w a k cap k (k : Int) rfl (by omega)
      have cB := fun w => run_cutU_l w a k cap k (k : Int) rfl (by omega)
      obtain ⟨aA, haA⟩ : ∃ aA, aA = cutU a cap 0 := ⟨_, rfl⟩
      obtain ⟨aB, haB⟩ : ∃ aB, aB = cutU a cap k := ⟨_, rfl⟩
      obtain ⟨nB, hnB⟩ : ∃ nB, nB = k - k := ⟨_, rfl⟩
      obtain ⟨cB', hcB'⟩ : ∃ cB', cB' = cap - k := ⟨_, rfl⟩
      rw [← haA] at cA
      rw [← haB, ← hnB, ← hcB'] at cB
      have HAA := Lib.hid haA; clear haA
      have HAB := Lib.hid haB; clear haB
      have HNB := Lib.hid hnB; clear hnB
      have HCB := Lib.hid hcB'; clear hcB'
      clear hlt hlt2
      go_wp2
      have F0 : Frm [] w w := Frm.refl _ _
      obtain ⟨i0, hi0, hz0, hz1, hz2⟩ := info_parts Try.info23
      have HI0 := Lib.hid hi0; clear hi0
      have HZ0 := Lib.hid hz0; clear hz0
      have HZ1 := Lib.hid hz1; clear hz1
      have HZ2 := Lib.hid hz2; clear hz2
      have O1 : Hid ((w.alloc (.cells #[] 23)).drew.ownsRow w.heap.size 23 1 (.slice (some ⟨w.heap.size, 0, none⟩) 0 0) 0 []) := own_drew (World.ownsRow_lit w #[] 0 (Nat.le_refl _) (by unfold maxLen; omega) rfl)
      have O2 : Hid (((w.alloc (.cells #[] 23)).alloc (.cells #[.int .u64 (n : Nat)] 23)).drew.ownsRow w.heap.size 23 1 (.slice (some ⟨w.heap.size, 0, none⟩) 0 0) 0 []) := own_drew ((World.ownsRow_lit w #[] 0 (Nat.le_refl _) (by unfold maxLen; omega) rfl).alloc _)
      have O3 : Hid (((w.alloc (.cells #[.int .u64 (n : Nat)] 23)).alloc (.cells #[] 23)).drew.ownsRow w.heap.size 23 1 (.slice (some ⟨w.heap.size + 1, 0, none⟩) 0 0) 0 []) := own_drew (own_lit2 _)
      have N2 : Hid (Whole ((w.alloc (.cells #[] 23)).alloc (.cells #[.int .u64 (n : Nat)] 23)).drew (w.heap.size + 1) 23 #[.int .u64 (n : Nat)]) := (Whole.made2 (w := w) (.cells #[] 23) 23 #[.int .u64 (n : Nat)] rfl).drew
      have N3 : Hid (Whole ((w.alloc (.cells #[.int .u64 (n : Nat)] 23)).alloc (.cells #[] 23)).drew w.heap.size 23 #[.int .u64 (n : Nat)]) := ((Whole.made w _ _).alloc _).drew
      have SA : Hid (∀ W, Frm [] w W → Uw W aA (l.take k)) := fun W hf => by
        have := ((H.out.1.keep hf).cut (cap := cap) (by have := HM.out; omega) 0).take k
        rw [List.drop_zero] at this
        rw [HAA.out]; exact this
      have SB : Hid (∀ W, Frm [] w W → Uw W aB (l.drop k)) := fun W hf => by
        rw [HAB.out]; exact (H.out.1.keep hf).cut (cap := cap) (by have := HM.out; omega) k
      have LA : Hid (k = (l.take k).length) := by show k = _; rw [List.length_take]; have := HM.out; omega
      have LB : Hid (nB = (l.drop k).length) := by show nB = _; rw [List.length_drop, HNB.out]; have := HM.out; omega
      have ZA : Hid (aA = none → cap = 0) := fun h => by rw [HAA.out] at h; have := cutU_none H.out.2.1 h; omega
      have ZB : Hid (aB = none → cB' = 0) := fun h => by rw [HAB.out] at h; have := cutU_none H.out.2.1 h; rw [HCB.out]; omega
      have ONE : Hid (∀ W : World, Uw (W.alloc (.cells #[.int .u64 (n : Nat)] 23)).drew (some ⟨W.heap.size, 0, none⟩) [n]) := fun W => one_u hn
      have hnB' : nB ≤ 10000 := by have := HNB.out; omega
      go_region_held3 (fun w' => Frm [] w w') (repeat (first | assumption | apply Frm.drew | apply Frm.alloc)) ((first
        | (refine step_appU rfl (.tmp 33) (.tmp 36) 103 rfl w.heap.size 23 i0 Try.underlying103 HI0.out HZ0.out HZ1.out HZ2.out _ 0 [] rfl O1.out _ _ _ (l.take k) rfl (SA.out _ (by assumption)) LA.out ZA.out (by omega) (by refine Frm.size (S := []) (w := w) ?_; assumption) ?_; intro a1 c1 w1 happ1; have hf1 : Frm [] w w1 := frm_appU (by assumption) happ1 (fun x hx => .inr (by cases hx; simp)); have ho1 : w1.ownsRow w.heap.size 23 1 (.slice a1 k c1) k ((l.take k).map uv) := (by have h := happ1.own; rw [Nat.zero_add, List.nil_append] at h; exact h))
        | (refine step_appU rfl (.tmp 33) (.tmp 36) 103 rfl w.heap.size 23 i0 Try.underlying103 HI0.out HZ0.out HZ1.out HZ2.out _ 0 [] rfl O2.out _ _ _ (l.take k) rfl (SA.out _ (by assumption)) LA.out ZA.out (by omega) (by refine Frm.size (S := []) (w := w) ?_; assumption) ?_; intro a1 c1 w1 happ1; have hf1 : Frm [] w w1 := frm_appU (by assumption) happ1 (fun x hx => .inr (by cases hx; simp)); have hn1 : Uw w1 (some ⟨w.heap.size + 1, 0, none⟩) [n] := uw_whole (grown_whole happ1.grown N2.out (show (some w.heap.size : Option Nat) ≠ some (w.heap.size + 1) by simp)) hn)
        | (refine step_appU rfl (.tmp 33) (.tmp 36) 103 rfl w.heap.size 23 i0 Try.underlying103 HI0.out HZ0.out HZ1.out HZ2.out _ 0 [] rfl O3.out _ _ _ (l.take k) rfl (SA.out _ (by assumption)) LA.out ZA.out (by omega) (by refine Frm.size (S := []) (w := w) ?_; assumption) ?_; intro a1 c1 w1 happ1; have hf1 : Frm [] w w1 := frm_appU (by assumption) happ1 (fun x hx => .inr (by cases hx; simp)); have hn1 : Uw w1 (some ⟨w.heap.size, 0, none⟩) [n] := uw_whole (grown_whole happ1.grown N3.out (show (some (w.heap.size + 1) : Option Nat) ≠ some w.heap.size by simp)) hn)
        | (refine step_appU rfl (.tmp 37) (.tmp 39) 103 rfl w.heap.size 23 i0 Try.underlying103 HI0.out HZ0.out HZ1.out HZ2.out _ _ _ rfl happ1.own _ _ _ [n] rfl hn1 rfl (by intro h; cases h) (by omega) (by refine Frm.size (S := []) (w := w) ?_; assumption) ?_; intro a2 c2 w2 happ2; have hf2 : Frm [] w w2 := frm_appU hf1 happ2 (fun x hx => .inr (World.ownsRow.lt happ1.own x.block (by rw [hx]; rfl)).1))
        | (refine step_appU rfl (.tmp 37) (.tmp 39) 103 rfl w.heap.size 23 i0 Try.underlying103 HI0.out HZ0.out HZ1.out HZ2.out _ _ _ rfl (own_drew (World.ownsRow.alloc ho1 _)) _ _ _ [n] rfl (ONE.out _) rfl (by intro h; cases h) (by omega) (by refine Frm.size (S := []) (w := w) ?_; assumption) ?_; intro a2 c2 w2 happ2; have hf2 : Frm [] w w2 := frm_appU (by assumption) happ2 (fun x hx => .inr (World.ownsRow.lt happ1.own x.block (by rw [hx]; rfl)).1))
        | (refine step_appU rfl (.tmp 40) (.tmp 43) 103 rfl w.heap.size 23 i0 Try.underlying103 HI0.out HZ0.out HZ1.out HZ2.out _ _ _ rfl happ2.own _ _ _ (l.drop k) rfl (SB.out _ (by assumption)) LB.out ZB.out (by omega) (by refine Frm.size (S := []) (w := w) ?_; assumption) ?_; intro a3 c3 w3 happ3; have hf3 : Frm [] w w3 := frm_appU hf2 happ3 (fun x hx => .inr (World.ownsRow.lt happ2.own x.block (by rw [hx]; rfl)).1))))
      all_goals
        have ho3 : OwnU w3 w.heap.size a3 c3 (l.take k ++ ([n] ++ l.drop k)) := by
          have h := happ3.own
          have e1 : (l.take k ++ ([n] ++ l.drop k)).length = k + 1 + nB := by
            rw [List.length_append, List.length_append, ← LA.out, ← LB.out]; simp; omega
          unfold OwnU
          rw [e1]
          simpa only [Nat.zero_add, List.nil_append, List.map_append, List.map_cons, List.map_nil, List.append_assoc] using h
        have FIN : Hid (GotU w (fun x => x ∈ l ∨ x = n) (k + 1) (.returned (.slice a3 (k + 1 + nB) c3)) w3) := by
          have hb : ∀ c ∈ l.take k ++ ([n] ++ l.drop k), c < 18446744073709551616 := fun c hc => by
            rcases (PUT.out.2 c).1 hc with h | h
            · exact H.out.1.1 c h
            · omega
          have e1 : k + 1 + nB = (l.take k ++ ([n] ++ l.drop k)).length := by
            rw [List.length_append, List.length_append, ← LA.out, ← LB.out]; simp; omega
          exact ⟨a3, _, c3, _, rfl, e1, ho3.uw hb, PUT.out, by rw [← e1]; have := HNB.out; omega, hf3⟩
        clear ho3 hf3 hf2 hf1 happ1 happ2 happ3 O1 O2 O3 N2 N3
        go_wp2
        go_ret
        exact FIN.out
end Go.Proofs.Ytghadpihmhaepaa
/- Contract of the document's ends. -/
namespace Go.Proofs.Ytghadpihmhaepaa
open Go.RowKit

def EndsTo (l : List Rg) (k x : Nat) : Prop := ∃ t, t < k ∧ (x = (l.getD t (0, 0)).1 ∨ x = (l.getD t (0, 0)).2)
def ERel (w : World) (l : List Rg) (n : Nat) (v i : Value) (wr : World) : Prop :=
  ∃ (k m cap : Nat) (a : Option Addr) (c : List Nat), k ≤ n ∧ i = .int .i64 k ∧ v = .slice a m cap ∧ Hid (m = c.length) ∧ Hid (UIn wr a cap c) ∧ Hid (Up c ∧ ∀ x, x ∈ c ↔ EndsTo l k x) ∧ m ≤ 2 * k ∧ Hid (Frm [] w wr)

set_option maxRecDepth 100000 in
set_option maxHeartbeats 4000000 in
theorem rends_any {w : World} {a : Option Addr} {l : List Rg} (h : Rr w a l) {n cap : Nat} (hn : n = l.length) (hsz : n ≤ 2000) :
    Calls Try.prog 66 #[.slice a n cap] w (GotU w (fun x => ∃ p ∈ l, x = p.1 ∨ x = p.2) (2 * n)) := by
  have HN := Lib.hid hn; clear hn
  have H := Lib.hid h; clear h
  go_enter Try.func66, Try.ntmps66
  go_wp2
  go_loopw [3, 4] (fun v i wr => ERel w l n v i wr) (fun _ i _ => n - (intOf i).toNat)
  case atStart => exact ⟨0, 0, 0, none, [], Nat.zero_le _, rfl, rfl, rfl, ⟨Uw.nil _ _, fun _ => rfl, by simp, by simp⟩, ⟨List.Pairwise.nil, fun x => ⟨fun h => by simp at h, fun ⟨t, ht, _⟩ => absurd ht (Nat.not_lt_zero _)⟩⟩, Nat.zero_le _, (Frm.refl _ _ : Frm [] w w)⟩
  case round =>
    obtain ⟨k, m, cp, ak, c, hk, rfl, rfl, HM, HU, HC, hm2, HF⟩ := hrel
    by_cases hlt : k < n
    · obtain ⟨b, off, rfl, hc⟩ := (H.out.keep0 HF.out).2 (by have := HN.out; omega)
      obtain ⟨d0, d1⟩ := hc k (by have := HN.out; omega)
      have bd := getD_bd H.out.1 k
      obtain ⟨x0, hx0⟩ : ∃ y, y = (l.getD k (0, 0)).1 := ⟨_, rfl⟩
      obtain ⟨y0, hy0⟩ : ∃ y, y = (l.getD k (0, 0)).2 := ⟨_, rfl⟩
      rw [← hx0] at d0 bd
      rw [← hy0] at d1 bd
      have HX := Lib.hid hx0; clear hx0
      have HY := Lib.hid hy0; clear hy0
      have l0 := block_lt_of_cell d0
      have l1 := block_lt_of_cell d1
      have hlt' : (k : Int) < (n : Int) := by omega
      clear hc
      have P1 := Lib.hid (fun (W : World) (hf : Frm [] wr W) => putU_any (HU.out.keep hf) HC.out.1 HM.out (by omega) bd.1)
      have P2 := Lib.hid (fun (W : World) (a1 : Option Addr) (c1 m1 : Nat) (l1 : List Nat) (hu : UIn W a1 c1 l1) (hup : Up l1) (hm : m1 = l1.length) (hs : l1.length ≤ m + 1) => putU_any hu hup hm (by omega) bd.2)
      clear bd
      go_wp2
      go_region_held3 (fun w' => w'.cell? ⟨b, off + k * 2, none⟩ = some (.int .u64 (x0 : Nat)) ∧ w'.cell? ⟨b, off + k * 2 + 1, none⟩ = some (.int .u64 (y0 : Nat))) (first | go_keep | (refine ⟨?_, ?_⟩ <;> first | (rw [hf2.out.cell (by simpa using Nat.lt_of_lt_of_le ‹_› hf1.out.size) (by simp), hf1.out.cell (by simpa using ‹_›) (by simp)]; assumption) | (rw [hf1.out.cell (by simpa using ‹_›) (by simp)]; assumption))) ((first
        | (go_at_call 90; ((with_reducible refine (P1.out _ (Frm.drew1 wr)).mono ?_)); rintro e w1 ⟨a1, m1, c1, l1, rfl, hm1, hu1, hs1, hle1, hf1⟩)
        | (go_at_call 90; ((with_reducible refine (P2.out _ a1 c1 m1 l1 hu1.out hs1.out.1 hm1.out hle1).mono ?_)); rintro e w2 ⟨a2, m2, c2, l2, rfl, hm2', hu2, hs2, hle2, hf2⟩)))
      have REL : Hid (ERel w l n (.slice a2 m2 c2) (.int .i64 ((k + 1 : Nat) : Int)) w2) := by
        refine ⟨k + 1, m2, c2, a2, l2, by omega, rfl, rfl, hm2', hu2, ⟨hs2.out.1, fun x => ?_⟩, ?_, HF.out.trans (((Frm.drew1 wr).trans hf1.out (U := []) (by simp) (by simp)).trans hf2.out (U := []) (by simp) (by simp)) (by simp) (by simp)⟩
        · rw [hs2.out.2 x, hs1.out.2 x, HC.out.2 x]
          constructor
          · rintro ((⟨t, ht, h⟩ | h) | h)
            · exact ⟨t, by omega, h⟩
            · exact ⟨k, by omega, .inl (by rw [h, HX.out])⟩
            · exact ⟨k, by omega, .inr (by rw [h, HY.out])⟩
          · rintro ⟨t, ht, h⟩
            rcases Nat.lt_or_eq_of_le (Nat.le_of_lt_succ ht) with h1 | rfl
            · exact .inl (.inl ⟨t, h1, h⟩)
            · rcases h with h | h
              · exact .inl (.inr (by rw [h, HX.out]))
              · exact .inr (by rw [h, HY.out])
        · have := hm2'.out; have := hm1.out; omega
      clear hm1 hu1 hs1 hle1 hf1 hm2' hu2 hs2 hle2 hf2 P1 P2 d0 d1
      go_wp2
      go_roundw
      case rel => exact REL.out
      case measure => simp [intOf]; omega
    · obtain rfl : k = n := by omega
      have FIN : Hid (GotU w (fun x => ∃ p ∈ l, x = p.1 ∨ x = p.2) (2 * k) (.returned (.slice ak m cp)) wr) := by
        refine ⟨ak, m, cp, c, rfl, HM, HU, ⟨HC.out.1, fun x => ?_⟩, by have := HM.out; omega, HF⟩
        rw [HC.out.2 x]
        constructor
        · rintro ⟨t, ht, h⟩
          have e : l.getD t (0, 0) = l[t]'(by have := HN.out; omega) := by have := HN.out; simp [show t < l.length by omega]
          rw [e] at h
          exact ⟨_, List.getElem_mem _, h⟩
        · rintro ⟨p, hp, h⟩
          obtain ⟨t, ht, rfl⟩ := List.getElem_of_mem hp
          exact ⟨t, by have := HN.out; omega, by simpa [ht] using h⟩
      go_wp2
      go_ret
      exact FIN.out
end Go.Proofs.Ytghadpihmhaepaa
