/- The walk of LedgersGrow. -/
import Derived.Test.YtimmoencmmpkdaaLdwBetween
import Derived.Test.YtimmoencmmpkdaaLdMath3
import Derived.Test.YtimmoencmmpkdaaBytes
import Derived.Deep.DeepCutAuto
namespace Go.Proofs.Ytimmoencmmpkdaa
open Go.RowKit
set_option maxRecDepth 100000

/-- What stands while ledgers grow: the row, its last number, how many entries. -/
structure Gw (w wr : World) (k : Nat) (a : Option Addr) (cap : Nat) (X : List Ld) : Prop where
  own : LdOwn wr w.heap.size 32 [] a cap X
  g : Grown X k (k * 256)
  tot : tot X 0 ≤ k * 4
  frm : Frm [] w wr
set_option maxHeartbeats 16000000 in
theorem ledgersGrow_walk (ac : Option Addr) (n capc : Nat) (cs : List Nat) (ai : Option Addr) (m capi : Nat) (is : List Nat) (w : World) (hn : n = cs.length) (hb : Bytes w ac cs) (_hc1 : n ≤ capc) (_hc2 : ac = none → capc = 0) (hm : m = is.length) (hi : Bytes w ai is) (_hc3 : m ≤ capi) (_hc4 : ai = none → capi = 0) :
    Calls Try.prog 8 #[.slice ac n capc, .slice ai m capi] w (LTrue w) := by
  have AW := Lib.hid (fun z => awake13_any z)
  have hn63 : n ≤ 9223372036854775807 := by rw [hn]; exact hb.2.1
  have hm63 : m ≤ 9223372036854775807 := by rw [hm]; exact hi.2.1
  have HN := Lib.hid hn; clear hn
  have HM := Lib.hid hm; clear hm
  have HB := Lib.hid hb; clear hb
  have HI := Lib.hid hi; clear hi
  unfold LRet at AW
  go_enter Try.func8, Try.ntmps8
  go_wp2_with fail
  (with_reducible refine (AW.out _).mono ?_)
  rintro e w1 ⟨rfl, hf1⟩
  have F1 := Lib.hid hf1; clear hf1
  go_wp2
  go_loopw [5, 6, 7, 30] (fun s5 s6 s7 s30 wr => ∃ (k : Nat) (a : Option Addr) (cap : Nat) (X : List Ld), k ≤ n ∧ k ≤ 21 ∧ s30 = .int .i64 (k : Nat) ∧ s5 = .slice a k cap ∧ s6 = .int .u64 ((lastL X).id : Nat) ∧ s7 = .int .u64 (tot X 0 : Nat) ∧ Hid (Gw w wr k a cap X)) (fun _ _ _ s30 _ => n - (intOf s30).toNat)
  case atStart => exact ⟨0, none, 0, [], Nat.zero_le _, by omega, rfl, rfl, rfl, rfl, Lib.hid ⟨LdOwn.nil _ _ _ _, Grown.nil _, Nat.le_refl _, F1.out⟩⟩
  case round =>
    obtain ⟨k, a, cap, X, hk, hk21, rfl, rfl, rfl, rfl, HG⟩ := hrel
    by_cases hlt : k < n
    · have hlt' : (k : Int) < (n : Int) := by omega
      obtain ⟨b, off, rfl, p0, hc8⟩ : ∃ b off, ac = some ⟨b, off, none⟩ ∧ wr.cell? ⟨b, off + k, none⟩ = some (.int .u8 (cs.getD k 0 : Nat)) ∧ cs.getD k 0 < 256 := by
        rcases (HG.out.frm.bytes HB.out (by simp)).2.2 with h0 | ⟨b, off, h1, h2⟩
        · have := HN.out; rw [h0] at this; simp at this; omega
        · exact ⟨b, off, h1, h2 k (by have := HN.out; omega), getD_lt HB.out.1 k⟩
      generalize cs.getD k 0 = c at p0 hc8
      by_cases h20 : 20 < k
      · have d20 : decide (20 < k) = true := decide_eq_true h20
        have d20' : (20 : Int) < (k : Int) := by omega
        clear h20
        have H := HG.out.own.sl
        have HFW : Hid (Frm [] w wr) := Lib.hid HG.out.frm
        have hlen := HG.out.g.len
        have hcap := HG.out.own.caps
        have hrt := HG.out.g.right
        have hids : ∀ x ∈ X, 0 < x.id ∧ x.id < 18446744073709551615 := fun x hx => by
          have h1 := hrt.id_le hx
          have h2 := HG.out.g.low
          omega
        have htot := btw_all (o := 0) hids
        have htl := HG.out.tot
        obtain ⟨tt, htt⟩ : ∃ tt, tt = tot X 0 := ⟨_, rfl⟩
        have BT : Hid (∀ z, Frm [] wr z → Calls Try.prog 23 #[.slice a k cap, .int .u64 0, .agg #[.int .u64 0, .int .u64 0], .agg #[.int .u64 18446744073709551615, .int .u64 0]] z fun e w' => e = .returned (.int .u64 (tt : Nat)) ∧ Frm [] z w') := Lib.hid (fun z hz => by
          have h3 := ldbetween_any a k cap X 0 ⟨0, 0⟩ ⟨18446744073709551615, 0⟩ z (H.sub hz) hlen.symm (by omega) (by omega)
          rw [htot, ← htt] at h3
          exact h3)
        have N0 : Hid (∀ z, Frm [] wr z → Calls Try.prog 17 #[.slice a k cap, .int .u64 0, .agg #[.int .u64 0, .int .u64 0]] z fun e w' => e = .returned (nextR X 0 ⟨0, 0⟩) ∧ Frm [] z w') := Lib.hid (fun z hz => ldnext_any a k cap X 0 ⟨0, 0⟩ z (H.sub hz) hlen.symm (by omega))
        have NQ : Hid (∀ q : Ps, ∀ z, Frm [] wr z → Calls Try.prog 17 #[.slice a k cap, .int .u64 0, q.val] z fun e w' => e = .returned (nextR X 0 q) ∧ Frm [] z w') := Lib.hid (fun q z hz => ldnext_any a k cap X 0 q z (H.sub hz) hlen.symm (by omega))
        have TQ : Hid (∀ q : Ps, ∀ z, Frm [] wr z → Calls Try.prog 27 #[.slice a k cap, q.val] z (RetLd z (trimL X q))) := Lib.hid (fun q z hz => ldtrim_any a k cap X q z (H.sub hz) hlen.symm (by rw [← hlen]; exact hcap.1) (by omega))
        have MQ : Hid (∀ q : Ps, ∀ a6 c6 z, LdL z [] a6 (trimL X q) → Calls Try.prog 17 #[.slice a6 (trimL X q).length c6, .int .u64 0, q.val] z fun e w' => e = .returned (nextR (trimL X q) 0 q) ∧ Frm [] z w') := Lib.hid (fun q a6 c6 z hz => ldnext_any a6 _ c6 (trimL X q) 0 q z hz rfl (by
          have : (trimL X q).length ≤ X.length := by rw [trimL_eq, List.length_drop]; omega
          omega))
        have SAME : Hid (∀ q : Ps, (nextV (trimL X q) 0 q).2 = (nextV X 0 q).2 ∧ ((nextV X 0 q).2 = true → (nextV (trimL X q) 0 q).1 = (nextV X 0 q).1)) := Lib.hid (fun q => by
          unfold nextV
          rw [nextP_trim]
          cases nextP X 0 q <;> simp)
        have ZERO : Hid (nextP X 0 ⟨0, 0⟩ = none → tt = 0) := Lib.hid (fun h => by rw [htt, ← htot]; exact btw_none h)
        have FITS : Hid (∀ q : Ps, nextP X 0 ⟨0, 0⟩ = some q → q.fits) := Lib.hid (fun q hq => by
          obtain ⟨j, j1, j2, j3, rfl⟩ := nextP_some hq
          have h4 := ld_fits_at HG.out.g.fits j
          have h5 := Ld.size_lt (o := 0) h4 (by omega)
          exact ⟨h4.1, by show (X.getD j default).ahead 0 ⟨0, 0⟩ < 18446744073709551616; omega⟩)
        have BH := Lib.hid (fun q (hq : Ps.fits q) z => ldbehind_any q hq z)
        rw [← htt]
        have hneq : ((tt : Int) != (tt : Int)) = false := by simp
        clear H hcap hrt hids htot htl htt hlen
        obtain ⟨w1a, hw1a⟩ : ∃ w1a, w1a = wr.alloc (.cells #[.int .u64 18446744073709551615, .int .u64 0] 36) := ⟨_, rfl⟩
        obtain ⟨ge, hge⟩ : ∃ ge, ge = wr.heap.size := ⟨_, rfl⟩
        have F1a : Hid (Frm [] wr w1a) := Lib.hid (by rw [hw1a]; exact (Frm.refl _ _).alloc _)
        have B1a : Whole w1a ge 36 #[.int .u64 18446744073709551615, .int .u64 0] := by rw [hw1a, hge]; exact Whole.made _ _ _
        have e0 := B1a.cell 0
        have e1 := B1a.cell 1
        simp only [List.getElem?_toArray, List.getElem?_cons_zero, List.getElem?_cons_succ] at e0 e1
        have HW1a := Lib.hid hw1a; clear hw1a
        have HGE := Lib.hid hge; clear hge B1a
        go_upto_region 23 with (fail)
        rw [← HW1a.out, ← HGE.out]
        go_wp2_with fail
        (with_reducible refine (BT.out _ F1a.out).mono ?_)
        rintro e w2 ⟨rfl, hf2⟩
        have F2 : Hid (Frm [] wr w2) := Lib.hid (F1a.out.trans hf2 (by simp) (by simp))
        clear hf2 e0 e1
        cases hnx : nextP X 0 ⟨0, 0⟩ with
        | none =>
          have Z := Lib.hid (ZERO.out hnx)
          have N0' : Hid (∀ z, Frm [] wr z → Calls Try.prog 17 #[.slice a k cap, .int .u64 0, .agg #[.int .u64 0, .int .u64 0]] z fun e w' => e = .returned (.tuple #[(endP X 0).val, .bool false]) ∧ Frm [] z w') := Lib.hid (by rw [← nextR_none hnx]; exact N0.out)
          clear hnx N0
          generalize endP X 0 = E at N0'
          obtain ⟨El, Ee⟩ := E
          unfold Ps.val at N0'
          simp only at N0'
          have hz0 : ((tt : Int) == 0) = true := by rw [Z.out]; rfl
          go_wp2_with fail
          (with_reducible refine (N0'.out _ F2.out).mono ?_)
          rintro e w3 ⟨rfl, hf3⟩
          have FF : Hid (Frm [] w (w3.alloc (.cells #[.int .u64 (El : Nat), .int .u64 (Ee : Nat)] 36))) := Lib.hid ((HFW.out.trans (F2.out.trans hf3 (U := []) (by simp) (by simp)) (by simp) (by simp)).alloc _)
          clear hf3
          go_wp2
          go_ret
          exact lTrue FF.out
        | some p =>
          have N0' : Hid (∀ z, Frm [] wr z → Calls Try.prog 17 #[.slice a k cap, .int .u64 0, .agg #[.int .u64 0, .int .u64 0]] z fun e w' => e = .returned (.tuple #[p.val, .bool true]) ∧ Frm [] z w') := Lib.hid (by rw [← nextR_some hnx]; exact N0.out)
          have BP := Lib.hid (BH.out p (FITS.out p hnx))
          clear hnx N0 BH FITS ZERO
          have NB := Lib.hid (NQ.out (behindP p))
          have TB := Lib.hid (TQ.out (behindP p))
          have MB := Lib.hid (MQ.out (behindP p))
          obtain ⟨sm1, sm2⟩ := SAME.out (behindP p)
          unfold nextR at NB MB
          generalize nextV X 0 (behindP p) = v1 at NB sm1 sm2
          generalize nextV (trimL X (behindP p)) 0 (behindP p) = v2 at MB sm1 sm2
          generalize hTX : trimL X (behindP p) = TX at TB MB
          clear hTX NQ TQ MQ SAME
          generalize behindP p = bq at BP NB TB MB
          obtain ⟨pl, pe⟩ := p
          obtain ⟨bl, be⟩ := bq
          obtain ⟨⟨rl, re⟩, rb⟩ := v1
          obtain ⟨⟨ql, qe⟩, qb⟩ := v2
          unfold LRet Ps.val at BP
          unfold Ps.val at N0' NB TB MB
          simp only at N0' BP NB TB MB sm1 sm2
          subst sm1
          go_wp2_with fail
          (with_reducible refine (N0'.out _ F2.out).mono ?_)
          rintro e w3 ⟨rfl, hf3⟩
          have F3 : Hid (Frm [] wr w3) := Lib.hid (F2.out.trans hf3 (by simp) (by simp))
          clear hf3
          obtain ⟨w4, hw4⟩ : ∃ w4, w4 = w3.alloc (.cells #[.int .u64 (pl : Nat), .int .u64 (pe : Nat)] 36) := ⟨_, rfl⟩
          obtain ⟨gp, hgp⟩ : ∃ gp, gp = w3.heap.size := ⟨_, rfl⟩
          have F4 : Hid (Frm [] wr w4) := Lib.hid (by rw [hw4]; exact F3.out.alloc _)
          have B4 : Hid (Whole w4 gp 36 #[.int .u64 (pl : Nat), .int .u64 (pe : Nat)]) := Lib.hid (by rw [hw4, hgp]; exact Whole.made _ _ _)
          have p0 := B4.out.cell 0
          have p1 := B4.out.cell 1
          simp only [List.getElem?_toArray, List.getElem?_cons_zero, List.getElem?_cons_succ] at p0 p1
          have HW4 := Lib.hid hw4; clear hw4
          have HGP := Lib.hid hgp; clear hgp
          go_upto_region 28 with (fail)
          rw [← HW4.out, ← HGP.out]
          go_wp2_with fail
          (with_reducible refine (BP.out _).mono ?_)
          rintro e w5 ⟨rfl, hf5⟩
          have F5 : Hid (Frm [] w4 w5) := Lib.hid hf5
          clear hf5 p0 p1
          go_wp2_with fail
          (with_reducible refine (NB.out _ (F4.out.trans F5.out (by simp) (by simp))).mono ?_)
          rintro e w6 ⟨rfl, hf6⟩
          obtain ⟨w7, hw7⟩ : ∃ w7, w7 = w6.alloc (.cells #[.int .u64 (rl : Nat), .int .u64 (re : Nat)] 36) := ⟨_, rfl⟩
          obtain ⟨gr, hgr⟩ : ∃ gr, gr = w6.heap.size := ⟨_, rfl⟩
          have F7 : Hid (Frm [] w4 w7) := Lib.hid (by rw [hw7]; exact (F5.out.trans hf6 (U := []) (by simp) (by simp)).alloc _)
          have B7 : Hid (Whole w7 gr 36 #[.int .u64 (rl : Nat), .int .u64 (re : Nat)]) := Lib.hid (by rw [hw7, hgr]; exact Whole.made _ _ _)
          clear hf6
          have HW7 := Lib.hid hw7; clear hw7
          have HGR := Lib.hid hgr; clear hgr
          have p0 := (F7.out.whole B4.out (by simp)).cell 0
          have p1 := (F7.out.whole B4.out (by simp)).cell 1
          simp only [List.getElem?_toArray, List.getElem?_cons_zero, List.getElem?_cons_succ] at p0 p1
          go_upto_region 29 with (fail)
          rw [← HW7.out, ← HGR.out]
          go_wp2_with fail
          (with_reducible refine (BP.out _).mono ?_)
          rintro e w8 ⟨rfl, hf8⟩
          have F8 : Hid (Frm [] w7 w8) := Lib.hid hf8
          clear hf8 p0 p1
          go_wp2_with fail
          (with_reducible refine (TB.out _ (F4.out.trans (F7.out.trans F8.out (U := []) (by simp) (by simp)) (by simp) (by simp))).mono ?_)
          rintro e w9 ⟨a6, c6, rfl, ho9, hf9⟩
          have F9 : Hid (Frm [] w7 w9) := Lib.hid (F8.out.trans hf9 (by simp) (by simp))
          have L9 : Hid (LdL w9 [] a6 TX) := Lib.hid ho9.sl
          clear ho9 hf9
          have p0 := ((F7.out.trans F9.out (U := []) (by simp) (by simp)).whole B4.out (by simp)).cell 0
          have p1 := ((F7.out.trans F9.out (U := []) (by simp) (by simp)).whole B4.out (by simp)).cell 1
          simp only [List.getElem?_toArray, List.getElem?_cons_zero, List.getElem?_cons_succ] at p0 p1
          generalize TX.length = kt at MB
          go_wp2_with fail
          (with_reducible refine (BP.out _).mono ?_)
          rintro e w10 ⟨rfl, hf10⟩
          have F10 : Hid (Frm [] w7 w10) := Lib.hid (F9.out.trans hf10 (by simp) (by simp))
          have L10 : Hid (LdL w10 [] a6 TX) := Lib.hid (L9.out.sub hf10)
          clear hf10 p0 p1
          go_wp2_with fail
          (with_reducible refine (MB.out _ _ _ L10.out).mono ?_)
          rintro e w11 ⟨rfl, hf11⟩
          obtain ⟨w12, hw12⟩ : ∃ w12, w12 = w11.alloc (.cells #[.int .u64 (ql : Nat), .int .u64 (qe : Nat)] 36) := ⟨_, rfl⟩
          obtain ⟨gq, hgq⟩ : ∃ gq, gq = w11.heap.size := ⟨_, rfl⟩
          have F12 : Hid (Frm [] w7 w12) := Lib.hid (by rw [hw12]; exact (F10.out.trans hf11 (U := []) (by simp) (by simp)).alloc _)
          have B12 : Hid (Whole w12 gq 36 #[.int .u64 (ql : Nat), .int .u64 (qe : Nat)]) := Lib.hid (by rw [hw12, hgq]; exact Whole.made _ _ _)
          clear hf11
          have HW12 := Lib.hid hw12; clear hw12
          have HGQ := Lib.hid hgq; clear hgq
          have r0 := (F12.out.whole B7.out (by simp)).cell 0
          have r1 := (F12.out.whole B7.out (by simp)).cell 1
          have q0 := B12.out.cell 0
          have q1 := B12.out.cell 1
          simp only [List.getElem?_toArray, List.getElem?_cons_zero, List.getElem?_cons_succ] at r0 r1 q0 q1
          have FF : Hid (Frm [] w w12) := Lib.hid ((HFW.out.trans F4.out (U := []) (by simp) (by simp)).trans (F7.out.trans F12.out (U := []) (by simp) (by simp)) (by simp) (by simp))
          go_upto_region 31 with (fail)
          rw [← HW12.out, ← HGQ.out]
          cases qb
          · go_wp2
            go_ret
            exact lTrue FF.out
          · have ee : ∀ w : World, (binOp .eql 36 (.agg #[.int .u64 (rl : Nat), .int .u64 (re : Nat)]) (.agg #[.int .u64 (ql : Nat), .int .u64 (qe : Nat)])).run Try.prog w = .ok (.bool true) w := fun w => by
              have h1 := eql_ps rl re ql qe w
              rwa [decide_eq_true (sm2 rfl).symm] at h1
            go_wp2
            go_ret
            exact lTrue FF.out
      have d20 : decide (20 < k) = false := decide_eq_false h20
      have d20' : ¬ (20 : Int) < (k : Int) := by omega
      -- the number of the new one
      obtain ⟨id, hid⟩ : ∃ id, id = (lastL X).id := ⟨_, rfl⟩
      have hidl : id ≤ k * 256 := by rw [hid]; exact HG.out.g.low
      obtain ⟨tt, htt⟩ : ∃ tt, tt = tot X 0 := ⟨_, rfl⟩
      have httl : tt ≤ k * 4 := by rw [htt]; exact HG.out.tot
      rw [← hid, ← htt]
      obtain ⟨id1, hid1⟩ : ∃ id1, id1 = id + 1 := ⟨_, rfl⟩
      have hw1 : IntKind.u64.wrap ((id : Int) + 1) = (id1 : Int) := by simp [IntKind.wrap, IntKind.bits, IntKind.signed]; omega
      have hw1' : (id : Int) + 1 = (id1 : Int) := by omega
      have hw1'' : IntKind.u64.wrap (id1 : Int) = (id1 : Int) := by simp [IntKind.wrap, IntKind.bits, IntKind.signed]; omega
      -- how many entries
      obtain ⟨c5, hc5⟩ : ∃ c5, c5 = c % 5 := ⟨_, rfl⟩
      have hm1 : (c : Int) % 5 = (c5 : Int) := by omega
      have hm2 : (c : Int).tmod 5 = (c5 : Int) := by rw [hc5]; rfl
      have hm3 : IntKind.u8.wrap (c5 : Int) = (c5 : Int) := by simp [IntKind.wrap, IntKind.bits, IntKind.signed]; omega
      have hm4 : IntKind.u64.wrap (c5 : Int) = (c5 : Int) := by simp [IntKind.wrap, IntKind.bits, IntKind.signed]; omega
      have hc54 : c5 ≤ 4 := by omega
      obtain ⟨t2, ht2⟩ : ∃ t2, t2 = tt + c5 := ⟨_, rfl⟩
      have hs1 : IntKind.u64.wrap ((tt : Int) + (c5 : Int)) = (t2 : Int) := by simp [IntKind.wrap, IntKind.bits, IntKind.signed]; omega
      have hs2 : (tt : Int) + (c5 : Int) = (t2 : Int) := by omega
      have hs3 : IntKind.u64.wrap (t2 : Int) = (t2 : Int) := by simp [IntKind.wrap, IntKind.bits, IntKind.signed]; omega
      -- what one round does, whatever the number is
      have ROUND : Hid (∀ id2, id < id2 → id2 ≤ (k + 1) * 256 → (∀ z, Frm [] wr z → Calls Try.prog 13 #[.slice a k cap, .int .u64 (id2 : Nat)] z (LdDone z (k + 1) (X ++ [⟨id2, false, 0⟩])) ∧
          (∀ a2 c2 z1, LdOwn z1 w.heap.size 32 [] a2 c2 (X ++ [⟨id2, false, 0⟩]) → ∀ z2, Frm [] z1 z2 →
            Calls Try.prog 14 #[.slice a2 (k + 1 : Nat) c2, .int .u64 (c5 : Nat)] z2 (LdDone z2 (k + 1) (X ++ [⟨id2, true, c5⟩])) ∧
            Calls Try.prog 13 #[.slice a2 (k + 1 : Nat) c2, .int .u64 ((id2 + 1 : Nat) : Int)] z2 (fun e w' => e = .returned (.tuple #[.slice none 0 0, .int .i64 23]) ∧ Frm [] z2 w') ∧
            Calls Try.prog 10 #[.slice a2 (k + 1 : Nat) c2] z2 (fun e w' => e = .returned (.bool true) ∧ Frm [] z2 w')) ∧
          (∀ a2 c2 z1, LdOwn z1 w.heap.size 32 [] a2 c2 (X ++ [⟨id2, true, c5⟩]) → ∀ z2, Frm [] z1 z2 →
            Calls Try.prog 14 #[.slice a2 (k + 1 : Nat) c2, .int .u64 1] z2 (fun e w' => e = .returned (.tuple #[.slice none 0 0, .int .i64 23]) ∧ Frm [] z2 w') ∧
            Calls Try.prog 10 #[.slice a2 (k + 1 : Nat) c2] z2 (fun e w' => e = .returned (.bool true) ∧ Frm [] z2 w')))
          ∧ Grown (X ++ [⟨id2, true, c5⟩]) (k + 1) ((k + 1) * 256) ∧ tot (X ++ [⟨id2, true, c5⟩]) 0 = t2 ∧ t2 ≤ (k + 1) * 4 ∧ (lastL (X ++ [⟨id2, true, c5⟩])).id = id2) := Lib.hid (fun id2 h1 h2 => by
        have hg := HG.out.g
        have hlen := hg.len
        have hk1 : ∀ y : Ld, k + 1 = (X ++ [y]).length := fun y => by rw [List.length_append, hlen]; rfl
        refine ⟨fun z hz => ⟨?_, fun a2 c2 z1 ho z2 hz2 => ?_, fun a2 c2 z1 ho z2 hz2 => ?_⟩, ?_, ?_, ?_, ?_⟩
        · have hcp := HG.out.own.caps
          have h3 := ldopen_any a k cap X id2 z (HG.out.own.sl.sub hz) (by rw [← hlen]; exact hcp.1) (by have := hcp.2.1; unfold maxLen at this; omega) hcp.2.2 hlen.symm (by omega) (by omega) (by omega)
          rw [openC_grown hg (by omega) (by rw [← hid]; exact h1)] at h3
          exact h3.mono fun e w' hh => hh.done (hk1 _)
        · have hsl := ho.sl.sub hz2
          have hcp := ho.caps
          have hln : ((X ++ [(⟨id2, false, 0⟩ : Ld)]).length) = k + 1 := (hk1 _).symm
          rw [hln] at hcp
          refine ⟨?_, ?_, ?_⟩
          · have h3 := ldclose_any a2 (k + 1) c2 _ c5 z2 hsl hln.symm (by omega)
            rw [closeC_open _ _ _ rfl (by omega), closeL_snoc] at h3
            exact h3.mono fun e w' hh => hh.done (hk1 _)
          · have h3 := ldopen_any a2 (k + 1) c2 _ (id2 + 1) z2 hsl hcp.1 (by have := hcp.2.1; unfold maxLen at this; omega) hcp.2.2 hln.symm (by omega) (by omega) (by omega)
            rw [openC_open _ _ _ rfl] at h3
            exact h3.mono fun e w' hh => hh.refused (by decide)
          · have h3 := ldcheck_any a2 (k + 1) c2 _ z2 hsl hln.symm (by omega)
            exact h3.mono fun e w' hh => hh.yes (hg.snoc (by omega) (by rw [← hid]; exact h1) (by show 0 ≤ _; omega) (fun _ => rfl))
        · have hsl := ho.sl.sub hz2
          have hln : ((X ++ [(⟨id2, true, c5⟩ : Ld)]).length) = k + 1 := (hk1 _).symm
          refine ⟨?_, ?_⟩
          · have h3 := ldclose_any a2 (k + 1) c2 _ 1 z2 hsl hln.symm (by omega)
            rw [closeC_closed _ _ _ rfl] at h3
            exact h3.mono fun e w' hh => hh.refused (by decide)
          · have h3 := ldcheck_any a2 (k + 1) c2 _ z2 hsl hln.symm (by omega)
            exact h3.mono fun e w' hh => hh.yes (hg.snoc (by omega) (by rw [← hid]; exact h1) (by show c5 ≤ _; omega) (fun hc => by cases hc))
        · exact hg.more (by omega) (by rw [← hid]; exact h1) (by show c5 ≤ _; omega) rfl (by show id2 ≤ _; omega) ⟨by show id2 < _; omega, by show c5 < _; omega⟩
        · rw [tot_snoc, ← htt, ht2]; rfl
        · omega
        · rw [lastL_snoc])
      by_cases hkm : k < m
      · have hkm' : (k : Int) < (m : Int) := by omega
        obtain ⟨b2, off2, rfl, q0, hd8⟩ : ∃ b2 off2, ai = some ⟨b2, off2, none⟩ ∧ wr.cell? ⟨b2, off2 + k, none⟩ = some (.int .u8 (is.getD k 0 : Nat)) ∧ is.getD k 0 < 256 := by
          rcases (HG.out.frm.bytes HI.out (by simp)).2.2 with h0 | ⟨b2, off2, h1, h2⟩
          · have := HM.out; rw [h0] at this; simp at this; omega
          · exact ⟨b2, off2, h1, h2 k (by have := HM.out; omega), getD_lt HI.out.1 k⟩
        generalize is.getD k 0 = d at q0 hd8
        obtain ⟨id2, hid2⟩ : ∃ id2, id2 = id1 + d := ⟨_, rfl⟩
        have hx1 : IntKind.u64.wrap (d : Int) = (d : Int) := by simp [IntKind.wrap, IntKind.bits, IntKind.signed]; omega
        have hx2 : IntKind.u64.wrap ((id1 : Int) + (d : Int)) = (id2 : Int) := by simp [IntKind.wrap, IntKind.bits, IntKind.signed]; omega
        have hx3 : (id1 : Int) + (d : Int) = (id2 : Int) := by omega
        have hza : id < id2 := by omega
        have hzb : id2 ≤ (k + 1) * 256 := by omega
        have hx4 : IntKind.u64.wrap (id2 : Int) = (id2 : Int) := by simp [IntKind.wrap, IntKind.bits, IntKind.signed]; omega
        clear hid2 hd8
        obtain ⟨RO, GRN, TOT2, T2L, LID⟩ := ROUND.out id2 hza hzb
        have RO := Lib.hid RO
        have GRN := Lib.hid GRN
        have TOT2 := Lib.hid TOT2
        have T2L := Lib.hid T2L
        have LID := Lib.hid LID
        have OP := Lib.hid (fun z hz => (RO.out z hz).1)
        have ID2 : Hid (id2 < 18446744073709551615) := Lib.hid (by omega)
        obtain ⟨id3, hid3⟩ : ∃ id3, id3 = id2 + 1 := ⟨_, rfl⟩
        have hv1 : IntKind.u64.wrap ((id2 : Int) + 1) = (id3 : Int) := by simp [IntKind.wrap, IntKind.bits, IntKind.signed]; omega
        have hv2 : (id2 : Int) + 1 = (id3 : Int) := by omega
        have hv3 : IntKind.u64.wrap (id3 : Int) = (id3 : Int) := by simp [IntKind.wrap, IntKind.bits, IntKind.signed]; omega
        have HID3 := Lib.hid hid3
        have FR : Hid (Frm [] w wr) := Lib.hid HG.out.frm
        have KN : Hid (k + 1 ≤ n ∧ k + 1 ≤ 21) := Lib.hid ⟨by omega, by omega⟩
        obtain ⟨k1, hk1⟩ : ∃ k1, k1 = k + 1 := ⟨_, rfl⟩
        have hk1i : (k : Int) + 1 = (k1 : Int) := by omega
        have hwk : IntKind.i64.wrap (k1 : Int) = (k1 : Int) := by simp [IntKind.wrap, IntKind.bits, IntKind.signed]; omega
        rw [← hk1] at OP GRN T2L KN
        have HK1 := Lib.hid hk1
        clear hid3 hidl httl hc5 hid1 ht2 ROUND hid htt hc54 hza hzb hk1
        go_wp2_with fail
        (with_reducible refine (OP.out _ (Frm.refl _ _)).mono ?_)
        rintro e w2 ⟨a2, c2, rfl, ho2, hf2⟩
        have F2 : Hid (Frm [] wr w2) := Lib.hid hf2
        have O2 : Hid (LdOwn w2 w.heap.size 32 [] a2 c2 (X ++ [⟨id2, false, 0⟩])) := Lib.hid (ldown_base ho2 FR.out.size)
        clear hf2 ho2
        have P2 := Lib.hid (fun z2 (hz2 : Frm [] w2 z2) => (RO.out w2 F2.out).2.1 a2 c2 w2 O2.out z2 hz2)
        rw [← HK1.out] at P2
        go_wp2_with fail
        (with_reducible refine (P2.out _ (Frm.refl _ _)).1.mono ?_)
        rintro e w3 ⟨a3, c3, rfl, ho3, hf3⟩
        have F3 : Hid (Frm [] w2 w3) := Lib.hid hf3
        have O3 : Hid (LdOwn w3 w.heap.size 32 [] a3 c3 (X ++ [⟨id2, true, c5⟩])) := Lib.hid (ldown_base ho3 (Nat.le_trans FR.out.size F2.out.size))
        clear hf3 ho3
        have P3 := Lib.hid (fun z2 (hz2 : Frm [] w3 z2) => (RO.out w2 F2.out).2.2 a3 c3 w3 O3.out z2 hz2)
        rw [← HK1.out] at P3
        have Q2 := Lib.hid (fun z2 (hz2 : Frm [] w2 z2) => (P2.out z2 hz2).2.1)
        rw [← HID3.out] at Q2
        go_wp2_with fail
        (with_reducible refine (Q2.out _ F3.out).mono ?_)
        rintro e w4 ⟨rfl, hf4⟩
        have F4 : Hid (Frm [] w3 w4) := Lib.hid hf4
        clear hf4
        go_wp2_with fail
        (with_reducible refine (P3.out _ F4.out).1.mono ?_)
        rintro e w5 ⟨rfl, hf5⟩
        have F5 : Hid (Frm [] w3 w5) := Lib.hid (F4.out.trans hf5 (by simp) (by simp))
        clear hf5
        go_wp2_with fail
        (with_reducible refine (P2.out _ (F3.out.trans F5.out (U := []) (by simp) (by simp))).2.2.mono ?_)
        rintro e w6 ⟨rfl, hf6⟩
        have F6 : Hid (Frm [] w3 w6) := Lib.hid (F5.out.trans hf6 (by simp) (by simp))
        clear hf6
        go_wp2_with fail
        (with_reducible refine (P3.out _ F6.out).2.mono ?_)
        rintro e w7 ⟨rfl, hf7⟩
        have F7 : Hid (Frm [] w3 w7) := Lib.hid (F6.out.trans hf7 (by simp) (by simp))
        have GW : Hid (Gw w w7 k1 a3 c3 (X ++ [⟨id2, true, c5⟩])) := Lib.hid ⟨O3.out.keep F7.out (by simp) (by simp), GRN.out, by rw [TOT2.out]; exact T2L.out, (FR.out.trans F2.out (U := []) (by simp) (by simp)).trans (F3.out.trans F7.out (U := []) (by simp) (by simp)) (by simp) (by simp)⟩
        clear hf7
        go_wp2
        go_roundw
        case rel => exact ⟨k1, a3, c3, _, KN.out.1, KN.out.2, rfl, rfl, by rw [LID.out], by rw [TOT2.out], GW⟩
        case measure => have := KN.out.1; simp [intOf]; omega
      · have hkm' : ¬ (k : Int) < (m : Int) := by omega
        obtain ⟨id2, rfl⟩ : ∃ id2, id2 = id1 := ⟨_, rfl⟩
        have hza : id < id2 := by omega
        have hzb : id2 ≤ (k + 1) * 256 := by omega
        obtain ⟨RO, GRN, TOT2, T2L, LID⟩ := ROUND.out id2 hza hzb
        have RO := Lib.hid RO
        have GRN := Lib.hid GRN
        have TOT2 := Lib.hid TOT2
        have T2L := Lib.hid T2L
        have LID := Lib.hid LID
        have OP := Lib.hid (fun z hz => (RO.out z hz).1)
        have ID2 : Hid (id2 < 18446744073709551615) := Lib.hid (by omega)
        obtain ⟨id3, hid3⟩ : ∃ id3, id3 = id2 + 1 := ⟨_, rfl⟩
        have hv1 : IntKind.u64.wrap ((id2 : Int) + 1) = (id3 : Int) := by simp [IntKind.wrap, IntKind.bits, IntKind.signed]; omega
        have hv2 : (id2 : Int) + 1 = (id3 : Int) := by omega
        have hv3 : IntKind.u64.wrap (id3 : Int) = (id3 : Int) := by simp [IntKind.wrap, IntKind.bits, IntKind.signed]; omega
        have HID3 := Lib.hid hid3
        have FR : Hid (Frm [] w wr) := Lib.hid HG.out.frm
        have KN : Hid (k + 1 ≤ n ∧ k + 1 ≤ 21) := Lib.hid ⟨by omega, by omega⟩
        obtain ⟨k1, hk1⟩ : ∃ k1, k1 = k + 1 := ⟨_, rfl⟩
        have hk1i : (k : Int) + 1 = (k1 : Int) := by omega
        have hwk : IntKind.i64.wrap (k1 : Int) = (k1 : Int) := by simp [IntKind.wrap, IntKind.bits, IntKind.signed]; omega
        rw [← hk1] at OP GRN T2L KN
        have HK1 := Lib.hid hk1
        clear hid3 hidl httl hc5 hid1 ht2 ROUND hid htt hc54 hza hzb hk1
        go_wp2_with fail
        (with_reducible refine (OP.out _ (Frm.refl _ _)).mono ?_)
        rintro e w2 ⟨a2, c2, rfl, ho2, hf2⟩
        have F2 : Hid (Frm [] wr w2) := Lib.hid hf2
        have O2 : Hid (LdOwn w2 w.heap.size 32 [] a2 c2 (X ++ [⟨id2, false, 0⟩])) := Lib.hid (ldown_base ho2 FR.out.size)
        clear hf2 ho2
        have P2 := Lib.hid (fun z2 (hz2 : Frm [] w2 z2) => (RO.out w2 F2.out).2.1 a2 c2 w2 O2.out z2 hz2)
        rw [← HK1.out] at P2
        go_wp2_with fail
        (with_reducible refine (P2.out _ (Frm.refl _ _)).1.mono ?_)
        rintro e w3 ⟨a3, c3, rfl, ho3, hf3⟩
        have F3 : Hid (Frm [] w2 w3) := Lib.hid hf3
        have O3 : Hid (LdOwn w3 w.heap.size 32 [] a3 c3 (X ++ [⟨id2, true, c5⟩])) := Lib.hid (ldown_base ho3 (Nat.le_trans FR.out.size F2.out.size))
        clear hf3 ho3
        have P3 := Lib.hid (fun z2 (hz2 : Frm [] w3 z2) => (RO.out w2 F2.out).2.2 a3 c3 w3 O3.out z2 hz2)
        rw [← HK1.out] at P3
        have Q2 := Lib.hid (fun z2 (hz2 : Frm [] w2 z2) => (P2.out z2 hz2).2.1)
        rw [← HID3.out] at Q2
        go_wp2_with fail
        (with_reducible refine (Q2.out _ F3.out).mono ?_)
        rintro e w4 ⟨rfl, hf4⟩
        have F4 : Hid (Frm [] w3 w4) := Lib.hid hf4
        clear hf4
        go_wp2_with fail
        (with_reducible refine (P3.out _ F4.out).1.mono ?_)
        rintro e w5 ⟨rfl, hf5⟩
        have F5 : Hid (Frm [] w3 w5) := Lib.hid (F4.out.trans hf5 (by simp) (by simp))
        clear hf5
        go_wp2_with fail
        (with_reducible refine (P2.out _ (F3.out.trans F5.out (U := []) (by simp) (by simp))).2.2.mono ?_)
        rintro e w6 ⟨rfl, hf6⟩
        have F6 : Hid (Frm [] w3 w6) := Lib.hid (F5.out.trans hf6 (by simp) (by simp))
        clear hf6
        go_wp2_with fail
        (with_reducible refine (P3.out _ F6.out).2.mono ?_)
        rintro e w7 ⟨rfl, hf7⟩
        have F7 : Hid (Frm [] w3 w7) := Lib.hid (F6.out.trans hf7 (by simp) (by simp))
        have GW : Hid (Gw w w7 k1 a3 c3 (X ++ [⟨id2, true, c5⟩])) := Lib.hid ⟨O3.out.keep F7.out (by simp) (by simp), GRN.out, by rw [TOT2.out]; exact T2L.out, (FR.out.trans F2.out (U := []) (by simp) (by simp)).trans (F3.out.trans F7.out (U := []) (by simp) (by simp)) (by simp) (by simp)⟩
        clear hf7
        go_wp2
        go_roundw
        case rel => exact ⟨k1, a3, c3, _, KN.out.1, KN.out.2, rfl, rfl, by rw [LID.out], by rw [TOT2.out], GW⟩
        case measure => have := KN.out.1; simp [intOf]; omega
    · obtain rfl : k = n := by omega
      have H := HG.out.own.sl
      have HFW : Hid (Frm [] w wr) := Lib.hid HG.out.frm
      have hlen := HG.out.g.len
      have hcap := HG.out.own.caps
      have hrt := HG.out.g.right
      have hids : ∀ x ∈ X, 0 < x.id ∧ x.id < 18446744073709551615 := fun x hx => by
        have h1 := hrt.id_le hx
        have h2 := HG.out.g.low
        omega
      have htot := btw_all (o := 0) hids
      have htl := HG.out.tot
      obtain ⟨tt, htt⟩ : ∃ tt, tt = tot X 0 := ⟨_, rfl⟩
      have BT : Hid (∀ z, Frm [] wr z → Calls Try.prog 23 #[.slice a k cap, .int .u64 0, .agg #[.int .u64 0, .int .u64 0], .agg #[.int .u64 18446744073709551615, .int .u64 0]] z fun e w' => e = .returned (.int .u64 (tt : Nat)) ∧ Frm [] z w') := Lib.hid (fun z hz => by
        have h3 := ldbetween_any a k cap X 0 ⟨0, 0⟩ ⟨18446744073709551615, 0⟩ z (H.sub hz) hlen.symm (by omega) (by omega)
        rw [htot, ← htt] at h3
        exact h3)
      have N0 : Hid (∀ z, Frm [] wr z → Calls Try.prog 17 #[.slice a k cap, .int .u64 0, .agg #[.int .u64 0, .int .u64 0]] z fun e w' => e = .returned (nextR X 0 ⟨0, 0⟩) ∧ Frm [] z w') := Lib.hid (fun z hz => ldnext_any a k cap X 0 ⟨0, 0⟩ z (H.sub hz) hlen.symm (by omega))
      have NQ : Hid (∀ q : Ps, ∀ z, Frm [] wr z → Calls Try.prog 17 #[.slice a k cap, .int .u64 0, q.val] z fun e w' => e = .returned (nextR X 0 q) ∧ Frm [] z w') := Lib.hid (fun q z hz => ldnext_any a k cap X 0 q z (H.sub hz) hlen.symm (by omega))
      have TQ : Hid (∀ q : Ps, ∀ z, Frm [] wr z → Calls Try.prog 27 #[.slice a k cap, q.val] z (RetLd z (trimL X q))) := Lib.hid (fun q z hz => ldtrim_any a k cap X q z (H.sub hz) hlen.symm (by rw [← hlen]; exact hcap.1) (by omega))
      have MQ : Hid (∀ q : Ps, ∀ a6 c6 z, LdL z [] a6 (trimL X q) → Calls Try.prog 17 #[.slice a6 (trimL X q).length c6, .int .u64 0, q.val] z fun e w' => e = .returned (nextR (trimL X q) 0 q) ∧ Frm [] z w') := Lib.hid (fun q a6 c6 z hz => ldnext_any a6 _ c6 (trimL X q) 0 q z hz rfl (by
        have : (trimL X q).length ≤ X.length := by rw [trimL_eq, List.length_drop]; omega
        omega))
      have SAME : Hid (∀ q : Ps, (nextV (trimL X q) 0 q).2 = (nextV X 0 q).2 ∧ ((nextV X 0 q).2 = true → (nextV (trimL X q) 0 q).1 = (nextV X 0 q).1)) := Lib.hid (fun q => by
        unfold nextV
        rw [nextP_trim]
        cases nextP X 0 q <;> simp)
      have ZERO : Hid (nextP X 0 ⟨0, 0⟩ = none → tt = 0) := Lib.hid (fun h => by rw [htt, ← htot]; exact btw_none h)
      have FITS : Hid (∀ q : Ps, nextP X 0 ⟨0, 0⟩ = some q → q.fits) := Lib.hid (fun q hq => by
        obtain ⟨j, j1, j2, j3, rfl⟩ := nextP_some hq
        have h4 := ld_fits_at HG.out.g.fits j
        have h5 := Ld.size_lt (o := 0) h4 (by omega)
        exact ⟨h4.1, by show (X.getD j default).ahead 0 ⟨0, 0⟩ < 18446744073709551616; omega⟩)
      have BH := Lib.hid (fun q (hq : Ps.fits q) z => ldbehind_any q hq z)
      rw [← htt]
      have hneq : ((tt : Int) != (tt : Int)) = false := by simp
      clear H hcap hrt hids htot htl htt hlen
      obtain ⟨w1a, hw1a⟩ : ∃ w1a, w1a = wr.alloc (.cells #[.int .u64 18446744073709551615, .int .u64 0] 36) := ⟨_, rfl⟩
      obtain ⟨ge, hge⟩ : ∃ ge, ge = wr.heap.size := ⟨_, rfl⟩
      have F1a : Hid (Frm [] wr w1a) := Lib.hid (by rw [hw1a]; exact (Frm.refl _ _).alloc _)
      have B1a : Whole w1a ge 36 #[.int .u64 18446744073709551615, .int .u64 0] := by rw [hw1a, hge]; exact Whole.made _ _ _
      have e0 := B1a.cell 0
      have e1 := B1a.cell 1
      simp only [List.getElem?_toArray, List.getElem?_cons_zero, List.getElem?_cons_succ] at e0 e1
      have HW1a := Lib.hid hw1a; clear hw1a
      have HGE := Lib.hid hge; clear hge B1a
      go_upto_region 23 with (fail)
      rw [← HW1a.out, ← HGE.out]
      go_wp2_with fail
      (with_reducible refine (BT.out _ F1a.out).mono ?_)
      rintro e w2 ⟨rfl, hf2⟩
      have F2 : Hid (Frm [] wr w2) := Lib.hid (F1a.out.trans hf2 (by simp) (by simp))
      clear hf2 e0 e1
      cases hnx : nextP X 0 ⟨0, 0⟩ with
      | none =>
        have Z := Lib.hid (ZERO.out hnx)
        have N0' : Hid (∀ z, Frm [] wr z → Calls Try.prog 17 #[.slice a k cap, .int .u64 0, .agg #[.int .u64 0, .int .u64 0]] z fun e w' => e = .returned (.tuple #[(endP X 0).val, .bool false]) ∧ Frm [] z w') := Lib.hid (by rw [← nextR_none hnx]; exact N0.out)
        clear hnx N0
        generalize endP X 0 = E at N0'
        obtain ⟨El, Ee⟩ := E
        unfold Ps.val at N0'
        simp only at N0'
        have hz0 : ((tt : Int) == 0) = true := by rw [Z.out]; rfl
        go_wp2_with fail
        (with_reducible refine (N0'.out _ F2.out).mono ?_)
        rintro e w3 ⟨rfl, hf3⟩
        have FF : Hid (Frm [] w (w3.alloc (.cells #[.int .u64 (El : Nat), .int .u64 (Ee : Nat)] 36))) := Lib.hid ((HFW.out.trans (F2.out.trans hf3 (U := []) (by simp) (by simp)) (by simp) (by simp)).alloc _)
        clear hf3
        go_wp2
        go_ret
        exact lTrue FF.out
      | some p =>
        have N0' : Hid (∀ z, Frm [] wr z → Calls Try.prog 17 #[.slice a k cap, .int .u64 0, .agg #[.int .u64 0, .int .u64 0]] z fun e w' => e = .returned (.tuple #[p.val, .bool true]) ∧ Frm [] z w') := Lib.hid (by rw [← nextR_some hnx]; exact N0.out)
        have BP := Lib.hid (BH.out p (FITS.out p hnx))
        clear hnx N0 BH FITS ZERO
        have NB := Lib.hid (NQ.out (behindP p))
        have TB := Lib.hid (TQ.out (behindP p))
        have MB := Lib.hid (MQ.out (behindP p))
        obtain ⟨sm1, sm2⟩ := SAME.out (behindP p)
        unfold nextR at NB MB
        generalize nextV X 0 (behindP p) = v1 at NB sm1 sm2
        generalize nextV (trimL X (behindP p)) 0 (behindP p) = v2 at MB sm1 sm2
        generalize hTX : trimL X (behindP p) = TX at TB MB
        clear hTX NQ TQ MQ SAME
        generalize behindP p = bq at BP NB TB MB
        obtain ⟨pl, pe⟩ := p
        obtain ⟨bl, be⟩ := bq
        obtain ⟨⟨rl, re⟩, rb⟩ := v1
        obtain ⟨⟨ql, qe⟩, qb⟩ := v2
        unfold LRet Ps.val at BP
        unfold Ps.val at N0' NB TB MB
        simp only at N0' BP NB TB MB sm1 sm2
        subst sm1
        go_wp2_with fail
        (with_reducible refine (N0'.out _ F2.out).mono ?_)
        rintro e w3 ⟨rfl, hf3⟩
        have F3 : Hid (Frm [] wr w3) := Lib.hid (F2.out.trans hf3 (by simp) (by simp))
        clear hf3
        obtain ⟨w4, hw4⟩ : ∃ w4, w4 = w3.alloc (.cells #[.int .u64 (pl : Nat), .int .u64 (pe : Nat)] 36) := ⟨_, rfl⟩
        obtain ⟨gp, hgp⟩ : ∃ gp, gp = w3.heap.size := ⟨_, rfl⟩
        have F4 : Hid (Frm [] wr w4) := Lib.hid (by rw [hw4]; exact F3.out.alloc _)
        have B4 : Hid (Whole w4 gp 36 #[.int .u64 (pl : Nat), .int .u64 (pe : Nat)]) := Lib.hid (by rw [hw4, hgp]; exact Whole.made _ _ _)
        have p0 := B4.out.cell 0
        have p1 := B4.out.cell 1
        simp only [List.getElem?_toArray, List.getElem?_cons_zero, List.getElem?_cons_succ] at p0 p1
        have HW4 := Lib.hid hw4; clear hw4
        have HGP := Lib.hid hgp; clear hgp
        go_upto_region 28 with (fail)
        rw [← HW4.out, ← HGP.out]
        go_wp2_with fail
        (with_reducible refine (BP.out _).mono ?_)
        rintro e w5 ⟨rfl, hf5⟩
        have F5 : Hid (Frm [] w4 w5) := Lib.hid hf5
        clear hf5 p0 p1
        go_wp2_with fail
        (with_reducible refine (NB.out _ (F4.out.trans F5.out (by simp) (by simp))).mono ?_)
        rintro e w6 ⟨rfl, hf6⟩
        obtain ⟨w7, hw7⟩ : ∃ w7, w7 = w6.alloc (.cells #[.int .u64 (rl : Nat), .int .u64 (re : Nat)] 36) := ⟨_, rfl⟩
        obtain ⟨gr, hgr⟩ : ∃ gr, gr = w6.heap.size := ⟨_, rfl⟩
        have F7 : Hid (Frm [] w4 w7) := Lib.hid (by rw [hw7]; exact (F5.out.trans hf6 (U := []) (by simp) (by simp)).alloc _)
        have B7 : Hid (Whole w7 gr 36 #[.int .u64 (rl : Nat), .int .u64 (re : Nat)]) := Lib.hid (by rw [hw7, hgr]; exact Whole.made _ _ _)
        clear hf6
        have HW7 := Lib.hid hw7; clear hw7
        have HGR := Lib.hid hgr; clear hgr
        have p0 := (F7.out.whole B4.out (by simp)).cell 0
        have p1 := (F7.out.whole B4.out (by simp)).cell 1
        simp only [List.getElem?_toArray, List.getElem?_cons_zero, List.getElem?_cons_succ] at p0 p1
        go_upto_region 29 with (fail)
        rw [← HW7.out, ← HGR.out]
        go_wp2_with fail
        (with_reducible refine (BP.out _).mono ?_)
        rintro e w8 ⟨rfl, hf8⟩
        have F8 : Hid (Frm [] w7 w8) := Lib.hid hf8
        clear hf8 p0 p1
        go_wp2_with fail
        (with_reducible refine (TB.out _ (F4.out.trans (F7.out.trans F8.out (U := []) (by simp) (by simp)) (by simp) (by simp))).mono ?_)
        rintro e w9 ⟨a6, c6, rfl, ho9, hf9⟩
        have F9 : Hid (Frm [] w7 w9) := Lib.hid (F8.out.trans hf9 (by simp) (by simp))
        have L9 : Hid (LdL w9 [] a6 TX) := Lib.hid ho9.sl
        clear ho9 hf9
        have p0 := ((F7.out.trans F9.out (U := []) (by simp) (by simp)).whole B4.out (by simp)).cell 0
        have p1 := ((F7.out.trans F9.out (U := []) (by simp) (by simp)).whole B4.out (by simp)).cell 1
        simp only [List.getElem?_toArray, List.getElem?_cons_zero, List.getElem?_cons_succ] at p0 p1
        generalize TX.length = kt at MB
        go_wp2_with fail
        (with_reducible refine (BP.out _).mono ?_)
        rintro e w10 ⟨rfl, hf10⟩
        have F10 : Hid (Frm [] w7 w10) := Lib.hid (F9.out.trans hf10 (by simp) (by simp))
        have L10 : Hid (LdL w10 [] a6 TX) := Lib.hid (L9.out.sub hf10)
        clear hf10 p0 p1
        go_wp2_with fail
        (with_reducible refine (MB.out _ _ _ L10.out).mono ?_)
        rintro e w11 ⟨rfl, hf11⟩
        obtain ⟨w12, hw12⟩ : ∃ w12, w12 = w11.alloc (.cells #[.int .u64 (ql : Nat), .int .u64 (qe : Nat)] 36) := ⟨_, rfl⟩
        obtain ⟨gq, hgq⟩ : ∃ gq, gq = w11.heap.size := ⟨_, rfl⟩
        have F12 : Hid (Frm [] w7 w12) := Lib.hid (by rw [hw12]; exact (F10.out.trans hf11 (U := []) (by simp) (by simp)).alloc _)
        have B12 : Hid (Whole w12 gq 36 #[.int .u64 (ql : Nat), .int .u64 (qe : Nat)]) := Lib.hid (by rw [hw12, hgq]; exact Whole.made _ _ _)
        clear hf11
        have HW12 := Lib.hid hw12; clear hw12
        have HGQ := Lib.hid hgq; clear hgq
        have r0 := (F12.out.whole B7.out (by simp)).cell 0
        have r1 := (F12.out.whole B7.out (by simp)).cell 1
        have q0 := B12.out.cell 0
        have q1 := B12.out.cell 1
        simp only [List.getElem?_toArray, List.getElem?_cons_zero, List.getElem?_cons_succ] at r0 r1 q0 q1
        have FF : Hid (Frm [] w w12) := Lib.hid ((HFW.out.trans F4.out (U := []) (by simp) (by simp)).trans (F7.out.trans F12.out (U := []) (by simp) (by simp)) (by simp) (by simp))
        go_upto_region 31 with (fail)
        rw [← HW12.out, ← HGQ.out]
        cases qb
        · go_wp2
          go_ret
          exact lTrue FF.out
        · have ee : ∀ w : World, (binOp .eql 36 (.agg #[.int .u64 (rl : Nat), .int .u64 (re : Nat)]) (.agg #[.int .u64 (ql : Nat), .int .u64 (qe : Nat)])).run Try.prog w = .ok (.bool true) w := fun w => by
            have h1 := eql_ps rl re ql qe w
            rwa [decide_eq_true (sm2 rfl).symm] at h1
          go_wp2
          go_ret
          exact lTrue FF.out
end Go.Proofs.Ytimmoencmmpkdaa
