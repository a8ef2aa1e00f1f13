/- Package ledgers: contracts of Next, Has. -/
import Derived.Test.YtimmoencmmpkdaaLdOrder
import Derived.Deep.DeepCutAuto
namespace Go.Proofs.Ytimmoencmmpkdaa
open Go.RowKit
set_option maxRecDepth 100000

/-- What Next answers, as a value. -/
def nextR (X : List Ld) (o : Nat) (p : Ps) : Value := .tuple #[(nextV X o p).1.val, .bool (nextV X o p).2]
theorem endP_nil (o : Nat) : endP [] o = ⟨0, 0⟩ := rfl
theorem endP_last {X : List Ld} (o : Nat) (h : X ≠ []) : endP X o = ⟨(lastL X).id, (lastL X).size o⟩ := by
  unfold endP lastL
  have e : X.getLast? = some (X.getLast h) := List.getLast?_eq_some_getLast h
  have e2 : X.getD (X.length - 1) default = X.getLast h := by
    have : X.length - 1 < X.length := by have := List.length_pos_iff.2 h; omega
    rw [List.getLast_eq_getElem]
    simp [this]
  rw [e, e2]
theorem nextR_some {X : List Ld} {o : Nat} {p q : Ps} (h : nextP X o p = some q) : nextR X o p = .tuple #[q.val, .bool true] := by unfold nextR nextV; rw [h]
theorem nextR_none {X : List Ld} {o : Nat} {p : Ps} (h : nextP X o p = none) : nextR X o p = .tuple #[(endP X o).val, .bool false] := by unfold nextR nextV; rw [h]
set_option maxHeartbeats 4000000 in
theorem ldnext_any (a : Option Addr) (n cap : Nat) (X : List Ld) (o : Nat) (p : Ps) (w : World) (h : LdL w [] a X) (hn : n = X.length) (hsz : n < 4611686018427387904) :
    Calls Try.prog 17 #[.slice a n cap, .int .u64 (o : Nat), p.val] w (LRet w (nextR X o p)) := by
  have HLS := Lib.hid (fun z (hz : Frm [] w z) => ldlast_any a n cap X z (h.sub hz) hn hsz)
  have HAH := Lib.hid (fun (x : Ld) z => ldahead_any x o p z)
  have HSZ := Lib.hid (fun (x : Ld) z => ldsize_any x o z)
  obtain ⟨w1, hw1⟩ : ∃ w1, w1 = (w.alloc (.cells #[.int .u64 (p.l : Nat), .int .u64 (p.e : Nat)] 36)).alloc (.cells #[.int .u64 0, .int .u64 0] 36) := ⟨_, rfl⟩
  have F1 : Hid (Frm [] w w1) := Lib.hid (by rw [hw1]; exact ((Frm.refl _ _).alloc _).alloc _)
  obtain ⟨g, hg⟩ : ∃ g, g = w.heap.size := ⟨_, rfl⟩
  have B1 : Hid (Whole w1 g 36 #[.int .u64 (p.l : Nat), .int .u64 (p.e : Nat)]) := Lib.hid (by rw [hw1, hg]; exact (Whole.made _ _ _).alloc _)
  have B2 : Hid (Whole w1 (g + 1) 36 #[.int .u64 0, .int .u64 0]) := Lib.hid (by
    rw [hw1, hg]
    have := Whole.made (w.alloc (.cells #[.int .u64 (p.l : Nat), .int .u64 (p.e : Nat)] 36)) 36 #[.int .u64 0, .int .u64 0]
    rwa [World.size_alloc] at this)
  have GS : Hid (w.heap.size ≤ g) := Lib.hid (by omega)
  have H := Lib.hid h; clear h
  have HN := Lib.hid hn; clear hn
  obtain ⟨R, hR⟩ : ∃ R, R = LRet w (nextR X o p) := ⟨_, rfl⟩
  rw [← hR]
  have HR := Lib.hid hR; clear hR
  -- what a store to the result leaves
  have FIN : Hid (∀ (z : World) (q : Ps), Frm [] w1 z → Whole ((z.setCell ⟨g + 1, 0, none⟩ (.int .u64 (q.l : Nat))).setCell ⟨g + 1, 1, none⟩ (.int .u64 (q.e : Nat))) (g + 1) 36 #[.int .u64 (q.l : Nat), .int .u64 (q.e : Nat)] ∧ Frm [] w ((z.setCell ⟨g + 1, 0, none⟩ (.int .u64 (q.l : Nat))).setCell ⟨g + 1, 1, none⟩ (.int .u64 (q.e : Nat)))) := Lib.hid (fun z q hz => by
    have hw := hz.whole B2.out (by simp)
    refine ⟨?_, ?_⟩
    · have := (hw.put 0 (.int .u64 (q.l : Nat))).put 1 (.int .u64 (q.e : Nat))
      simpa using this
    · have h1 := F1.out.trans hz (U := []) (by simp) (by simp)
      exact (h1.setCell (.inr (by have := GS.out; simp; omega)) _).setCell (.inr (by have := GS.out; simp; omega)) _)
  have V0 : Hid (∀ (z : World) (q : Ps) (b : Bool) (tm : Array Value), tm.getD 6 undef = .pointer (some ⟨g + 1, 0, none⟩) → tm.getD 7 undef = .bool b → Whole z (g + 1) 36 #[.int .u64 (q.l : Nat), .int .u64 (q.e : Nat)] → (results Try.f17 tm).run Try.prog z = .ok (.tuple #[q.val, .bool b]) z) := Lib.hid (fun z q b tm h6 h7 hw => by
    have c0 := hw.cell 0
    have c1 := hw.cell 1
    simp at c0 c1
    have h6' : tm[6]?.getD undef = .pointer (some ⟨g + 1, 0, none⟩) := by simpa using h6
    have h7' : tm[7]?.getD undef = .bool b := by simpa using h7
    unfold Ps.val
    simp [results, Try.results17, go_sem, c0, c1, h6', h7'])
  obtain ⟨pl, pe⟩ := p
  unfold Ps.val at HAH
  unfold Ps.val
  simp only at hw1 B1 HAH ⊢
  have HW1 := Lib.hid hw1; clear hw1
  go_enter Try.func17, Try.ntmps17
  go_wp2
  rw [← HW1.out, ← hg]
  have HG := Lib.hid hg; clear hg
  go_loopw [13] (fun s13 wr => ∃ k : Nat, k ≤ n ∧ s13 = .int .i64 k ∧ Hid (∀ i, i < k → ¬ (X.getD i default).ahead o ⟨pl, pe⟩ < (X.getD i default).size o) ∧ Hid (Frm [] w1 wr)) (fun s13 _ => n - (intOf s13).toNat)
  case atStart => exact ⟨0, Nat.zero_le _, rfl, Lib.hid (fun i hi => by omega), Lib.hid (Frm.refl _ _)⟩
  case round =>
    obtain ⟨k, hk, rfl, HI, HF⟩ := hrel
    by_cases hlt : k < n
    · have hlt' : (k : Int) < (n : Int) := by omega
      have hll := H.out.sub (F1.out.trans HF.out (U := []) (by simp) (by simp))
      obtain ⟨b, off, rfl, d0, d1, d2, _⟩ := hll.at (i := k) (by have := HN.out; omega)
      obtain ⟨x, hx⟩ : ∃ x, x = X.getD k default := ⟨_, rfl⟩
      rw [← hx] at d0 d1 d2
      have AH := Lib.hid (HAH.out x)
      have SZ := Lib.hid (HSZ.out x)
      have NXT : Hid (x.ahead o ⟨pl, pe⟩ < x.size o → nextP X o ⟨pl, pe⟩ = some ⟨x.id, x.ahead o ⟨pl, pe⟩⟩) := Lib.hid (fun hc => by
        rw [hx] at hc ⊢
        exact nextP_at (by have := HN.out; omega) HI.out hc)
      have STEP : Hid (¬ x.ahead o ⟨pl, pe⟩ < x.size o → ∀ i, i < k + 1 → ¬ (X.getD i default).ahead o ⟨pl, pe⟩ < (X.getD i default).size o) := Lib.hid (fun hc i hi => by
        rcases Nat.lt_or_eq_of_le (Nat.le_of_lt_succ hi) with h1 | rfl
        · exact HI.out i h1
        · rw [← hx]; exact hc)
      clear hx hll
      generalize x.ahead o ⟨pl, pe⟩ = ah at AH NXT STEP
      generalize x.size o = sz at SZ NXT STEP
      obtain ⟨xi, xc, xn⟩ := x
      unfold Ld.val at AH SZ
      unfold LRet at AH SZ
      simp only at d0 d1 d2 AH SZ NXT
      obtain ⟨W, hW⟩ : ∃ W, W = wr.alloc (.cells #[.int .u64 (xi : Nat), .bool xc, .int .u64 (xn : Nat)] 32) := ⟨_, rfl⟩
      have FW : Hid (Frm [] w1 W) := Lib.hid (by rw [hW]; exact HF.out.alloc _)
      obtain ⟨q, hq⟩ : ∃ q, q = wr.heap.size := ⟨_, rfl⟩
      have BW : Hid (Whole W q 32 #[.int .u64 (xi : Nat), .bool xc, .int .u64 (xn : Nat)]) := Lib.hid (by rw [hW, hq]; exact Whole.made _ _ _)
      have p0 := (FW.out.whole B1.out (by simp)).cell 0
      have p1 := (FW.out.whole B1.out (by simp)).cell 1
      have y0 := BW.out.cell 0
      have y1 := BW.out.cell 1
      have y2 := BW.out.cell 2
      simp at p0 p1 y0 y1 y2
      have HWW := Lib.hid hW; clear hW
      have HQ := Lib.hid hq; clear hq
      go_upto_region 4 with (fail)
      rw [← HWW.out, ← HQ.out]
      go_wp2_with fail
      (with_reducible refine (AH.out _).mono ?_)
      rintro e w2 ⟨rfl, hf2⟩
      have F2 : Hid (Frm [] w1 w2) := Lib.hid (FW.out.trans hf2 (by simp) (by simp))
      have BW2 := Lib.hid (hf2.whole BW.out (by simp))
      have z0 := BW2.out.cell 0
      have z1 := BW2.out.cell 1
      have z2 := BW2.out.cell 2
      simp at z0 z1 z2
      clear p0 p1 y0 y1 y2 d0 d1 d2 hf2
      go_wp2_with fail
      (with_reducible refine (SZ.out _).mono ?_)
      rintro e w3 ⟨rfl, hf3⟩
      have F3 : Hid (Frm [] w1 w3) := Lib.hid (F2.out.trans hf3 (by simp) (by simp))
      have BW3 := Lib.hid (hf3.whole BW2.out (by simp))
      clear hf3 z0 z1 z2
      by_cases hc : ah < sz
      · have e1 : (ah : Int) < (sz : Int) := by omega
        have e2 : decide (ah < sz) = true := decide_eq_true hc
        have NX := Lib.hid (NXT.out hc)
        have z0 := BW3.out.cell 0
        have r0 := (F3.out.whole B2.out (by simp)).cell 0
        have r1 := (F3.out.whole B2.out (by simp)).cell 1
        have k0 := (F3.out.whole B2.out (by simp)).free 0
        have k1 := (F3.out.whole B2.out (by simp)).free 1
        simp at z0 r0 r1
        obtain ⟨FW1, FW2⟩ := FIN.out w3 ⟨xi, ah⟩ F3.out
        have FW1 := Lib.hid FW1
        have FW2 := Lib.hid FW2
        clear hc
        go_wp2
        refine bodyPost_ret (V0.out _ ⟨xi, ah⟩ true _ rfl rfl FW1.out) rfl ?_
        rw [HR.out, nextR_some NX.out]
        exact ⟨rfl, FW2.out⟩
      · have e1 : ¬ (ah : Int) < (sz : Int) := by omega
        have e2 : decide (ah < sz) = false := decide_eq_false hc
        have ST := Lib.hid (STEP.out hc)
        clear hc
        go_wp2
        go_roundw
        case rel => exact ⟨k + 1, by omega, by go_num, ST, F3⟩
        case measure => simp [intOf]; omega
    · obtain rfl : k = n := by omega
      have NO : Hid (nextP X o ⟨pl, pe⟩ = none) := Lib.hid (nextP_none (by rw [← HN.out]; exact HI.out))
      have FWR : Hid (Frm [] w wr) := Lib.hid (F1.out.trans HF.out (by simp) (by simp))
      rcases Nat.eq_zero_or_pos k with h0 | h0
      · subst h0
        have hX : X = [] := List.eq_nil_of_length_eq_zero (by have := HN.out; omega)
        subst hX
        have r0 := (HF.out.whole B2.out (by simp)).cell 0
        have r1 := (HF.out.whole B2.out (by simp)).cell 1
        have k0 := (HF.out.whole B2.out (by simp)).free 0
        have k1 := (HF.out.whole B2.out (by simp)).free 1
        simp at r0 r1
        obtain ⟨FW1, FW2⟩ := FIN.out wr ⟨0, 0⟩ HF.out
        have FW1 := Lib.hid FW1
        have FW2 := Lib.hid FW2
        go_wp2
        refine bodyPost_ret (V0.out _ ⟨0, 0⟩ false _ rfl rfl FW1.out) rfl ?_
        rw [HR.out, nextR_none NO.out]
        exact ⟨rfl, FW2.out⟩
      · have d1 : ((k : Int) == 0) = false := by rw [beq_eq_false_iff_ne]; omega
        have hX : X ≠ [] := by rintro rfl; have := HN.out; simp at this; omega
        have EN := Lib.hid (endP_last o hX)
        clear hX h0
        have SL := Lib.hid (HSZ.out (lastL X))
        generalize lastL X = x at HLS EN SL
        obtain ⟨xi, xc, xn⟩ := x
        unfold Ld.val at SL
        unfold LRet at SL HLS
        simp only at EN SL
        generalize Ld.size ⟨xi, xc, xn⟩ o = sz at EN SL
        unfold Ld.val at HLS
        simp only at HLS
        have LL := Lib.hid (fun z (hz : Frm [] w z) => HLS.out z hz)
        have fl0 := fun a b c w => ldfld0 a b c w
        go_wp2_with fail
        (with_reducible refine (LL.out _ FWR.out).mono ?_)
        rintro e w2 ⟨rfl, hf2⟩
        have F2 : Hid (Frm [] w1 w2) := Lib.hid (HF.out.trans hf2 (by simp) (by simp))
        have G2 : Hid (Frm [] w w2) := Lib.hid (FWR.out.trans hf2 (by simp) (by simp))
        clear hf2
        go_wp2_with fail
        (with_reducible refine (LL.out _ G2.out).mono ?_)
        rintro e w3 ⟨rfl, hf3⟩
        have F3 : Hid (Frm [] w1 w3) := Lib.hid (F2.out.trans hf3 (by simp) (by simp))
        clear hf3
        go_wp2_with fail
        (with_reducible refine (SL.out _).mono ?_)
        rintro e w4 ⟨rfl, hf4⟩
        have F4 : Hid (Frm [] w1 w4) := Lib.hid (F3.out.trans hf4 (by simp) (by simp))
        clear hf4
        have r0 := (F4.out.whole B2.out (by simp)).cell 0
        have r1 := (F4.out.whole B2.out (by simp)).cell 1
        have k0 := (F4.out.whole B2.out (by simp)).free 0
        have k1 := (F4.out.whole B2.out (by simp)).free 1
        simp at r0 r1
        obtain ⟨FW1, FW2⟩ := FIN.out w4 ⟨xi, sz⟩ F4.out
        have FW1 := Lib.hid FW1
        have FW2 := Lib.hid FW2
        go_wp2
        refine bodyPost_ret (V0.out _ ⟨xi, sz⟩ false _ rfl rfl FW1.out) rfl ?_
        rw [HR.out, nextR_none NO.out, EN.out]
        exact ⟨rfl, FW2.out⟩
end Go.Proofs.Ytimmoencmmpkdaa
