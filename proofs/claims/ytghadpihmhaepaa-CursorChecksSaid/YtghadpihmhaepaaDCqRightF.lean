/- Contract of the law's Right (raw: false). Written by wip/mk-cqright.py. -/
import Derived.Test.YtghadpihmhaepaaDCqRightM
namespace Go.Proofs.Ytghadpihmhaepaa
open Go.RowKit
set_option maxRecDepth 100000

set_option maxHeartbeats 16000000 in
theorem cqrightF_any (m : Ps) (a : Option Addr) (n cap : Nat) (F : List Nat) (X : List Hx) (w : World) (h : HxL w [] a X) (hn : n = X.length) (hsz : n ≤ 9223372036854775807) (hF : ∀ x ∈ F, x < w.heap.size) (hmf : m.fits) :
    Calls Try.prog 11 #[crsV m a n cap, .bool false] w (RightEnd w F (placeP m false)) := by
  obtain ⟨w1, hw1⟩ : ∃ w1, w1 = (w.alloc (.cells #[.int .u64 (m.l : Nat), .int .u64 (m.e : Nat), .slice a n cap] 28)).alloc (.cells #[.int .u64 0, .int .u64 0, .slice none 0 0] 28) := ⟨_, rfl⟩
  obtain ⟨g, hg⟩ : ∃ g, g = w.heap.size := ⟨_, rfl⟩
  have F1 : Hid (Frm [] w w1) := Lib.hid (by rw [hw1]; exact ((Frm.refl _ _).alloc _).alloc _)
  have B0 : Hid (Whole w1 g 28 #[.int .u64 (m.l : Nat), .int .u64 (m.e : Nat), .slice a n cap]) := Lib.hid (by rw [hw1, hg]; exact (Whole.made _ _ _).alloc _)
  have B1 : Hid (Whole w1 (g + 1) 28 #[.int .u64 0, .int .u64 0, .slice none 0 0]) := Lib.hid (by
    rw [hw1, hg]
    have := Whole.made (w.alloc (.cells #[.int .u64 (m.l : Nat), .int .u64 (m.e : Nat), .slice a n cap] 28)) 28 #[.int .u64 0, .int .u64 0, .slice none 0 0]
    rwa [World.size_alloc] at this)
  have GS : Hid (w.heap.size ≤ g) := Lib.hid (by omega)
  obtain ⟨i0, hi, hz0, hz1, hz2⟩ := info_parts infoHe
  have HI := Lib.hid hi; clear hi
  have HZ0 := Lib.hid hz0; clear hz0
  have HZ1 := Lib.hid hz1; clear hz1
  have HZ2 := Lib.hid hz2; clear hz2
  obtain ⟨j0, hj, hy0, hy1, hy2⟩ := info_parts Try.info71
  have RI := Lib.hid hj; clear hj
  have RZ0 := Lib.hid hy0; clear hy0
  have RZ1 := Lib.hid hy1; clear hy1
  have RZ2 := Lib.hid hy2; clear hy2
  have HH := Lib.hid h; clear h
  have HN := Lib.hid hn; clear hn
  have HF0 := Lib.hid hF; clear hF
  have PL := Lib.hid (fun z => ldplace_any m false z)
  have MF := placeP_fits m false hmf
  obtain ⟨M, hM⟩ : ∃ M, M = placeP m false := ⟨_, rfl⟩
  rw [← hM] at PL MF ⊢
  have MF : Hid (M.e < 18446744073709551616) := Lib.hid MF.2
  clear hM hmf
  obtain ⟨Q, hQ⟩ : ∃ Q, Q = RightEnd w F M := ⟨_, rfl⟩
  rw [← hQ]
  have HQ := Lib.hid hQ; clear hQ
  unfold crsV
  obtain ⟨ml, me⟩ := m
  obtain ⟨Ml, Me⟩ := M
  unfold LRet Ps.val at PL
  simp only at hw1 B0 PL MF ⊢
  have HW1 := Lib.hid hw1; clear hw1
  have V0 : Hid (∀ (z : World) (ul ue : Nat) (a : Option Addr) (sl c : Nat) (tm : Array Value), tm.getD 4 undef = .pointer (some ⟨g + 1, 0, none⟩) → Whole z (g + 1) 28 #[.int .u64 (ul : Nat), .int .u64 (ue : Nat), .slice a sl c] → (results Try.f11 tm).run Try.prog z = .ok (.agg #[.int .u64 (ul : Nat), .int .u64 (ue : Nat), .slice a sl c]) z) := Lib.hid (fun z ul ue a sl c tm h6 hw => by
    have c0 := hw.cell 0
    have c1 := hw.cell 1
    have c2 := hw.cell 2
    simp at c0 c1 c2
    have h6' : tm[4]?.getD undef = .pointer (some ⟨g + 1, 0, none⟩) := by simpa using h6
    simp [results, Try.results11, go_sem, c0, c1, c2, h6'])
  have HG := Lib.hid hg; clear hg
  have p0 := B0.out.cell 0
  have p1 := B0.out.cell 1
  simp only [List.getElem?_toArray, List.getElem?_cons_zero, List.getElem?_cons_succ] at p0 p1
  go_enter Try.func11, Try.ntmps11
  go_wp2_with fail
  rw [← HW1.out, ← HG.out]
  (with_reducible refine (PL.out _).mono ?_)
  rintro e w2 ⟨rfl, hf2⟩
  clear p0 p1
  obtain ⟨W2, hW2⟩ : ∃ W2, W2 = w2.alloc (.cells #[.int .u64 (Ml : Nat), .int .u64 (Me : Nat), .slice none 0 0] 28) := ⟨_, rfl⟩
  obtain ⟨y5, hy5⟩ : ∃ y5, y5 = w2.heap.size := ⟨_, rfl⟩
  have F2 : Hid (Frm [] w1 W2) := Lib.hid (by rw [hW2]; exact hf2.alloc _)
  have B5 : Hid (Whole W2 y5 28 #[.int .u64 (Ml : Nat), .int .u64 (Me : Nat), .slice none 0 0]) := Lib.hid (by rw [hW2, hy5]; exact Whole.made _ _ _)
  have Y5 : Hid (g + 1 < y5 ∧ y5 < W2.heap.size) := Lib.hid ⟨by rw [hy5]; exact Nat.lt_of_lt_of_le B1.out.lt hf2.size, B5.out.lt⟩
  have c2 := (F2.out.whole B0.out (by simp)).cell 2
  simp only [List.getElem?_toArray, List.getElem?_cons_zero, List.getElem?_cons_succ] at c2
  have HW2 := Lib.hid hW2; clear hW2
  have HY5 := Lib.hid hy5; clear hy5 hf2
  have FW2 : Hid (Frm [] w W2) := Lib.hid (F1.out.trans F2.out (by simp) (by simp))
  have FL : Hid (∀ x ∈ y5 :: (g + 1) :: F, x < W2.heap.size) := Lib.hid (fun x hx => by
    have := Y5.out
    rcases List.mem_cons.1 hx with rfl | hx
    · omega
    · rcases List.mem_cons.1 hx with rfl | hx
      · omega
      · exact Nat.lt_of_lt_of_le (HF0.out x hx) FW2.out.size)
  go_upto_region 3 with (fail)
  rw [← HW2.out, ← HY5.out]
  go_wp2
  clear c2
  go_loopw [6, 21] (fun s6 s21 wr => ∃ (k last : Nat) (aS : Option Addr) (sn cS : Nat) (S : List Hx), k ≤ n ∧ k ≤ 7 ∧ s21 = .int .i64 (k : Nat) ∧ s6 = .int .u64 (last : Nat) ∧ sn ≤ k ∧ Hid (sn = S.length) ∧ Hid (Rgt ⟨Ml, Me⟩ (hels S) last) ∧ Hid (HxOwn wr W2.heap.size 55 (y5 :: (g + 1) :: F) aS cS S) ∧ Hid (Whole wr y5 28 #[.int .u64 (Ml : Nat), .int .u64 (Me : Nat), .slice aS sn cS]) ∧ Hid (Frm [y5] W2 wr)) (fun _ s21 _ => n - (intOf s21).toNat)
  case atStart => exact ⟨0, 0, none, 0, 0, [], Nat.zero_le _, by omega, rfl, rfl, Nat.le_refl _, Lib.hid rfl, Lib.hid (Rgt.nil _ _), Lib.hid (HxOwn.nil _ _ _ _), B5, Lib.hid (Frm.refl _ _)⟩
  case round =>
    obtain ⟨k, last, aS, sn, cS, S, hk, hk7, rfl, rfl, hsk, HSN, HRG, HO, HB, HF⟩ := hrel
    have FWR : Hid (Frm [] w wr) := Lib.hid (FW2.out.trans HF.out (by simp) (fun x hx => by simp at hx; have := Y5.out; have := GS.out; exact .inr (by omega)))
    have u0 := HB.out.cell 0
    have u1 := HB.out.cell 1
    have u2 := HB.out.cell 2
    simp only [List.getElem?_toArray, List.getElem?_cons_zero, List.getElem?_cons_succ] at u0 u1 u2
    by_cases hlt : k < n
    rotate_left 1
    · obtain rfl : k = n := by omega
      have FIN : Hid (Whole (((wr.setCell ⟨g + 1, 0, none⟩ (.int .u64 (Ml : Nat))).setCell ⟨g + 1, 1, none⟩ (.int .u64 (Me : Nat))).setCell ⟨g + 1, 2, none⟩ (.slice aS sn cS)) (g + 1) 28 #[.int .u64 (Ml : Nat), .int .u64 (Me : Nat), .slice aS sn cS] ∧ Q (.returned (.agg #[.int .u64 (Ml : Nat), .int .u64 (Me : Nat), .slice aS sn cS])) (((wr.setCell ⟨g + 1, 0, none⟩ (.int .u64 (Ml : Nat))).setCell ⟨g + 1, 1, none⟩ (.int .u64 (Me : Nat))).setCell ⟨g + 1, 2, none⟩ (.slice aS sn cS))) := Lib.hid (by
        have hgs := GS.out
        have hy := Y5.out
        have b1 := HF.out.whole (F2.out.whole B1.out (by simp)) (by simp only [List.mem_singleton]; omega)
        have f3 : Frm [g + 1] wr (((wr.setCell ⟨g + 1, 0, none⟩ (.int .u64 (Ml : Nat))).setCell ⟨g + 1, 1, none⟩ (.int .u64 (Me : Nat))).setCell ⟨g + 1, 2, none⟩ (.slice aS sn cS)) := (((Frm.refl _ _).setCell (.inl (by simp)) _).setCell (.inl (by simp)) _).setCell (.inl (by simp)) _
        refine ⟨?_, ?_⟩
        · have := ((b1.put 0 (.int .u64 (Ml : Nat))).put 1 (.int .u64 (Me : Nat))).put 2 (.slice aS sn cS)
          simpa using this
        · rw [HQ.out]
          exact ⟨S, aS, sn, cS, rfl, HSN, Lib.hid ⟨by have := HSN.out; omega, HRG.out.ok, HRG.out.bd⟩, Lib.hid ⟨HO.out.hl.keep f3 (fun x hx => .inl (by simp at hx; simp [hx])) (fun x hx => .inl (by simp [hx])), HO.out.caps.2.2, HO.out.caps.1, by have := HO.out.caps.2.1; unfold maxLen at this; omega⟩, FWR.out.trans f3 (by simp) (fun x hx => .inr (by simp at hx; omega))⟩)
      obtain ⟨FA, FB⟩ := FIN.out
      have FA := Lib.hid FA
      have FB := Lib.hid FB
      have b1 := HF.out.whole (F2.out.whole B1.out (by simp)) (by have := Y5.out; simp only [List.mem_singleton]; omega)
      have q0 := b1.cell 0
      have q1 := b1.cell 1
      have q2 := b1.cell 2
      have k0 := b1.free 0
      have k1 := b1.free 1
      have k2 := b1.free 2
      simp only [List.getElem?_toArray, List.getElem?_cons_zero, List.getElem?_cons_succ] at q0 q1 q2
      clear b1
      go_wp2
      refine bodyPost_ret (V0.out _ Ml Me aS sn cS _ rfl FA.out) rfl ?_
      exact FB.out
    have hlt' : (k : Int) < (n : Int) := by omega
    have hkX : k < X.length := by have := HN.out; omega
    obtain ⟨b, off, rfl, d0, d1, hok⟩ := (HH.out.sub FWR.out).at (i := k) hkX
    obtain ⟨x, hx⟩ : ∃ x, x = X.getD k default := ⟨_, rfl⟩
    rw [← hx] at d0 d1 hok
    have OK := Lib.hid hok
    clear hx hok hkX
    obtain ⟨⟨led, rs⟩, ra, rc⟩ := x
    simp only at d0 d1
    obtain ⟨rn, hrn⟩ : ∃ rn, rn = rs.length := ⟨_, rfl⟩
    rw [← hrn] at d1
    have HRN := Lib.hid hrn
    have rn62 : rn ≤ 9223372036854775807 := by rw [hrn]; exact Nat.le_trans OK.out.room.1 OK.out.room.2
    clear hrn
    by_cases h6 : 6 < k
    · have e6 : decide (6 < k) = true := decide_eq_true h6
      have e6' : (6 : Int) < (k : Int) := by omega
      obtain ⟨W3, hW3⟩ : ∃ W3, W3 = wr.alloc (.cells #[.int .u64 (led : Nat), .slice ra rn rc] 55) := ⟨_, rfl⟩
      have FW3 : Hid (Frm [] wr W3) := Lib.hid (by rw [hW3]; exact (Frm.refl _ _).alloc _)
      have HB3 : Hid (Whole W3 y5 28 #[.int .u64 (Ml : Nat), .int .u64 (Me : Nat), .slice aS sn cS]) := Lib.hid (FW3.out.whole HB.out (by simp))
      have HO3 : Hid (HxOwn W3 W2.heap.size 55 (y5 :: (g + 1) :: F) aS cS S) := Lib.hid (HO.out.keep FW3.out (by simp) (fun x hx => .inl hx))
      have F23 : Hid (Frm [y5] W2 W3) := Lib.hid (HF.out.trans FW3.out (by simp) (by simp))
      have FWR3 : Hid (Frm [] w W3) := Lib.hid (FWR.out.trans FW3.out (by simp) (by simp))
      have HW3 := Lib.hid hW3; clear hW3
      go_upto_region 6 with (fail)
      rw [← HW3.out]
      clear d0 d1 u0 u1 u2
      have u0 := HB3.out.cell 0
      have u1 := HB3.out.cell 1
      have u2 := HB3.out.cell 2
      simp only [List.getElem?_toArray, List.getElem?_cons_zero, List.getElem?_cons_succ] at u0 u1 u2
      have FIN : Hid (Whole (((W3.setCell ⟨g + 1, 0, none⟩ (.int .u64 (Ml : Nat))).setCell ⟨g + 1, 1, none⟩ (.int .u64 (Me : Nat))).setCell ⟨g + 1, 2, none⟩ (.slice aS sn cS)) (g + 1) 28 #[.int .u64 (Ml : Nat), .int .u64 (Me : Nat), .slice aS sn cS] ∧ Q (.returned (.agg #[.int .u64 (Ml : Nat), .int .u64 (Me : Nat), .slice aS sn cS])) (((W3.setCell ⟨g + 1, 0, none⟩ (.int .u64 (Ml : Nat))).setCell ⟨g + 1, 1, none⟩ (.int .u64 (Me : Nat))).setCell ⟨g + 1, 2, none⟩ (.slice aS sn cS))) := Lib.hid (by
        have hgs := GS.out
        have hy := Y5.out
        have b1 := F23.out.whole (F2.out.whole B1.out (by simp)) (by simp only [List.mem_singleton]; omega)
        have f3 : Frm [g + 1] W3 (((W3.setCell ⟨g + 1, 0, none⟩ (.int .u64 (Ml : Nat))).setCell ⟨g + 1, 1, none⟩ (.int .u64 (Me : Nat))).setCell ⟨g + 1, 2, none⟩ (.slice aS sn cS)) := (((Frm.refl _ _).setCell (.inl (by simp)) _).setCell (.inl (by simp)) _).setCell (.inl (by simp)) _
        refine ⟨?_, ?_⟩
        · have := ((b1.put 0 (.int .u64 (Ml : Nat))).put 1 (.int .u64 (Me : Nat))).put 2 (.slice aS sn cS)
          simpa using this
        · rw [HQ.out]
          exact ⟨S, aS, sn, cS, rfl, HSN, Lib.hid ⟨by have := HSN.out; omega, HRG.out.ok, HRG.out.bd⟩, Lib.hid ⟨HO3.out.hl.keep f3 (fun x hx => .inl (by simp at hx; simp [hx])) (fun x hx => .inl (by simp [hx])), HO3.out.caps.2.2, HO3.out.caps.1, by have := HO3.out.caps.2.1; unfold maxLen at this; omega⟩, FWR3.out.trans f3 (by simp) (fun x hx => .inr (by simp at hx; omega))⟩)
      obtain ⟨FA, FB⟩ := FIN.out
      have FA := Lib.hid FA
      have FB := Lib.hid FB
      have b1 := F23.out.whole (F2.out.whole B1.out (by simp)) (by have := Y5.out; simp only [List.mem_singleton]; omega)
      have q0 := b1.cell 0
      have q1 := b1.cell 1
      have q2 := b1.cell 2
      have k0 := b1.free 0
      have k1 := b1.free 1
      have k2 := b1.free 2
      simp only [List.getElem?_toArray, List.getElem?_cons_zero, List.getElem?_cons_succ] at q0 q1 q2
      clear b1
      go_wp2
      refine bodyPost_ret (V0.out _ Ml Me aS sn cS _ rfl FA.out) rfl ?_
      exact FB.out
    have e6 : decide (6 < k) = false := decide_eq_false h6
    have e6' : ¬ (6 : Int) < (k : Int) := by omega
    obtain ⟨ledm, hledm⟩ : ∃ ledm, ledm = led % 16 := ⟨_, rfl⟩
    have lm1 : (led : Int) % 16 = (ledm : Int) := by omega
    have lm2 : (led : Int).tmod 16 = (ledm : Int) := by rw [hledm]; rfl
    have lm3 : IntKind.u64.wrap (ledm : Int) = (ledm : Int) := by simp [IntKind.wrap, IntKind.bits, IntKind.signed]; omega
    have LN : Hid (ledm < 18446744073709551616) := Lib.hid (by omega)
    clear hledm
    obtain ⟨W3, hW3⟩ : ∃ W3, W3 = wr.alloc (.cells #[.int .u64 (ledm : Nat), .slice ra rn rc] 55) := ⟨_, rfl⟩
    obtain ⟨y8, hy8⟩ : ∃ y8, y8 = wr.heap.size := ⟨_, rfl⟩
    have FW3 : Hid (Frm [] wr W3) := Lib.hid (by rw [hW3]; exact (Frm.refl _ _).alloc _)
    have B8 : Hid (Whole W3 y8 55 #[.int .u64 (ledm : Nat), .slice ra rn rc]) := Lib.hid (by rw [hW3, hy8]; exact Whole.made _ _ _)
    have HB3 : Hid (Whole W3 y5 28 #[.int .u64 (Ml : Nat), .int .u64 (Me : Nat), .slice aS sn cS]) := Lib.hid (FW3.out.whole HB.out (by simp))
    have HO3 : Hid (HxOwn W3 W2.heap.size 55 (y5 :: (g + 1) :: F) aS cS S) := Lib.hid (HO.out.keep FW3.out (by simp) (fun x hx => .inl hx))
    have F23 : Hid (Frm [y5] W2 W3) := Lib.hid (HF.out.trans FW3.out (by simp) (by simp))
    have HW3 := Lib.hid hW3; clear hW3
    have HY8 := Lib.hid hy8; clear hy8
    go_upto_region 9 with (fail)
    rw [← HW3.out, ← HY8.out]
    clear d0 d1 u0 u1 u2
    have v0 := B8.out.cell 0
    have v1 := B8.out.cell 1
    have u0 := HB3.out.cell 0
    have u2 := HB3.out.cell 2
    simp only [List.getElem?_toArray, List.getElem?_cons_zero, List.getElem?_cons_succ] at v0 v1 u0 u2
    by_cases g1 : ledm < Ml
    · have t1 : decide (ledm < Ml) = true := decide_eq_true g1
      have t1' : decide ((ledm : Int) < (Ml : Int)) = true := decide_eq_true (by omega)
      clear g1
      go_wp2
      go_roundw
      case rel => exact ⟨k + 1, last, aS, sn, cS, S, by omega, by omega, by go_num, rfl, by omega, HSN, HRG, HO3, HB3, F23⟩
      case measure => simp [intOf]; omega
    have t1 : decide (ledm < Ml) = false := decide_eq_false g1
    have t1' : decide ((ledm : Int) < (Ml : Int)) = false := decide_eq_false (by omega)
    have GE := Lib.hid g1
    by_cases g2 : ledm ≤ last
    · have t2 : decide (ledm ≤ last) = true := decide_eq_true g2
      have t2' : decide ((ledm : Int) ≤ (last : Int)) = true := decide_eq_true (by omega)
      by_cases g3 : 0 < k
      · have t3 : decide (0 < k) = true := decide_eq_true g3
        have t3' : decide ((0 : Int) < (k : Int)) = true := decide_eq_true (by omega)
        by_cases g4 : 0 < sn
        · have t4 : decide (0 < sn) = true := decide_eq_true g4
          have t4' : decide ((0 : Int) < (sn : Int)) = true := decide_eq_true (by omega)
          clear g1 g2 g3 g4
          go_wp2
          go_roundw
          case rel => exact ⟨k + 1, last, aS, sn, cS, S, by omega, by omega, by go_num, rfl, by omega, HSN, HRG, HO3, HB3, F23⟩
          case measure => simp [intOf]; omega
        · have t4 : decide (0 < sn) = false := decide_eq_false g4
          have t4' : decide ((0 : Int) < (sn : Int)) = false := decide_eq_false (by omega)
          have UP : Hid (S = [] ∨ last < ledm) := Lib.hid (.inl (List.eq_nil_of_length_eq_zero (by have := HSN.out; omega)))
          clear g1 g2 g3 g4
          go_wp2
          clear v0 v1 u0 u2
          go_loopw [9, 59] (fun s9 s59 wr => ∃ (j ln cL : Nat) (aL : Option Addr) (L : List Rg), j ≤ rn ∧ s59 = .int .i64 (j : Nat) ∧ s9 = .slice aL ln cL ∧ ln ≤ j ∧ ln ≤ 6 ∧ Hid (ln = L.length) ∧ Hid (OwnR wr W3.heap.size aL cL L) ∧ Hid (Bd L) ∧ Hid (Frm [] W3 wr)) (fun _ s59 _ => rn - (intOf s59).toNat)
          case atStart => exact ⟨0, 0, 0, none, [], Nat.zero_le _, rfl, rfl, Nat.le_refl _, by omega, Lib.hid rfl, Lib.hid (OwnR.nil _ _), Lib.hid (fun p hp => by simp at hp), Lib.hid (Frm.refl _ _)⟩
          case round =>
            obtain ⟨j, ln, cL, aL, L, hj, rfl, rfl, hlj, hl6, HLN, HOL, HBD, HFI⟩ := hrel
            by_cases hjr : j < rn
            · have hjr' : (j : Int) < (rn : Int) := by omega
              have RRI := OK.out.rs.keep0 (FW3.out.trans HFI.out (U := []) (by simp) (by simp))
              obtain ⟨rb, ro, rfl, hc⟩ := RRI.2 (by have := HRN.out; simp only at this ⊢; omega)
              obtain ⟨d0, d1⟩ := hc j (by have := HRN.out; simp only at this ⊢; omega)
              have hbd := getD_bd RRI.1 j
              obtain ⟨lo, hlo⟩ : ∃ lo, lo = (rs.getD j (0, 0)).1 := ⟨_, rfl⟩
              obtain ⟨hi, hhi⟩ : ∃ hi, hi = (rs.getD j (0, 0)).2 := ⟨_, rfl⟩
              simp only at d0 d1 hbd
              rw [← hlo] at d0 hbd
              rw [← hhi] at d1 hbd
              clear hlo hhi hc RRI
              obtain ⟨lo8, hlo8⟩ : ∃ q, q = lo % 8 := ⟨_, rfl⟩
              obtain ⟨hi9, hhi9⟩ : ∃ q, q = hi % 9 := ⟨_, rfl⟩
              have m1 : (lo : Int) % 8 = (lo8 : Int) := by omega
              have m2 : (lo : Int).tmod 8 = (lo8 : Int) := by rw [hlo8]; rfl
              have m3 : IntKind.u64.wrap (lo8 : Int) = (lo8 : Int) := by simp [IntKind.wrap, IntKind.bits, IntKind.signed]; omega
              have m4 : (hi : Int) % 9 = (hi9 : Int) := by omega
              have m5 : (hi : Int).tmod 9 = (hi9 : Int) := by rw [hhi9]; rfl
              have m6 : IntKind.u64.wrap (hi9 : Int) = (hi9 : Int) := by simp [IntKind.wrap, IntKind.bits, IntKind.signed]; omega
              have LHB : Hid (lo8 < 18446744073709551616 ∧ hi9 < 18446744073709551616) := Lib.hid ⟨by omega, by omega⟩
              clear hlo8 hhi9
              clear hbd
              obtain ⟨W6, hW6⟩ : ∃ W6, W6 = wr.alloc (.cells #[.int .u64 (lo8 : Nat), .int .u64 (hi9 : Nat)] 71) := ⟨_, rfl⟩
              obtain ⟨y11, hy11⟩ : ∃ y11, y11 = wr.heap.size := ⟨_, rfl⟩
              have F6 : Hid (Frm [] wr W6) := Lib.hid (by rw [hW6]; exact (Frm.refl _ _).alloc _)
              have B11 : Hid (Whole W6 y11 71 #[.int .u64 (lo8 : Nat), .int .u64 (hi9 : Nat)]) := Lib.hid (by rw [hW6, hy11]; exact Whole.made _ _ _)
              have F36 : Hid (Frm [] W3 W6) := Lib.hid (HFI.out.trans F6.out (by simp) (by simp))
              have OL6 : Hid (OwnR W6 W3.heap.size aL cL L) := Lib.hid (HOL.out.keep F6.out (by simp))
              have HW6 := Lib.hid hW6; clear hW6
              have HY11 := Lib.hid hy11; clear hy11
              go_upto_region 16 with (fail)
              rw [← HW6.out, ← HY11.out]
              clear d0 d1
              have x0 := B11.out.cell 0
              have x1 := B11.out.cell 1
              simp only [List.getElem?_toArray, List.getElem?_cons_zero, List.getElem?_cons_succ] at x0 x1
              by_cases g6 : j < 6
              · have t6 : decide (j < 6) = true := decide_eq_true g6
                have t6' : (j : Int) < 6 := by omega
                have hfit : ln + 1 ≤ 1000000 := by omega
                have hbz : W3.heap.size ≤ (W6.alloc (.cells #[.int .u64 (lo8 : Nat), .int .u64 (hi9 : Nat)] 71)).heap.size := by have := F36.out.size; simp; omega
                have OWN : Hid ((W6.alloc (.cells #[.int .u64 (lo8 : Nat), .int .u64 (hi9 : Nat)] 71)).ownsRow W3.heap.size 71 2 (.slice aL ln cL) ln (fl L)) := Lib.hid (by
                  rw [HLN.out]
                  exact OL6.out.keep (S := []) ((Frm.refl [] W6).alloc _) (by simp))
                have LNX : Hid (ln + 1 = (L ++ [((lo8, hi9) : Rg)]).length) := Lib.hid (by rw [List.length_append, ← HLN.out]; rfl)
                have J6 : Hid (ln + 1 ≤ j + 1 ∧ ln + 1 ≤ 6) := Lib.hid ⟨by omega, by omega⟩
                clear g6
                go_wp2_with (at_builtin; refine wpList_appR rfl (.tmp 75) (.tmp 77) 53 rfl W3.heap.size 71 j0 Try.underlying53 RI.out RZ0.out RZ1.out RZ2.out (.slice aL ln cL) ln (fl L) rfl OWN.out _ 1 1 [(lo8, hi9)] rfl (one_rg (lo8, hi9) LHB.out) rfl (by intro h; cases h) hfit hbz ?_)
                intro a7 c7 w7 happ
                have HO7 := Lib.hid (own_app happ HLN.out rfl)
                have HF7 : Hid (Frm [] W3 w7) := Lib.hid (frm_app (F36.out.alloc _) happ (fun x hx => .inr (HOL.out.lt x hx).1))
                clear happ x0 x1 hbz OWN
                go_wp2
                go_roundw
                case rel => exact ⟨j + 1, ln + 1, c7, a7, L ++ [((lo8, hi9) : Rg)], by omega, by go_num, rfl, J6.out.1, J6.out.2, LNX, HO7, Lib.hid (HBD.out.append (fun p hp => by rw [List.mem_singleton.1 hp]; exact LHB.out)), HF7⟩
                case measure => simp [intOf]; omega
              · have t6 : decide (j < 6) = false := decide_eq_false g6
                have t6' : ¬ (j : Int) < 6 := by omega
                clear g6
                go_wp2
                go_roundw
                case rel => exact ⟨j + 1, ln, cL, aL, L, by omega, by go_num, rfl, by omega, hl6, HLN, OL6, HBD, F36⟩
                case measure => simp [intOf]; omega
            · obtain rfl : j = rn := by omega
              obtain ⟨W9, hW9⟩ : ∃ W9, W9 = wr.alloc (.cells #[.int .u64 0, .int .u64 (Me : Nat)] 71) := ⟨_, rfl⟩
              obtain ⟨y12, hy12⟩ : ∃ y12, y12 = wr.heap.size := ⟨_, rfl⟩
              have F9 : Hid (Frm [] W3 W9) := Lib.hid (by rw [hW9]; exact HFI.out.alloc _)
              have FI9 : Hid (Frm [] wr W9) := Lib.hid (by rw [hW9]; exact (Frm.refl _ _).alloc _)
              have R9 : Hid (Rr W9 (some ⟨y12, 0, none⟩) [((0, Me) : Rg)]) := Lib.hid (by rw [hW9, hy12]; exact one_rg (0, Me) ⟨by show (0 : Nat) < _; omega, MF.out⟩)
              have HW9 := Lib.hid hW9; clear hW9
              have HY12 := Lib.hid hy12; clear hy12
              have bb5 := HFI.out.whole HB3.out (by simp)
              have x1 := bb5.cell 1
              simp only [List.getElem?_toArray, List.getElem?_cons_zero, List.getElem?_cons_succ] at x1
              clear bb5
              go_upto_region 20 with (fail)
              rw [← HW9.out, ← HY12.out]
              clear x1
              have HOL9 := Lib.hid (HOL.out.keep FI9.out (by simp))
              have RL9 := Lib.hid (HOL9.out.rr HBD.out)
              have bb8 := F9.out.whole B8.out (by simp)
              have bb5 := F9.out.whole HB3.out (by simp)
              have x0 := bb8.cell 0
              have x1 := bb5.cell 0
              simp only [List.getElem?_toArray, List.getElem?_cons_zero] at x0 x1
              clear bb8 bb5
              have GOT : Hid (∀ (v : Value) (R : List Rg) ab cb, v = .slice ab R.length cb → Rr W9 ab R → (ab = none → cb = 0) → R.length ≤ 1 → Calls Try.prog 34 #[.slice aL ln cL, v] W9 (GotX W9 (fun x => Mem L x ∧ ¬ Mem R x) 14)) := Lib.hid (fun v R ab cb hv hR hnl hR1 => by
                rw [hv]
                refine (set_any RL9.out.1 HLN.out RL9.out.2.1 hR rfl hnl (by omega)).mono fun e w' hg => ?_
                obtain ⟨out, h1, h2, h3, h4, h5⟩ := hg
                exact Got.x ⟨out, h1, h2, h3, h4, by omega⟩)
              by_cases g9 : Ml < ledm
              · have t9 : decide (Ml < ledm) = true := decide_eq_true g9
                have t9' : decide ((Ml : Int) < (ledm : Int)) = true := decide_eq_true (by omega)
                have t9'' : (Ml : Int) < (ledm : Int) := by omega
                have SET := Lib.hid (GOT.out (.slice none 0 0) [] none 0 rfl (Rr.nil _ _) (fun _ => rfl) (by simp))
                have MK : Hid (∀ (out : List Rg), (∀ x, Mem out x ↔ Mem L x ∧ ¬ Mem [] x) → ∀ e, Mem out e → ¬ (Ps.mk ledm e).lt ⟨Ml, Me⟩) := Lib.hid (fun out ho e he => by unfold Ps.lt; simp only; omega)
                clear g9
                go_wp2_with fail
                (with_reducible refine SET.out.mono ?_)
                rintro e w10 ⟨ao, ko, co, out, rfl, KO, OO, SO, FO⟩
                have F310 : Hid (Frm [] W3 w10) := Lib.hid (F9.out.trans FO.out (by simp) (by simp))
                have MKO := Lib.hid (MK.out out SO.out.2.1)
                have HO10 : Hid (HxOwn w10 W2.heap.size 55 (y5 :: (g + 1) :: F) aS cS S) := Lib.hid (HO3.out.keep F310.out (by simp) (fun x hx => .inl hx))
                have HB10 : Hid (Whole w10 y5 28 #[.int .u64 (Ml : Nat), .int .u64 (Me : Nat), .slice aS sn cS]) := Lib.hid (F310.out.whole HB3.out (by simp))
                have F210 : Hid (Frm [y5] W2 w10) := Lib.hid (F23.out.trans F310.out (by simp) (by simp))
                clear x0 x1 MK
                rcases Nat.eq_zero_or_pos ko with h0 | h0
                · have dg : ¬ (0 : Int) < (ko : Int) := by omega
                  clear h0
                  go_wp2
                  go_roundw
                  case rel => exact ⟨k + 1, last, aS, sn, cS, S, by omega, by omega, by go_num, rfl, by omega, HSN, HRG, HO10, HB10, F210⟩
                  case measure => simp [intOf]; omega
                · have dg : (0 : Int) < (ko : Int) := by omega
                  have NE : Hid (out ≠ []) := Lib.hid (fun h => by have := KO.out; rw [h] at this; simp at this; omega)
                  have hfit : sn + 1 ≤ 1000000000 := by omega
                  have WZ : Hid (W2.heap.size ≤ w10.heap.size) := Lib.hid F210.out.size
                  have hbz : W2.heap.size ≤ (w10.alloc (.cells #[.int .u64 (ledm : Nat), .slice ao ko co] 55)).heap.size := by have := WZ.out; simp; omega
                  have XNEW : Hid (∀ q, ao = some q → W3.heap.size ≤ q.block) := Lib.hid (fun q hq => by have h1 := OO.out.2.2 q hq; have h2 := F9.out.size; omega)
                  have XOK : Hid (HxOk w10 (y5 :: (g + 1) :: F) ⟨(ledm, out), ao, co⟩) := Lib.hid ⟨OO.out.1, fun _ q hq hm => by
                    have h1 := XNEW.out q hq
                    have h2 := FL.out _ hm
                    have h3 := F23.out.size
                    omega, OO.out.2.1.1, LN.out, OO.out.2.1.2⟩
                  have XB : Hid (∀ q, ao = some q → q.block ∉ blk aS) := Lib.hid (fun q hq hm => by
                    have h1 := XNEW.out q hq
                    have h2 := (HO3.out.blk_lt _ hm).2
                    omega)
                  obtain ⟨WA, hWA⟩ : ∃ WA, WA = w10.alloc (.cells #[.int .u64 (ledm : Nat), .slice ao ko co] 55) := ⟨_, rfl⟩
                  have FA10 : Hid (Frm [] w10 WA) := Lib.hid (by rw [hWA]; exact (Frm.refl _ _).alloc _)
                  have HO11 : Hid (HxOwn WA W2.heap.size 55 (y5 :: (g + 1) :: F) aS cS S) := Lib.hid (HO10.out.keep FA10.out (by simp) (fun x hx => .inl hx))
                  have OWN : Hid ((w10.alloc (.cells #[.int .u64 (ledm : Nat), .slice ao ko co] 55)).ownsRow W2.heap.size 55 2 (.slice aS sn cS) sn (hxc S)) := Lib.hid (by rw [← hWA, HSN.out]; exact HO11.out.own)
                  have ONE : Hid (ValsAt (w10.alloc (.cells #[.int .u64 (ledm : Nat), .slice ao ko co] 55)) (some ⟨w10.heap.size, 0, none⟩) (hxc [⟨(ledm, out), ao, co⟩])) := Lib.hid (by
                    have := hxvals_one w10 ⟨(ledm, out), ao, co⟩ 55
                    simp only at this
                    rw [← KO.out] at this
                    exact this)
                  have bb8 := F310.out.whole B8.out (by simp)
                  have x0 := bb8.cell 0
                  have x2 := HB10.out.cell 2
                  simp only [List.getElem?_toArray, List.getElem?_cons_zero, List.getElem?_cons_succ] at x0 x2
                  have HWA := Lib.hid hWA
                  clear h0 bb8 hWA
                  go_wp2_with (at_builtin; refine wpList_appS (by rfl) (.tmp 98) (.tmp 103) 26 rfl W2.heap.size 55 i0 (.agg #[.int .u64 0, .slice none 0 0]) 2 32 Try.underlying26 HI.out HZ0.out rfl (by decide) HZ1.out HZ2.out (by decide) (.slice aS sn cS) sn _ rfl OWN.out _ 1 1 _ rfl ONE.out rfl (hxc_one _) (fun h => by cases h) hfit hbz ?_)
                  intro a12 c12 w12 happ
                  rw [← HWA.out] at happ
                  have g12 := HO11.out.app (n := sn) (m := 1) (Y := [⟨(ledm, out), ao, co⟩]) HSN.out (fun y hy => by
                    simp only [List.mem_singleton] at hy
                    subst hy
                    have hq := XOK.out.keep (F' := y5 :: (g + 1) :: F) (S := []) FA10.out (by simp) (fun x hx => .inl hx)
                    exact ⟨hq.rs, fun hne q hq' hm => (List.mem_append.1 hm).elim (fun h1 => XB.out q hq' h1) (fun h1 => hq.away hne q hq' h1), hq.nil, hq.num, hq.room⟩) rfl (fun x hx => Nat.lt_of_lt_of_le (FL.out x hx) (Nat.le_trans WZ.out FA10.out.size)) happ
                  have HO12 := Lib.hid g12.1
                  have F2A : Hid (Frm [y5] W2 WA) := Lib.hid (F210.out.trans FA10.out (by simp) (by simp))
                  have F12 : Hid (Frm [y5] W2 w12) := Lib.hid (F2A.out.trans g12.2.1 (by simp) (fun x hx => .inr (HO.out.blk_lt x hx).1))
                  have NB5 : Hid (y5 ∉ blk aS) := Lib.hid (fun hm => by have := (HO.out.blk_lt _ hm).1; have := Y5.out; omega)
                  have HB12 : Hid (Whole w12 y5 28 #[.int .u64 (Ml : Nat), .int .u64 (Me : Nat), .slice aS sn cS]) := Lib.hid (g12.2.1.whole (FA10.out.whole HB10.out (by simp)) NB5.out)
                  have LNX : Hid (sn + 1 = (S ++ [(⟨(ledm, out), ao, co⟩ : Hx)]).length) := Lib.hid g12.2.2.2
                  have y2 := HB12.out.cell 2
                  have y3 := HB12.out.free 2
                  have bb8 := g12.2.1.whole (FA10.out.whole (F310.out.whole B8.out (by simp)) (by simp)) (fun hm => by have h1 := (HO3.out.blk_lt _ hm).2; have h2 := (HO.out.blk_lt _ hm).2; have h3 := HY8.out; omega)
                  have y0 := bb8.cell 0
                  simp only [List.getElem?_toArray, List.getElem?_cons_zero, List.getElem?_cons_succ] at y0 y2
                  have NE58 : Hid (y5 ≠ y8) := Lib.hid (by have h1 := HB.out.lt; have h3 := HY8.out; omega)
                  have y0' : (w12.setCell ⟨y5, 2, none⟩ (.slice a12 (sn + 1 : Nat) c12)).cell? ⟨y8, 0, none⟩ = some (.int .u64 (ledm : Nat)) := (bb8.other (p := ⟨y5, 2, none⟩) (by show y8 ≠ y5; exact fun h => NE58.out h.symm) _).cell 0
                  have NX := Lib.hid (HO12.out.keep (S := [y5]) (F' := y5 :: (g + 1) :: F) ((Frm.refl [y5] w12).setCell (.inl (by simp)) (p := ⟨y5, 2, none⟩) (.slice a12 (sn + 1 : Nat) c12)) (fun x hx => .inl (by simp at hx; simp [hx])) (fun x hx => .inl hx))
                  have NB : Hid (Whole (w12.setCell ⟨y5, 2, none⟩ (.slice a12 (sn + 1 : Nat) c12)) y5 28 #[.int .u64 (Ml : Nat), .int .u64 (Me : Nat), .slice a12 (sn + 1 : Nat) c12]) := Lib.hid (by
                    have := HB12.out.put 2 (.slice a12 (sn + 1 : Nat) c12)
                    simpa using this)
                  have NF : Hid (Frm [y5] W2 (w12.setCell ⟨y5, 2, none⟩ (.slice a12 (sn + 1 : Nat) c12))) := Lib.hid (F12.out.setCell (.inl (by simp)) _)
                  have NR : Hid (Rgt ⟨Ml, Me⟩ (hels (S ++ [(⟨(ledm, out), ao, co⟩ : Hx)])) ledm) := Lib.hid (by
                    rw [hels_append]
                    exact HRG.out.snoc (x := (ledm, out)) (UP.out.imp (fun h => by rw [h]; rfl) id) NE.out SO.out.1 SO.out.2.2 MKO.out)
                  clear happ g12 hbz OWN ONE x0 x2 bb8 y0
                  go_wp2
                  go_roundw
                  case rel => exact ⟨k + 1, ledm, a12, sn + 1, c12, S ++ [(⟨(ledm, out), ao, co⟩ : Hx)], by omega, by omega, by go_num, rfl, by omega, LNX, NR, NX, NB, NF⟩
                  case measure => simp [intOf]; omega
              · have t9 : decide (Ml < ledm) = false := decide_eq_false g9
                have t9' : decide ((Ml : Int) < (ledm : Int)) = false := decide_eq_false (by omega)
                have t9'' : ¬ (Ml : Int) < (ledm : Int) := by omega
                have SET := Lib.hid (GOT.out (.slice (some ⟨y12, 0, none⟩) 1 1) [((0, Me) : Rg)] _ 1 rfl R9.out (fun h => by cases h) (by simp))
                have MK : Hid (∀ (out : List Rg), (∀ x, Mem out x ↔ Mem L x ∧ ¬ Mem [((0, Me) : Rg)] x) → ∀ e, Mem out e → ¬ (Ps.mk ledm e).lt ⟨Ml, Me⟩) := Lib.hid (fun out ho e he => by
                  have h1 := ((ho e).1 he).2
                  have h2 : ¬ e < Me := fun h3 => h1 ⟨(0, Me), by simp, Nat.zero_le _, h3⟩
                  have h4 := GE.out
                  unfold Ps.lt; simp only; omega)
                clear g9
                go_wp2_with fail
                (with_reducible refine SET.out.mono ?_)
                rintro e w10 ⟨ao, ko, co, out, rfl, KO, OO, SO, FO⟩
                have F310 : Hid (Frm [] W3 w10) := Lib.hid (F9.out.trans FO.out (by simp) (by simp))
                have MKO := Lib.hid (MK.out out SO.out.2.1)
                have HO10 : Hid (HxOwn w10 W2.heap.size 55 (y5 :: (g + 1) :: F) aS cS S) := Lib.hid (HO3.out.keep F310.out (by simp) (fun x hx => .inl hx))
                have HB10 : Hid (Whole w10 y5 28 #[.int .u64 (Ml : Nat), .int .u64 (Me : Nat), .slice aS sn cS]) := Lib.hid (F310.out.whole HB3.out (by simp))
                have F210 : Hid (Frm [y5] W2 w10) := Lib.hid (F23.out.trans F310.out (by simp) (by simp))
                clear x0 x1 MK
                rcases Nat.eq_zero_or_pos ko with h0 | h0
                · have dg : ¬ (0 : Int) < (ko : Int) := by omega
                  clear h0
                  go_wp2
                  go_roundw
                  case rel => exact ⟨k + 1, last, aS, sn, cS, S, by omega, by omega, by go_num, rfl, by omega, HSN, HRG, HO10, HB10, F210⟩
                  case measure => simp [intOf]; omega
                · have dg : (0 : Int) < (ko : Int) := by omega
                  have NE : Hid (out ≠ []) := Lib.hid (fun h => by have := KO.out; rw [h] at this; simp at this; omega)
                  have hfit : sn + 1 ≤ 1000000000 := by omega
                  have WZ : Hid (W2.heap.size ≤ w10.heap.size) := Lib.hid F210.out.size
                  have hbz : W2.heap.size ≤ (w10.alloc (.cells #[.int .u64 (ledm : Nat), .slice ao ko co] 55)).heap.size := by have := WZ.out; simp; omega
                  have XNEW : Hid (∀ q, ao = some q → W3.heap.size ≤ q.block) := Lib.hid (fun q hq => by have h1 := OO.out.2.2 q hq; have h2 := F9.out.size; omega)
                  have XOK : Hid (HxOk w10 (y5 :: (g + 1) :: F) ⟨(ledm, out), ao, co⟩) := Lib.hid ⟨OO.out.1, fun _ q hq hm => by
                    have h1 := XNEW.out q hq
                    have h2 := FL.out _ hm
                    have h3 := F23.out.size
                    omega, OO.out.2.1.1, LN.out, OO.out.2.1.2⟩
                  have XB : Hid (∀ q, ao = some q → q.block ∉ blk aS) := Lib.hid (fun q hq hm => by
                    have h1 := XNEW.out q hq
                    have h2 := (HO3.out.blk_lt _ hm).2
                    omega)
                  obtain ⟨WA, hWA⟩ : ∃ WA, WA = w10.alloc (.cells #[.int .u64 (ledm : Nat), .slice ao ko co] 55) := ⟨_, rfl⟩
                  have FA10 : Hid (Frm [] w10 WA) := Lib.hid (by rw [hWA]; exact (Frm.refl _ _).alloc _)
                  have HO11 : Hid (HxOwn WA W2.heap.size 55 (y5 :: (g + 1) :: F) aS cS S) := Lib.hid (HO10.out.keep FA10.out (by simp) (fun x hx => .inl hx))
                  have OWN : Hid ((w10.alloc (.cells #[.int .u64 (ledm : Nat), .slice ao ko co] 55)).ownsRow W2.heap.size 55 2 (.slice aS sn cS) sn (hxc S)) := Lib.hid (by rw [← hWA, HSN.out]; exact HO11.out.own)
                  have ONE : Hid (ValsAt (w10.alloc (.cells #[.int .u64 (ledm : Nat), .slice ao ko co] 55)) (some ⟨w10.heap.size, 0, none⟩) (hxc [⟨(ledm, out), ao, co⟩])) := Lib.hid (by
                    have := hxvals_one w10 ⟨(ledm, out), ao, co⟩ 55
                    simp only at this
                    rw [← KO.out] at this
                    exact this)
                  have bb8 := F310.out.whole B8.out (by simp)
                  have x0 := bb8.cell 0
                  have x2 := HB10.out.cell 2
                  simp only [List.getElem?_toArray, List.getElem?_cons_zero, List.getElem?_cons_succ] at x0 x2
                  have HWA := Lib.hid hWA
                  clear h0 bb8 hWA
                  go_wp2_with (at_builtin; refine wpList_appS (by rfl) (.tmp 98) (.tmp 103) 26 rfl W2.heap.size 55 i0 (.agg #[.int .u64 0, .slice none 0 0]) 2 32 Try.underlying26 HI.out HZ0.out rfl (by decide) HZ1.out HZ2.out (by decide) (.slice aS sn cS) sn _ rfl OWN.out _ 1 1 _ rfl ONE.out rfl (hxc_one _) (fun h => by cases h) hfit hbz ?_)
                  intro a12 c12 w12 happ
                  rw [← HWA.out] at happ
                  have g12 := HO11.out.app (n := sn) (m := 1) (Y := [⟨(ledm, out), ao, co⟩]) HSN.out (fun y hy => by
                    simp only [List.mem_singleton] at hy
                    subst hy
                    have hq := XOK.out.keep (F' := y5 :: (g + 1) :: F) (S := []) FA10.out (by simp) (fun x hx => .inl hx)
                    exact ⟨hq.rs, fun hne q hq' hm => (List.mem_append.1 hm).elim (fun h1 => XB.out q hq' h1) (fun h1 => hq.away hne q hq' h1), hq.nil, hq.num, hq.room⟩) rfl (fun x hx => Nat.lt_of_lt_of_le (FL.out x hx) (Nat.le_trans WZ.out FA10.out.size)) happ
                  have HO12 := Lib.hid g12.1
                  have F2A : Hid (Frm [y5] W2 WA) := Lib.hid (F210.out.trans FA10.out (by simp) (by simp))
                  have F12 : Hid (Frm [y5] W2 w12) := Lib.hid (F2A.out.trans g12.2.1 (by simp) (fun x hx => .inr (HO.out.blk_lt x hx).1))
                  have NB5 : Hid (y5 ∉ blk aS) := Lib.hid (fun hm => by have := (HO.out.blk_lt _ hm).1; have := Y5.out; omega)
                  have HB12 : Hid (Whole w12 y5 28 #[.int .u64 (Ml : Nat), .int .u64 (Me : Nat), .slice aS sn cS]) := Lib.hid (g12.2.1.whole (FA10.out.whole HB10.out (by simp)) NB5.out)
                  have LNX : Hid (sn + 1 = (S ++ [(⟨(ledm, out), ao, co⟩ : Hx)]).length) := Lib.hid g12.2.2.2
                  have y2 := HB12.out.cell 2
                  have y3 := HB12.out.free 2
                  have bb8 := g12.2.1.whole (FA10.out.whole (F310.out.whole B8.out (by simp)) (by simp)) (fun hm => by have h1 := (HO3.out.blk_lt _ hm).2; have h2 := (HO.out.blk_lt _ hm).2; have h3 := HY8.out; omega)
                  have y0 := bb8.cell 0
                  simp only [List.getElem?_toArray, List.getElem?_cons_zero, List.getElem?_cons_succ] at y0 y2
                  have NE58 : Hid (y5 ≠ y8) := Lib.hid (by have h1 := HB.out.lt; have h3 := HY8.out; omega)
                  have y0' : (w12.setCell ⟨y5, 2, none⟩ (.slice a12 (sn + 1 : Nat) c12)).cell? ⟨y8, 0, none⟩ = some (.int .u64 (ledm : Nat)) := (bb8.other (p := ⟨y5, 2, none⟩) (by show y8 ≠ y5; exact fun h => NE58.out h.symm) _).cell 0
                  have NX := Lib.hid (HO12.out.keep (S := [y5]) (F' := y5 :: (g + 1) :: F) ((Frm.refl [y5] w12).setCell (.inl (by simp)) (p := ⟨y5, 2, none⟩) (.slice a12 (sn + 1 : Nat) c12)) (fun x hx => .inl (by simp at hx; simp [hx])) (fun x hx => .inl hx))
                  have NB : Hid (Whole (w12.setCell ⟨y5, 2, none⟩ (.slice a12 (sn + 1 : Nat) c12)) y5 28 #[.int .u64 (Ml : Nat), .int .u64 (Me : Nat), .slice a12 (sn + 1 : Nat) c12]) := Lib.hid (by
                    have := HB12.out.put 2 (.slice a12 (sn + 1 : Nat) c12)
                    simpa using this)
                  have NF : Hid (Frm [y5] W2 (w12.setCell ⟨y5, 2, none⟩ (.slice a12 (sn + 1 : Nat) c12))) := Lib.hid (F12.out.setCell (.inl (by simp)) _)
                  have NR : Hid (Rgt ⟨Ml, Me⟩ (hels (S ++ [(⟨(ledm, out), ao, co⟩ : Hx)])) ledm) := Lib.hid (by
                    rw [hels_append]
                    exact HRG.out.snoc (x := (ledm, out)) (UP.out.imp (fun h => by rw [h]; rfl) id) NE.out SO.out.1 SO.out.2.2 MKO.out)
                  clear happ g12 hbz OWN ONE x0 x2 bb8 y0
                  go_wp2
                  go_roundw
                  case rel => exact ⟨k + 1, ledm, a12, sn + 1, c12, S ++ [(⟨(ledm, out), ao, co⟩ : Hx)], by omega, by omega, by go_num, rfl, by omega, LNX, NR, NX, NB, NF⟩
                  case measure => simp [intOf]; omega
      · have t3 : decide (0 < k) = false := decide_eq_false g3
        have t3' : decide ((0 : Int) < (k : Int)) = false := decide_eq_false (by omega)
        have UP : Hid (S = [] ∨ last < ledm) := Lib.hid (.inl (List.eq_nil_of_length_eq_zero (by have := HSN.out; omega)))
        clear g1 g2 g3
        go_wp2
        clear v0 v1 u0 u2
        go_loopw [9, 59] (fun s9 s59 wr => ∃ (j ln cL : Nat) (aL : Option Addr) (L : List Rg), j ≤ rn ∧ s59 = .int .i64 (j : Nat) ∧ s9 = .slice aL ln cL ∧ ln ≤ j ∧ ln ≤ 6 ∧ Hid (ln = L.length) ∧ Hid (OwnR wr W3.heap.size aL cL L) ∧ Hid (Bd L) ∧ Hid (Frm [] W3 wr)) (fun _ s59 _ => rn - (intOf s59).toNat)
        case atStart => exact ⟨0, 0, 0, none, [], Nat.zero_le _, rfl, rfl, Nat.le_refl _, by omega, Lib.hid rfl, Lib.hid (OwnR.nil _ _), Lib.hid (fun p hp => by simp at hp), Lib.hid (Frm.refl _ _)⟩
        case round =>
          obtain ⟨j, ln, cL, aL, L, hj, rfl, rfl, hlj, hl6, HLN, HOL, HBD, HFI⟩ := hrel
          by_cases hjr : j < rn
          · have hjr' : (j : Int) < (rn : Int) := by omega
            have RRI := OK.out.rs.keep0 (FW3.out.trans HFI.out (U := []) (by simp) (by simp))
            obtain ⟨rb, ro, rfl, hc⟩ := RRI.2 (by have := HRN.out; simp only at this ⊢; omega)
            obtain ⟨d0, d1⟩ := hc j (by have := HRN.out; simp only at this ⊢; omega)
            have hbd := getD_bd RRI.1 j
            obtain ⟨lo, hlo⟩ : ∃ lo, lo = (rs.getD j (0, 0)).1 := ⟨_, rfl⟩
            obtain ⟨hi, hhi⟩ : ∃ hi, hi = (rs.getD j (0, 0)).2 := ⟨_, rfl⟩
            simp only at d0 d1 hbd
            rw [← hlo] at d0 hbd
            rw [← hhi] at d1 hbd
            clear hlo hhi hc RRI
            obtain ⟨lo8, hlo8⟩ : ∃ q, q = lo % 8 := ⟨_, rfl⟩
            obtain ⟨hi9, hhi9⟩ : ∃ q, q = hi % 9 := ⟨_, rfl⟩
            have m1 : (lo : Int) % 8 = (lo8 : Int) := by omega
            have m2 : (lo : Int).tmod 8 = (lo8 : Int) := by rw [hlo8]; rfl
            have m3 : IntKind.u64.wrap (lo8 : Int) = (lo8 : Int) := by simp [IntKind.wrap, IntKind.bits, IntKind.signed]; omega
            have m4 : (hi : Int) % 9 = (hi9 : Int) := by omega
            have m5 : (hi : Int).tmod 9 = (hi9 : Int) := by rw [hhi9]; rfl
            have m6 : IntKind.u64.wrap (hi9 : Int) = (hi9 : Int) := by simp [IntKind.wrap, IntKind.bits, IntKind.signed]; omega
            have LHB : Hid (lo8 < 18446744073709551616 ∧ hi9 < 18446744073709551616) := Lib.hid ⟨by omega, by omega⟩
            clear hlo8 hhi9
            clear hbd
            obtain ⟨W6, hW6⟩ : ∃ W6, W6 = wr.alloc (.cells #[.int .u64 (lo8 : Nat), .int .u64 (hi9 : Nat)] 71) := ⟨_, rfl⟩
            obtain ⟨y11, hy11⟩ : ∃ y11, y11 = wr.heap.size := ⟨_, rfl⟩
            have F6 : Hid (Frm [] wr W6) := Lib.hid (by rw [hW6]; exact (Frm.refl _ _).alloc _)
            have B11 : Hid (Whole W6 y11 71 #[.int .u64 (lo8 : Nat), .int .u64 (hi9 : Nat)]) := Lib.hid (by rw [hW6, hy11]; exact Whole.made _ _ _)
            have F36 : Hid (Frm [] W3 W6) := Lib.hid (HFI.out.trans F6.out (by simp) (by simp))
            have OL6 : Hid (OwnR W6 W3.heap.size aL cL L) := Lib.hid (HOL.out.keep F6.out (by simp))
            have HW6 := Lib.hid hW6; clear hW6
            have HY11 := Lib.hid hy11; clear hy11
            go_upto_region 16 with (fail)
            rw [← HW6.out, ← HY11.out]
            clear d0 d1
            have x0 := B11.out.cell 0
            have x1 := B11.out.cell 1
            simp only [List.getElem?_toArray, List.getElem?_cons_zero, List.getElem?_cons_succ] at x0 x1
            by_cases g6 : j < 6
            · have t6 : decide (j < 6) = true := decide_eq_true g6
              have t6' : (j : Int) < 6 := by omega
              have hfit : ln + 1 ≤ 1000000 := by omega
              have hbz : W3.heap.size ≤ (W6.alloc (.cells #[.int .u64 (lo8 : Nat), .int .u64 (hi9 : Nat)] 71)).heap.size := by have := F36.out.size; simp; omega
              have OWN : Hid ((W6.alloc (.cells #[.int .u64 (lo8 : Nat), .int .u64 (hi9 : Nat)] 71)).ownsRow W3.heap.size 71 2 (.slice aL ln cL) ln (fl L)) := Lib.hid (by
                rw [HLN.out]
                exact OL6.out.keep (S := []) ((Frm.refl [] W6).alloc _) (by simp))
              have LNX : Hid (ln + 1 = (L ++ [((lo8, hi9) : Rg)]).length) := Lib.hid (by rw [List.length_append, ← HLN.out]; rfl)
              have J6 : Hid (ln + 1 ≤ j + 1 ∧ ln + 1 ≤ 6) := Lib.hid ⟨by omega, by omega⟩
              clear g6
              go_wp2_with (at_builtin; refine wpList_appR rfl (.tmp 75) (.tmp 77) 53 rfl W3.heap.size 71 j0 Try.underlying53 RI.out RZ0.out RZ1.out RZ2.out (.slice aL ln cL) ln (fl L) rfl OWN.out _ 1 1 [(lo8, hi9)] rfl (one_rg (lo8, hi9) LHB.out) rfl (by intro h; cases h) hfit hbz ?_)
              intro a7 c7 w7 happ
              have HO7 := Lib.hid (own_app happ HLN.out rfl)
              have HF7 : Hid (Frm [] W3 w7) := Lib.hid (frm_app (F36.out.alloc _) happ (fun x hx => .inr (HOL.out.lt x hx).1))
              clear happ x0 x1 hbz OWN
              go_wp2
              go_roundw
              case rel => exact ⟨j + 1, ln + 1, c7, a7, L ++ [((lo8, hi9) : Rg)], by omega, by go_num, rfl, J6.out.1, J6.out.2, LNX, HO7, Lib.hid (HBD.out.append (fun p hp => by rw [List.mem_singleton.1 hp]; exact LHB.out)), HF7⟩
              case measure => simp [intOf]; omega
            · have t6 : decide (j < 6) = false := decide_eq_false g6
              have t6' : ¬ (j : Int) < 6 := by omega
              clear g6
              go_wp2
              go_roundw
              case rel => exact ⟨j + 1, ln, cL, aL, L, by omega, by go_num, rfl, by omega, hl6, HLN, OL6, HBD, F36⟩
              case measure => simp [intOf]; omega
          · obtain rfl : j = rn := by omega
            obtain ⟨W9, hW9⟩ : ∃ W9, W9 = wr.alloc (.cells #[.int .u64 0, .int .u64 (Me : Nat)] 71) := ⟨_, rfl⟩
            obtain ⟨y12, hy12⟩ : ∃ y12, y12 = wr.heap.size := ⟨_, rfl⟩
            have F9 : Hid (Frm [] W3 W9) := Lib.hid (by rw [hW9]; exact HFI.out.alloc _)
            have FI9 : Hid (Frm [] wr W9) := Lib.hid (by rw [hW9]; exact (Frm.refl _ _).alloc _)
            have R9 : Hid (Rr W9 (some ⟨y12, 0, none⟩) [((0, Me) : Rg)]) := Lib.hid (by rw [hW9, hy12]; exact one_rg (0, Me) ⟨by show (0 : Nat) < _; omega, MF.out⟩)
            have HW9 := Lib.hid hW9; clear hW9
            have HY12 := Lib.hid hy12; clear hy12
            have bb5 := HFI.out.whole HB3.out (by simp)
            have x1 := bb5.cell 1
            simp only [List.getElem?_toArray, List.getElem?_cons_zero, List.getElem?_cons_succ] at x1
            clear bb5
            go_upto_region 20 with (fail)
            rw [← HW9.out, ← HY12.out]
            clear x1
            have HOL9 := Lib.hid (HOL.out.keep FI9.out (by simp))
            have RL9 := Lib.hid (HOL9.out.rr HBD.out)
            have bb8 := F9.out.whole B8.out (by simp)
            have bb5 := F9.out.whole HB3.out (by simp)
            have x0 := bb8.cell 0
            have x1 := bb5.cell 0
            simp only [List.getElem?_toArray, List.getElem?_cons_zero] at x0 x1
            clear bb8 bb5
            have GOT : Hid (∀ (v : Value) (R : List Rg) ab cb, v = .slice ab R.length cb → Rr W9 ab R → (ab = none → cb = 0) → R.length ≤ 1 → Calls Try.prog 34 #[.slice aL ln cL, v] W9 (GotX W9 (fun x => Mem L x ∧ ¬ Mem R x) 14)) := Lib.hid (fun v R ab cb hv hR hnl hR1 => by
              rw [hv]
              refine (set_any RL9.out.1 HLN.out RL9.out.2.1 hR rfl hnl (by omega)).mono fun e w' hg => ?_
              obtain ⟨out, h1, h2, h3, h4, h5⟩ := hg
              exact Got.x ⟨out, h1, h2, h3, h4, by omega⟩)
            by_cases g9 : Ml < ledm
            · have t9 : decide (Ml < ledm) = true := decide_eq_true g9
              have t9' : decide ((Ml : Int) < (ledm : Int)) = true := decide_eq_true (by omega)
              have t9'' : (Ml : Int) < (ledm : Int) := by omega
              have SET := Lib.hid (GOT.out (.slice none 0 0) [] none 0 rfl (Rr.nil _ _) (fun _ => rfl) (by simp))
              have MK : Hid (∀ (out : List Rg), (∀ x, Mem out x ↔ Mem L x ∧ ¬ Mem [] x) → ∀ e, Mem out e → ¬ (Ps.mk ledm e).lt ⟨Ml, Me⟩) := Lib.hid (fun out ho e he => by unfold Ps.lt; simp only; omega)
              clear g9
              go_wp2_with fail
              (with_reducible refine SET.out.mono ?_)
              rintro e w10 ⟨ao, ko, co, out, rfl, KO, OO, SO, FO⟩
              have F310 : Hid (Frm [] W3 w10) := Lib.hid (F9.out.trans FO.out (by simp) (by simp))
              have MKO := Lib.hid (MK.out out SO.out.2.1)
              have HO10 : Hid (HxOwn w10 W2.heap.size 55 (y5 :: (g + 1) :: F) aS cS S) := Lib.hid (HO3.out.keep F310.out (by simp) (fun x hx => .inl hx))
              have HB10 : Hid (Whole w10 y5 28 #[.int .u64 (Ml : Nat), .int .u64 (Me : Nat), .slice aS sn cS]) := Lib.hid (F310.out.whole HB3.out (by simp))
              have F210 : Hid (Frm [y5] W2 w10) := Lib.hid (F23.out.trans F310.out (by simp) (by simp))
              clear x0 x1 MK
              rcases Nat.eq_zero_or_pos ko with h0 | h0
              · have dg : ¬ (0 : Int) < (ko : Int) := by omega
                clear h0
                go_wp2
                go_roundw
                case rel => exact ⟨k + 1, last, aS, sn, cS, S, by omega, by omega, by go_num, rfl, by omega, HSN, HRG, HO10, HB10, F210⟩
                case measure => simp [intOf]; omega
              · have dg : (0 : Int) < (ko : Int) := by omega
                have NE : Hid (out ≠ []) := Lib.hid (fun h => by have := KO.out; rw [h] at this; simp at this; omega)
                have hfit : sn + 1 ≤ 1000000000 := by omega
                have WZ : Hid (W2.heap.size ≤ w10.heap.size) := Lib.hid F210.out.size
                have hbz : W2.heap.size ≤ (w10.alloc (.cells #[.int .u64 (ledm : Nat), .slice ao ko co] 55)).heap.size := by have := WZ.out; simp; omega
                have XNEW : Hid (∀ q, ao = some q → W3.heap.size ≤ q.block) := Lib.hid (fun q hq => by have h1 := OO.out.2.2 q hq; have h2 := F9.out.size; omega)
                have XOK : Hid (HxOk w10 (y5 :: (g + 1) :: F) ⟨(ledm, out), ao, co⟩) := Lib.hid ⟨OO.out.1, fun _ q hq hm => by
                  have h1 := XNEW.out q hq
                  have h2 := FL.out _ hm
                  have h3 := F23.out.size
                  omega, OO.out.2.1.1, LN.out, OO.out.2.1.2⟩
                have XB : Hid (∀ q, ao = some q → q.block ∉ blk aS) := Lib.hid (fun q hq hm => by
                  have h1 := XNEW.out q hq
                  have h2 := (HO3.out.blk_lt _ hm).2
                  omega)
                obtain ⟨WA, hWA⟩ : ∃ WA, WA = w10.alloc (.cells #[.int .u64 (ledm : Nat), .slice ao ko co] 55) := ⟨_, rfl⟩
                have FA10 : Hid (Frm [] w10 WA) := Lib.hid (by rw [hWA]; exact (Frm.refl _ _).alloc _)
                have HO11 : Hid (HxOwn WA W2.heap.size 55 (y5 :: (g + 1) :: F) aS cS S) := Lib.hid (HO10.out.keep FA10.out (by simp) (fun x hx => .inl hx))
                have OWN : Hid ((w10.alloc (.cells #[.int .u64 (ledm : Nat), .slice ao ko co] 55)).ownsRow W2.heap.size 55 2 (.slice aS sn cS) sn (hxc S)) := Lib.hid (by rw [← hWA, HSN.out]; exact HO11.out.own)
                have ONE : Hid (ValsAt (w10.alloc (.cells #[.int .u64 (ledm : Nat), .slice ao ko co] 55)) (some ⟨w10.heap.size, 0, none⟩) (hxc [⟨(ledm, out), ao, co⟩])) := Lib.hid (by
                  have := hxvals_one w10 ⟨(ledm, out), ao, co⟩ 55
                  simp only at this
                  rw [← KO.out] at this
                  exact this)
                have bb8 := F310.out.whole B8.out (by simp)
                have x0 := bb8.cell 0
                have x2 := HB10.out.cell 2
                simp only [List.getElem?_toArray, List.getElem?_cons_zero, List.getElem?_cons_succ] at x0 x2
                have HWA := Lib.hid hWA
                clear h0 bb8 hWA
                go_wp2_with (at_builtin; refine wpList_appS (by rfl) (.tmp 98) (.tmp 103) 26 rfl W2.heap.size 55 i0 (.agg #[.int .u64 0, .slice none 0 0]) 2 32 Try.underlying26 HI.out HZ0.out rfl (by decide) HZ1.out HZ2.out (by decide) (.slice aS sn cS) sn _ rfl OWN.out _ 1 1 _ rfl ONE.out rfl (hxc_one _) (fun h => by cases h) hfit hbz ?_)
                intro a12 c12 w12 happ
                rw [← HWA.out] at happ
                have g12 := HO11.out.app (n := sn) (m := 1) (Y := [⟨(ledm, out), ao, co⟩]) HSN.out (fun y hy => by
                  simp only [List.mem_singleton] at hy
                  subst hy
                  have hq := XOK.out.keep (F' := y5 :: (g + 1) :: F) (S := []) FA10.out (by simp) (fun x hx => .inl hx)
                  exact ⟨hq.rs, fun hne q hq' hm => (List.mem_append.1 hm).elim (fun h1 => XB.out q hq' h1) (fun h1 => hq.away hne q hq' h1), hq.nil, hq.num, hq.room⟩) rfl (fun x hx => Nat.lt_of_lt_of_le (FL.out x hx) (Nat.le_trans WZ.out FA10.out.size)) happ
                have HO12 := Lib.hid g12.1
                have F2A : Hid (Frm [y5] W2 WA) := Lib.hid (F210.out.trans FA10.out (by simp) (by simp))
                have F12 : Hid (Frm [y5] W2 w12) := Lib.hid (F2A.out.trans g12.2.1 (by simp) (fun x hx => .inr (HO.out.blk_lt x hx).1))
                have NB5 : Hid (y5 ∉ blk aS) := Lib.hid (fun hm => by have := (HO.out.blk_lt _ hm).1; have := Y5.out; omega)
                have HB12 : Hid (Whole w12 y5 28 #[.int .u64 (Ml : Nat), .int .u64 (Me : Nat), .slice aS sn cS]) := Lib.hid (g12.2.1.whole (FA10.out.whole HB10.out (by simp)) NB5.out)
                have LNX : Hid (sn + 1 = (S ++ [(⟨(ledm, out), ao, co⟩ : Hx)]).length) := Lib.hid g12.2.2.2
                have y2 := HB12.out.cell 2
                have y3 := HB12.out.free 2
                have bb8 := g12.2.1.whole (FA10.out.whole (F310.out.whole B8.out (by simp)) (by simp)) (fun hm => by have h1 := (HO3.out.blk_lt _ hm).2; have h2 := (HO.out.blk_lt _ hm).2; have h3 := HY8.out; omega)
                have y0 := bb8.cell 0
                simp only [List.getElem?_toArray, List.getElem?_cons_zero, List.getElem?_cons_succ] at y0 y2
                have NE58 : Hid (y5 ≠ y8) := Lib.hid (by have h1 := HB.out.lt; have h3 := HY8.out; omega)
                have y0' : (w12.setCell ⟨y5, 2, none⟩ (.slice a12 (sn + 1 : Nat) c12)).cell? ⟨y8, 0, none⟩ = some (.int .u64 (ledm : Nat)) := (bb8.other (p := ⟨y5, 2, none⟩) (by show y8 ≠ y5; exact fun h => NE58.out h.symm) _).cell 0
                have NX := Lib.hid (HO12.out.keep (S := [y5]) (F' := y5 :: (g + 1) :: F) ((Frm.refl [y5] w12).setCell (.inl (by simp)) (p := ⟨y5, 2, none⟩) (.slice a12 (sn + 1 : Nat) c12)) (fun x hx => .inl (by simp at hx; simp [hx])) (fun x hx => .inl hx))
                have NB : Hid (Whole (w12.setCell ⟨y5, 2, none⟩ (.slice a12 (sn + 1 : Nat) c12)) y5 28 #[.int .u64 (Ml : Nat), .int .u64 (Me : Nat), .slice a12 (sn + 1 : Nat) c12]) := Lib.hid (by
                  have := HB12.out.put 2 (.slice a12 (sn + 1 : Nat) c12)
                  simpa using this)
                have NF : Hid (Frm [y5] W2 (w12.setCell ⟨y5, 2, none⟩ (.slice a12 (sn + 1 : Nat) c12))) := Lib.hid (F12.out.setCell (.inl (by simp)) _)
                have NR : Hid (Rgt ⟨Ml, Me⟩ (hels (S ++ [(⟨(ledm, out), ao, co⟩ : Hx)])) ledm) := Lib.hid (by
                  rw [hels_append]
                  exact HRG.out.snoc (x := (ledm, out)) (UP.out.imp (fun h => by rw [h]; rfl) id) NE.out SO.out.1 SO.out.2.2 MKO.out)
                clear happ g12 hbz OWN ONE x0 x2 bb8 y0
                go_wp2
                go_roundw
                case rel => exact ⟨k + 1, ledm, a12, sn + 1, c12, S ++ [(⟨(ledm, out), ao, co⟩ : Hx)], by omega, by omega, by go_num, rfl, by omega, LNX, NR, NX, NB, NF⟩
                case measure => simp [intOf]; omega
            · have t9 : decide (Ml < ledm) = false := decide_eq_false g9
              have t9' : decide ((Ml : Int) < (ledm : Int)) = false := decide_eq_false (by omega)
              have t9'' : ¬ (Ml : Int) < (ledm : Int) := by omega
              have SET := Lib.hid (GOT.out (.slice (some ⟨y12, 0, none⟩) 1 1) [((0, Me) : Rg)] _ 1 rfl R9.out (fun h => by cases h) (by simp))
              have MK : Hid (∀ (out : List Rg), (∀ x, Mem out x ↔ Mem L x ∧ ¬ Mem [((0, Me) : Rg)] x) → ∀ e, Mem out e → ¬ (Ps.mk ledm e).lt ⟨Ml, Me⟩) := Lib.hid (fun out ho e he => by
                have h1 := ((ho e).1 he).2
                have h2 : ¬ e < Me := fun h3 => h1 ⟨(0, Me), by simp, Nat.zero_le _, h3⟩
                have h4 := GE.out
                unfold Ps.lt; simp only; omega)
              clear g9
              go_wp2_with fail
              (with_reducible refine SET.out.mono ?_)
              rintro e w10 ⟨ao, ko, co, out, rfl, KO, OO, SO, FO⟩
              have F310 : Hid (Frm [] W3 w10) := Lib.hid (F9.out.trans FO.out (by simp) (by simp))
              have MKO := Lib.hid (MK.out out SO.out.2.1)
              have HO10 : Hid (HxOwn w10 W2.heap.size 55 (y5 :: (g + 1) :: F) aS cS S) := Lib.hid (HO3.out.keep F310.out (by simp) (fun x hx => .inl hx))
              have HB10 : Hid (Whole w10 y5 28 #[.int .u64 (Ml : Nat), .int .u64 (Me : Nat), .slice aS sn cS]) := Lib.hid (F310.out.whole HB3.out (by simp))
              have F210 : Hid (Frm [y5] W2 w10) := Lib.hid (F23.out.trans F310.out (by simp) (by simp))
              clear x0 x1 MK
              rcases Nat.eq_zero_or_pos ko with h0 | h0
              · have dg : ¬ (0 : Int) < (ko : Int) := by omega
                clear h0
                go_wp2
                go_roundw
                case rel => exact ⟨k + 1, last, aS, sn, cS, S, by omega, by omega, by go_num, rfl, by omega, HSN, HRG, HO10, HB10, F210⟩
                case measure => simp [intOf]; omega
              · have dg : (0 : Int) < (ko : Int) := by omega
                have NE : Hid (out ≠ []) := Lib.hid (fun h => by have := KO.out; rw [h] at this; simp at this; omega)
                have hfit : sn + 1 ≤ 1000000000 := by omega
                have WZ : Hid (W2.heap.size ≤ w10.heap.size) := Lib.hid F210.out.size
                have hbz : W2.heap.size ≤ (w10.alloc (.cells #[.int .u64 (ledm : Nat), .slice ao ko co] 55)).heap.size := by have := WZ.out; simp; omega
                have XNEW : Hid (∀ q, ao = some q → W3.heap.size ≤ q.block) := Lib.hid (fun q hq => by have h1 := OO.out.2.2 q hq; have h2 := F9.out.size; omega)
                have XOK : Hid (HxOk w10 (y5 :: (g + 1) :: F) ⟨(ledm, out), ao, co⟩) := Lib.hid ⟨OO.out.1, fun _ q hq hm => by
                  have h1 := XNEW.out q hq
                  have h2 := FL.out _ hm
                  have h3 := F23.out.size
                  omega, OO.out.2.1.1, LN.out, OO.out.2.1.2⟩
                have XB : Hid (∀ q, ao = some q → q.block ∉ blk aS) := Lib.hid (fun q hq hm => by
                  have h1 := XNEW.out q hq
                  have h2 := (HO3.out.blk_lt _ hm).2
                  omega)
                obtain ⟨WA, hWA⟩ : ∃ WA, WA = w10.alloc (.cells #[.int .u64 (ledm : Nat), .slice ao ko co] 55) := ⟨_, rfl⟩
                have FA10 : Hid (Frm [] w10 WA) := Lib.hid (by rw [hWA]; exact (Frm.refl _ _).alloc _)
                have HO11 : Hid (HxOwn WA W2.heap.size 55 (y5 :: (g + 1) :: F) aS cS S) := Lib.hid (HO10.out.keep FA10.out (by simp) (fun x hx => .inl hx))
                have OWN : Hid ((w10.alloc (.cells #[.int .u64 (ledm : Nat), .slice ao ko co] 55)).ownsRow W2.heap.size 55 2 (.slice aS sn cS) sn (hxc S)) := Lib.hid (by rw [← hWA, HSN.out]; exact HO11.out.own)
                have ONE : Hid (ValsAt (w10.alloc (.cells #[.int .u64 (ledm : Nat), .slice ao ko co] 55)) (some ⟨w10.heap.size, 0, none⟩) (hxc [⟨(ledm, out), ao, co⟩])) := Lib.hid (by
                  have := hxvals_one w10 ⟨(ledm, out), ao, co⟩ 55
                  simp only at this
                  rw [← KO.out] at this
                  exact this)
                have bb8 := F310.out.whole B8.out (by simp)
                have x0 := bb8.cell 0
                have x2 := HB10.out.cell 2
                simp only [List.getElem?_toArray, List.getElem?_cons_zero, List.getElem?_cons_succ] at x0 x2
                have HWA := Lib.hid hWA
                clear h0 bb8 hWA
                go_wp2_with (at_builtin; refine wpList_appS (by rfl) (.tmp 98) (.tmp 103) 26 rfl W2.heap.size 55 i0 (.agg #[.int .u64 0, .slice none 0 0]) 2 32 Try.underlying26 HI.out HZ0.out rfl (by decide) HZ1.out HZ2.out (by decide) (.slice aS sn cS) sn _ rfl OWN.out _ 1 1 _ rfl ONE.out rfl (hxc_one _) (fun h => by cases h) hfit hbz ?_)
                intro a12 c12 w12 happ
                rw [← HWA.out] at happ
                have g12 := HO11.out.app (n := sn) (m := 1) (Y := [⟨(ledm, out), ao, co⟩]) HSN.out (fun y hy => by
                  simp only [List.mem_singleton] at hy
                  subst hy
                  have hq := XOK.out.keep (F' := y5 :: (g + 1) :: F) (S := []) FA10.out (by simp) (fun x hx => .inl hx)
                  exact ⟨hq.rs, fun hne q hq' hm => (List.mem_append.1 hm).elim (fun h1 => XB.out q hq' h1) (fun h1 => hq.away hne q hq' h1), hq.nil, hq.num, hq.room⟩) rfl (fun x hx => Nat.lt_of_lt_of_le (FL.out x hx) (Nat.le_trans WZ.out FA10.out.size)) happ
                have HO12 := Lib.hid g12.1
                have F2A : Hid (Frm [y5] W2 WA) := Lib.hid (F210.out.trans FA10.out (by simp) (by simp))
                have F12 : Hid (Frm [y5] W2 w12) := Lib.hid (F2A.out.trans g12.2.1 (by simp) (fun x hx => .inr (HO.out.blk_lt x hx).1))
                have NB5 : Hid (y5 ∉ blk aS) := Lib.hid (fun hm => by have := (HO.out.blk_lt _ hm).1; have := Y5.out; omega)
                have HB12 : Hid (Whole w12 y5 28 #[.int .u64 (Ml : Nat), .int .u64 (Me : Nat), .slice aS sn cS]) := Lib.hid (g12.2.1.whole (FA10.out.whole HB10.out (by simp)) NB5.out)
                have LNX : Hid (sn + 1 = (S ++ [(⟨(ledm, out), ao, co⟩ : Hx)]).length) := Lib.hid g12.2.2.2
                have y2 := HB12.out.cell 2
                have y3 := HB12.out.free 2
                have bb8 := g12.2.1.whole (FA10.out.whole (F310.out.whole B8.out (by simp)) (by simp)) (fun hm => by have h1 := (HO3.out.blk_lt _ hm).2; have h2 := (HO.out.blk_lt _ hm).2; have h3 := HY8.out; omega)
                have y0 := bb8.cell 0
                simp only [List.getElem?_toArray, List.getElem?_cons_zero, List.getElem?_cons_succ] at y0 y2
                have NE58 : Hid (y5 ≠ y8) := Lib.hid (by have h1 := HB.out.lt; have h3 := HY8.out; omega)
                have y0' : (w12.setCell ⟨y5, 2, none⟩ (.slice a12 (sn + 1 : Nat) c12)).cell? ⟨y8, 0, none⟩ = some (.int .u64 (ledm : Nat)) := (bb8.other (p := ⟨y5, 2, none⟩) (by show y8 ≠ y5; exact fun h => NE58.out h.symm) _).cell 0
                have NX := Lib.hid (HO12.out.keep (S := [y5]) (F' := y5 :: (g + 1) :: F) ((Frm.refl [y5] w12).setCell (.inl (by simp)) (p := ⟨y5, 2, none⟩) (.slice a12 (sn + 1 : Nat) c12)) (fun x hx => .inl (by simp at hx; simp [hx])) (fun x hx => .inl hx))
                have NB : Hid (Whole (w12.setCell ⟨y5, 2, none⟩ (.slice a12 (sn + 1 : Nat) c12)) y5 28 #[.int .u64 (Ml : Nat), .int .u64 (Me : Nat), .slice a12 (sn + 1 : Nat) c12]) := Lib.hid (by
                  have := HB12.out.put 2 (.slice a12 (sn + 1 : Nat) c12)
                  simpa using this)
                have NF : Hid (Frm [y5] W2 (w12.setCell ⟨y5, 2, none⟩ (.slice a12 (sn + 1 : Nat) c12))) := Lib.hid (F12.out.setCell (.inl (by simp)) _)
                have NR : Hid (Rgt ⟨Ml, Me⟩ (hels (S ++ [(⟨(ledm, out), ao, co⟩ : Hx)])) ledm) := Lib.hid (by
                  rw [hels_append]
                  exact HRG.out.snoc (x := (ledm, out)) (UP.out.imp (fun h => by rw [h]; rfl) id) NE.out SO.out.1 SO.out.2.2 MKO.out)
                clear happ g12 hbz OWN ONE x0 x2 bb8 y0
                go_wp2
                go_roundw
                case rel => exact ⟨k + 1, ledm, a12, sn + 1, c12, S ++ [(⟨(ledm, out), ao, co⟩ : Hx)], by omega, by omega, by go_num, rfl, by omega, LNX, NR, NX, NB, NF⟩
                case measure => simp [intOf]; omega
    · have t2 : decide (ledm ≤ last) = false := decide_eq_false g2
      have t2' : decide ((ledm : Int) ≤ (last : Int)) = false := decide_eq_false (by omega)
      have UP : Hid (S = [] ∨ last < ledm) := Lib.hid (.inr (by omega))
      clear g1 g2
      go_wp2
      clear v0 v1 u0 u2
      go_loopw [9, 59] (fun s9 s59 wr => ∃ (j ln cL : Nat) (aL : Option Addr) (L : List Rg), j ≤ rn ∧ s59 = .int .i64 (j : Nat) ∧ s9 = .slice aL ln cL ∧ ln ≤ j ∧ ln ≤ 6 ∧ Hid (ln = L.length) ∧ Hid (OwnR wr W3.heap.size aL cL L) ∧ Hid (Bd L) ∧ Hid (Frm [] W3 wr)) (fun _ s59 _ => rn - (intOf s59).toNat)
      case atStart => exact ⟨0, 0, 0, none, [], Nat.zero_le _, rfl, rfl, Nat.le_refl _, by omega, Lib.hid rfl, Lib.hid (OwnR.nil _ _), Lib.hid (fun p hp => by simp at hp), Lib.hid (Frm.refl _ _)⟩
      case round =>
        obtain ⟨j, ln, cL, aL, L, hj, rfl, rfl, hlj, hl6, HLN, HOL, HBD, HFI⟩ := hrel
        by_cases hjr : j < rn
        · have hjr' : (j : Int) < (rn : Int) := by omega
          have RRI := OK.out.rs.keep0 (FW3.out.trans HFI.out (U := []) (by simp) (by simp))
          obtain ⟨rb, ro, rfl, hc⟩ := RRI.2 (by have := HRN.out; simp only at this ⊢; omega)
          obtain ⟨d0, d1⟩ := hc j (by have := HRN.out; simp only at this ⊢; omega)
          have hbd := getD_bd RRI.1 j
          obtain ⟨lo, hlo⟩ : ∃ lo, lo = (rs.getD j (0, 0)).1 := ⟨_, rfl⟩
          obtain ⟨hi, hhi⟩ : ∃ hi, hi = (rs.getD j (0, 0)).2 := ⟨_, rfl⟩
          simp only at d0 d1 hbd
          rw [← hlo] at d0 hbd
          rw [← hhi] at d1 hbd
          clear hlo hhi hc RRI
          obtain ⟨lo8, hlo8⟩ : ∃ q, q = lo % 8 := ⟨_, rfl⟩
          obtain ⟨hi9, hhi9⟩ : ∃ q, q = hi % 9 := ⟨_, rfl⟩
          have m1 : (lo : Int) % 8 = (lo8 : Int) := by omega
          have m2 : (lo : Int).tmod 8 = (lo8 : Int) := by rw [hlo8]; rfl
          have m3 : IntKind.u64.wrap (lo8 : Int) = (lo8 : Int) := by simp [IntKind.wrap, IntKind.bits, IntKind.signed]; omega
          have m4 : (hi : Int) % 9 = (hi9 : Int) := by omega
          have m5 : (hi : Int).tmod 9 = (hi9 : Int) := by rw [hhi9]; rfl
          have m6 : IntKind.u64.wrap (hi9 : Int) = (hi9 : Int) := by simp [IntKind.wrap, IntKind.bits, IntKind.signed]; omega
          have LHB : Hid (lo8 < 18446744073709551616 ∧ hi9 < 18446744073709551616) := Lib.hid ⟨by omega, by omega⟩
          clear hlo8 hhi9
          clear hbd
          obtain ⟨W6, hW6⟩ : ∃ W6, W6 = wr.alloc (.cells #[.int .u64 (lo8 : Nat), .int .u64 (hi9 : Nat)] 71) := ⟨_, rfl⟩
          obtain ⟨y11, hy11⟩ : ∃ y11, y11 = wr.heap.size := ⟨_, rfl⟩
          have F6 : Hid (Frm [] wr W6) := Lib.hid (by rw [hW6]; exact (Frm.refl _ _).alloc _)
          have B11 : Hid (Whole W6 y11 71 #[.int .u64 (lo8 : Nat), .int .u64 (hi9 : Nat)]) := Lib.hid (by rw [hW6, hy11]; exact Whole.made _ _ _)
          have F36 : Hid (Frm [] W3 W6) := Lib.hid (HFI.out.trans F6.out (by simp) (by simp))
          have OL6 : Hid (OwnR W6 W3.heap.size aL cL L) := Lib.hid (HOL.out.keep F6.out (by simp))
          have HW6 := Lib.hid hW6; clear hW6
          have HY11 := Lib.hid hy11; clear hy11
          go_upto_region 16 with (fail)
          rw [← HW6.out, ← HY11.out]
          clear d0 d1
          have x0 := B11.out.cell 0
          have x1 := B11.out.cell 1
          simp only [List.getElem?_toArray, List.getElem?_cons_zero, List.getElem?_cons_succ] at x0 x1
          by_cases g6 : j < 6
          · have t6 : decide (j < 6) = true := decide_eq_true g6
            have t6' : (j : Int) < 6 := by omega
            have hfit : ln + 1 ≤ 1000000 := by omega
            have hbz : W3.heap.size ≤ (W6.alloc (.cells #[.int .u64 (lo8 : Nat), .int .u64 (hi9 : Nat)] 71)).heap.size := by have := F36.out.size; simp; omega
            have OWN : Hid ((W6.alloc (.cells #[.int .u64 (lo8 : Nat), .int .u64 (hi9 : Nat)] 71)).ownsRow W3.heap.size 71 2 (.slice aL ln cL) ln (fl L)) := Lib.hid (by
              rw [HLN.out]
              exact OL6.out.keep (S := []) ((Frm.refl [] W6).alloc _) (by simp))
            have LNX : Hid (ln + 1 = (L ++ [((lo8, hi9) : Rg)]).length) := Lib.hid (by rw [List.length_append, ← HLN.out]; rfl)
            have J6 : Hid (ln + 1 ≤ j + 1 ∧ ln + 1 ≤ 6) := Lib.hid ⟨by omega, by omega⟩
            clear g6
            go_wp2_with (at_builtin; refine wpList_appR rfl (.tmp 75) (.tmp 77) 53 rfl W3.heap.size 71 j0 Try.underlying53 RI.out RZ0.out RZ1.out RZ2.out (.slice aL ln cL) ln (fl L) rfl OWN.out _ 1 1 [(lo8, hi9)] rfl (one_rg (lo8, hi9) LHB.out) rfl (by intro h; cases h) hfit hbz ?_)
            intro a7 c7 w7 happ
            have HO7 := Lib.hid (own_app happ HLN.out rfl)
            have HF7 : Hid (Frm [] W3 w7) := Lib.hid (frm_app (F36.out.alloc _) happ (fun x hx => .inr (HOL.out.lt x hx).1))
            clear happ x0 x1 hbz OWN
            go_wp2
            go_roundw
            case rel => exact ⟨j + 1, ln + 1, c7, a7, L ++ [((lo8, hi9) : Rg)], by omega, by go_num, rfl, J6.out.1, J6.out.2, LNX, HO7, Lib.hid (HBD.out.append (fun p hp => by rw [List.mem_singleton.1 hp]; exact LHB.out)), HF7⟩
            case measure => simp [intOf]; omega
          · have t6 : decide (j < 6) = false := decide_eq_false g6
            have t6' : ¬ (j : Int) < 6 := by omega
            clear g6
            go_wp2
            go_roundw
            case rel => exact ⟨j + 1, ln, cL, aL, L, by omega, by go_num, rfl, by omega, hl6, HLN, OL6, HBD, F36⟩
            case measure => simp [intOf]; omega
        · obtain rfl : j = rn := by omega
          obtain ⟨W9, hW9⟩ : ∃ W9, W9 = wr.alloc (.cells #[.int .u64 0, .int .u64 (Me : Nat)] 71) := ⟨_, rfl⟩
          obtain ⟨y12, hy12⟩ : ∃ y12, y12 = wr.heap.size := ⟨_, rfl⟩
          have F9 : Hid (Frm [] W3 W9) := Lib.hid (by rw [hW9]; exact HFI.out.alloc _)
          have FI9 : Hid (Frm [] wr W9) := Lib.hid (by rw [hW9]; exact (Frm.refl _ _).alloc _)
          have R9 : Hid (Rr W9 (some ⟨y12, 0, none⟩) [((0, Me) : Rg)]) := Lib.hid (by rw [hW9, hy12]; exact one_rg (0, Me) ⟨by show (0 : Nat) < _; omega, MF.out⟩)
          have HW9 := Lib.hid hW9; clear hW9
          have HY12 := Lib.hid hy12; clear hy12
          have bb5 := HFI.out.whole HB3.out (by simp)
          have x1 := bb5.cell 1
          simp only [List.getElem?_toArray, List.getElem?_cons_zero, List.getElem?_cons_succ] at x1
          clear bb5
          go_upto_region 20 with (fail)
          rw [← HW9.out, ← HY12.out]
          clear x1
          have HOL9 := Lib.hid (HOL.out.keep FI9.out (by simp))
          have RL9 := Lib.hid (HOL9.out.rr HBD.out)
          have bb8 := F9.out.whole B8.out (by simp)
          have bb5 := F9.out.whole HB3.out (by simp)
          have x0 := bb8.cell 0
          have x1 := bb5.cell 0
          simp only [List.getElem?_toArray, List.getElem?_cons_zero] at x0 x1
          clear bb8 bb5
          have GOT : Hid (∀ (v : Value) (R : List Rg) ab cb, v = .slice ab R.length cb → Rr W9 ab R → (ab = none → cb = 0) → R.length ≤ 1 → Calls Try.prog 34 #[.slice aL ln cL, v] W9 (GotX W9 (fun x => Mem L x ∧ ¬ Mem R x) 14)) := Lib.hid (fun v R ab cb hv hR hnl hR1 => by
            rw [hv]
            refine (set_any RL9.out.1 HLN.out RL9.out.2.1 hR rfl hnl (by omega)).mono fun e w' hg => ?_
            obtain ⟨out, h1, h2, h3, h4, h5⟩ := hg
            exact Got.x ⟨out, h1, h2, h3, h4, by omega⟩)
          by_cases g9 : Ml < ledm
          · have t9 : decide (Ml < ledm) = true := decide_eq_true g9
            have t9' : decide ((Ml : Int) < (ledm : Int)) = true := decide_eq_true (by omega)
            have t9'' : (Ml : Int) < (ledm : Int) := by omega
            have SET := Lib.hid (GOT.out (.slice none 0 0) [] none 0 rfl (Rr.nil _ _) (fun _ => rfl) (by simp))
            have MK : Hid (∀ (out : List Rg), (∀ x, Mem out x ↔ Mem L x ∧ ¬ Mem [] x) → ∀ e, Mem out e → ¬ (Ps.mk ledm e).lt ⟨Ml, Me⟩) := Lib.hid (fun out ho e he => by unfold Ps.lt; simp only; omega)
            clear g9
            go_wp2_with fail
            (with_reducible refine SET.out.mono ?_)
            rintro e w10 ⟨ao, ko, co, out, rfl, KO, OO, SO, FO⟩
            have F310 : Hid (Frm [] W3 w10) := Lib.hid (F9.out.trans FO.out (by simp) (by simp))
            have MKO := Lib.hid (MK.out out SO.out.2.1)
            have HO10 : Hid (HxOwn w10 W2.heap.size 55 (y5 :: (g + 1) :: F) aS cS S) := Lib.hid (HO3.out.keep F310.out (by simp) (fun x hx => .inl hx))
            have HB10 : Hid (Whole w10 y5 28 #[.int .u64 (Ml : Nat), .int .u64 (Me : Nat), .slice aS sn cS]) := Lib.hid (F310.out.whole HB3.out (by simp))
            have F210 : Hid (Frm [y5] W2 w10) := Lib.hid (F23.out.trans F310.out (by simp) (by simp))
            clear x0 x1 MK
            rcases Nat.eq_zero_or_pos ko with h0 | h0
            · have dg : ¬ (0 : Int) < (ko : Int) := by omega
              clear h0
              go_wp2
              go_roundw
              case rel => exact ⟨k + 1, last, aS, sn, cS, S, by omega, by omega, by go_num, rfl, by omega, HSN, HRG, HO10, HB10, F210⟩
              case measure => simp [intOf]; omega
            · have dg : (0 : Int) < (ko : Int) := by omega
              have NE : Hid (out ≠ []) := Lib.hid (fun h => by have := KO.out; rw [h] at this; simp at this; omega)
              have hfit : sn + 1 ≤ 1000000000 := by omega
              have WZ : Hid (W2.heap.size ≤ w10.heap.size) := Lib.hid F210.out.size
              have hbz : W2.heap.size ≤ (w10.alloc (.cells #[.int .u64 (ledm : Nat), .slice ao ko co] 55)).heap.size := by have := WZ.out; simp; omega
              have XNEW : Hid (∀ q, ao = some q → W3.heap.size ≤ q.block) := Lib.hid (fun q hq => by have h1 := OO.out.2.2 q hq; have h2 := F9.out.size; omega)
              have XOK : Hid (HxOk w10 (y5 :: (g + 1) :: F) ⟨(ledm, out), ao, co⟩) := Lib.hid ⟨OO.out.1, fun _ q hq hm => by
                have h1 := XNEW.out q hq
                have h2 := FL.out _ hm
                have h3 := F23.out.size
                omega, OO.out.2.1.1, LN.out, OO.out.2.1.2⟩
              have XB : Hid (∀ q, ao = some q → q.block ∉ blk aS) := Lib.hid (fun q hq hm => by
                have h1 := XNEW.out q hq
                have h2 := (HO3.out.blk_lt _ hm).2
                omega)
              obtain ⟨WA, hWA⟩ : ∃ WA, WA = w10.alloc (.cells #[.int .u64 (ledm : Nat), .slice ao ko co] 55) := ⟨_, rfl⟩
              have FA10 : Hid (Frm [] w10 WA) := Lib.hid (by rw [hWA]; exact (Frm.refl _ _).alloc _)
              have HO11 : Hid (HxOwn WA W2.heap.size 55 (y5 :: (g + 1) :: F) aS cS S) := Lib.hid (HO10.out.keep FA10.out (by simp) (fun x hx => .inl hx))
              have OWN : Hid ((w10.alloc (.cells #[.int .u64 (ledm : Nat), .slice ao ko co] 55)).ownsRow W2.heap.size 55 2 (.slice aS sn cS) sn (hxc S)) := Lib.hid (by rw [← hWA, HSN.out]; exact HO11.out.own)
              have ONE : Hid (ValsAt (w10.alloc (.cells #[.int .u64 (ledm : Nat), .slice ao ko co] 55)) (some ⟨w10.heap.size, 0, none⟩) (hxc [⟨(ledm, out), ao, co⟩])) := Lib.hid (by
                have := hxvals_one w10 ⟨(ledm, out), ao, co⟩ 55
                simp only at this
                rw [← KO.out] at this
                exact this)
              have bb8 := F310.out.whole B8.out (by simp)
              have x0 := bb8.cell 0
              have x2 := HB10.out.cell 2
              simp only [List.getElem?_toArray, List.getElem?_cons_zero, List.getElem?_cons_succ] at x0 x2
              have HWA := Lib.hid hWA
              clear h0 bb8 hWA
              go_wp2_with (at_builtin; refine wpList_appS (by rfl) (.tmp 98) (.tmp 103) 26 rfl W2.heap.size 55 i0 (.agg #[.int .u64 0, .slice none 0 0]) 2 32 Try.underlying26 HI.out HZ0.out rfl (by decide) HZ1.out HZ2.out (by decide) (.slice aS sn cS) sn _ rfl OWN.out _ 1 1 _ rfl ONE.out rfl (hxc_one _) (fun h => by cases h) hfit hbz ?_)
              intro a12 c12 w12 happ
              rw [← HWA.out] at happ
              have g12 := HO11.out.app (n := sn) (m := 1) (Y := [⟨(ledm, out), ao, co⟩]) HSN.out (fun y hy => by
                simp only [List.mem_singleton] at hy
                subst hy
                have hq := XOK.out.keep (F' := y5 :: (g + 1) :: F) (S := []) FA10.out (by simp) (fun x hx => .inl hx)
                exact ⟨hq.rs, fun hne q hq' hm => (List.mem_append.1 hm).elim (fun h1 => XB.out q hq' h1) (fun h1 => hq.away hne q hq' h1), hq.nil, hq.num, hq.room⟩) rfl (fun x hx => Nat.lt_of_lt_of_le (FL.out x hx) (Nat.le_trans WZ.out FA10.out.size)) happ
              have HO12 := Lib.hid g12.1
              have F2A : Hid (Frm [y5] W2 WA) := Lib.hid (F210.out.trans FA10.out (by simp) (by simp))
              have F12 : Hid (Frm [y5] W2 w12) := Lib.hid (F2A.out.trans g12.2.1 (by simp) (fun x hx => .inr (HO.out.blk_lt x hx).1))
              have NB5 : Hid (y5 ∉ blk aS) := Lib.hid (fun hm => by have := (HO.out.blk_lt _ hm).1; have := Y5.out; omega)
              have HB12 : Hid (Whole w12 y5 28 #[.int .u64 (Ml : Nat), .int .u64 (Me : Nat), .slice aS sn cS]) := Lib.hid (g12.2.1.whole (FA10.out.whole HB10.out (by simp)) NB5.out)
              have LNX : Hid (sn + 1 = (S ++ [(⟨(ledm, out), ao, co⟩ : Hx)]).length) := Lib.hid g12.2.2.2
              have y2 := HB12.out.cell 2
              have y3 := HB12.out.free 2
              have bb8 := g12.2.1.whole (FA10.out.whole (F310.out.whole B8.out (by simp)) (by simp)) (fun hm => by have h1 := (HO3.out.blk_lt _ hm).2; have h2 := (HO.out.blk_lt _ hm).2; have h3 := HY8.out; omega)
              have y0 := bb8.cell 0
              simp only [List.getElem?_toArray, List.getElem?_cons_zero, List.getElem?_cons_succ] at y0 y2
              have NE58 : Hid (y5 ≠ y8) := Lib.hid (by have h1 := HB.out.lt; have h3 := HY8.out; omega)
              have y0' : (w12.setCell ⟨y5, 2, none⟩ (.slice a12 (sn + 1 : Nat) c12)).cell? ⟨y8, 0, none⟩ = some (.int .u64 (ledm : Nat)) := (bb8.other (p := ⟨y5, 2, none⟩) (by show y8 ≠ y5; exact fun h => NE58.out h.symm) _).cell 0
              have NX := Lib.hid (HO12.out.keep (S := [y5]) (F' := y5 :: (g + 1) :: F) ((Frm.refl [y5] w12).setCell (.inl (by simp)) (p := ⟨y5, 2, none⟩) (.slice a12 (sn + 1 : Nat) c12)) (fun x hx => .inl (by simp at hx; simp [hx])) (fun x hx => .inl hx))
              have NB : Hid (Whole (w12.setCell ⟨y5, 2, none⟩ (.slice a12 (sn + 1 : Nat) c12)) y5 28 #[.int .u64 (Ml : Nat), .int .u64 (Me : Nat), .slice a12 (sn + 1 : Nat) c12]) := Lib.hid (by
                have := HB12.out.put 2 (.slice a12 (sn + 1 : Nat) c12)
                simpa using this)
              have NF : Hid (Frm [y5] W2 (w12.setCell ⟨y5, 2, none⟩ (.slice a12 (sn + 1 : Nat) c12))) := Lib.hid (F12.out.setCell (.inl (by simp)) _)
              have NR : Hid (Rgt ⟨Ml, Me⟩ (hels (S ++ [(⟨(ledm, out), ao, co⟩ : Hx)])) ledm) := Lib.hid (by
                rw [hels_append]
                exact HRG.out.snoc (x := (ledm, out)) (UP.out.imp (fun h => by rw [h]; rfl) id) NE.out SO.out.1 SO.out.2.2 MKO.out)
              clear happ g12 hbz OWN ONE x0 x2 bb8 y0
              go_wp2
              go_roundw
              case rel => exact ⟨k + 1, ledm, a12, sn + 1, c12, S ++ [(⟨(ledm, out), ao, co⟩ : Hx)], by omega, by omega, by go_num, rfl, by omega, LNX, NR, NX, NB, NF⟩
              case measure => simp [intOf]; omega
          · have t9 : decide (Ml < ledm) = false := decide_eq_false g9
            have t9' : decide ((Ml : Int) < (ledm : Int)) = false := decide_eq_false (by omega)
            have t9'' : ¬ (Ml : Int) < (ledm : Int) := by omega
            have SET := Lib.hid (GOT.out (.slice (some ⟨y12, 0, none⟩) 1 1) [((0, Me) : Rg)] _ 1 rfl R9.out (fun h => by cases h) (by simp))
            have MK : Hid (∀ (out : List Rg), (∀ x, Mem out x ↔ Mem L x ∧ ¬ Mem [((0, Me) : Rg)] x) → ∀ e, Mem out e → ¬ (Ps.mk ledm e).lt ⟨Ml, Me⟩) := Lib.hid (fun out ho e he => by
              have h1 := ((ho e).1 he).2
              have h2 : ¬ e < Me := fun h3 => h1 ⟨(0, Me), by simp, Nat.zero_le _, h3⟩
              have h4 := GE.out
              unfold Ps.lt; simp only; omega)
            clear g9
            go_wp2_with fail
            (with_reducible refine SET.out.mono ?_)
            rintro e w10 ⟨ao, ko, co, out, rfl, KO, OO, SO, FO⟩
            have F310 : Hid (Frm [] W3 w10) := Lib.hid (F9.out.trans FO.out (by simp) (by simp))
            have MKO := Lib.hid (MK.out out SO.out.2.1)
            have HO10 : Hid (HxOwn w10 W2.heap.size 55 (y5 :: (g + 1) :: F) aS cS S) := Lib.hid (HO3.out.keep F310.out (by simp) (fun x hx => .inl hx))
            have HB10 : Hid (Whole w10 y5 28 #[.int .u64 (Ml : Nat), .int .u64 (Me : Nat), .slice aS sn cS]) := Lib.hid (F310.out.whole HB3.out (by simp))
            have F210 : Hid (Frm [y5] W2 w10) := Lib.hid (F23.out.trans F310.out (by simp) (by simp))
            clear x0 x1 MK
            rcases Nat.eq_zero_or_pos ko with h0 | h0
            · have dg : ¬ (0 : Int) < (ko : Int) := by omega
              clear h0
              go_wp2
              go_roundw
              case rel => exact ⟨k + 1, last, aS, sn, cS, S, by omega, by omega, by go_num, rfl, by omega, HSN, HRG, HO10, HB10, F210⟩
              case measure => simp [intOf]; omega
            · have dg : (0 : Int) < (ko : Int) := by omega
              have NE : Hid (out ≠ []) := Lib.hid (fun h => by have := KO.out; rw [h] at this; simp at this; omega)
              have hfit : sn + 1 ≤ 1000000000 := by omega
              have WZ : Hid (W2.heap.size ≤ w10.heap.size) := Lib.hid F210.out.size
              have hbz : W2.heap.size ≤ (w10.alloc (.cells #[.int .u64 (ledm : Nat), .slice ao ko co] 55)).heap.size := by have := WZ.out; simp; omega
              have XNEW : Hid (∀ q, ao = some q → W3.heap.size ≤ q.block) := Lib.hid (fun q hq => by have h1 := OO.out.2.2 q hq; have h2 := F9.out.size; omega)
              have XOK : Hid (HxOk w10 (y5 :: (g + 1) :: F) ⟨(ledm, out), ao, co⟩) := Lib.hid ⟨OO.out.1, fun _ q hq hm => by
                have h1 := XNEW.out q hq
                have h2 := FL.out _ hm
                have h3 := F23.out.size
                omega, OO.out.2.1.1, LN.out, OO.out.2.1.2⟩
              have XB : Hid (∀ q, ao = some q → q.block ∉ blk aS) := Lib.hid (fun q hq hm => by
                have h1 := XNEW.out q hq
                have h2 := (HO3.out.blk_lt _ hm).2
                omega)
              obtain ⟨WA, hWA⟩ : ∃ WA, WA = w10.alloc (.cells #[.int .u64 (ledm : Nat), .slice ao ko co] 55) := ⟨_, rfl⟩
              have FA10 : Hid (Frm [] w10 WA) := Lib.hid (by rw [hWA]; exact (Frm.refl _ _).alloc _)
              have HO11 : Hid (HxOwn WA W2.heap.size 55 (y5 :: (g + 1) :: F) aS cS S) := Lib.hid (HO10.out.keep FA10.out (by simp) (fun x hx => .inl hx))
              have OWN : Hid ((w10.alloc (.cells #[.int .u64 (ledm : Nat), .slice ao ko co] 55)).ownsRow W2.heap.size 55 2 (.slice aS sn cS) sn (hxc S)) := Lib.hid (by rw [← hWA, HSN.out]; exact HO11.out.own)
              have ONE : Hid (ValsAt (w10.alloc (.cells #[.int .u64 (ledm : Nat), .slice ao ko co] 55)) (some ⟨w10.heap.size, 0, none⟩) (hxc [⟨(ledm, out), ao, co⟩])) := Lib.hid (by
                have := hxvals_one w10 ⟨(ledm, out), ao, co⟩ 55
                simp only at this
                rw [← KO.out] at this
                exact this)
              have bb8 := F310.out.whole B8.out (by simp)
              have x0 := bb8.cell 0
              have x2 := HB10.out.cell 2
              simp only [List.getElem?_toArray, List.getElem?_cons_zero, List.getElem?_cons_succ] at x0 x2
              have HWA := Lib.hid hWA
              clear h0 bb8 hWA
              go_wp2_with (at_builtin; refine wpList_appS (by rfl) (.tmp 98) (.tmp 103) 26 rfl W2.heap.size 55 i0 (.agg #[.int .u64 0, .slice none 0 0]) 2 32 Try.underlying26 HI.out HZ0.out rfl (by decide) HZ1.out HZ2.out (by decide) (.slice aS sn cS) sn _ rfl OWN.out _ 1 1 _ rfl ONE.out rfl (hxc_one _) (fun h => by cases h) hfit hbz ?_)
              intro a12 c12 w12 happ
              rw [← HWA.out] at happ
              have g12 := HO11.out.app (n := sn) (m := 1) (Y := [⟨(ledm, out), ao, co⟩]) HSN.out (fun y hy => by
                simp only [List.mem_singleton] at hy
                subst hy
                have hq := XOK.out.keep (F' := y5 :: (g + 1) :: F) (S := []) FA10.out (by simp) (fun x hx => .inl hx)
                exact ⟨hq.rs, fun hne q hq' hm => (List.mem_append.1 hm).elim (fun h1 => XB.out q hq' h1) (fun h1 => hq.away hne q hq' h1), hq.nil, hq.num, hq.room⟩) rfl (fun x hx => Nat.lt_of_lt_of_le (FL.out x hx) (Nat.le_trans WZ.out FA10.out.size)) happ
              have HO12 := Lib.hid g12.1
              have F2A : Hid (Frm [y5] W2 WA) := Lib.hid (F210.out.trans FA10.out (by simp) (by simp))
              have F12 : Hid (Frm [y5] W2 w12) := Lib.hid (F2A.out.trans g12.2.1 (by simp) (fun x hx => .inr (HO.out.blk_lt x hx).1))
              have NB5 : Hid (y5 ∉ blk aS) := Lib.hid (fun hm => by have := (HO.out.blk_lt _ hm).1; have := Y5.out; omega)
              have HB12 : Hid (Whole w12 y5 28 #[.int .u64 (Ml : Nat), .int .u64 (Me : Nat), .slice aS sn cS]) := Lib.hid (g12.2.1.whole (FA10.out.whole HB10.out (by simp)) NB5.out)
              have LNX : Hid (sn + 1 = (S ++ [(⟨(ledm, out), ao, co⟩ : Hx)]).length) := Lib.hid g12.2.2.2
              have y2 := HB12.out.cell 2
              have y3 := HB12.out.free 2
              have bb8 := g12.2.1.whole (FA10.out.whole (F310.out.whole B8.out (by simp)) (by simp)) (fun hm => by have h1 := (HO3.out.blk_lt _ hm).2; have h2 := (HO.out.blk_lt _ hm).2; have h3 := HY8.out; omega)
              have y0 := bb8.cell 0
              simp only [List.getElem?_toArray, List.getElem?_cons_zero, List.getElem?_cons_succ] at y0 y2
              have NE58 : Hid (y5 ≠ y8) := Lib.hid (by have h1 := HB.out.lt; have h3 := HY8.out; omega)
              have y0' : (w12.setCell ⟨y5, 2, none⟩ (.slice a12 (sn + 1 : Nat) c12)).cell? ⟨y8, 0, none⟩ = some (.int .u64 (ledm : Nat)) := (bb8.other (p := ⟨y5, 2, none⟩) (by show y8 ≠ y5; exact fun h => NE58.out h.symm) _).cell 0
              have NX := Lib.hid (HO12.out.keep (S := [y5]) (F' := y5 :: (g + 1) :: F) ((Frm.refl [y5] w12).setCell (.inl (by simp)) (p := ⟨y5, 2, none⟩) (.slice a12 (sn + 1 : Nat) c12)) (fun x hx => .inl (by simp at hx; simp [hx])) (fun x hx => .inl hx))
              have NB : Hid (Whole (w12.setCell ⟨y5, 2, none⟩ (.slice a12 (sn + 1 : Nat) c12)) y5 28 #[.int .u64 (Ml : Nat), .int .u64 (Me : Nat), .slice a12 (sn + 1 : Nat) c12]) := Lib.hid (by
                have := HB12.out.put 2 (.slice a12 (sn + 1 : Nat) c12)
                simpa using this)
              have NF : Hid (Frm [y5] W2 (w12.setCell ⟨y5, 2, none⟩ (.slice a12 (sn + 1 : Nat) c12))) := Lib.hid (F12.out.setCell (.inl (by simp)) _)
              have NR : Hid (Rgt ⟨Ml, Me⟩ (hels (S ++ [(⟨(ledm, out), ao, co⟩ : Hx)])) ledm) := Lib.hid (by
                rw [hels_append]
                exact HRG.out.snoc (x := (ledm, out)) (UP.out.imp (fun h => by rw [h]; rfl) id) NE.out SO.out.1 SO.out.2.2 MKO.out)
              clear happ g12 hbz OWN ONE x0 x2 bb8 y0
              go_wp2
              go_roundw
              case rel => exact ⟨k + 1, ledm, a12, sn + 1, c12, S ++ [(⟨(ledm, out), ao, co⟩ : Hx)], by omega, by omega, by go_num, rfl, by omega, LNX, NR, NX, NB, NF⟩
              case measure => simp [intOf]; omega
end Go.Proofs.Ytghadpihmhaepaa
