/- The walk of LedgersWalks. -/
import Derived.Test.YtimmoencmmpkdaaLdwBetween
import Derived.Test.YtimmoencmmpkdaaLdTotal
import Derived.Test.YtimmoencmmpkdaaLdMath2
namespace Go.Proofs.Ytimmoencmmpkdaa
open Go.RowKit
set_option maxRecDepth 100000

set_option maxHeartbeats 8000000 in
theorem ledgersWalks_walk (a : Option Addr) (n cap : Nat) (X : List Ld) (o : Nat) (p : Ps) (w : World) (h : LdL w [] a X ∧ X.length ≤ cap ∧ (a = none → cap = 0)) (hn : n = X.length) (hsz : n ≤ 9223372036854775807) (ho : o < 18446744073709551616) (hp : p.fits) :
    Calls Try.prog 5 #[.slice a n cap, .int .u64 (o : Nat), p.val] w (LTrue w) := by
  obtain ⟨w1, hw1⟩ : ∃ w1, w1 = w.alloc (.cells #[.int .u64 (p.l : Nat), .int .u64 (p.e : Nat)] 36) := ⟨_, rfl⟩
  have F1 : Hid (Frm [] w w1) := Lib.hid (by rw [hw1]; exact (Frm.refl _ _).alloc _)
  obtain ⟨g, hg⟩ : ∃ g, g = w.heap.size := ⟨_, rfl⟩
  have B1 : Hid (Whole w1 g 36 #[.int .u64 (p.l : Nat), .int .u64 (p.e : Nat)]) := Lib.hid (by rw [hw1, hg]; exact Whole.made _ _ _)
  have H1 : LdL w1 [] a X := h.1.sub F1.out
  have FIT : Hid (∀ x ∈ X, x.fits) := Lib.hid h.1.fits
  have AW := Lib.hid (fun z => awake13_any z)
  have RI := Lib.hid (fun z (hz : Frm [] w1 z) => rlright_any a n cap X z (H1.sub hz) hn hsz)
  have TO : Hid (RtLd X → ∀ z, Frm [] w1 z → Calls Try.prog 29 #[.slice a n cap, .int .u64 (o : Nat)] z (LRet z (.int .u64 (totN X o : Nat)))) := Lib.hid (fun hr z hz => rltotal_any a n cap X o z (H1.sub hz) hn (by have := hr.1; omega))
  have NX : Hid (RtLd X → ∀ P z, Frm [] w1 z → Calls Try.prog 17 #[.slice a n cap, .int .u64 (o : Nat), Ps.val P] z (LRet z (nextR X o P))) := Lib.hid (fun hr P z hz => ldnext_any a n cap X o P z (H1.sub hz) hn (by have := hr.1; omega))
  have HS : Hid (RtLd X → ∀ P z, Frm [] w1 z → Calls Try.prog 21 #[.slice a n cap, .int .u64 (o : Nat), Ps.val P] z (LRet z (.bool (hasP X o P)))) := Lib.hid (fun hr P z hz => ldhas_any a n cap X o P z (H1.sub hz) hn (by have := hr.1; omega))
  have BT : Hid (RtLd X → tot X o ≤ 1000 → ∀ z, Frm [] w1 z → Calls Try.prog 23 #[.slice a n cap, .int .u64 (o : Nat), Ps.val p, Ps.val farP] z (LRet z (.int .u64 (btw X o p farP : Nat)))) := Lib.hid (fun hr ht z hz => ldbetween_any a n cap X o p farP z (H1.sub hz) hn (by have := hr.1; omega) (by omega))
  have OR := Lib.hid (fun P Q z => ldorder_any P Q z)
  have BH := Lib.hid (fun P (hP : P.fits) z => ldbehind_any P hP z)
  clear h hn H1
  have C0 : Hid (∀ z, Frm [] w1 z → z.cell? ⟨g, 0, none⟩ = some (.int .u64 (p.l : Nat)) ∧ z.cell? ⟨g, 1, none⟩ = some (.int .u64 (p.e : Nat))) := Lib.hid (fun z hz => ⟨(hz.whole B1.out (by simp)).cell 0, (hz.whole B1.out (by simp)).cell 1⟩)
  obtain ⟨pl, pe⟩ := p
  unfold LRet at AW
  unfold Ps.val
  simp only at hw1 B1 C0 ⊢
  have HW1 := Lib.hid hw1; clear hw1
  go_enter Try.func5, Try.ntmps5
  go_wp2_with fail
  rw [← HW1.out, ← hg]
  have HG := Lib.hid hg; clear hg
  (with_reducible refine (AW.out _).mono ?_)
  rintro e w2 ⟨rfl, hf2⟩
  have F2 := Lib.hid hf2; clear hf2
  go_wp2_with fail
  (with_reducible refine (RI.out _ F2.out).mono ?_)
  rintro e w3 ⟨b, rfl, hb, hf3⟩
  have F3 : Hid (Frm [] w1 w3) := Lib.hid (F2.out.trans hf3 (by simp) (by simp))
  clear hf3
  cases b
  · have FF : Hid (Frm [] w w3) := Lib.hid (F1.out.trans F3.out (by simp) (by simp))
    clear hb
    go_wp2
    go_ret
    exact lTrue FF.out
  have RT := Lib.hid (hb.1 rfl)
  clear hb
  have TO' := Lib.hid (TO.out RT.out)
  unfold LRet totN at TO'
  by_cases ht : tot X o ≤ 1000
  rotate_left 1
  · rw [if_neg ht] at TO'
    have TO2 : Hid (∀ z, Frm [] w1 z → Calls Try.prog 29 #[.slice a n cap, .int .u64 (o : Nat)] z fun e w' => e = .returned (.int .u64 1001) ∧ Frm [] z w') := TO'
    clear TO' ht
    go_wp2_with fail
    (with_reducible refine (TO2.out _ F3.out).mono ?_)
    rintro e w4 ⟨rfl, hf4⟩
    have FF : Hid (Frm [] w w4) := Lib.hid (F1.out.trans (F3.out.trans hf4 (U := []) (by simp) (by simp)) (by simp) (by simp))
    clear hf4
    go_wp2
    go_ret
    exact lTrue FF.out
  rw [if_pos ht] at TO'
  have BT' := Lib.hid (BT.out RT.out ht)
  have NX' := Lib.hid (NX.out RT.out)
  have HS' := Lib.hid (HS.out RT.out)
  have HT1000 := Lib.hid ht
  obtain ⟨tn, htn⟩ : ∃ tn, tn = tot X o := ⟨_, rfl⟩
  rw [← htn] at TO' ht
  have e1 : decide (1000 < tn) = false := decide_eq_false (by omega)
  have e1d : decide ((1000 : Int) < (tn : Int)) = false := decide_eq_false (by omega)
  have HTN := Lib.hid htn
  clear ht htn BT NX HS TO RI AW
  go_wp2_with fail
  (with_reducible refine (TO'.out _ F3.out).mono ?_)
  rintro e w4 ⟨rfl, hf4⟩
  have F4 : Hid (Frm [] w1 w4) := Lib.hid (F3.out.trans hf4 (by simp) (by simp))
  obtain ⟨a0, a1⟩ := C0.out _ F4.out
  clear hf4
  obtain ⟨w5, hw5⟩ : ∃ w5, w5 = w4.alloc (.cells #[.int .u64 (pl : Nat), .int .u64 (pe : Nat)] 36) := ⟨_, rfl⟩
  obtain ⟨gp, hgp⟩ : ∃ gp, gp = w4.heap.size := ⟨_, rfl⟩
  have F5 : Hid (Frm [] w1 w5) := Lib.hid (by rw [hw5]; exact F4.out.alloc _)
  have B5 : Hid (Whole w5 gp 36 #[.int .u64 (pl : Nat), .int .u64 (pe : Nat)]) := Lib.hid (by rw [hw5, hgp]; exact Whole.made _ _ _)
  have GP : Hid (w1.heap.size ≤ gp) := Lib.hid (by rw [hgp]; exact F4.out.size)
  have HW5 := Lib.hid hw5; clear hw5
  have HGP := Lib.hid hgp; clear hgp
  obtain ⟨B, hB⟩ : ∃ B, B = btw X o ⟨pl, pe⟩ farP := ⟨_, rfl⟩
  have BLE : Hid (B ≤ 1000) := Lib.hid (by rw [hB]; exact Nat.le_trans (btw_le_tot _ _ _ _) HT1000.out)
  rw [← hB] at BT'
  have HB := Lib.hid hB; clear hB
  have STEPM : Hid (∀ P q : Ps, nextP X o P = some q → btw X o P farP = btw X o (behindP q) farP + 1 ∧ ¬ q.lt P ∧ nextP X o q = some q ∧ q.fits) := Lib.hid (fun P q hq => ⟨btw_step RT.out FIT.out ho hq, nextP_ge hq, nextP_self hq, by
    obtain ⟨k, h1, h2, h3, rfl⟩ := nextP_some hq
    have h4 := ld_fits_at FIT.out k
    have h5 := Ld.size_lt h4 ho
    exact ⟨h4.1, by show Ld.ahead _ _ _ < _; omega⟩⟩)
  have NONEM : Hid (∀ P : Ps, nextP X o P = none → btw X o P farP = 0) := Lib.hid (fun P hq => btw_none hq)
  clear ho
  go_wp2
  rw [← HW5.out, ← HGP.out]
  go_loopw [7] (fun s7 wr => ∃ (m : Nat) (P : Ps), s7 = .int .u64 (m : Nat) ∧ P.fits ∧ Hid (m + btw X o P farP = B) ∧ Hid (Whole wr gp 36 #[.int .u64 (P.l : Nat), .int .u64 (P.e : Nat)]) ∧ Hid (Frm [gp] w5 wr)) (fun s7 _ => 1001 - (intOf s7).toNat)
  case atStart => exact ⟨0, ⟨pl, pe⟩, rfl, hp, Lib.hid (by rw [Nat.zero_add]; exact HB.out.symm), B5, Lib.hid (Frm.refl _ _)⟩
  case round =>
    obtain ⟨m, P, rfl, hP, HM, HW, HF⟩ := hrel
    have FR : Hid (Frm [] w1 wr) := Lib.hid (F5.out.trans HF.out (by simp) (fun x hx => .inr (by simp at hx; have := GP.out; omega)))
    have NXP := Lib.hid (NX'.out P)
    have HASP := Lib.hid (HS'.out)
    have q0 := HW.out.cell 0
    have q1 := HW.out.cell 1
    cases hnx : nextP X o P with
    | none =>
      have BZ := NONEM.out P hnx
      have ME : Hid (m = B) := Lib.hid (by have := HM.out; omega)
      rw [nextR_none hnx] at NXP
      generalize endP X o = E at NXP
      obtain ⟨Pl, Pe⟩ := P
      obtain ⟨El, Ee⟩ := E
      unfold LRet Ps.val at NXP
      simp only at NXP q0 q1
      simp only [List.getElem?_toArray, List.getElem?_cons_zero, List.getElem?_cons_succ] at q0 q1
      clear hnx BZ hP
      go_wp2_with fail
      (with_reducible refine (NXP.out _ FR.out).mono ?_)
      rintro e w6 ⟨rfl, hf6⟩
      have F6 : Hid (Frm [] w1 w6) := Lib.hid (FR.out.trans hf6 (by simp) (by simp))
      clear hf6 q0 q1
      obtain ⟨w7, hw7⟩ : ∃ w7, w7 = (w6.alloc (.cells #[.int .u64 (El : Nat), .int .u64 (Ee : Nat)] 36)).alloc (.cells #[.int .u64 18446744073709551615, .int .u64 18446744073709551615] 36) := ⟨_, rfl⟩
      obtain ⟨gf, hgf⟩ : ∃ gf, gf = w6.heap.size + 1 := ⟨_, rfl⟩
      have F7 : Hid (Frm [] w1 w7) := Lib.hid (by rw [hw7]; exact (F6.out.alloc _).alloc _)
      have B7 : Whole w7 gf 36 #[.int .u64 18446744073709551615, .int .u64 18446744073709551615] := by
        rw [hw7, hgf]
        have := Whole.made (w6.alloc (.cells #[.int .u64 (El : Nat), .int .u64 (Ee : Nat)] 36)) 36 #[.int .u64 18446744073709551615, .int .u64 18446744073709551615]
        rwa [World.size_alloc] at this
      have f0 := B7.cell 0
      have f1 := B7.cell 1
      simp only [List.getElem?_toArray, List.getElem?_cons_zero, List.getElem?_cons_succ] at f0 f1
      obtain ⟨a0, a1⟩ := C0.out _ F7.out
      have HW7 := Lib.hid hw7; clear hw7
      have HGF := Lib.hid hgf; clear hgf B7
      have BTW : Hid (∀ z, Frm [] w1 z → Calls Try.prog 23 #[.slice a n cap, .int .u64 (o : Nat), .agg #[.int .u64 (pl : Nat), .int .u64 (pe : Nat)], .agg #[.int .u64 18446744073709551615, .int .u64 18446744073709551615]] z fun e w' => e = .returned (.int .u64 (B : Nat)) ∧ Frm [] z w') := BT'
      have hcc : ((B : Int) == (B : Int)) = true := beq_self_eq_true _
      obtain rfl := ME.out
      go_upto_region 14 with (fail)
      rw [← HW7.out, ← HGF.out]
      go_wp2_with fail
      (with_reducible refine (BTW.out _ F7.out).mono ?_)
      rintro e w8 ⟨rfl, hf8⟩
      have FF : Hid (Frm [] w w8) := Lib.hid (F1.out.trans (F7.out.trans hf8 (U := []) (by simp) (by simp)) (by simp) (by simp))
      clear hf8
      go_wp2
      go_ret
      exact lTrue FF.out
    | some q =>
      obtain ⟨s1, s2, s3, s4⟩ := STEPM.out P q hnx
      have ME : Hid ((m + 1) + btw X o (behindP q) farP = B) := Lib.hid (by have := HM.out; omega)
      have MB : Hid (m + 1 ≤ 1000) := Lib.hid (by have := ME.out; have := BLE.out; omega)
      rw [nextR_some hnx] at NXP
      have ORD := Lib.hid (OR.out q P)
      obtain ⟨c, hc⟩ : ∃ c, c = ordP q P := ⟨_, rfl⟩
      rw [← hc] at ORD
      have e2 : decide (c < 0) = false := decide_eq_false (by have := ordP_ge.2 s2; omega)
      have HQ : Hid (∀ z, Frm [] w1 z → Calls Try.prog 21 #[.slice a n cap, .int .u64 (o : Nat), Ps.val q] z (LRet z (.bool true))) := Lib.hid (fun z hz => by
        have := HASP.out q z hz
        unfold hasP at this
        rw [decide_eq_true s3] at this
        exact this)
      have BQ := Lib.hid (BH.out q s4)
      have BF : Hid ((behindP q).fits) := Lib.hid (by
        unfold behindP
        split
        · exact ⟨Nat.mod_lt _ (by omega), by show 0 < 18446744073709551616; omega⟩
        · exact ⟨s4.1, by have := s4.2; show q.e + 1 < _; omega⟩)
      generalize behindP q = bq at ME BQ BF
      clear hc s1 s2 s3 s4 hnx hP HASP
      obtain ⟨Pl, Pe⟩ := P
      obtain ⟨ql, qe⟩ := q
      obtain ⟨bl, be⟩ := bq
      unfold LRet Ps.val at NXP ORD HQ BQ
      simp only at NXP ORD HQ BQ q0 q1
      simp only [List.getElem?_toArray, List.getElem?_cons_zero, List.getElem?_cons_succ] at q0 q1
      go_wp2_with fail
      (with_reducible refine (NXP.out _ FR.out).mono ?_)
      rintro e w6 ⟨rfl, hf6⟩
      have F6 : Hid (Frm [gp] w5 w6) := Lib.hid (HF.out.trans hf6 (by simp) (by simp))
      have W6 := Lib.hid (hf6.whole HW.out (by simp))
      clear hf6 q0 q1
      obtain ⟨w7, hw7⟩ : ∃ w7, w7 = w6.alloc (.cells #[.int .u64 (ql : Nat), .int .u64 (qe : Nat)] 36) := ⟨_, rfl⟩
      obtain ⟨gq, hgq⟩ : ∃ gq, gq = w6.heap.size := ⟨_, rfl⟩
      have F7 : Hid (Frm [gp] w5 w7) := Lib.hid (by rw [hw7]; exact F6.out.alloc _)
      have W7 : Hid (Whole w7 gp 36 #[.int .u64 (Pl : Nat), .int .u64 (Pe : Nat)]) := Lib.hid (by rw [hw7]; exact W6.out.alloc _)
      have Q7 : Hid (Whole w7 gq 36 #[.int .u64 (ql : Nat), .int .u64 (qe : Nat)]) := Lib.hid (by rw [hw7, hgq]; exact Whole.made _ _ _)
      have y0 := W7.out.cell 0
      have y1 := W7.out.cell 1
      have z0 := Q7.out.cell 0
      have z1 := Q7.out.cell 1
      simp only [List.getElem?_toArray, List.getElem?_cons_zero, List.getElem?_cons_succ] at y0 y1 z0 z1
      have HW7 := Lib.hid hw7; clear hw7
      have HGQ := Lib.hid hgq; clear hgq
      go_upto_region 9 with (fail)
      rw [← HW7.out, ← HGQ.out]
      go_wp2_with fail
      (with_reducible refine (ORD.out _).mono ?_)
      rintro e w8 ⟨rfl, hf8⟩
      have F8 : Hid (Frm [gp] w5 w8) := Lib.hid (F7.out.trans hf8 (by simp) (by simp))
      have G8 : Hid (Frm [] w1 w8) := Lib.hid (F5.out.trans F8.out (by simp) (fun x hx => .inr (by simp at hx; have := GP.out; omega)))
      have W8 := Lib.hid (hf8.whole W7.out (by simp))
      have Q8 := Lib.hid (hf8.whole Q7.out (by simp))
      clear hf8 y0 y1 z0 z1
      have z0 := Q8.out.cell 0
      have z1 := Q8.out.cell 1
      simp only [List.getElem?_toArray, List.getElem?_cons_zero, List.getElem?_cons_succ] at z0 z1
      go_wp2_with fail
      (with_reducible refine (HQ.out _ G8.out).mono ?_)
      rintro e w9 ⟨rfl, hf9⟩
      have F9 : Hid (Frm [gp] w5 w9) := Lib.hid (F8.out.trans hf9 (by simp) (by simp))
      have W9 := Lib.hid (hf9.whole W8.out (by simp))
      have Q9 := Lib.hid (hf9.whole Q8.out (by simp))
      clear hf9 z0 z1
      have z0 := Q9.out.cell 0
      have z1 := Q9.out.cell 1
      simp only [List.getElem?_toArray, List.getElem?_cons_zero, List.getElem?_cons_succ] at z0 z1
      obtain ⟨m1, hm1⟩ : ∃ m1, m1 = m + 1 := ⟨_, rfl⟩
      have hwm : IntKind.u64.wrap ((m : Int) + 1) = (m1 : Int) := by have := MB.out; simp [IntKind.wrap, IntKind.bits, IntKind.signed]; omega
      have hwm3 : IntKind.u64.wrap (m1 : Int) = (m1 : Int) := by have := MB.out; simp [IntKind.wrap, IntKind.bits, IntKind.signed]; omega
      have hwm2 : (m : Int) + 1 = (m1 : Int) := by omega
      rw [← hm1] at ME MB
      have HM1 := Lib.hid hm1; clear hm1
      go_wp2_with fail
      (with_reducible refine (BQ.out _).mono ?_)
      rintro e w10 ⟨rfl, hf10⟩
      have F10 : Hid (Frm [gp] w5 w10) := Lib.hid (F9.out.trans hf10 (by simp) (by simp))
      have W10 := Lib.hid (hf10.whole W9.out (by simp))
      clear hf10 z0 z1
      have r0 := W10.out.cell 0
      have r1 := W10.out.cell 1
      have k0 := W10.out.free 0
      have k1 := W10.out.free 1
      simp only [List.getElem?_toArray, List.getElem?_cons_zero, List.getElem?_cons_succ] at r0 r1
      have FIN : Hid (Whole ((w10.setCell ⟨gp, 0, none⟩ (.int .u64 (bl : Nat))).setCell ⟨gp, 1, none⟩ (.int .u64 (be : Nat))) gp 36 #[.int .u64 (bl : Nat), .int .u64 (be : Nat)] ∧ Frm [gp] w5 ((w10.setCell ⟨gp, 0, none⟩ (.int .u64 (bl : Nat))).setCell ⟨gp, 1, none⟩ (.int .u64 (be : Nat)))) := Lib.hid ⟨by
          have := (W10.out.put 0 (.int .u64 (bl : Nat))).put 1 (.int .u64 (be : Nat))
          simpa using this, (F10.out.setCell (.inl (by simp)) _).setCell (.inl (by simp)) _⟩
      go_wp2
      go_roundw
      case rel => exact ⟨m1, ⟨bl, be⟩, rfl, BF.out, ME, Lib.hid FIN.out.1, Lib.hid FIN.out.2⟩
      case measure => have := MB.out; have := HM1.out; simp [intOf]; omega
end Go.Proofs.Ytimmoencmmpkdaa
