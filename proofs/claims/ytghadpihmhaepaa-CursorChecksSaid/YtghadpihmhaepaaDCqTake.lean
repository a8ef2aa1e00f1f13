/- Contract of cursor.Take. -/
import Derived.Test.YtghadpihmhaepaaDCqRefTake
import Derived.Test.YtghadpihmhaepaaDCqCheck
import Derived.Test.YtghadpihmhaepaaCC
import Derived.Test.YtghadpihmhaepaaDPkFail
import Derived.Test.YtghadpihmhaepaaDTail
namespace Go.Proofs.Ytghadpihmhaepaa
open Go.RowKit
set_option maxRecDepth 100000
/-- A number is taken, or it is thrown. -/
def TkQ (w : World) (rb cb db : Nat) (k : Nat) (ik : IntKind) (l : List Nat) (e : Ending) (w' : World) : Prop :=
  (∃ (n : Nat) (m : List Nat), pW k l = some (n, m) ∧ n < 256 ^ k ∧ e = .returned (.int ik (n : Nat)) ∧ Rdr w' rb cb db m ∧ Frm [rb] w w') ∨ (pW k l = none ∧ Thrown w rb cb 4 e w')
theorem tq_u16 {w : World} {rb cb db : Nat} {l : List Nat} (h : Rdr w rb cb db l) (hdb : db < w.heap.size) : Calls Try.prog 88 #[.pointer (some ⟨rb, 0, none⟩)] w (TkQ w rb cb db 2 .u16 l) := by
  by_cases hl : l.length < 2
  · exact (ru16_short h hl).mono fun e w' h => .inr ⟨by unfold pW; rw [if_pos hl], h⟩
  · exact (ru16_ok h (by omega) hdb).mono fun e w' h' => .inl ⟨_, _, by unfold pW; rw [if_neg hl], val_take_lt h 2 (by omega), h'.1, h'.2.1, h'.2.2⟩
theorem tq_u64 {w : World} {rb cb db : Nat} {l : List Nat} (h : Rdr w rb cb db l) (hdb : db < w.heap.size) : Calls Try.prog 87 #[.pointer (some ⟨rb, 0, none⟩)] w (TkQ w rb cb db 8 .u64 l) := by
  by_cases hl : l.length < 8
  · exact (ru64_short h hl).mono fun e w' h => .inr ⟨by unfold pW; rw [if_pos hl], h⟩
  · exact (ru64_ok h (by omega) hdb).mono fun e w' h' => .inl ⟨_, _, by unfold pW; rw [if_neg hl], val_take_lt h 8 (by omega), h'.1, h'.2.1, h'.2.2⟩
/-- What Take leaves. -/
def TakeE (w : World) (F : List Nat) (rb cb db : Nat) (l : List Nat) (e : Ending) (w' : World) : Prop :=
  (pCrs l = none ∧ Thrown w rb cb 4 e w') ∨ (∃ C m, pCrs l = some (C, m) ∧ ¬ OkC C ∧ Thrown w rb cb 23 e w') ∨
  (∃ (D : Ps) (a : Option Addr) (n cap : Nat) (Z : List Hx) (m : List Nat), pCrs l = some (⟨D, hels Z⟩, m) ∧ OkC ⟨D, hels Z⟩ ∧ e = .returned (crsV D a n cap) ∧ Hid (Rdr w' rb cb db m) ∧ Hid (Frm [rb] w w') ∧ Hid (HxL w' F a Z) ∧ Hid (Tkn w' a n cap Z) ∧ D.fits)
/-- While held entries are taken. -/
def TpRel (W4 : World) (F : List Nat) (g rb cb db ml me : Nat) (l3 : List Nat) (i : Nat) (z : World) : Prop :=
  ∃ (a : Option Addr) (sn cS : Nat) (S : List Hx) (lc : List Nat), Hid (sn = S.length) ∧ Hid (sn ≤ i) ∧ Hid (Whole z g 28 #[.int .u64 (ml : Nat), .int .u64 (me : Nat), .slice a sn cS]) ∧ Hid (HxOwn z W4.heap.size 55 F a cS S) ∧ Hid (Rdr z rb cb db lc) ∧ Hid (pMany pHel i l3 = some (hels S, lc)) ∧ Hid (∀ x ∈ S, x.t.2.length < 65536) ∧ Hid (Frm [g, rb] W4 z)
/-- While ranges are taken. -/
def TpIn (W6 : World) (y rb cb db led : Nat) (lk : List Nat) (j : Nat) (z : World) : Prop :=
  ∃ (a : Option Addr) (ln cL : Nat) (L : List Rg) (lc : List Nat), Hid (ln = L.length) ∧ Hid (ln ≤ j) ∧ Hid (Whole z y 55 #[.int .u64 (led : Nat), .slice a ln cL]) ∧ Hid (OwnR z W6.heap.size a cL L) ∧ Hid (Bd L) ∧ Hid (Rdr z rb cb db lc) ∧ Hid (pMany pRg j lk = some (L, lc)) ∧ Hid (Frm [y, rb] W6 z)
theorem pCrs_of {l l1 l2 l3 : List Nat} {ml me n : Nat} (h1 : pW 8 l = some (ml, l1)) (h2 : pW 8 l1 = some (me, l2)) (h3 : pW 2 l2 = some (n, l3)) : pCrs l = (pMany pHel n l3).bind fun d => some (⟨⟨ml, me⟩, d.1⟩, d.2) := by
  unfold pCrs
  rw [h1]
  simp only [Option.bind_some]
  rw [h2]
  simp only [Option.bind_some]
  rw [h3]
  rfl
set_option linter.unusedSimpArgs false in
set_option maxHeartbeats 16000000 in
theorem cqtake_any {w : World} {rb cb db : Nat} {l : List Nat} (F : List Nat) (hr : Rdr w rb cb db l) (hdb : db < w.heap.size) (hF : ∀ x ∈ F, x < w.heap.size) :
    Calls Try.prog 63 #[.pointer (some ⟨rb, 0, none⟩)] w (TakeE w F rb cb db l) := by
  obtain ⟨w1, hw1⟩ : ∃ w1, w1 = w.alloc (.cells #[.int .u64 0, .int .u64 0, .slice none 0 0] 28) := ⟨_, rfl⟩
  obtain ⟨g, hg⟩ : ∃ g, g = w.heap.size := ⟨_, rfl⟩
  have F1 : Hid (Frm [] w w1) := Lib.hid (by rw [hw1]; exact (Frm.refl _ _).alloc _)
  have B0 : Hid (Whole w1 g 28 #[.int .u64 0, .int .u64 0, .slice none 0 0]) := Lib.hid (by rw [hw1, hg]; exact Whole.made _ _ _)
  have GB : Hid (rb < g ∧ cb < g ∧ db < g ∧ ∀ x ∈ F, x < g) := Lib.hid (by have := hr.lt; exact ⟨by omega, by omega, by omega, fun x hx => by have := hF x hx; omega⟩)
  have GS : Hid (g = w.heap.size) := Lib.hid hg
  have RD1 : Hid (Rdr w1 rb cb db l) := Lib.hid (hr.keep F1.out (by simp) (by simp) (by simp))
  have DB : Hid (∀ z : World, w1.heap.size ≤ z.heap.size → db < z.heap.size) := Lib.hid (fun z hz => by have := F1.out.size; omega)
  obtain ⟨i0, hi, hz0, hz1, hz2⟩ := info_parts infoHe
  have HI := Lib.hid hi; clear hi
  have HZ0 := Lib.hid hz0; clear hz0
  have HZ1 := Lib.hid hz1; clear hz1
  have HZ2 := Lib.hid hz2; clear hz2
  obtain ⟨j0, hj, hy0, hy1, hy2⟩ := info_parts Try.info71
  have RI := Lib.hid hj; clear hj
  have RZ0 := Lib.hid hy0; clear hy0
  have RZ1 := Lib.hid hy1; clear hy1
  have RZ2 := Lib.hid hy2; clear hy2
  obtain ⟨Q, hQ⟩ : ∃ Q, Q = TakeE w F rb cb db l := ⟨_, rfl⟩
  rw [← hQ]
  have HQ := Lib.hid hQ; clear hQ hr hdb hF
  have BAD : Hid (∀ e z w', pCrs l = none → Frm [rb] w1 z → Thrown z rb cb 4 e w' → Q e w') := Lib.hid (fun e z w' h1 h2 h3 => by
    rw [HQ.out]
    exact .inl ⟨h1, (h3.early h2).early0 F1.out⟩)
  have V0 : Hid (∀ (z : World) (ul ue : Nat) (a : Option Addr) (sl c : Nat) (tm : Array Value), tm.getD 2 undef = .pointer (some ⟨g, 0, none⟩) → Whole z g 28 #[.int .u64 (ul : Nat), .int .u64 (ue : Nat), .slice a sl c] → (results Try.f63 tm).run Try.prog z = .ok (.agg #[.int .u64 (ul : Nat), .int .u64 (ue : Nat), .slice a sl c]) z) := Lib.hid (fun z ul ue a sl c tm h6 hw => by
    have c0 := hw.cell 0
    have c1 := hw.cell 1
    have c2 := hw.cell 2
    simp at c0 c1 c2
    have h6' : tm[2]?.getD undef = .pointer (some ⟨g, 0, none⟩) := by simpa using h6
    simp [results, Try.results63, go_sem, c0, c1, c2, h6'])
  have HW1 := Lib.hid hw1; clear hw1
  have HG := Lib.hid hg; clear hg
  have N1 := Lib.hid (tq_u64 RD1.out (DB.out _ (Nat.le_refl _)))
  unfold TkQ at N1
  go_enter Try.func63, Try.ntmps63
  go_upto_region 1 with (fail)
  rw [← HW1.out, ← HG.out]
  go_wp2_with fail
  (with_reducible refine N1.out.mono ?_)
  rintro e w2 (⟨ml, l1, hp1, hml, rfl, hr2, hf2⟩ | ⟨hp1, ht⟩)
  case inr =>
    have hb := BAD.out _ _ _ (by unfold pCrs; rw [hp1]; rfl) (Frm.refl _ _) ht
    obtain ⟨rfl, _⟩ := ht
    exact ⟨rfl, hb⟩
  have P1 := Lib.hid hp1; clear hp1
  have M1 := Lib.hid hml; clear hml
  have RD2 := Lib.hid hr2; clear hr2
  have F2 := Lib.hid hf2; clear hf2
  have N2 := Lib.hid (tq_u64 RD2.out (DB.out _ F2.out.size))
  unfold TkQ at N2
  go_wp2_with fail
  (with_reducible refine N2.out.mono ?_)
  rintro e w3 (⟨me, l2, hp2, hme, rfl, hr3, hf3⟩ | ⟨hp2, ht⟩)
  case inr =>
    have hb := BAD.out _ _ _ (by unfold pCrs; rw [P1.out]; simp only [Option.bind_some]; rw [hp2]; rfl) F2.out ht
    obtain ⟨rfl, _⟩ := ht
    exact ⟨rfl, hb⟩
  have P2 := Lib.hid hp2; clear hp2
  have M2 := Lib.hid hme; clear hme
  have F3 : Hid (Frm [rb] w1 w3) := Lib.hid (F2.out.trans hf3 (fun x hx => hx) (fun x hx => .inl hx)); clear hf3
  obtain ⟨W3, hW3⟩ : ∃ W, W = w3.alloc (.cells #[.int .u64 (ml : Nat), .int .u64 (me : Nat), .slice none 0 0] 28) := ⟨_, rfl⟩
  obtain ⟨q, hq⟩ : ∃ q, q = w3.heap.size := ⟨_, rfl⟩
  have F33 : Hid (Frm [] w3 W3) := Lib.hid (by rw [hW3]; exact (Frm.refl _ _).alloc _)
  have BW3 : Hid (Whole W3 q 28 #[.int .u64 (ml : Nat), .int .u64 (me : Nat), .slice none 0 0]) := Lib.hid (by rw [hW3, hq]; exact Whole.made _ _ _)
  have F13 : Hid (Frm [rb] w1 W3) := Lib.hid (F3.out.trans F33.out (fun x hx => hx) (by simp))
  have QB : Hid (g < q ∧ rb < q ∧ cb < q ∧ db < q ∧ ∀ x ∈ F, x < q) := Lib.hid (by
    have h1 := B0.out.lt
    have h2 := F3.out.size
    have h3 := GB.out
    exact ⟨by omega, by omega, by omega, by omega, fun x hx => by have := h3.2.2.2 x hx; omega⟩)
  have RD3 : Hid (Rdr W3 rb cb db l2) := Lib.hid (hr3.keep F33.out (by simp) (by simp) (by simp)); clear hr3
  have N3 := Lib.hid (tq_u16 RD3.out (DB.out _ F13.out.size))
  unfold TkQ at N3
  go_upto_region 2 with (fail)
  rw [← hW3, ← hq]
  have HW3 := Lib.hid hW3; clear hW3
  have HQQ := Lib.hid hq; clear hq
  go_wp2_with fail
  (with_reducible refine N3.out.mono ?_)
  rintro e W4 (⟨n, l3, hp3, hn3, rfl, hr4, hf4⟩ | ⟨hp3, ht⟩)
  case inr =>
    have hb := BAD.out _ _ _ (by unfold pCrs; rw [P1.out]; simp only [Option.bind_some]; rw [P2.out]; simp only [Option.bind_some]; rw [hp3]; rfl) F13.out ht
    obtain ⟨rfl, _⟩ := ht
    exact ⟨rfl, hb⟩
  have PC : Hid (pCrs l = (pMany pHel n l3).bind fun d => some (⟨⟨ml, me⟩, d.1⟩, d.2)) := Lib.hid (pCrs_of P1.out P2.out hp3)
  clear hp3
  have n65 : n < 65536 := by simpa using hn3
  clear hn3
  have RD4 := Lib.hid hr4; clear hr4
  have F34 := Lib.hid hf4; clear hf4
  have BW4 : Hid (Whole W4 q 28 #[.int .u64 (ml : Nat), .int .u64 (me : Nat), .slice none 0 0]) := Lib.hid (F34.out.whole BW3.out (by have := QB.out; simp; omega))
  have F14 : Hid (Frm [rb] w1 W4) := Lib.hid (F13.out.trans F34.out (fun x hx => hx) (fun x hx => .inl hx))
  have B04 : Hid (Whole W4 g 28 #[.int .u64 0, .int .u64 0, .slice none 0 0]) := Lib.hid (F14.out.whole B0.out (by have := GB.out; simp; omega))
  have FQ : Hid (∀ z, Frm [q, rb] W4 z → Frm [rb] w1 z) := Lib.hid (fun z hz => F14.out.trans hz (fun x hx => hx) (fun x hx => by
    simp at hx
    rcases hx with rfl | rfl
    · exact .inr (by have h1 := HQQ.out; have h2 := F3.out.size; omega)
    · exact .inl (by simp)))
  have START : Hid (TpRel W4 (q :: g :: rb :: cb :: db :: F) q rb cb db ml me l3 0 W4) := Lib.hid ⟨none, 0, 0, [], l3, Lib.hid rfl, Lib.hid (Nat.le_refl _), BW4, Lib.hid (HxOwn.nil _ _ _ _), RD4, Lib.hid rfl, Lib.hid (by simp), Lib.hid (Frm.refl _ _)⟩
  go_wp2
  go_loopw [13] (fun s13 wr => ∃ i : Nat, i ≤ n ∧ s13 = .int .u16 (i : Nat) ∧ Hid (TpRel W4 (q :: g :: rb :: cb :: db :: F) q rb cb db ml me l3 i wr)) (fun s13 _ => n - (intOf s13).toNat)
  case atStart => exact ⟨0, Nat.zero_le _, rfl, START⟩
  case round =>
    obtain ⟨i, hi, rfl, hrr⟩ := hrel
    obtain ⟨a, sn, cS, S, lc, HSN, HSI, HB, HO, HR, HP, HX, HF⟩ := hrr.out
    clear hrr
    by_cases hlt : i < n
    · have hlt' : (i : Int) < (n : Int) := by omega
      have BADH : Hid (pHel lc = none → pCrs l = none) := Lib.hid (fun h => by rw [PC.out, pMany_cut HP.out hlt h]; rfl)
      have FW := Lib.hid (FQ.out _ HF.out)
      have N5 := Lib.hid (tq_u64 HR.out (DB.out _ FW.out.size))
      unfold TkQ at N5
      go_wp2_with fail
      (with_reducible refine N5.out.mono ?_)
      rintro e w5 (⟨led, la, hpa, hled, rfl, hr5, hf5⟩ | ⟨hpa, ht⟩)
      case inr =>
        have hb := BAD.out _ _ _ (BADH.out (by unfold pHel; rw [hpa]; rfl)) FW.out ht
        obtain ⟨rfl, _⟩ := ht
        exact ⟨rfl, hb⟩
      have PA := Lib.hid hpa; clear hpa
      have LED : Hid (led < 18446744073709551616) := Lib.hid hled; clear hled
      have F5 := Lib.hid hf5; clear hf5
      have FW5 : Hid (Frm [rb] w1 w5) := Lib.hid (FW.out.trans F5.out (fun x hx => hx) (fun x hx => .inl hx))
      obtain ⟨W6, hW6⟩ : ∃ W, W = w5.alloc (.cells #[.int .u64 (led : Nat), .slice none 0 0] 55) := ⟨_, rfl⟩
      obtain ⟨y6, hy6⟩ : ∃ y, y = w5.heap.size := ⟨_, rfl⟩
      have F56 : Hid (Frm [] w5 W6) := Lib.hid (by rw [hW6]; exact (Frm.refl _ _).alloc _)
      have FW6 : Hid (Frm [rb] w1 W6) := Lib.hid (FW5.out.trans F56.out (fun x hx => hx) (by simp))
      have B6 : Hid (Whole W6 y6 55 #[.int .u64 (led : Nat), .slice none 0 0]) := Lib.hid (by rw [hW6, hy6]; exact Whole.made _ _ _)
      have Y6 : Hid (W4.heap.size ≤ y6 ∧ q < y6 ∧ y6 < W6.heap.size ∧ wr.heap.size ≤ y6) := Lib.hid (by
        have h1 := HF.out.size
        have h2 := F5.out.size
        have h3 := HB.out.lt
        have h5 := B6.out.lt
        omega)
      have RD6 : Hid (Rdr W6 rb cb db la) := Lib.hid (hr5.keep F56.out (by simp) (by simp) (by simp))
      have N6 := Lib.hid (tq_u16 RD6.out (DB.out _ FW6.out.size))
      unfold TkQ at N6
      clear hr5
      go_upto_region 5 with (fail)
      rw [← hW6, ← hy6]
      have HW6 := Lib.hid hW6; clear hW6
      have HY6 := Lib.hid hy6; clear hy6
      go_wp2_with fail
      (with_reducible refine N6.out.mono ?_)
      rintro e W7 (⟨kk, lk, hpk, hkk, rfl, hr7, hf7⟩ | ⟨hpk, ht⟩)
      case inr =>
        have hb := BAD.out _ _ _ (BADH.out (by unfold pHel; rw [PA.out]; simp only [Option.bind_some]; rw [hpk]; rfl)) FW6.out ht
        obtain ⟨rfl, _⟩ := ht
        exact ⟨rfl, hb⟩
      have k65 : kk < 65536 := by simpa using hkk
      clear hkk
      have RD7 := Lib.hid hr7; clear hr7
      have F7 := Lib.hid hf7; clear hf7
      have PHE : Hid (pHel lc = (pMany pRg kk lk).bind fun c => some ((led, c.1), c.2)) := Lib.hid (by
        unfold pHel
        rw [PA.out]
        simp only [Option.bind_some]
        rw [hpk]
        rfl)
      clear hpk
      have FW7 : Hid (Frm [rb] w1 W7) := Lib.hid (FW6.out.trans F7.out (fun x hx => hx) (fun x hx => .inl hx))
      have B7 : Hid (Whole W7 y6 55 #[.int .u64 (led : Nat), .slice none 0 0]) := Lib.hid (F7.out.whole B6.out (by have h1 := Y6.out; have h2 := QB.out; simp; omega))
      have FY : Hid (∀ z, Frm [y6, rb] W7 z → Frm [rb] w1 z ∧ Frm [rb] wr z) := Lib.hid (fun z hz => by
        have hc : ∀ x ∈ [y6, rb], x ∈ [rb] ∨ w5.heap.size ≤ x := fun x hx => by
          simp at hx
          rcases hx with rfl | rfl
          · exact .inr (by have := HY6.out; omega)
          · exact .inl (by simp)
        have h57 : Frm [y6, rb] w5 z := (F56.out.trans F7.out (U := [y6, rb]) (by simp) (by simp)).trans hz (fun x hx => hx) (fun x hx => .inl hx)
        have h5 : Frm [rb] w5 z := h57.weak hc
        exact ⟨FW5.out.trans h5 (fun x hx => hx) (fun x hx => .inl hx), F5.out.trans h5 (fun x hx => hx) (fun x hx => .inl hx)⟩)
      have ST2 : Hid (TpIn W7 y6 rb cb db led lk 0 W7) := Lib.hid ⟨none, 0, 0, [], lk, Lib.hid rfl, Lib.hid (Nat.le_refl _), B7, Lib.hid (OwnR.nil _ _), Lib.hid (by intro p hp; simp at hp), RD7, Lib.hid rfl, Lib.hid (Frm.refl _ _)⟩
      go_wp2
      go_loopw [20] (fun s20 wi => ∃ j : Nat, j ≤ kk ∧ s20 = .int .u16 (j : Nat) ∧ Hid (TpIn W7 y6 rb cb db led lk j wi)) (fun s20 _ => kk - (intOf s20).toNat)
      case atStart => exact ⟨0, Nat.zero_le _, rfl, ST2⟩
      case round =>
        obtain ⟨j, hj, rfl, hrr⟩ := hrel
        obtain ⟨aL, ln, cL, L, lj, HLN, HLJ, JB, JO, JBD, JR, JP, JF⟩ := hrr.out
        clear hrr
        by_cases hlj : j < kk
        · have hlj' : (j : Int) < (kk : Int) := by omega
          have FJ := Lib.hid (FY.out _ JF.out)
          have BADR : Hid (pRg lj = none → pCrs l = none) := Lib.hid (fun h => BADH.out (by rw [PHE.out, pMany_cut JP.out hlj h]; rfl))
          have AL7 : Hid (∀ x ∈ blk aL, W7.heap.size ≤ x ∧ y6 < x ∧ q < x) := Lib.hid (fun x hx => by
            obtain ⟨v, hv, rfl⟩ := mem_blk.1 hx
            have h1 := (JO.out.lt v hv).1
            have h2 := Y6.out
            have h3 := F7.out.size
            omega)
          have JB0 : Hid (∀ z, Frm (rb :: blk aL) wr z → Whole z y6 55 #[.int .u64 (led : Nat), .slice aL ln cL]) := Lib.hid (fun z hz => hz.whole JB.out (fun hm => by
            rcases List.mem_cons.1 hm with h1 | h1
            · have h2 := Y6.out; have h3 := QB.out; omega
            · have := AL7.out _ h1; omega))
          have u1 : ∀ z, Frm (rb :: blk aL) wr z → z.cell? ⟨y6, 1, none⟩ = some (.slice aL ln cL) := fun z hz => (JB0.out z hz).cell 1
          have NA := Lib.hid (fun z (hz : Frm [] wr z) => tq_u64 (JR.out.keep hz (by simp) (by simp) (by simp)) (DB.out _ (Nat.le_trans FJ.out.1.size hz.size)))
          unfold TkQ at NA
          go_upto_region 7 with (fail)
          refine wp_region_tail (S := fun w' => Frm (rb :: blk aL) wr w') (tl := (fun j => j == 10)) (by kernel_rfl) (Frm.drew (Frm.refl _ _)) (fun hHeld => ?_)
          refine tail_take (i := 0) (oi := ⟨some 22, _, _, _, _, _⟩) (v := ?_) rfl (by kernel_rfl) (by kernel_rfl) (by kernel_rfl) (by kernel_rfl) (by kernel_rfl) (fun _ _ _ h => h) (Or.inl ⟨by rfl, ?_⟩) (by assumption) ?_
          rotate_left 1
          · (intro w hSw; (try dsimp only at hSw); go_simp; all_goals with_reducible rfl)
          try simp only [Act.put, List.setIfInBounds_toArray, List.set_cons_zero, List.set_cons_succ]
          refine tail_take (i := 1) (oi := ⟨some 23, _, _, _, _, _⟩) (v := ?_) rfl (by kernel_rfl) (by kernel_rfl) (by kernel_rfl) (by kernel_rfl) (by kernel_rfl) (fun _ _ _ h => h) (Or.inl ⟨by rfl, ?_⟩) (by assumption) ?_
          rotate_left 1
          · (intro w hSw; (try dsimp only at hSw); go_simp; all_goals with_reducible rfl)
          try simp only [Act.put, List.setIfInBounds_toArray, List.set_cons_zero, List.set_cons_succ]
          refine tail_take (i := 2) (oi := ⟨some 24, _, _, _, _, _⟩) (v := ?_) rfl (by kernel_rfl) (by kernel_rfl) (by kernel_rfl) (by kernel_rfl) (by kernel_rfl) (fun _ _ _ h => h) (Or.inl ⟨by rfl, ?_⟩) (by assumption) ?_
          rotate_left 1
          · (intro w hSw; (try dsimp only at hSw); go_simp; all_goals with_reducible rfl)
          try simp only [Act.put, List.setIfInBounds_toArray, List.set_cons_zero, List.set_cons_succ]
          refine tail_take (i := 4) (oi := ⟨some 26, _, _, _, _, _⟩) (v := ?_) rfl (by kernel_rfl) (by kernel_rfl) (by kernel_rfl) (by kernel_rfl) (by kernel_rfl) (fun _ _ _ h => h) (Or.inl ⟨by rfl, ?_⟩) (by assumption) ?_
          rotate_left 1
          · (intro w hSw; (try dsimp only at hSw); go_simp; all_goals with_reducible rfl)
          try simp only [Act.put, List.setIfInBounds_toArray, List.set_cons_zero, List.set_cons_succ]
          refine tail_one (i := 3) (o := ⟨some 25, _, _, _, _, _⟩) (by kernel_rfl) rfl (fun K hK => ?_)
          go_simp
          ((with_reducible refine (NA.out _ (by repeat (first | assumption | apply Frm.drew | exact Frm.refl _ _))).mono ?_); rintro e w8 (⟨lo, lA, hpA, hlo, rfl, hr8, hf8⟩ | ⟨hpA, ht⟩); (case inr => (have hb := BAD.out _ _ _ (BADR.out (by unfold pRg; simp [hpA])) (FJ.out.1.drew) ht; obtain ⟨rfl, _⟩ := ht; exact ⟨rfl, hb⟩)); have PLO := Lib.hid hpA; clear hpA; have LO := Lib.hid hlo; clear hlo; have R8 := Lib.hid hr8; clear hr8; have F8 : Hid (Frm [rb] wr w8) := Lib.hid ((Frm.drew (Frm.refl [] wr)).trans hf8 (by simp) (by simp)); clear hf8; have S8 : Frm (rb :: blk aL) wr w8 := F8.out.weak (fun x hx => .inl (by simp at hx; simp [hx])); have FW8 : Hid (Frm [rb] w1 w8) := Lib.hid (FJ.out.1.trans F8.out (fun x hx => hx) (fun x hx => .inl hx)); have NB := Lib.hid (tq_u64 R8.out (DB.out _ FW8.out.size)); unfold TkQ at NB)
          go_wp2_with fail
          refine hK.out _ _ (fun _ => by assumption) (fun _ => ?_)
          clear hK K
          try simp only [Act.put, List.setIfInBounds_toArray, List.set_cons_zero, List.set_cons_succ]
          refine tail_one (i := 5) (o := ⟨some 27, _, _, _, _, _⟩) (by kernel_rfl) rfl (fun K hK => ?_)
          go_simp
          ((with_reducible refine NB.out.mono ?_); rintro e w9 (⟨hv, lB, hpB, hhv, rfl, hr9, hf9⟩ | ⟨hpB, ht⟩); (case inr => (have hb := BAD.out _ _ _ (BADR.out (by unfold pRg; simp [PLO.out, hpB])) FW8.out ht; obtain ⟨rfl, _⟩ := ht; exact ⟨rfl, hb⟩)); have PRG : Hid (pRg lj = some ((lo, hv), lB)) := Lib.hid (by unfold pRg; simp [PLO.out, hpB]); clear hpB; have HIV := Lib.hid hhv; clear hhv; have R9 := Lib.hid hr9; clear hr9; have F9 : Hid (Frm [rb] wr w9) := Lib.hid (F8.out.trans hf9 (fun x hx => hx) (fun x hx => .inl hx)); clear hf9; have S9 : Frm (rb :: blk aL) wr w9 := F9.out.weak (fun x hx => .inl (by simp at hx; simp [hx])))
          go_wp2_with fail
          refine hK.out _ _ (fun _ => by assumption) (fun _ => ?_)
          clear hK K
          try simp only [Act.put, List.setIfInBounds_toArray, List.set_cons_zero, List.set_cons_succ]
          refine tail_take (i := 6) (oi := ⟨some 28, _, _, _, _, _⟩) (v := ?_) rfl (by kernel_rfl) (by kernel_rfl) (by kernel_rfl) (by kernel_rfl) (by kernel_rfl) (fun _ _ _ h => h) (Or.inl ⟨by rfl, ?_⟩) (by assumption) ?_
          rotate_left 1
          · (intro w hSw; (try dsimp only at hSw); go_simp; all_goals with_reducible rfl)
          try simp only [Act.put, List.setIfInBounds_toArray, List.set_cons_zero, List.set_cons_succ]
          refine tail_one (i := 7) (o := ⟨some 29, _, _, _, _, _⟩) (by kernel_rfl) rfl (fun K hK => ?_)
          go_simp
          refine hK.out _ _ (fun _ => by repeat (first | assumption | apply Frm.alloc | apply Frm.drew | exact Frm.refl _ _)) (fun _ => ?_)
          clear hK K
          try simp only [Act.put, List.setIfInBounds_toArray, List.set_cons_zero, List.set_cons_succ]
          refine tail_one (i := 8) (o := ⟨some 30, _, _, _, _, _⟩) (by kernel_rfl) rfl (fun K hK => ?_)
          ((have JO9 : Hid (OwnR w9 W7.heap.size aL cL L) := Lib.hid (JO.out.keep F9.out (fun x hx hm => by have h1 := AL7.out x.block (by rw [hx]; simp); have h2 := QB.out; simp at hm; omega))); (have ln65 : ln < 65536 := by have := HLJ.out; omega); (have hfit : ln + 1 ≤ 1000000 := by omega); (have hbz : W7.heap.size ≤ (w9.alloc (.cells #[.int .u64 (lo : Nat), .int .u64 (hv : Nat)] 71)).heap.size := by have h1 := JF.out.size; have h2 := F9.out.size; simp; omega); (have OWN : Hid ((w9.alloc (.cells #[.int .u64 (lo : Nat), .int .u64 (hv : Nat)] 71)).ownsRow W7.heap.size 71 2 (.slice aL ln cL) ln (fl L)) := Lib.hid (by rw [HLN.out]; exact JO9.out.keep (S := []) ((Frm.refl [] w9).alloc _) (by simp))); (have LHB : Hid (lo < 18446744073709551616 ∧ hv < 18446744073709551616) := Lib.hid ⟨LO.out, HIV.out⟩); refine step_appR rfl (.tmp 23) (.tmp 29) 53 rfl W7.heap.size 71 j0 Try.underlying53 RI.out RZ0.out RZ1.out RZ2.out (.slice aL ln cL) ln (fl L) rfl OWN.out _ 1 1 [(lo, hv)] rfl (one_rg (lo, hv) LHB.out) rfl (by intro h; cases h) hfit hbz ?_; intro a11 c11 w11 happ; have HO11 := Lib.hid (own_app happ HLN.out rfl); have FAP : Hid (Frm (blk aL) w9 w11) := Lib.hid (frm_app ((Frm.refl _ _).alloc _) happ (fun x hx => .inl (by rw [hx]; simp))); clear happ; (have S11 : Frm (rb :: blk aL) wr w11 := S9.trans FAP.out (fun x hx => hx) (fun x hx => .inl (by simp [hx]))); have JB11 := Lib.hid (JB0.out w11 S11); have y0 := JB11.out.cell 1; have y1 := JB11.out.free 1; simp only [List.getElem?_toArray, List.getElem?_cons_zero, List.getElem?_cons_succ] at y0)
          refine hK.out _ _ (fun _ => by repeat (first | assumption | apply Frm.alloc | apply Frm.drew | exact Frm.refl _ _)) (fun _ => ?_)
          clear hK K
          try simp only [Act.put, List.setIfInBounds_toArray, List.set_cons_zero, List.set_cons_succ]
          refine tail_take (i := 9) (oi := ⟨some 31, _, _, _, _, _⟩) (v := ?_) rfl (by kernel_rfl) (by kernel_rfl) (by kernel_rfl) (by kernel_rfl) (by kernel_rfl) (fun _ _ _ h => h) (Or.inl ⟨by rfl, ?_⟩) (by assumption) ?_
          rotate_left 1
          · (intro w hSw; (try dsimp only at hSw); go_simp; all_goals with_reducible rfl)
          try simp only [Act.put, List.setIfInBounds_toArray, List.set_cons_zero, List.set_cons_succ]
          refine tail_one (i := 10) (o := ⟨none, _, _, _, _, _⟩) (by kernel_rfl) rfl (fun K hK => ?_)
          go_simp
          refine hK.out _ _ (fun h => absurd h (by decide)) (fun _ => ?_)
          clear hK K
          try simp only [Act.put, List.setIfInBounds_toArray, List.set_cons_zero, List.set_cons_succ]
          refine tail_done (by kernel_rfl) ?_ _
          obtain ⟨W12, hW12⟩ : ∃ W, W = w11.setCell ⟨y6, 1, none⟩ (.slice a11 (ln + 1 : Nat) c11) := ⟨_, rfl⟩
          rw [← hW12]
          have FS12 : Hid (Frm [y6] w11 W12) := Lib.hid (by rw [hW12]; exact (Frm.refl _ _).setCell (.inl (by simp)) _)
          have RDK : Hid (∀ x ∈ blk aL, x ≠ rb ∧ x ≠ cb ∧ x ≠ db) := Lib.hid (fun x hx => by have h1 := AL7.out x hx; have h2 := QB.out; omega)
          have FIN : Hid (TpIn W7 y6 rb cb db led lk (j + 1) W12) := Lib.hid ⟨a11, ln + 1, c11, L ++ [(lo, hv)], lB, Lib.hid (by rw [List.length_append, ← HLN.out]; rfl), Lib.hid (by have := HLJ.out; omega), Lib.hid (by
              rw [hW12]
              have := JB11.out.put 1 (.slice a11 (ln + 1 : Nat) c11)
              simpa using this), Lib.hid (HO11.out.keep FS12.out (fun x hx hm => by
              have h1 := (HO11.out.lt x hx).1
              have h2 := Y6.out
              have h3 := F7.out.size
              simp at hm; omega)), Lib.hid (JBD.out.append (fun p hp => by rw [List.mem_singleton.1 hp]; exact LHB.out)),
            Lib.hid ((R9.out.keep FAP.out (fun hm => (RDK.out _ hm).1 rfl) (fun hm => (RDK.out _ hm).2.1 rfl) (fun hm => (RDK.out _ hm).2.2 rfl)).keep FS12.out (by have h1 := Y6.out; have h2 := QB.out; simp; omega) (by have h1 := Y6.out; have h2 := QB.out; simp; omega) (by have h1 := Y6.out; have h2 := QB.out; simp; omega)),
            Lib.hid (pMany_step JP.out PRG.out),
            Lib.hid (((JF.out.trans F9.out (U := [y6, rb]) (fun x hx => hx) (fun x hx => .inl (by simp at hx; simp [hx]))).trans FAP.out (U := [y6, rb]) (fun x hx => hx) (fun x hx => .inr (AL7.out x hx).1)).trans FS12.out (fun x hx => hx) (by simp))⟩
          clear y0 y1 u1 hbz OWN hW12
          go_wp2
          go_roundw
          case rel => exact ⟨j + 1, by omega, by go_num, FIN⟩
          case measure => simp [intOf]; omega
        · obtain rfl : j = kk := by omega
          have FRC := Lib.hid (FY.out _ JF.out)
          have FL : Hid (∀ x ∈ q :: g :: rb :: cb :: db :: F, x ≤ q) := Lib.hid (fun x hx => by
            have h := QB.out
            simp only [List.mem_cons] at hx
            rcases hx with rfl | rfl | rfl | rfl | rfl | hx
            · exact Nat.le_refl _
            · omega
            · omega
            · omega
            · omega
            · have := h.2.2.2.2 x hx; omega)
          have HBc : Hid (Whole wr q 28 #[.int .u64 (ml : Nat), .int .u64 (me : Nat), .slice a sn cS]) := Lib.hid (FRC.out.2.whole HB.out (by have := QB.out; simp; omega))
          have HOc : Hid (HxOwn wr W4.heap.size 55 (q :: g :: rb :: cb :: db :: F) a cS S) := Lib.hid (HO.out.keep FRC.out.2 (fun x hx => .inl (by simp at hx; simp [hx])) (fun x hx => .inl hx))
          have RRL := JO.out.rr JBD.out
          have AL7 : Hid (∀ x, aL = some x → W7.heap.size ≤ x.block ∧ q < x.block ∧ y6 < x.block) := Lib.hid (fun x hx => by
            have h1 := (JO.out.lt x hx).1
            have h2 := Y6.out
            have h3 := F7.out.size
            omega)
          have XOK : Hid (HxOk wr (q :: g :: rb :: cb :: db :: F) ⟨(led, L), aL, cL⟩) := Lib.hid ⟨RRL.1, fun _ v hv hm => by have h1 := AL7.out v hv; have h2 := FL.out _ hm; omega, RRL.2.1, LED.out, RRL.2.2.1, RRL.2.2.2⟩
          have XB : Hid (∀ v, aL = some v → v.block ∉ blk a) := Lib.hid (fun v hv hm => by
            have h1 := AL7.out v hv
            have h2 := (HO.out.blk_lt _ hm).2
            have h3 := Y6.out
            omega)
          obtain ⟨WA, hWA⟩ : ∃ WA, WA = wr.alloc (.cells #[.int .u64 (led : Nat), .slice aL ln cL] 55) := ⟨_, rfl⟩
          have FA : Hid (Frm [] wr WA) := Lib.hid (by rw [hWA]; exact (Frm.refl _ _).alloc _)
          have HOA : Hid (HxOwn WA W4.heap.size 55 (q :: g :: rb :: cb :: db :: F) a cS S) := Lib.hid (HOc.out.keep FA.out (by simp) (fun x hx => .inl hx))
          have OWN : Hid ((wr.alloc (.cells #[.int .u64 (led : Nat), .slice aL ln cL] 55)).ownsRow W4.heap.size 55 2 (.slice a sn cS) sn (hxc S)) := Lib.hid (by rw [← hWA, HSN.out]; exact HOA.out.own)
          have ONE : Hid (ValsAt (wr.alloc (.cells #[.int .u64 (led : Nat), .slice aL ln cL] 55)) (some ⟨wr.heap.size, 0, none⟩) (hxc [⟨(led, L), aL, cL⟩])) := Lib.hid (by
            have := hxvals_one wr ⟨(led, L), aL, cL⟩ 55
            simp only at this
            rw [← HLN.out] at this
            exact this)
          have sn65 : sn < 65536 := by have := HSI.out; omega
          have hfit : sn + 1 ≤ 1000000000 := by omega
          have SZ4 : Hid (W4.heap.size ≤ wr.heap.size) := Lib.hid (Nat.le_trans HF.out.size FRC.out.2.size)
          have hbz : W4.heap.size ≤ (wr.alloc (.cells #[.int .u64 (led : Nat), .slice aL ln cL] 55)).heap.size := by have := SZ4.out; simp; omega
          have x0 := JB.out.cell 0
          have x1 := JB.out.cell 1
          have x2 := HBc.out.cell 2
          simp only [List.getElem?_toArray, List.getElem?_cons_zero, List.getElem?_cons_succ] at x0 x1 x2
          have HWA := Lib.hid hWA
          clear hWA RRL
          go_wp2_with (at_builtin; refine wpList_appS (by rfl) (.tmp 34) (.tmp 36) 26 rfl W4.heap.size 55 i0 (.agg #[.int .u64 0, .slice none 0 0]) 2 32 Try.underlying26 HI.out HZ0.out rfl (by decide) HZ1.out HZ2.out (by decide) (.slice a sn cS) sn _ rfl OWN.out _ 1 1 _ rfl ONE.out rfl (hxc_one _) (fun h => by cases h) hfit hbz ?_)
          intro a12 c12 w12 happ
          rw [← HWA.out] at happ
          have g12 := HOA.out.app (n := sn) (m := 1) (Y := [⟨(led, L), aL, cL⟩]) HSN.out (fun y hy => by
            simp only [List.mem_singleton] at hy
            subst hy
            have hq := XOK.out.keep (F' := q :: g :: rb :: cb :: db :: F) (S := []) FA.out (by simp) (fun x hx => .inl hx)
            exact ⟨hq.rs, fun hne v hv' hm => (List.mem_append.1 hm).elim (fun h1 => XB.out v hv' h1) (fun h1 => hq.away hne v hv' h1), hq.nil, hq.num, hq.room⟩) rfl (fun x hx => by
            have h1 := HBc.out.lt
            have h2 := FA.out.size
            have h3 := FL.out x hx
            omega) happ
          have BLK : Hid (∀ x ∈ blk a, W4.heap.size ≤ x ∧ q < x) := Lib.hid (fun x hx => by
            have h1 := (HO.out.blk_lt x hx).1
            have h2 := BW4.out.lt
            omega)
          have HB12 : Hid (Whole w12 q 28 #[.int .u64 (ml : Nat), .int .u64 (me : Nat), .slice a sn cS]) := Lib.hid (g12.2.1.whole (FA.out.whole HBc.out (by simp)) (fun hm => by have := BLK.out _ hm; omega))
          obtain ⟨W13, hW13⟩ : ∃ W, W = w12.setCell ⟨q, 2, none⟩ (.slice a12 (sn + 1 : Nat) c12) := ⟨_, rfl⟩
          have FS13 : Hid (Frm [q] w12 W13) := Lib.hid (by rw [hW13]; exact (Frm.refl _ _).setCell (.inl (by simp)) _)
          have XLL : Hid (L.length < 65536) := Lib.hid (by have h1 := HLN.out; have h2 := HLJ.out; omega)
          have RDK : Hid (∀ x ∈ blk a, x ≠ rb ∧ x ≠ cb ∧ x ≠ db) := Lib.hid (fun x hx => by have h1 := BLK.out x hx; have h2 := QB.out; omega)
          have HPN : Hid (pHel lc = some ((led, L), lj)) := Lib.hid (by rw [PHE.out, JP.out]; rfl)
          have FIN : Hid (TpRel W4 (q :: g :: rb :: cb :: db :: F) q rb cb db ml me l3 (i + 1) W13) := Lib.hid ⟨a12, sn + 1, c12, S ++ [⟨(led, L), aL, cL⟩], lj, Lib.hid g12.2.2.2, Lib.hid (by have := HSI.out; omega), Lib.hid (by
              rw [hW13]
              have := HB12.out.put 2 (.slice a12 (sn + 1 : Nat) c12)
              simpa using this),
            Lib.hid (g12.1.keep FS13.out (fun x hx => .inl (by simp at hx; simp [hx])) (fun x hx => .inl hx)),
            Lib.hid (((JR.out.keep FA.out (by simp) (by simp) (by simp)).keep g12.2.1 (fun hm => (RDK.out _ hm).1 rfl) (fun hm => (RDK.out _ hm).2.1 rfl) (fun hm => (RDK.out _ hm).2.2 rfl)).keep FS13.out (by have h2 := QB.out; simp; omega) (by have h2 := QB.out; simp; omega) (by have h2 := QB.out; simp; omega)),
            Lib.hid (by
              rw [hels_append]
              exact pMany_step HP.out HPN.out),
            Lib.hid (fun y hy => by
              rcases List.mem_append.1 hy with h1 | h1
              · exact HX.out y h1
              · simp at h1
                rw [h1]
                exact XLL.out),
            Lib.hid ((((HF.out.trans FRC.out.2 (U := [q, rb]) (fun x hx => hx) (fun x hx => .inl (by simp at hx; simp [hx]))).trans FA.out (U := [q, rb]) (fun x hx => hx) (by simp)).trans g12.2.1 (U := [q, rb]) (fun x hx => hx) (fun x hx => .inr (BLK.out x hx).1)).trans FS13.out (fun x hx => hx) (fun x hx => .inl (by simp at hx; simp [hx])))⟩
          have y0 := HB12.out.cell 2
          have y1 := HB12.out.free 2
          simp only [List.getElem?_toArray, List.getElem?_cons_zero, List.getElem?_cons_succ] at y0
          have HW13 := Lib.hid hW13
          clear happ hbz OWN ONE x0 x1 x2 hW13 g12
          go_upto_region 10 with (fail)
          rw [← HW13.out]
          clear y0 y1
          go_wp2
          go_roundw
          case rel => exact ⟨i + 1, by omega, by go_num, FIN⟩
          case measure => simp [intOf]; omega
    · obtain rfl : i = n := by omega
      have PC2 : Hid (pCrs l = some (⟨⟨ml, me⟩, hels S⟩, lc)) := Lib.hid (by rw [PC.out, HP.out]; rfl)
      have TK : Hid (HxL wr (q :: g :: rb :: cb :: db :: F) a S) := Lib.hid HO.out.hl
      have S65 : Hid (sn < 65536) := Lib.hid (by have := HSI.out; omega)
      have FW := Lib.hid (FQ.out _ HF.out)
      have B0c : Hid (Whole wr g 28 #[.int .u64 0, .int .u64 0, .slice none 0 0]) := Lib.hid (HF.out.whole B04.out (by have h1 := GB.out; have h2 := QB.out; simp; omega))
      have CKX := Lib.hid (cqcheck_any ⟨ml, me⟩ a sn cS _ S wr TK.out HSN.out (by have := S65.out; omega) (fun x hx => by have := HX.out x hx; omega))
      have OKI : Hid (RtC ⟨⟨ml, me⟩, hels S⟩ ↔ OkC ⟨⟨ml, me⟩, hels S⟩) := Lib.hid (rtc_iff _)
      unfold BoolOf crsV at CKX
      simp only at CKX
      have x0 := HB.out.cell 0
      have x1 := HB.out.cell 1
      have x2 := HB.out.cell 2
      simp only [List.getElem?_toArray, List.getElem?_cons_zero, List.getElem?_cons_succ] at x0 x1 x2
      clear START
      go_wp2_with fail
      (with_reducible refine CKX.out.mono ?_)
      rintro e W5 ⟨b, rfl, hb, hf5⟩
      have HBB := Lib.hid (hb.trans OKI.out)
      clear hb x0 x1 x2
      have FW5 : Hid (Frm [rb] w1 W5) := Lib.hid (FW.out.trans hf5 (fun x hx => hx) (by simp))
      have RD5 : Hid (Rdr W5 rb cb db lc) := Lib.hid (HR.out.keep hf5 (by simp) (by simp) (by simp))
      cases b
      · have FL : Hid (Calls Try.prog 89 #[.pointer (some ⟨rb, 0, none⟩), .int .i64 23] W5 (Thrown W5 rb cb 23)) := Lib.hid (fail1_any 23 RD5.out (by decide))
        go_wp2_with fail
        (with_reducible refine FL.out.mono ?_)
        intro e W6 ht
        have hb : Q e W6 := by
          rw [HQ.out]
          exact .inr (.inl ⟨_, lc, PC2.out, fun h => (by have := HBB.out.2 h; cases this), (ht.early FW5.out).early0 F1.out⟩)
        obtain ⟨rfl, _⟩ := ht
        exact ⟨rfl, hb⟩
      · have B05 : Hid (Whole W5 g 28 #[.int .u64 0, .int .u64 0, .slice none 0 0]) := Lib.hid (hf5.whole B0c.out (by simp))
        have BC5 : Hid (Whole W5 q 28 #[.int .u64 (ml : Nat), .int .u64 (me : Nat), .slice a sn cS]) := Lib.hid (hf5.whole HB.out (by simp))
        have HL5 : Hid (HxL W5 (q :: g :: rb :: cb :: db :: F) a S) := Lib.hid (TK.out.sub hf5)
        have x0 := BC5.out.cell 0
        have x1 := BC5.out.cell 1
        have x2 := BC5.out.cell 2
        have y0 := B05.out.cell 0
        have y1 := B05.out.cell 1
        have y2 := B05.out.cell 2
        have k0 := B05.out.free 0
        have k1 := B05.out.free 1
        have k2 := B05.out.free 2
        simp only [List.getElem?_toArray, List.getElem?_cons_zero, List.getElem?_cons_succ] at x0 x1 x2 y0 y1 y2
        have FG : Hid (Frm [g] W5 (((W5.setCell ⟨g, 0, none⟩ (.int .u64 (ml : Nat))).setCell ⟨g, 1, none⟩ (.int .u64 (me : Nat))).setCell ⟨g, 2, none⟩ (.slice a sn cS))) := Lib.hid ((((Frm.refl _ _).setCell (.inl (by simp)) _).setCell (.inl (by simp)) _).setCell (.inl (by simp)) _)
        have D : Hid (Whole (((W5.setCell ⟨g, 0, none⟩ (.int .u64 (ml : Nat))).setCell ⟨g, 1, none⟩ (.int .u64 (me : Nat))).setCell ⟨g, 2, none⟩ (.slice a sn cS)) g 28 #[.int .u64 (ml : Nat), .int .u64 (me : Nat), .slice a sn cS]) := Lib.hid (by
          have := ((B05.out.put 0 (.int .u64 (ml : Nat))).put 1 (.int .u64 (me : Nat))).put 2 (.slice a sn cS)
          simpa using this)
        have FIN : Hid (Q (.returned (.agg #[.int .u64 (ml : Nat), .int .u64 (me : Nat), .slice a sn cS])) (((W5.setCell ⟨g, 0, none⟩ (.int .u64 (ml : Nat))).setCell ⟨g, 1, none⟩ (.int .u64 (me : Nat))).setCell ⟨g, 2, none⟩ (.slice a sn cS))) := Lib.hid (by
          rw [HQ.out]
          have hgn : rb ≠ g ∧ cb ≠ g ∧ db ≠ g := by have := GB.out; omega
          have hl := HL5.out.keep FG.out (F' := F) (fun x hx => .inl (by simp at hx; simp [hx])) (fun x hx => .inl (by simp [hx]))
          exact .inr (.inr ⟨⟨ml, me⟩, a, sn, cS, S, lc, PC2.out, HBB.out.1 rfl, rfl, Lib.hid (RD5.out.keep FG.out (by simp; exact hgn.1) (by simp; exact hgn.2.1) (by simp; exact hgn.2.2)), Lib.hid (F1.out.trans (FW5.out.trans FG.out (U := [rb, g]) (by simp) (fun x hx => .inl (by simp at hx; simp [hx]))) (by simp) (fun x hx => by
            simp at hx
            rcases hx with rfl | rfl
            · exact .inl (by simp)
            · exact .inr (by have := GS.out; omega))), Lib.hid hl, Lib.hid ⟨hl.keep (S := []) (Frm.refl _ _) (by simp) (by simp), HSN.out, S65.out, HX.out⟩, ⟨by have := M1.out; simpa using this, by have := M2.out; simpa using this⟩⟩))
        go_wp2
        refine bodyPost_ret (V0.out _ ml me a sn cS _ rfl D.out) rfl ?_
        exact FIN.out
end Go.Proofs.Ytghadpihmhaepaa
