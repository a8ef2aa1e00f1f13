/- Contracts and mathematics that the proofs of this seat stand on: TkTake. -/
import Derived.Test.YtahhkffghhgojaaDoorMB
import Derived.Deep.DeepCutAuto
import Derived.Deep.CutBlock
import Derived.Deep.RegionHeld
import Derived.Deep.RegionHeld3
import Derived.Deep.RegionLaw
import Derived.BigRegion
import Derived.RegionTactic
import Derived.IntWalk
/- (For a door seat.) Contract of the document's Take. -/
namespace Go.Proofs.YtahhkffghhgojaaDoor
open Go.RowKit
set_option maxRecDepth 100000

theorem infoLnT : (Tryd.prog.info? 56).map (fun i => (i.zero, i.size, i.bytes)) = some (some (.agg #[.string ⟨#[]⟩, .int .u64 0, .int .u64 0, .int .u64 0, .int .u64 0]), 5, 48) := by kernel_rfl
/-- What Take answers and leaves: R is what it all comes to. -/
def TakeQ (w : World) (qb B : Nat) (R : (List Ln × List Nat) ⊕ Nat) (e : Ending) (w' : World) : Prop :=
  ∃ (a : Option Addr) (n c : Nat) (out : List Ln) (x : List Nat ⊕ Nat), e = .returned (.slice a n c) ∧ n = out.length ∧ LnOwn w' w.heap.size 56 [qb] a c out ∧ StQ w' qb B x ∧ Frm [qb] w w' ∧
    ((∃ l, x = .inl l ∧ R = .inl (out, l)) ∨ (∃ c, x = .inr c ∧ R = .inr c))

/-- (A walk that is stopped at a builtin.) -/
def Stopped (p : Prop) : Prop := p
theorem stop_intro {p : Prop} (h : Stopped p) : p := h
set_option linter.unusedSimpArgs false in
set_option maxHeartbeats 16000000 in
theorem rtake_any {V : List Nat → Bool} (hV : VOk V) {w : World} {qb B : Nat} {b : List Nat} (h : RQ w qb b B) (hT : Tabs w) (hB : 2 ≤ B) (hqB : B ≤ qb) (hfit : b.length ≤ 100000) (hqw : qb < w.heap.size) :
    Calls Tryd.prog 13 #[.pointer (some ⟨qb, 0, none⟩)] w (TakeQ w qb B (pTb V b)) := by
  obtain ⟨i0, hi, hz0, hz1, hz2⟩ := info_parts infoLnT
  have HI := Lib.hid hi; clear hi
  have HZ0 := Lib.hid hz0; clear hz0
  have HZ1 := Lib.hid hz1; clear hz1
  have HZ2 := Lib.hid hz2; clear hz2
  have H1 := Lib.hid (stq_num (B := B) 1 1 rfl (x := .inl b) (.inl ⟨b, rfl, h⟩) (by decide))
  have TB := Lib.hid hT
  have HO := Lib.hid (And.intro hB (And.intro hqB hqw))
  obtain ⟨R, hR⟩ : ∃ R, R = pTb V b := ⟨_, rfl⟩
  obtain ⟨n, hn⟩ : ∃ n, n = (nxN 1 (.inl b)).1 := ⟨_, rfl⟩
  obtain ⟨x1, hx1⟩ : ∃ x1, x1 = (nxN 1 (.inl b)).2 := ⟨_, rfl⟩
  rw [← hn, ← hx1] at H1
  have ST : Hid (LnsAt V n [] x1 R) := Lib.hid (by
    rw [hR, hn, hx1]
    rcases h1 : pN 1 b with ⟨m, l⟩ | c
    · have n1 : nxN 1 (.inl b) = (m, .inl l) := by unfold nxN; simp only [h1]
      rw [n1]
      exact .inl ⟨l, rfl, by unfold pTb thn; simp only [h1], by have := pN_len h1; omega⟩
    · have n1 : nxN 1 (.inl b) = (0, .inr c) := by unfold nxN; simp only [h1]
      rw [n1]
      exact .inr ⟨c, rfl, by unfold pTb thn; simp only [h1]⟩)
  rw [← hR]
  obtain ⟨Q, hQ⟩ : ∃ Q, Q = TakeQ w qb B R := ⟨_, rfl⟩
  rw [← hQ]
  have HQ := Lib.hid hQ
  have HV := Lib.hid hV
  clear hQ hR hn hx1 h hT hB hqB hfit hqw hV
  go_enter Tryd.func13, Tryd.ntmps13
  go_wp2_with fail
  (with_reducible refine H1.out.mono ?_)
  rintro e w1 ⟨rfl, hs1, hf1, hn256⟩
  have S1 := Lib.hid hs1
  have F1 := Lib.hid hf1
  have hn256' : n < 256 := by simpa using hn256
  have wn : IntKind.i64.wrap (n : Int) = (n : Int) := by simp [IntKind.wrap, IntKind.bits, IntKind.signed]; omega
  clear hs1 hf1 hn256
  go_wp2
  clear wn
  go_loopw [3, 5] (fun u3 u5 wr => ∃ (i : Nat) (a' : Option Addr) (c' : Nat) (out : List Ln) (x : List Nat ⊕ Nat), i ≤ n ∧ u3 = .slice a' i c' ∧ u5 = .int .i64 (i : Nat) ∧ Hid (i = out.length) ∧ Hid (LnOwn wr w.heap.size 56 [qb] a' c' out) ∧ Hid (StQ wr qb B x) ∧ Hid (Frm [qb] w wr) ∧ Hid (LnsAt V (n - i) out x R)) (fun _ u5 _ => n - (intOf u5).toNat)
  case atStart => exact ⟨0, none, 0, [], x1, Nat.zero_le _, rfl, rfl, Lib.hid rfl, Lib.hid (LnOwn.nil _ _ _ _), S1, F1, by simpa using ST⟩
  case round =>
    obtain ⟨i, a', c', out, x, hin, rfl, rfl, HL, HW, HS, HF, HR⟩ := hrel
    obtain ⟨code, hc1, hc2⟩ := HS.out.code
    by_cases hgo : i < n ∧ code = 0
    · obtain ⟨hlt, rfl⟩ := hgo
      have hlt' : (i : Int) < (n : Int) := by omega
      obtain ⟨l, rfl⟩ := hc2.1 rfl
      have RA : Hid (RQ wr qb l B) := Lib.hid (by
        rcases HS.out with ⟨l0, e0, h0⟩ | ⟨c, e0, _⟩
        · cases e0; exact h0
        · cases e0)
      have RB : Hid (R = pLns V (n - i - 1 + 1) out l ∧ l.length ≤ 100000) := Lib.hid (by
        rcases HR.out with ⟨l0, e0, h0, h1⟩ | ⟨c, e0, _⟩
        · cases e0; rw [show n - i - 1 + 1 = n - i by omega]; exact ⟨h0, h1⟩
        · cases e0)
      have TBr : Hid (Tabs wr) := Lib.hid (TB.out.keep HF.out (fun x hx => by have := HO.out; simp at hx; omega))
      have TX := Lib.hid (stq_text HV.out RA.out TBr.out HO.out.1 HO.out.2.1 RB.out.2)
      clear hc2
      go_wp2_with fail
      (with_reducible refine TX.out.mono ?_)
      rintro e w2 ⟨nm, y1, rfl, hnx, hs2, hf2⟩
      have NXT := Lib.hid hnx
      have S2 := Lib.hid hs2
      have F2 : Hid (Frm [qb] w w2) := Lib.hid (HF.out.trans hf2 (fun x hx => hx) (fun x hx => .inl hx))
      have W2 : Hid (LnOwn w2 w.heap.size 56 [qb] a' c' out) := Lib.hid (HW.out.keep hf2 (fun x hx => .inl hx) (fun x hx => .inl hx))
      clear hnx hs2 hf2
      obtain ⟨d, hd⟩ : ∃ d, d = (nxN 8 y1).1 := ⟨_, rfl⟩
      obtain ⟨y2, hy2⟩ : ∃ y2, y2 = (nxN 8 y1).2 := ⟨_, rfl⟩
      obtain ⟨al, hal⟩ : ∃ al, al = (nxN 8 y2).1 := ⟨_, rfl⟩
      obtain ⟨y3, hy3⟩ : ∃ y3, y3 = (nxN 8 y2).2 := ⟨_, rfl⟩
      obtain ⟨ae, hae⟩ : ∃ ae, ae = (nxN 8 y3).1 := ⟨_, rfl⟩
      obtain ⟨y4, hy4⟩ : ∃ y4, y4 = (nxN 8 y3).2 := ⟨_, rfl⟩
      have LR : Hid (LnR V l ⟨nm, d, d, al, ae⟩ y4) := Lib.hid (by
        have h1 := lnR_of NXT.out
        rw [← hd, ← hy2, ← hal, ← hy3, ← hae, ← hy4] at h1
        exact h1)
      have N1 := Lib.hid (fun (z : World) (hz : StQ z qb B y1) => stq_num 8 8 rfl hz (by decide))
      have N2 := Lib.hid (fun (z : World) (hz : StQ z qb B y2) => stq_num 8 8 rfl hz (by decide))
      have N3 := Lib.hid (fun (z : World) (hz : StQ z qb B y3) => stq_num 8 8 rfl hz (by decide))
      rw [← hd, ← hy2] at N1
      rw [← hal, ← hy3] at N2
      rw [← hae, ← hy4] at N3
      clear hd hy2 hal hy3 hae hy4
      obtain ⟨y, hy⟩ : ∃ y, y = w2.heap.size := ⟨_, rfl⟩
      obtain ⟨V2, hV2⟩ : ∃ V, V = w2.alloc (.cells #[.string nm, .int .u64 0, .int .u64 0, .int .u64 0, .int .u64 0] 56) := ⟨_, rfl⟩
      have FV2 : Hid (Frm [] w2 V2) := Lib.hid (by rw [hV2]; exact (Frm.refl _ _).alloc _)
      have BV2 : Hid (Whole V2 y 56 #[.string nm, .int .u64 0, .int .u64 0, .int .u64 0, .int .u64 0]) := Lib.hid (by rw [hV2, hy]; exact Whole.made _ _ _)
      have YW : Hid (qb < y ∧ B ≤ y ∧ w.heap.size ≤ y) := Lib.hid (by have h1 := HO.out; have h2 := F2.out.size; omega)
      go_upto_region 7 with (fail)
      rw [← hV2, ← hy]
      have HV2 := Lib.hid hV2; have HY := Lib.hid hy; clear hV2 hy
      have C1 := Lib.hid (N1.out _ (S2.out.keep FV2.out (by simp) (by simp)))
      go_wp2_with fail
      (with_reducible refine C1.out.mono ?_)
      rintro e w3 ⟨rfl, hs3, hf3, hd64⟩
      have D64 : Hid (d < 18446744073709551616) := Lib.hid (by simpa using hd64)
      have B3 : Hid (Whole w3 y 56 #[.string nm, .int .u64 0, .int .u64 0, .int .u64 0, .int .u64 0]) := Lib.hid (hf3.whole BV2.out (by have := YW.out; simp; omega))
      have S3 := Lib.hid hs3
      have G3 : Hid (Frm [qb] w2 w3) := Lib.hid (FV2.out.trans hf3 (by simp) (fun x hx => .inl hx))
      clear hs3 hf3 hd64
      have e2 := B3.out.cell 2
      have f2 := B3.out.free 2
      simp at e2
      obtain ⟨V3, hV3⟩ : ∃ V, V = w3.setCell ⟨y, 2, none⟩ (.int .u64 (d : Nat)) := ⟨_, rfl⟩
      have FV3 : Hid (Frm [y] w3 V3) := Lib.hid (by rw [hV3]; exact (Frm.refl _ _).setCell (.inl (by simp)) _)
      have BV3 : Hid (Whole V3 y 56 #[.string nm, .int .u64 0, .int .u64 (d : Nat), .int .u64 0, .int .u64 0]) := Lib.hid (by rw [hV3]; simpa using B3.out.put 2 (.int .u64 (d : Nat)))
      go_upto_region 8 with (fail)
      rw [← hV3]
      have HV3 := Lib.hid hV3; clear hV3 e2 f2
      have C2 := Lib.hid (N2.out _ (S3.out.keep FV3.out (by have := YW.out; simp; omega) (fun x hx => by have := YW.out; simp at hx; omega)))
      go_wp2_with fail
      (with_reducible refine C2.out.mono ?_)
      rintro e w4 ⟨rfl, hs4, hf4, hd64⟩
      have A64 : Hid (al < 18446744073709551616) := Lib.hid (by simpa using hd64)
      have B4 : Hid (Whole w4 y 56 #[.string nm, .int .u64 0, .int .u64 (d : Nat), .int .u64 0, .int .u64 0]) := Lib.hid (hf4.whole BV3.out (by have := YW.out; simp; omega))
      have S4 := Lib.hid hs4
      have G4 : Hid (Frm [qb, y] w2 w4) := Lib.hid ((G3.out.trans FV3.out (U := [qb, y]) (by simp) (fun x hx => .inl (by simp at hx; simp [hx]))).trans hf4 (fun x hx => hx) (fun x hx => .inl (by simp at hx; simp [hx])))
      clear hs4 hf4 hd64
      have e3 := B4.out.cell 3
      have f3 := B4.out.free 3
      simp at e3
      obtain ⟨V4, hV4⟩ : ∃ V, V = w4.setCell ⟨y, 3, none⟩ (.int .u64 (al : Nat)) := ⟨_, rfl⟩
      have FV4 : Hid (Frm [y] w4 V4) := Lib.hid (by rw [hV4]; exact (Frm.refl _ _).setCell (.inl (by simp)) _)
      have BV4 : Hid (Whole V4 y 56 #[.string nm, .int .u64 0, .int .u64 (d : Nat), .int .u64 (al : Nat), .int .u64 0]) := Lib.hid (by rw [hV4]; simpa using B4.out.put 3 (.int .u64 (al : Nat)))
      go_upto_region 9 with (fail)
      rw [← hV4]
      have HV4 := Lib.hid hV4; clear hV4 e3 f3
      have C3 := Lib.hid (N3.out _ (S4.out.keep FV4.out (by have := YW.out; simp; omega) (fun x hx => by have := YW.out; simp at hx; omega)))
      go_wp2_with fail
      (with_reducible refine C3.out.mono ?_)
      rintro e w5 ⟨rfl, hs5, hf5, hd64⟩
      have E64 : Hid (ae < 18446744073709551616) := Lib.hid (by simpa using hd64)
      have B5 : Hid (Whole w5 y 56 #[.string nm, .int .u64 0, .int .u64 (d : Nat), .int .u64 (al : Nat), .int .u64 0]) := Lib.hid (hf5.whole BV4.out (by have := YW.out; simp; omega))
      have S5 := Lib.hid hs5
      have G5 : Hid (Frm [qb, y] w2 w5) := Lib.hid ((G4.out.trans FV4.out (U := [qb, y]) (fun x hx => hx) (fun x hx => .inl (by simp at hx; simp [hx]))).trans hf5 (fun x hx => hx) (fun x hx => .inl (by simp at hx; simp [hx])))
      clear hs5 hf5 hd64
      have e4 := B5.out.cell 4
      have f4 := B5.out.free 4
      simp at e4
      obtain ⟨V5, hV5⟩ : ∃ V, V = w5.setCell ⟨y, 4, none⟩ (.int .u64 (ae : Nat)) := ⟨_, rfl⟩
      have FV5 : Hid (Frm [y] w5 V5) := Lib.hid (by rw [hV5]; exact (Frm.refl _ _).setCell (.inl (by simp)) _)
      have BV5 : Hid (Whole V5 y 56 #[.string nm, .int .u64 0, .int .u64 (d : Nat), .int .u64 (al : Nat), .int .u64 (ae : Nat)]) := Lib.hid (by rw [hV5]; simpa using B5.out.put 4 (.int .u64 (ae : Nat)))
      go_upto_region 10 with (fail)
      rw [← hV5]
      have HV5 := Lib.hid hV5; clear hV5 e4 f4
      have x1 := BV5.out.cell 1
      have x2 := BV5.out.cell 2
      have f1 := BV5.out.free 1
      simp at x1 x2
      obtain ⟨V6, hV6⟩ : ∃ V, V = V5.setCell ⟨y, 1, none⟩ (.int .u64 (d : Nat)) := ⟨_, rfl⟩
      have FV6 : Hid (Frm [y] V5 V6) := Lib.hid (by rw [hV6]; exact (Frm.refl _ _).setCell (.inl (by simp)) _)
      have BV6 : Hid (Whole V6 y 56 #[.string nm, .int .u64 (d : Nat), .int .u64 (d : Nat), .int .u64 (al : Nat), .int .u64 (ae : Nat)]) := Lib.hid (by rw [hV6]; simpa using BV5.out.put 1 (.int .u64 (d : Nat)))
      have G6 : Hid (Frm [qb, y] w2 V6) := Lib.hid (((G5.out.trans FV5.out (U := [qb, y]) (fun x hx => hx) (fun x hx => .inl (by simp at hx; simp [hx])))).trans FV6.out (fun x hx => hx) (fun x hx => .inl (by simp at hx; simp [hx])))
      have G6n : Hid (y = w2.heap.size) := Lib.hid (by rw [HY.out])
      have G6q : Hid (Frm [qb] w2 V6) := Lib.hid ((Frm.refl [] w2).trans G6.out (by simp) (fun x hx => by
        have := G6n.out
        simp at hx
        rcases hx with h1 | h1
        · exact .inl (by simp [h1])
        · exact .inr (by omega)))
      have S6 : Hid (StQ V6 qb B y4) := Lib.hid ((S5.out.keep FV5.out (by have := YW.out; simp; omega) (fun x hx => by have := YW.out; simp at hx; omega)).keep FV6.out (by have := YW.out; simp; omega) (fun x hx => by have := YW.out; simp at hx; omega))
      have W6 : Hid (LnOwn V6 w.heap.size 56 [qb] a' c' out) := Lib.hid (W2.out.keep G6q.out (fun x hx => .inl hx) (fun x hx => .inl hx))
      have F6 : Hid (Frm [qb] w V6) := Lib.hid (F2.out.trans G6q.out (fun x hx => hx) (fun x hx => .inl hx))
      go_upto_region 11 with (fail)
      rw [← hV6]
      have HV6 := Lib.hid hV6; clear hV6 x1 x2 f1
      have z0 : ∀ z, Frm [] V6 z → z.cell? ⟨y, 0, none⟩ = some (.string nm) := fun z hz => (hz.whole BV6.out (by simp)).cell 0
      have z2 : ∀ z, Frm [] V6 z → z.cell? ⟨y, 2, none⟩ = some (.int .u64 (d : Nat)) := fun z hz => (hz.whole BV6.out (by simp)).cell 2
      obtain ⟨bad, hbad⟩ : ∃ bad, bad = badL out ⟨nm, d, d, al, ae⟩ := ⟨_, rfl⟩
      have BAD := Lib.hid hbad; clear hbad
      have OUTL : Hid (0 < i → ∃ b off, a' = some ⟨b, off, none⟩ ∧ ∀ z, Frm [] V6 z → z.cell? ⟨b, off + (i - 1) * 5, none⟩ = some (.string (out.getD (i - 1) default).nm)) := Lib.hid (fun h0 => by
        obtain ⟨b, off, e, q0, _⟩ := W6.out.sl.at (i := i - 1) (by have := HL.out; omega)
        exact ⟨b, off, e, fun z hz => (hz.cell (block_lt_of_cell q0) (by simp)).trans q0⟩)
      by_cases c1 : nm = ⟨#[]⟩
      · have BT : Hid (badL out ⟨nm, d, d, al, ae⟩ = true) := Lib.hid (by
          have h0 : decide ((⟨#[]⟩ : ByteArray).size = 0) = true := by decide
          unfold badL
          simp only [c1, h0, Bool.true_or])
        have n1 : nm.toList.isEmpty = true := by rw [c1, ByteArray.toList_eq]; rfl
        clear c1
        refine wp_region_held_drew (S := fun w' => Frm [] V6 w') (by kernel_rfl) (Frm.drew (Frm.refl _ _)) (fun hHeld => ?_)
        refine wpAnyH_take (i := 0) (oi := ⟨some 39, _, _, _, _, _⟩) (v := ?_) rfl (by kernel_rfl) (by kernel_rfl) (by kernel_rfl) (fun _ _ _ h => h) (Or.inl ⟨by rfl, ?_⟩) (by assumption) ?_
        rotate_left 1
        · (intro w hSw; (try dsimp only at hSw); go_simp; all_goals with_reducible rfl)
        try simp only [Act.put, List.setIfInBounds_toArray, List.set_cons_zero, List.set_cons_succ]
        refine wpAnyH_take (i := 1) (oi := ⟨some 40, _, _, _, _, _⟩) (v := ?_) rfl (by kernel_rfl) (by kernel_rfl) (by kernel_rfl) (fun _ _ _ h => h) (Or.inl ⟨by rfl, ?_⟩) (by assumption) ?_
        rotate_left 1
        · (intro w hSw; (try dsimp only at hSw); go_simp; all_goals with_reducible rfl)
        try simp only [Act.put, List.setIfInBounds_toArray, List.set_cons_zero, List.set_cons_succ]
        refine wpAnyH_take (i := 2) (oi := ⟨some 41, _, _, _, _, _⟩) (v := ?_) rfl (by kernel_rfl) (by kernel_rfl) (by kernel_rfl) (fun _ _ _ h => h) (Or.inl ⟨by rfl, ?_⟩) (by assumption) ?_
        rotate_left 1
        · (intro w hSw; (try dsimp only at hSw); go_simp; all_goals with_reducible rfl)
        try simp only [Act.put, List.setIfInBounds_toArray, List.set_cons_zero, List.set_cons_succ]
        refine wpAnyH_take (i := 3) (oi := ⟨some 42, _, _, _, _, _⟩) (v := ?_) rfl (by kernel_rfl) (by kernel_rfl) (by kernel_rfl) (fun _ _ _ h => h) (Or.inl ⟨by rfl, ?_⟩) (by assumption) ?_
        rotate_left 1
        · (intro w hSw; (try dsimp only at hSw); go_simp; all_goals with_reducible rfl)
        try simp only [Act.put, List.setIfInBounds_toArray, List.set_cons_zero, List.set_cons_succ]
        refine wpAnyH_take (i := 4) (oi := ⟨some 43, _, _, _, _, _⟩) (v := undef) rfl (by kernel_rfl) (by kernel_rfl) (by kernel_rfl) (fun _ _ _ h => h) (Or.inr ⟨by rfl, rfl⟩) (by assumption) ?_
        try simp only [Act.put, List.setIfInBounds_toArray, List.set_cons_zero, List.set_cons_succ]
        refine wpAnyH_take (i := 5) (oi := ⟨some 44, _, _, _, _, _⟩) (v := undef) rfl (by kernel_rfl) (by kernel_rfl) (by kernel_rfl) (fun _ _ _ h => h) (Or.inr ⟨by rfl, rfl⟩) (by assumption) ?_
        try simp only [Act.put, List.setIfInBounds_toArray, List.set_cons_zero, List.set_cons_succ]
        refine wpAnyH_take (i := 6) (oi := ⟨some 45, _, _, _, _, _⟩) (v := undef) rfl (by kernel_rfl) (by kernel_rfl) (by kernel_rfl) (fun _ _ _ h => h) (Or.inr ⟨by rfl, rfl⟩) (by assumption) ?_
        try simp only [Act.put, List.setIfInBounds_toArray, List.set_cons_zero, List.set_cons_succ]
        refine wpAnyH_take (i := 7) (oi := ⟨some 46, _, _, _, _, _⟩) (v := undef) rfl (by kernel_rfl) (by kernel_rfl) (by kernel_rfl) (fun _ _ _ h => h) (Or.inr ⟨by rfl, rfl⟩) (by assumption) ?_
        try simp only [Act.put, List.setIfInBounds_toArray, List.set_cons_zero, List.set_cons_succ]
        refine wpAnyH_take (i := 8) (oi := ⟨some 47, _, _, _, _, _⟩) (v := ?_) rfl (by kernel_rfl) (by kernel_rfl) (by kernel_rfl) (fun _ _ _ h => h) (Or.inl ⟨by rfl, ?_⟩) (by assumption) ?_
        rotate_left 1
        · (intro w hSw; (try dsimp only at hSw); go_simp; all_goals with_reducible rfl)
        try simp only [Act.put, List.setIfInBounds_toArray, List.set_cons_zero, List.set_cons_succ]
        refine wpAnyH_take (i := 9) (oi := ⟨some 48, _, _, _, _, _⟩) (v := ?_) rfl (by kernel_rfl) (by kernel_rfl) (by kernel_rfl) (fun _ _ _ h => h) (Or.inl ⟨by rfl, ?_⟩) (by assumption) ?_
        rotate_left 1
        · (intro w hSw; (try dsimp only at hSw); go_simp; all_goals with_reducible rfl)
        try simp only [Act.put, List.setIfInBounds_toArray, List.set_cons_zero, List.set_cons_succ]
        refine wpAnyH_take (i := 10) (oi := ⟨some 49, _, _, _, _, _⟩) (v := undef) rfl (by kernel_rfl) (by kernel_rfl) (by kernel_rfl) (fun _ _ _ h => h) (Or.inr ⟨by rfl, rfl⟩) (by assumption) ?_
        try simp only [Act.put, List.setIfInBounds_toArray, List.set_cons_zero, List.set_cons_succ]
        refine wpAnyH_take (i := 11) (oi := ⟨some 50, _, _, _, _, _⟩) (v := undef) rfl (by kernel_rfl) (by kernel_rfl) (by kernel_rfl) (fun _ _ _ h => h) (Or.inr ⟨by rfl, rfl⟩) (by assumption) ?_
        try simp only [Act.put, List.setIfInBounds_toArray, List.set_cons_zero, List.set_cons_succ]
        refine wpAnyH_take (i := 12) (oi := ⟨some 51, _, _, _, _, _⟩) (v := undef) rfl (by kernel_rfl) (by kernel_rfl) (by kernel_rfl) (fun _ _ _ h => h) (Or.inr ⟨by rfl, rfl⟩) (by assumption) ?_
        try simp only [Act.put, List.setIfInBounds_toArray, List.set_cons_zero, List.set_cons_succ]
        refine wpAnyH_take (i := 13) (oi := ⟨some 52, _, _, _, _, _⟩) (v := ?_) rfl (by kernel_rfl) (by kernel_rfl) (by kernel_rfl) (fun _ _ _ h => h) (Or.inl ⟨by rfl, ?_⟩) (by assumption) ?_
        rotate_left 1
        · (intro w hSw; (try dsimp only at hSw); go_simp; all_goals with_reducible rfl)
        try simp only [Act.put, List.setIfInBounds_toArray, List.set_cons_zero, List.set_cons_succ]
        refine wpAnyH_take (i := 14) (oi := ⟨some 53, _, _, _, _, _⟩) (v := ?_) rfl (by kernel_rfl) (by kernel_rfl) (by kernel_rfl) (fun _ _ _ h => h) (Or.inl ⟨by rfl, ?_⟩) (by assumption) ?_
        rotate_left 1
        · (intro w hSw; (try dsimp only at hSw); go_simp; all_goals with_reducible rfl)
        try simp only [Act.put, List.setIfInBounds_toArray, List.set_cons_zero, List.set_cons_succ]
        refine wpAnyH_take (i := 15) (oi := ⟨some 54, _, _, _, _, _⟩) (v := undef) rfl (by kernel_rfl) (by kernel_rfl) (by kernel_rfl) (fun _ _ _ h => h) (Or.inr ⟨by rfl, rfl⟩) (by assumption) ?_
        try simp only [Act.put, List.setIfInBounds_toArray, List.set_cons_zero, List.set_cons_succ]
        refine wpAnyH_take (i := 16) (oi := ⟨some 55, _, _, _, _, _⟩) (v := undef) rfl (by kernel_rfl) (by kernel_rfl) (by kernel_rfl) (fun _ _ _ h => h) (Or.inr ⟨by rfl, rfl⟩) (by assumption) ?_
        try simp only [Act.put, List.setIfInBounds_toArray, List.set_cons_zero, List.set_cons_succ]
        refine wpAnyH_take (i := 17) (oi := ⟨some 56, _, _, _, _, _⟩) (v := ?_) rfl (by kernel_rfl) (by kernel_rfl) (by kernel_rfl) (fun _ _ _ h => h) (Or.inl ⟨by rfl, ?_⟩) (by assumption) ?_
        rotate_left 1
        · (intro w hSw; (try dsimp only at hSw); go_simp; all_goals with_reducible rfl)
        try simp only [Act.put, List.setIfInBounds_toArray, List.set_cons_zero, List.set_cons_succ]
        refine wpAnyH_take (i := 18) (oi := ⟨some 57, _, _, _, _, _⟩) (v := ?_) rfl (by kernel_rfl) (by kernel_rfl) (by kernel_rfl) (fun _ _ _ h => h) (Or.inl ⟨by rfl, ?_⟩) (by assumption) ?_
        rotate_left 1
        · (intro w hSw; (try dsimp only at hSw); go_simp; all_goals with_reducible rfl)
        try simp only [Act.put, List.setIfInBounds_toArray, List.set_cons_zero, List.set_cons_succ]
        refine wpAnyH_take (i := 19) (oi := ⟨some 58, _, _, _, _, _⟩) (v := undef) rfl (by kernel_rfl) (by kernel_rfl) (by kernel_rfl) (fun _ _ _ h => h) (Or.inr ⟨by rfl, rfl⟩) (by assumption) ?_
        try simp only [Act.put, List.setIfInBounds_toArray, List.set_cons_zero, List.set_cons_succ]
        refine wpAnyH_take (i := 20) (oi := ⟨some 59, _, _, _, _, _⟩) (v := undef) rfl (by kernel_rfl) (by kernel_rfl) (by kernel_rfl) (fun _ _ _ h => h) (Or.inr ⟨by rfl, rfl⟩) (by assumption) ?_
        try simp only [Act.put, List.setIfInBounds_toArray, List.set_cons_zero, List.set_cons_succ]
        refine wpAnyH_take (i := 21) (oi := ⟨some 60, _, _, _, _, _⟩) (v := undef) rfl (by kernel_rfl) (by kernel_rfl) (by kernel_rfl) (fun _ _ _ h => h) (Or.inr ⟨by rfl, rfl⟩) (by assumption) ?_
        try simp only [Act.put, List.setIfInBounds_toArray, List.set_cons_zero, List.set_cons_succ]
        refine wpAnyH_take (i := 22) (oi := ⟨some 61, _, _, _, _, _⟩) (v := undef) rfl (by kernel_rfl) (by kernel_rfl) (by kernel_rfl) (fun _ _ _ h => h) (Or.inr ⟨by rfl, rfl⟩) (by assumption) ?_
        try simp only [Act.put, List.setIfInBounds_toArray, List.set_cons_zero, List.set_cons_succ]
        refine wpAnyH_take (i := 23) (oi := ⟨some 62, _, _, _, _, _⟩) (v := undef) rfl (by kernel_rfl) (by kernel_rfl) (by kernel_rfl) (fun _ _ _ h => h) (Or.inr ⟨by rfl, rfl⟩) (by assumption) ?_
        try simp only [Act.put, List.setIfInBounds_toArray, List.set_cons_zero, List.set_cons_succ]
        refine wpAnyH_take (i := 24) (oi := ⟨some 63, _, _, _, _, _⟩) (v := undef) rfl (by kernel_rfl) (by kernel_rfl) (by kernel_rfl) (fun _ _ _ h => h) (Or.inr ⟨by rfl, rfl⟩) (by assumption) ?_
        try simp only [Act.put, List.setIfInBounds_toArray, List.set_cons_zero, List.set_cons_succ]
        refine wpAnyH_take (i := 25) (oi := ⟨some 64, _, _, _, _, _⟩) (v := undef) rfl (by kernel_rfl) (by kernel_rfl) (by kernel_rfl) (fun _ _ _ h => h) (Or.inr ⟨by rfl, rfl⟩) (by assumption) ?_
        try simp only [Act.put, List.setIfInBounds_toArray, List.set_cons_zero, List.set_cons_succ]
        refine wpAnyH_take (i := 26) (oi := ⟨some 65, _, _, _, _, _⟩) (v := undef) rfl (by kernel_rfl) (by kernel_rfl) (by kernel_rfl) (fun _ _ _ h => h) (Or.inr ⟨by rfl, rfl⟩) (by assumption) ?_
        try simp only [Act.put, List.setIfInBounds_toArray, List.set_cons_zero, List.set_cons_succ]
        refine wpAnyH_take (i := 27) (oi := ⟨some 66, _, _, _, _, _⟩) (v := undef) rfl (by kernel_rfl) (by kernel_rfl) (by kernel_rfl) (fun _ _ _ h => h) (Or.inr ⟨by rfl, rfl⟩) (by assumption) ?_
        try simp only [Act.put, List.setIfInBounds_toArray, List.set_cons_zero, List.set_cons_succ]
        refine wpAnyH_take (i := 28) (oi := ⟨some 67, _, _, _, _, _⟩) (v := undef) rfl (by kernel_rfl) (by kernel_rfl) (by kernel_rfl) (fun _ _ _ h => h) (Or.inr ⟨by rfl, rfl⟩) (by assumption) ?_
        try simp only [Act.put, List.setIfInBounds_toArray, List.set_cons_zero, List.set_cons_succ]
        refine wpAnyH_take (i := 29) (oi := ⟨some 68, _, _, _, _, _⟩) (v := undef) rfl (by kernel_rfl) (by kernel_rfl) (by kernel_rfl) (fun _ _ _ h => h) (Or.inr ⟨by rfl, rfl⟩) (by assumption) ?_
        try simp only [Act.put, List.setIfInBounds_toArray, List.set_cons_zero, List.set_cons_succ]
        refine wpAnyH_take (i := 30) (oi := ⟨some 69, _, _, _, _, _⟩) (v := undef) rfl (by kernel_rfl) (by kernel_rfl) (by kernel_rfl) (fun _ _ _ h => h) (Or.inr ⟨by rfl, rfl⟩) (by assumption) ?_
        try simp only [Act.put, List.setIfInBounds_toArray, List.set_cons_zero, List.set_cons_succ]
        refine wpAnyH_take (i := 31) (oi := ⟨some 70, _, _, _, _, _⟩) (v := undef) rfl (by kernel_rfl) (by kernel_rfl) (by kernel_rfl) (fun _ _ _ h => h) (Or.inr ⟨by rfl, rfl⟩) (by assumption) ?_
        try simp only [Act.put, List.setIfInBounds_toArray, List.set_cons_zero, List.set_cons_succ]
        refine wpAnyH_take (i := 32) (oi := ⟨some 71, _, _, _, _, _⟩) (v := undef) rfl (by kernel_rfl) (by kernel_rfl) (by kernel_rfl) (fun _ _ _ h => h) (Or.inr ⟨by rfl, rfl⟩) (by assumption) ?_
        try simp only [Act.put, List.setIfInBounds_toArray, List.set_cons_zero, List.set_cons_succ]
        refine wpAnyH_take (i := 33) (oi := ⟨some 72, _, _, _, _, _⟩) (v := undef) rfl (by kernel_rfl) (by kernel_rfl) (by kernel_rfl) (fun _ _ _ h => h) (Or.inr ⟨by rfl, rfl⟩) (by assumption) ?_
        try simp only [Act.put, List.setIfInBounds_toArray, List.set_cons_zero, List.set_cons_succ]
        refine wpAnyH_take (i := 34) (oi := ⟨some 73, _, _, _, _, _⟩) (v := undef) rfl (by kernel_rfl) (by kernel_rfl) (by kernel_rfl) (fun _ _ _ h => h) (Or.inr ⟨by rfl, rfl⟩) (by assumption) ?_
        try simp only [Act.put, List.setIfInBounds_toArray, List.set_cons_zero, List.set_cons_succ]
        refine wpAnyH_take (i := 35) (oi := ⟨some 74, _, _, _, _, _⟩) (v := undef) rfl (by kernel_rfl) (by kernel_rfl) (by kernel_rfl) (fun _ _ _ h => h) (Or.inr ⟨by rfl, rfl⟩) (by assumption) ?_
        try simp only [Act.put, List.setIfInBounds_toArray, List.set_cons_zero, List.set_cons_succ]
        refine wpAnyH_take (i := 36) (oi := ⟨some 75, _, _, _, _, _⟩) (v := undef) rfl (by kernel_rfl) (by kernel_rfl) (by kernel_rfl) (fun _ _ _ h => h) (Or.inr ⟨by rfl, rfl⟩) (by assumption) ?_
        try simp only [Act.put, List.setIfInBounds_toArray, List.set_cons_zero, List.set_cons_succ]
        refine wpAnyH_take (i := 37) (oi := ⟨some 76, _, _, _, _, _⟩) (v := undef) rfl (by kernel_rfl) (by kernel_rfl) (by kernel_rfl) (fun _ _ _ h => h) (Or.inr ⟨by rfl, rfl⟩) (by assumption) ?_
        try simp only [Act.put, List.setIfInBounds_toArray, List.set_cons_zero, List.set_cons_succ]
        refine wpAnyH_take (i := 38) (oi := ⟨some 77, _, _, _, _, _⟩) (v := ?_) rfl (by kernel_rfl) (by kernel_rfl) (by kernel_rfl) (fun _ _ _ h => h) (Or.inl ⟨by rfl, ?_⟩) (by assumption) ?_
        rotate_left 1
        · (intro w hSw; (try dsimp only at hSw); go_simp; all_goals with_reducible rfl)
        try simp only [Act.put, List.setIfInBounds_toArray, List.set_cons_zero, List.set_cons_succ]
        refine wpAnyH_done (by kernel_rfl) ?_ _
        clear z0 z2
        have SB : Hid (StQ _ qb B y4) := Lib.hid (S6.out.keep hHeld (by simp) (by simp))
        have WB : Hid (LnOwn _ w.heap.size 56 [qb] a' c' out) := Lib.hid (W6.out.keep hHeld (by simp) (fun x hx => .inl hx))
        have FB : Hid (Frm [qb] w _) := Lib.hid (F6.out.trans hHeld (fun x hx => hx) (by simp))
        have BB := Lib.hid (hHeld.whole BV6.out (by simp))
        have CF := Lib.hid (stq_fail 23 23 rfl SB.out (by decide))
        go_wp2_with fail
        (with_reducible refine CF.out.mono ?_)
        rintro e w7 ⟨rfl, hs7, hf7⟩
        have AT := Lib.hid (LnsAt.bad (out' := out ++ [⟨nm, d, d, al, ae⟩]) RB.out.1 LR.out BT.out)
        obtain ⟨yF, hyF⟩ : ∃ yF, yF = nxF 23 y4 := ⟨_, rfl⟩
        rw [← hyF] at hs7 AT
        have S7 := Lib.hid hs7
        have W7 : Hid (LnOwn w7 w.heap.size 56 [qb] a' c' out) := Lib.hid (WB.out.keep hf7 (fun x hx => .inl hx) (fun x hx => .inl hx))
        have F7 : Hid (Frm [qb] w w7) := Lib.hid (FB.out.trans hf7 (fun x hx => hx) (fun x hx => .inl hx))
        have B7 := Lib.hid (hf7.whole BB.out (by have := YW.out; simp; omega))
        clear hs7 hf7 hyF SB WB FB BB CF
        have x0 := B7.out.cell 0
        have x1 := B7.out.cell 1
        have x2 := B7.out.cell 2
        have x3 := B7.out.cell 3
        have x4 := B7.out.cell 4
        simp only [List.getElem?_toArray, List.getElem?_cons_zero, List.getElem?_cons_succ] at x0 x1 x2 x3 x4
        have OWN : Hid ((w7.alloc (.cells #[.string nm, .int .u64 (d : Nat), .int .u64 (d : Nat), .int .u64 (al : Nat), .int .u64 (ae : Nat)] 56)).ownsRow w.heap.size 56 5 (.slice a' i c') i (lnc out)) := Lib.hid (by
          have := (W7.out.keep (S := []) (F' := []) ((Frm.refl [] w7).alloc (.cells #[.string nm, .int .u64 (d : Nat), .int .u64 (d : Nat), .int .u64 (al : Nat), .int .u64 (ae : Nat)] 56)) (by simp) (by simp)).own
          rwa [← HL.out] at this)
        have ONE : Hid (ValsAt (w7.alloc (.cells #[.string nm, .int .u64 (d : Nat), .int .u64 (d : Nat), .int .u64 (al : Nat), .int .u64 (ae : Nat)] 56)) (some ⟨w7.heap.size, 0, none⟩) (lnc [⟨nm, d, d, al, ae⟩])) := Lib.hid (lncvals_one w7 ⟨nm, d, d, al, ae⟩ 56)
        have hbz : w.heap.size ≤ (w7.alloc (.cells #[.string nm, .int .u64 (d : Nat), .int .u64 (d : Nat), .int .u64 (al : Nat), .int .u64 (ae : Nat)] 56)).heap.size := by have := F7.out.size; simp; omega
        have hfit1 : i + 1 ≤ 1000000000 := by omega
        go_wp2_with (at_builtin; refine stop_intro ?_)
        unfold Stopped
        refine wpList_appS (by rfl) (.tmp 80) (.tmp 82) 39 rfl w.heap.size 56 i0 (.agg #[.string ⟨#[]⟩, .int .u64 0, .int .u64 0, .int .u64 0, .int .u64 0]) 5 48 Tryd.underlying39 HI.out HZ0.out rfl (by decide) HZ1.out HZ2.out (by decide) (.slice a' i c') i _ rfl OWN.out _ 1 1 _ rfl ONE.out rfl (lnc_one _) (fun h => by cases h) hfit1 hbz ?_
        intro a3 c3 w8 happ
        have AL := (Frm.refl [] w7).alloc (.cells #[.string nm, .int .u64 (d : Nat), .int .u64 (d : Nat), .int .u64 (al : Nat), .int .u64 (ae : Nat)] 56)
        have QW8 : ∀ x ∈ [qb], x < w.heap.size := fun x hx => by have := HO.out; simp at hx; omega
        obtain ⟨g1, g2, g3, g4⟩ := (W7.out.keep (S := []) (F' := [qb]) AL (by simp) (fun x hx => .inl hx)).app (Y := [⟨nm, d, d, al, ae⟩]) HL.out (by intro z hz; simp at hz; subst hz; exact ⟨D64.out, D64.out, A64.out, E64.out⟩) (m := 1) rfl (fun x hx => by have h1 := QW8 x hx; have h2 := F7.out.size; simp; omega) happ
        have W8 : Hid (LnOwn w8 w.heap.size 56 [qb] a3 c3 (out ++ [⟨nm, d, d, al, ae⟩])) := Lib.hid g1
        have L8 : Hid (i + 1 = (out ++ [(⟨nm, d, d, al, ae⟩ : Ln)]).length) := Lib.hid g4
        have S8 : Hid (StQ w8 qb B yF) := Lib.hid ((S7.out.keep AL (by simp) (by simp)).keep g2 (fun hm => by have := (W7.out.blk_lt _ hm).1; have := HO.out; omega) (fun x hx => by have := (W7.out.blk_lt x hx).1; have := HO.out; omega))
        have F8 : Hid (Frm [qb] w w8) := Lib.hid ((F7.out.trans AL (U := [qb]) (fun x hx => hx) (by simp)).trans g2 (fun x hx => hx) (fun x hx => .inr (W7.out.blk_lt x hx).1))
        have AT8 : Hid (LnsAt V (n - (i + 1)) (out ++ [⟨nm, d, d, al, ae⟩]) yF R) := Lib.hid (by rw [show n - (i + 1) = n - i - 1 by omega]; exact AT.out)
        clear happ g1 g2 g3 g4 AL hbz OWN ONE x0 x1 x2 x3 x4
        go_wp2
        go_roundw
        case rel => exact ⟨i + 1, a3, c3, _, yF, by omega, by rfl, by go_num, L8, W8, S8, F8, AT8⟩
        case measure => simp [intOf]; omega
      · have n1 : nm.toList.isEmpty = false := by
          cases h0 : nm.toList.isEmpty
          · rfl
          · exact absurd (ba_eq (b := ⟨#[]⟩) (by rw [List.isEmpty_iff.1 h0, ByteArray.toList_eq])) c1
        have s1 : nm.size ≠ 0 := fun h0 => c1 (by
          apply ByteArray.ext
          apply Array.eq_empty_of_size_eq_zero
          exact h0)
        have S1' := Lib.hid s1
        have C1' := Lib.hid c1
        clear c1 s1
        by_cases c2 : 64 < nm.size
        · have BT : Hid (badL out ⟨nm, d, d, al, ae⟩ = true) := Lib.hid (by unfold badL; simp [c2])
          have k2 : (64 : Int) < (nm.size : Int) := by omega
          refine wp_region_held_drew (S := fun w' => Frm [] V6 w') (by kernel_rfl) (Frm.drew (Frm.refl _ _)) (fun hHeld => ?_)
          refine wpAnyH_take (i := 0) (oi := ⟨some 39, _, _, _, _, _⟩) (v := ?_) rfl (by kernel_rfl) (by kernel_rfl) (by kernel_rfl) (fun _ _ _ h => h) (Or.inl ⟨by rfl, ?_⟩) (by assumption) ?_
          rotate_left 1
          · (intro w hSw; (try dsimp only at hSw); go_simp; all_goals with_reducible rfl)
          try simp only [Act.put, List.setIfInBounds_toArray, List.set_cons_zero, List.set_cons_succ]
          refine wpAnyH_take (i := 1) (oi := ⟨some 40, _, _, _, _, _⟩) (v := ?_) rfl (by kernel_rfl) (by kernel_rfl) (by kernel_rfl) (fun _ _ _ h => h) (Or.inl ⟨by rfl, ?_⟩) (by assumption) ?_
          rotate_left 1
          · (intro w hSw; (try dsimp only at hSw); go_simp; all_goals with_reducible rfl)
          try simp only [Act.put, List.setIfInBounds_toArray, List.set_cons_zero, List.set_cons_succ]
          refine wpAnyH_take (i := 2) (oi := ⟨some 41, _, _, _, _, _⟩) (v := ?_) rfl (by kernel_rfl) (by kernel_rfl) (by kernel_rfl) (fun _ _ _ h => h) (Or.inl ⟨by rfl, ?_⟩) (by assumption) ?_
          rotate_left 1
          · (intro w hSw; (try dsimp only at hSw); go_simp; all_goals with_reducible rfl)
          try simp only [Act.put, List.setIfInBounds_toArray, List.set_cons_zero, List.set_cons_succ]
          refine wpAnyH_take (i := 3) (oi := ⟨some 42, _, _, _, _, _⟩) (v := ?_) rfl (by kernel_rfl) (by kernel_rfl) (by kernel_rfl) (fun _ _ _ h => h) (Or.inl ⟨by rfl, ?_⟩) (by assumption) ?_
          rotate_left 1
          · (intro w hSw; (try dsimp only at hSw); go_simp; all_goals with_reducible rfl)
          try simp only [Act.put, List.setIfInBounds_toArray, List.set_cons_zero, List.set_cons_succ]
          refine wpAnyH_take (i := 4) (oi := ⟨some 43, _, _, _, _, _⟩) (v := ?_) rfl (by kernel_rfl) (by kernel_rfl) (by kernel_rfl) (fun _ _ _ h => h) (Or.inl ⟨by rfl, ?_⟩) (by assumption) ?_
          rotate_left 1
          · (intro w hSw; (try dsimp only at hSw); go_simp; all_goals with_reducible rfl)
          try simp only [Act.put, List.setIfInBounds_toArray, List.set_cons_zero, List.set_cons_succ]
          refine wpAnyH_take (i := 5) (oi := ⟨some 44, _, _, _, _, _⟩) (v := ?_) rfl (by kernel_rfl) (by kernel_rfl) (by kernel_rfl) (fun _ _ _ h => h) (Or.inl ⟨by rfl, ?_⟩) (by assumption) ?_
          rotate_left 1
          · (intro w hSw; (try dsimp only at hSw); go_simp; all_goals with_reducible rfl)
          try simp only [Act.put, List.setIfInBounds_toArray, List.set_cons_zero, List.set_cons_succ]
          refine wpAnyH_take (i := 6) (oi := ⟨some 45, _, _, _, _, _⟩) (v := ?_) rfl (by kernel_rfl) (by kernel_rfl) (by kernel_rfl) (fun _ _ _ h => h) (Or.inl ⟨by rfl, ?_⟩) (by assumption) ?_
          rotate_left 1
          · (intro w hSw; (try dsimp only at hSw); go_simp; all_goals with_reducible rfl)
          try simp only [Act.put, List.setIfInBounds_toArray, List.set_cons_zero, List.set_cons_succ]
          refine wpAnyH_take (i := 7) (oi := ⟨some 46, _, _, _, _, _⟩) (v := ?_) rfl (by kernel_rfl) (by kernel_rfl) (by kernel_rfl) (fun _ _ _ h => h) (Or.inl ⟨by rfl, ?_⟩) (by assumption) ?_
          rotate_left 1
          · (intro w hSw; (try dsimp only at hSw); go_simp; all_goals with_reducible rfl)
          try simp only [Act.put, List.setIfInBounds_toArray, List.set_cons_zero, List.set_cons_succ]
          refine wpAnyH_take (i := 8) (oi := ⟨some 47, _, _, _, _, _⟩) (v := ?_) rfl (by kernel_rfl) (by kernel_rfl) (by kernel_rfl) (fun _ _ _ h => h) (Or.inl ⟨by rfl, ?_⟩) (by assumption) ?_
          rotate_left 1
          · (intro w hSw; (try dsimp only at hSw); go_simp; all_goals with_reducible rfl)
          try simp only [Act.put, List.setIfInBounds_toArray, List.set_cons_zero, List.set_cons_succ]
          refine wpAnyH_take (i := 9) (oi := ⟨some 48, _, _, _, _, _⟩) (v := ?_) rfl (by kernel_rfl) (by kernel_rfl) (by kernel_rfl) (fun _ _ _ h => h) (Or.inl ⟨by rfl, ?_⟩) (by assumption) ?_
          rotate_left 1
          · (intro w hSw; (try dsimp only at hSw); go_simp; all_goals with_reducible rfl)
          try simp only [Act.put, List.setIfInBounds_toArray, List.set_cons_zero, List.set_cons_succ]
          refine wpAnyH_take (i := 10) (oi := ⟨some 49, _, _, _, _, _⟩) (v := undef) rfl (by kernel_rfl) (by kernel_rfl) (by kernel_rfl) (fun _ _ _ h => h) (Or.inr ⟨by rfl, rfl⟩) (by assumption) ?_
          try simp only [Act.put, List.setIfInBounds_toArray, List.set_cons_zero, List.set_cons_succ]
          refine wpAnyH_take (i := 11) (oi := ⟨some 50, _, _, _, _, _⟩) (v := undef) rfl (by kernel_rfl) (by kernel_rfl) (by kernel_rfl) (fun _ _ _ h => h) (Or.inr ⟨by rfl, rfl⟩) (by assumption) ?_
          try simp only [Act.put, List.setIfInBounds_toArray, List.set_cons_zero, List.set_cons_succ]
          refine wpAnyH_take (i := 12) (oi := ⟨some 51, _, _, _, _, _⟩) (v := undef) rfl (by kernel_rfl) (by kernel_rfl) (by kernel_rfl) (fun _ _ _ h => h) (Or.inr ⟨by rfl, rfl⟩) (by assumption) ?_
          try simp only [Act.put, List.setIfInBounds_toArray, List.set_cons_zero, List.set_cons_succ]
          refine wpAnyH_take (i := 13) (oi := ⟨some 52, _, _, _, _, _⟩) (v := ?_) rfl (by kernel_rfl) (by kernel_rfl) (by kernel_rfl) (fun _ _ _ h => h) (Or.inl ⟨by rfl, ?_⟩) (by assumption) ?_
          rotate_left 1
          · (intro w hSw; (try dsimp only at hSw); go_simp; all_goals with_reducible rfl)
          try simp only [Act.put, List.setIfInBounds_toArray, List.set_cons_zero, List.set_cons_succ]
          refine wpAnyH_take (i := 14) (oi := ⟨some 53, _, _, _, _, _⟩) (v := ?_) rfl (by kernel_rfl) (by kernel_rfl) (by kernel_rfl) (fun _ _ _ h => h) (Or.inl ⟨by rfl, ?_⟩) (by assumption) ?_
          rotate_left 1
          · (intro w hSw; (try dsimp only at hSw); go_simp; all_goals with_reducible rfl)
          try simp only [Act.put, List.setIfInBounds_toArray, List.set_cons_zero, List.set_cons_succ]
          refine wpAnyH_take (i := 15) (oi := ⟨some 54, _, _, _, _, _⟩) (v := undef) rfl (by kernel_rfl) (by kernel_rfl) (by kernel_rfl) (fun _ _ _ h => h) (Or.inr ⟨by rfl, rfl⟩) (by assumption) ?_
          try simp only [Act.put, List.setIfInBounds_toArray, List.set_cons_zero, List.set_cons_succ]
          refine wpAnyH_take (i := 16) (oi := ⟨some 55, _, _, _, _, _⟩) (v := undef) rfl (by kernel_rfl) (by kernel_rfl) (by kernel_rfl) (fun _ _ _ h => h) (Or.inr ⟨by rfl, rfl⟩) (by assumption) ?_
          try simp only [Act.put, List.setIfInBounds_toArray, List.set_cons_zero, List.set_cons_succ]
          refine wpAnyH_take (i := 17) (oi := ⟨some 56, _, _, _, _, _⟩) (v := ?_) rfl (by kernel_rfl) (by kernel_rfl) (by kernel_rfl) (fun _ _ _ h => h) (Or.inl ⟨by rfl, ?_⟩) (by assumption) ?_
          rotate_left 1
          · (intro w hSw; (try dsimp only at hSw); go_simp; all_goals with_reducible rfl)
          try simp only [Act.put, List.setIfInBounds_toArray, List.set_cons_zero, List.set_cons_succ]
          refine wpAnyH_take (i := 18) (oi := ⟨some 57, _, _, _, _, _⟩) (v := ?_) rfl (by kernel_rfl) (by kernel_rfl) (by kernel_rfl) (fun _ _ _ h => h) (Or.inl ⟨by rfl, ?_⟩) (by assumption) ?_
          rotate_left 1
          · (intro w hSw; (try dsimp only at hSw); go_simp; all_goals with_reducible rfl)
          try simp only [Act.put, List.setIfInBounds_toArray, List.set_cons_zero, List.set_cons_succ]
          refine wpAnyH_take (i := 19) (oi := ⟨some 58, _, _, _, _, _⟩) (v := undef) rfl (by kernel_rfl) (by kernel_rfl) (by kernel_rfl) (fun _ _ _ h => h) (Or.inr ⟨by rfl, rfl⟩) (by assumption) ?_
          try simp only [Act.put, List.setIfInBounds_toArray, List.set_cons_zero, List.set_cons_succ]
          refine wpAnyH_take (i := 20) (oi := ⟨some 59, _, _, _, _, _⟩) (v := undef) rfl (by kernel_rfl) (by kernel_rfl) (by kernel_rfl) (fun _ _ _ h => h) (Or.inr ⟨by rfl, rfl⟩) (by assumption) ?_
          try simp only [Act.put, List.setIfInBounds_toArray, List.set_cons_zero, List.set_cons_succ]
          refine wpAnyH_take (i := 21) (oi := ⟨some 60, _, _, _, _, _⟩) (v := undef) rfl (by kernel_rfl) (by kernel_rfl) (by kernel_rfl) (fun _ _ _ h => h) (Or.inr ⟨by rfl, rfl⟩) (by assumption) ?_
          try simp only [Act.put, List.setIfInBounds_toArray, List.set_cons_zero, List.set_cons_succ]
          refine wpAnyH_take (i := 22) (oi := ⟨some 61, _, _, _, _, _⟩) (v := undef) rfl (by kernel_rfl) (by kernel_rfl) (by kernel_rfl) (fun _ _ _ h => h) (Or.inr ⟨by rfl, rfl⟩) (by assumption) ?_
          try simp only [Act.put, List.setIfInBounds_toArray, List.set_cons_zero, List.set_cons_succ]
          refine wpAnyH_take (i := 23) (oi := ⟨some 62, _, _, _, _, _⟩) (v := undef) rfl (by kernel_rfl) (by kernel_rfl) (by kernel_rfl) (fun _ _ _ h => h) (Or.inr ⟨by rfl, rfl⟩) (by assumption) ?_
          try simp only [Act.put, List.setIfInBounds_toArray, List.set_cons_zero, List.set_cons_succ]
          refine wpAnyH_take (i := 24) (oi := ⟨some 63, _, _, _, _, _⟩) (v := undef) rfl (by kernel_rfl) (by kernel_rfl) (by kernel_rfl) (fun _ _ _ h => h) (Or.inr ⟨by rfl, rfl⟩) (by assumption) ?_
          try simp only [Act.put, List.setIfInBounds_toArray, List.set_cons_zero, List.set_cons_succ]
          refine wpAnyH_take (i := 25) (oi := ⟨some 64, _, _, _, _, _⟩) (v := undef) rfl (by kernel_rfl) (by kernel_rfl) (by kernel_rfl) (fun _ _ _ h => h) (Or.inr ⟨by rfl, rfl⟩) (by assumption) ?_
          try simp only [Act.put, List.setIfInBounds_toArray, List.set_cons_zero, List.set_cons_succ]
          refine wpAnyH_take (i := 26) (oi := ⟨some 65, _, _, _, _, _⟩) (v := undef) rfl (by kernel_rfl) (by kernel_rfl) (by kernel_rfl) (fun _ _ _ h => h) (Or.inr ⟨by rfl, rfl⟩) (by assumption) ?_
          try simp only [Act.put, List.setIfInBounds_toArray, List.set_cons_zero, List.set_cons_succ]
          refine wpAnyH_take (i := 27) (oi := ⟨some 66, _, _, _, _, _⟩) (v := undef) rfl (by kernel_rfl) (by kernel_rfl) (by kernel_rfl) (fun _ _ _ h => h) (Or.inr ⟨by rfl, rfl⟩) (by assumption) ?_
          try simp only [Act.put, List.setIfInBounds_toArray, List.set_cons_zero, List.set_cons_succ]
          refine wpAnyH_take (i := 28) (oi := ⟨some 67, _, _, _, _, _⟩) (v := undef) rfl (by kernel_rfl) (by kernel_rfl) (by kernel_rfl) (fun _ _ _ h => h) (Or.inr ⟨by rfl, rfl⟩) (by assumption) ?_
          try simp only [Act.put, List.setIfInBounds_toArray, List.set_cons_zero, List.set_cons_succ]
          refine wpAnyH_take (i := 29) (oi := ⟨some 68, _, _, _, _, _⟩) (v := undef) rfl (by kernel_rfl) (by kernel_rfl) (by kernel_rfl) (fun _ _ _ h => h) (Or.inr ⟨by rfl, rfl⟩) (by assumption) ?_
          try simp only [Act.put, List.setIfInBounds_toArray, List.set_cons_zero, List.set_cons_succ]
          refine wpAnyH_take (i := 30) (oi := ⟨some 69, _, _, _, _, _⟩) (v := undef) rfl (by kernel_rfl) (by kernel_rfl) (by kernel_rfl) (fun _ _ _ h => h) (Or.inr ⟨by rfl, rfl⟩) (by assumption) ?_
          try simp only [Act.put, List.setIfInBounds_toArray, List.set_cons_zero, List.set_cons_succ]
          refine wpAnyH_take (i := 31) (oi := ⟨some 70, _, _, _, _, _⟩) (v := undef) rfl (by kernel_rfl) (by kernel_rfl) (by kernel_rfl) (fun _ _ _ h => h) (Or.inr ⟨by rfl, rfl⟩) (by assumption) ?_
          try simp only [Act.put, List.setIfInBounds_toArray, List.set_cons_zero, List.set_cons_succ]
          refine wpAnyH_take (i := 32) (oi := ⟨some 71, _, _, _, _, _⟩) (v := undef) rfl (by kernel_rfl) (by kernel_rfl) (by kernel_rfl) (fun _ _ _ h => h) (Or.inr ⟨by rfl, rfl⟩) (by assumption) ?_
          try simp only [Act.put, List.setIfInBounds_toArray, List.set_cons_zero, List.set_cons_succ]
          refine wpAnyH_take (i := 33) (oi := ⟨some 72, _, _, _, _, _⟩) (v := undef) rfl (by kernel_rfl) (by kernel_rfl) (by kernel_rfl) (fun _ _ _ h => h) (Or.inr ⟨by rfl, rfl⟩) (by assumption) ?_
          try simp only [Act.put, List.setIfInBounds_toArray, List.set_cons_zero, List.set_cons_succ]
          refine wpAnyH_take (i := 34) (oi := ⟨some 73, _, _, _, _, _⟩) (v := undef) rfl (by kernel_rfl) (by kernel_rfl) (by kernel_rfl) (fun _ _ _ h => h) (Or.inr ⟨by rfl, rfl⟩) (by assumption) ?_
          try simp only [Act.put, List.setIfInBounds_toArray, List.set_cons_zero, List.set_cons_succ]
          refine wpAnyH_take (i := 35) (oi := ⟨some 74, _, _, _, _, _⟩) (v := undef) rfl (by kernel_rfl) (by kernel_rfl) (by kernel_rfl) (fun _ _ _ h => h) (Or.inr ⟨by rfl, rfl⟩) (by assumption) ?_
          try simp only [Act.put, List.setIfInBounds_toArray, List.set_cons_zero, List.set_cons_succ]
          refine wpAnyH_take (i := 36) (oi := ⟨some 75, _, _, _, _, _⟩) (v := undef) rfl (by kernel_rfl) (by kernel_rfl) (by kernel_rfl) (fun _ _ _ h => h) (Or.inr ⟨by rfl, rfl⟩) (by assumption) ?_
          try simp only [Act.put, List.setIfInBounds_toArray, List.set_cons_zero, List.set_cons_succ]
          refine wpAnyH_take (i := 37) (oi := ⟨some 76, _, _, _, _, _⟩) (v := undef) rfl (by kernel_rfl) (by kernel_rfl) (by kernel_rfl) (fun _ _ _ h => h) (Or.inr ⟨by rfl, rfl⟩) (by assumption) ?_
          try simp only [Act.put, List.setIfInBounds_toArray, List.set_cons_zero, List.set_cons_succ]
          refine wpAnyH_take (i := 38) (oi := ⟨some 77, _, _, _, _, _⟩) (v := ?_) rfl (by kernel_rfl) (by kernel_rfl) (by kernel_rfl) (fun _ _ _ h => h) (Or.inl ⟨by rfl, ?_⟩) (by assumption) ?_
          rotate_left 1
          · (intro w hSw; (try dsimp only at hSw); go_simp; all_goals with_reducible rfl)
          try simp only [Act.put, List.setIfInBounds_toArray, List.set_cons_zero, List.set_cons_succ]
          refine wpAnyH_done (by kernel_rfl) ?_ _
          clear z0 z2
          have SB : Hid (StQ _ qb B y4) := Lib.hid (S6.out.keep hHeld (by simp) (by simp))
          have WB : Hid (LnOwn _ w.heap.size 56 [qb] a' c' out) := Lib.hid (W6.out.keep hHeld (by simp) (fun x hx => .inl hx))
          have FB : Hid (Frm [qb] w _) := Lib.hid (F6.out.trans hHeld (fun x hx => hx) (by simp))
          have BB := Lib.hid (hHeld.whole BV6.out (by simp))
          have CF := Lib.hid (stq_fail 23 23 rfl SB.out (by decide))
          go_wp2_with fail
          (with_reducible refine CF.out.mono ?_)
          rintro e w7 ⟨rfl, hs7, hf7⟩
          have AT := Lib.hid (LnsAt.bad (out' := out ++ [⟨nm, d, d, al, ae⟩]) RB.out.1 LR.out BT.out)
          obtain ⟨yF, hyF⟩ : ∃ yF, yF = nxF 23 y4 := ⟨_, rfl⟩
          rw [← hyF] at hs7 AT
          have S7 := Lib.hid hs7
          have W7 : Hid (LnOwn w7 w.heap.size 56 [qb] a' c' out) := Lib.hid (WB.out.keep hf7 (fun x hx => .inl hx) (fun x hx => .inl hx))
          have F7 : Hid (Frm [qb] w w7) := Lib.hid (FB.out.trans hf7 (fun x hx => hx) (fun x hx => .inl hx))
          have B7 := Lib.hid (hf7.whole BB.out (by have := YW.out; simp; omega))
          clear hs7 hf7 hyF SB WB FB BB CF
          have x0 := B7.out.cell 0
          have x1 := B7.out.cell 1
          have x2 := B7.out.cell 2
          have x3 := B7.out.cell 3
          have x4 := B7.out.cell 4
          simp only [List.getElem?_toArray, List.getElem?_cons_zero, List.getElem?_cons_succ] at x0 x1 x2 x3 x4
          have OWN : Hid ((w7.alloc (.cells #[.string nm, .int .u64 (d : Nat), .int .u64 (d : Nat), .int .u64 (al : Nat), .int .u64 (ae : Nat)] 56)).ownsRow w.heap.size 56 5 (.slice a' i c') i (lnc out)) := Lib.hid (by
            have := (W7.out.keep (S := []) (F' := []) ((Frm.refl [] w7).alloc (.cells #[.string nm, .int .u64 (d : Nat), .int .u64 (d : Nat), .int .u64 (al : Nat), .int .u64 (ae : Nat)] 56)) (by simp) (by simp)).own
            rwa [← HL.out] at this)
          have ONE : Hid (ValsAt (w7.alloc (.cells #[.string nm, .int .u64 (d : Nat), .int .u64 (d : Nat), .int .u64 (al : Nat), .int .u64 (ae : Nat)] 56)) (some ⟨w7.heap.size, 0, none⟩) (lnc [⟨nm, d, d, al, ae⟩])) := Lib.hid (lncvals_one w7 ⟨nm, d, d, al, ae⟩ 56)
          have hbz : w.heap.size ≤ (w7.alloc (.cells #[.string nm, .int .u64 (d : Nat), .int .u64 (d : Nat), .int .u64 (al : Nat), .int .u64 (ae : Nat)] 56)).heap.size := by have := F7.out.size; simp; omega
          have hfit1 : i + 1 ≤ 1000000000 := by omega
          go_wp2_with (at_builtin; refine stop_intro ?_)
          unfold Stopped
          refine wpList_appS (by rfl) (.tmp 80) (.tmp 82) 39 rfl w.heap.size 56 i0 (.agg #[.string ⟨#[]⟩, .int .u64 0, .int .u64 0, .int .u64 0, .int .u64 0]) 5 48 Tryd.underlying39 HI.out HZ0.out rfl (by decide) HZ1.out HZ2.out (by decide) (.slice a' i c') i _ rfl OWN.out _ 1 1 _ rfl ONE.out rfl (lnc_one _) (fun h => by cases h) hfit1 hbz ?_
          intro a3 c3 w8 happ
          have AL := (Frm.refl [] w7).alloc (.cells #[.string nm, .int .u64 (d : Nat), .int .u64 (d : Nat), .int .u64 (al : Nat), .int .u64 (ae : Nat)] 56)
          have QW8 : ∀ x ∈ [qb], x < w.heap.size := fun x hx => by have := HO.out; simp at hx; omega
          obtain ⟨g1, g2, g3, g4⟩ := (W7.out.keep (S := []) (F' := [qb]) AL (by simp) (fun x hx => .inl hx)).app (Y := [⟨nm, d, d, al, ae⟩]) HL.out (by intro z hz; simp at hz; subst hz; exact ⟨D64.out, D64.out, A64.out, E64.out⟩) (m := 1) rfl (fun x hx => by have h1 := QW8 x hx; have h2 := F7.out.size; simp; omega) happ
          have W8 : Hid (LnOwn w8 w.heap.size 56 [qb] a3 c3 (out ++ [⟨nm, d, d, al, ae⟩])) := Lib.hid g1
          have L8 : Hid (i + 1 = (out ++ [(⟨nm, d, d, al, ae⟩ : Ln)]).length) := Lib.hid g4
          have S8 : Hid (StQ w8 qb B yF) := Lib.hid ((S7.out.keep AL (by simp) (by simp)).keep g2 (fun hm => by have := (W7.out.blk_lt _ hm).1; have := HO.out; omega) (fun x hx => by have := (W7.out.blk_lt x hx).1; have := HO.out; omega))
          have F8 : Hid (Frm [qb] w w8) := Lib.hid ((F7.out.trans AL (U := [qb]) (fun x hx => hx) (by simp)).trans g2 (fun x hx => hx) (fun x hx => .inr (W7.out.blk_lt x hx).1))
          have AT8 : Hid (LnsAt V (n - (i + 1)) (out ++ [⟨nm, d, d, al, ae⟩]) yF R) := Lib.hid (by rw [show n - (i + 1) = n - i - 1 by omega]; exact AT.out)
          clear happ g1 g2 g3 g4 AL hbz OWN ONE x0 x1 x2 x3 x4
          go_wp2
          go_roundw
          case rel => exact ⟨i + 1, a3, c3, _, yF, by omega, by rfl, by go_num, L8, W8, S8, F8, AT8⟩
          case measure => simp [intOf]; omega
        · have k2 : ¬ (64 : Int) < (nm.size : Int) := by omega
          by_cases c3 : d = 0
          · have BT : Hid (badL out ⟨nm, d, d, al, ae⟩ = true) := Lib.hid (by unfold badL; simp [c3])
            have k3 : ((d : Int) == 0) = true := by simp; omega
            clear c3
            refine wp_region_held_drew (S := fun w' => Frm [] V6 w') (by kernel_rfl) (Frm.drew (Frm.refl _ _)) (fun hHeld => ?_)
            refine wpAnyH_take (i := 0) (oi := ⟨some 39, _, _, _, _, _⟩) (v := ?_) rfl (by kernel_rfl) (by kernel_rfl) (by kernel_rfl) (fun _ _ _ h => h) (Or.inl ⟨by rfl, ?_⟩) (by assumption) ?_
            rotate_left 1
            · (intro w hSw; (try dsimp only at hSw); go_simp; all_goals with_reducible rfl)
            try simp only [Act.put, List.setIfInBounds_toArray, List.set_cons_zero, List.set_cons_succ]
            refine wpAnyH_take (i := 1) (oi := ⟨some 40, _, _, _, _, _⟩) (v := ?_) rfl (by kernel_rfl) (by kernel_rfl) (by kernel_rfl) (fun _ _ _ h => h) (Or.inl ⟨by rfl, ?_⟩) (by assumption) ?_
            rotate_left 1
            · (intro w hSw; (try dsimp only at hSw); go_simp; all_goals with_reducible rfl)
            try simp only [Act.put, List.setIfInBounds_toArray, List.set_cons_zero, List.set_cons_succ]
            refine wpAnyH_take (i := 2) (oi := ⟨some 41, _, _, _, _, _⟩) (v := ?_) rfl (by kernel_rfl) (by kernel_rfl) (by kernel_rfl) (fun _ _ _ h => h) (Or.inl ⟨by rfl, ?_⟩) (by assumption) ?_
            rotate_left 1
            · (intro w hSw; (try dsimp only at hSw); go_simp; all_goals with_reducible rfl)
            try simp only [Act.put, List.setIfInBounds_toArray, List.set_cons_zero, List.set_cons_succ]
            refine wpAnyH_take (i := 3) (oi := ⟨some 42, _, _, _, _, _⟩) (v := ?_) rfl (by kernel_rfl) (by kernel_rfl) (by kernel_rfl) (fun _ _ _ h => h) (Or.inl ⟨by rfl, ?_⟩) (by assumption) ?_
            rotate_left 1
            · (intro w hSw; (try dsimp only at hSw); go_simp; all_goals with_reducible rfl)
            try simp only [Act.put, List.setIfInBounds_toArray, List.set_cons_zero, List.set_cons_succ]
            refine wpAnyH_take (i := 4) (oi := ⟨some 43, _, _, _, _, _⟩) (v := ?_) rfl (by kernel_rfl) (by kernel_rfl) (by kernel_rfl) (fun _ _ _ h => h) (Or.inl ⟨by rfl, ?_⟩) (by assumption) ?_
            rotate_left 1
            · (intro w hSw; (try dsimp only at hSw); go_simp; all_goals with_reducible rfl)
            try simp only [Act.put, List.setIfInBounds_toArray, List.set_cons_zero, List.set_cons_succ]
            refine wpAnyH_take (i := 5) (oi := ⟨some 44, _, _, _, _, _⟩) (v := ?_) rfl (by kernel_rfl) (by kernel_rfl) (by kernel_rfl) (fun _ _ _ h => h) (Or.inl ⟨by rfl, ?_⟩) (by assumption) ?_
            rotate_left 1
            · (intro w hSw; (try dsimp only at hSw); go_simp; all_goals with_reducible rfl)
            try simp only [Act.put, List.setIfInBounds_toArray, List.set_cons_zero, List.set_cons_succ]
            refine wpAnyH_take (i := 6) (oi := ⟨some 45, _, _, _, _, _⟩) (v := ?_) rfl (by kernel_rfl) (by kernel_rfl) (by kernel_rfl) (fun _ _ _ h => h) (Or.inl ⟨by rfl, ?_⟩) (by assumption) ?_
            rotate_left 1
            · (intro w hSw; (try dsimp only at hSw); go_simp; all_goals with_reducible rfl)
            try simp only [Act.put, List.setIfInBounds_toArray, List.set_cons_zero, List.set_cons_succ]
            refine wpAnyH_take (i := 7) (oi := ⟨some 46, _, _, _, _, _⟩) (v := ?_) rfl (by kernel_rfl) (by kernel_rfl) (by kernel_rfl) (fun _ _ _ h => h) (Or.inl ⟨by rfl, ?_⟩) (by assumption) ?_
            rotate_left 1
            · (intro w hSw; (try dsimp only at hSw); go_simp; all_goals with_reducible rfl)
            try simp only [Act.put, List.setIfInBounds_toArray, List.set_cons_zero, List.set_cons_succ]
            refine wpAnyH_take (i := 8) (oi := ⟨some 47, _, _, _, _, _⟩) (v := ?_) rfl (by kernel_rfl) (by kernel_rfl) (by kernel_rfl) (fun _ _ _ h => h) (Or.inl ⟨by rfl, ?_⟩) (by assumption) ?_
            rotate_left 1
            · (intro w hSw; (try dsimp only at hSw); go_simp; all_goals with_reducible rfl)
            try simp only [Act.put, List.setIfInBounds_toArray, List.set_cons_zero, List.set_cons_succ]
            refine wpAnyH_take (i := 9) (oi := ⟨some 48, _, _, _, _, _⟩) (v := ?_) rfl (by kernel_rfl) (by kernel_rfl) (by kernel_rfl) (fun _ _ _ h => h) (Or.inl ⟨by rfl, ?_⟩) (by assumption) ?_
            rotate_left 1
            · (intro w hSw; (try dsimp only at hSw); go_simp; all_goals with_reducible rfl)
            try simp only [Act.put, List.setIfInBounds_toArray, List.set_cons_zero, List.set_cons_succ]
            refine wpAnyH_take (i := 10) (oi := ⟨some 49, _, _, _, _, _⟩) (v := ?_) rfl (by kernel_rfl) (by kernel_rfl) (by kernel_rfl) (fun _ _ _ h => h) (Or.inl ⟨by rfl, ?_⟩) (by assumption) ?_
            rotate_left 1
            · (intro w hSw; (try dsimp only at hSw); go_simp; all_goals with_reducible rfl)
            try simp only [Act.put, List.setIfInBounds_toArray, List.set_cons_zero, List.set_cons_succ]
            refine wpAnyH_take (i := 11) (oi := ⟨some 50, _, _, _, _, _⟩) (v := ?_) rfl (by kernel_rfl) (by kernel_rfl) (by kernel_rfl) (fun _ _ _ h => h) (Or.inl ⟨by rfl, ?_⟩) (by assumption) ?_
            rotate_left 1
            · (intro w hSw; (try dsimp only at hSw); go_simp; all_goals with_reducible rfl)
            try simp only [Act.put, List.setIfInBounds_toArray, List.set_cons_zero, List.set_cons_succ]
            refine wpAnyH_take (i := 12) (oi := ⟨some 51, _, _, _, _, _⟩) (v := ?_) rfl (by kernel_rfl) (by kernel_rfl) (by kernel_rfl) (fun _ _ _ h => h) (Or.inl ⟨by rfl, ?_⟩) (by assumption) ?_
            rotate_left 1
            · (intro w hSw; (try dsimp only at hSw); go_simp; all_goals with_reducible rfl)
            try simp only [Act.put, List.setIfInBounds_toArray, List.set_cons_zero, List.set_cons_succ]
            refine wpAnyH_take (i := 13) (oi := ⟨some 52, _, _, _, _, _⟩) (v := ?_) rfl (by kernel_rfl) (by kernel_rfl) (by kernel_rfl) (fun _ _ _ h => h) (Or.inl ⟨by rfl, ?_⟩) (by assumption) ?_
            rotate_left 1
            · (intro w hSw; (try dsimp only at hSw); go_simp; all_goals with_reducible rfl)
            try simp only [Act.put, List.setIfInBounds_toArray, List.set_cons_zero, List.set_cons_succ]
            refine wpAnyH_take (i := 14) (oi := ⟨some 53, _, _, _, _, _⟩) (v := ?_) rfl (by kernel_rfl) (by kernel_rfl) (by kernel_rfl) (fun _ _ _ h => h) (Or.inl ⟨by rfl, ?_⟩) (by assumption) ?_
            rotate_left 1
            · (intro w hSw; (try dsimp only at hSw); go_simp; all_goals with_reducible rfl)
            try simp only [Act.put, List.setIfInBounds_toArray, List.set_cons_zero, List.set_cons_succ]
            refine wpAnyH_take (i := 15) (oi := ⟨some 54, _, _, _, _, _⟩) (v := undef) rfl (by kernel_rfl) (by kernel_rfl) (by kernel_rfl) (fun _ _ _ h => h) (Or.inr ⟨by rfl, rfl⟩) (by assumption) ?_
            try simp only [Act.put, List.setIfInBounds_toArray, List.set_cons_zero, List.set_cons_succ]
            refine wpAnyH_take (i := 16) (oi := ⟨some 55, _, _, _, _, _⟩) (v := undef) rfl (by kernel_rfl) (by kernel_rfl) (by kernel_rfl) (fun _ _ _ h => h) (Or.inr ⟨by rfl, rfl⟩) (by assumption) ?_
            try simp only [Act.put, List.setIfInBounds_toArray, List.set_cons_zero, List.set_cons_succ]
            refine wpAnyH_take (i := 17) (oi := ⟨some 56, _, _, _, _, _⟩) (v := ?_) rfl (by kernel_rfl) (by kernel_rfl) (by kernel_rfl) (fun _ _ _ h => h) (Or.inl ⟨by rfl, ?_⟩) (by assumption) ?_
            rotate_left 1
            · (intro w hSw; (try dsimp only at hSw); go_simp; all_goals with_reducible rfl)
            try simp only [Act.put, List.setIfInBounds_toArray, List.set_cons_zero, List.set_cons_succ]
            refine wpAnyH_take (i := 18) (oi := ⟨some 57, _, _, _, _, _⟩) (v := ?_) rfl (by kernel_rfl) (by kernel_rfl) (by kernel_rfl) (fun _ _ _ h => h) (Or.inl ⟨by rfl, ?_⟩) (by assumption) ?_
            rotate_left 1
            · (intro w hSw; (try dsimp only at hSw); go_simp; all_goals with_reducible rfl)
            try simp only [Act.put, List.setIfInBounds_toArray, List.set_cons_zero, List.set_cons_succ]
            refine wpAnyH_take (i := 19) (oi := ⟨some 58, _, _, _, _, _⟩) (v := undef) rfl (by kernel_rfl) (by kernel_rfl) (by kernel_rfl) (fun _ _ _ h => h) (Or.inr ⟨by rfl, rfl⟩) (by assumption) ?_
            try simp only [Act.put, List.setIfInBounds_toArray, List.set_cons_zero, List.set_cons_succ]
            refine wpAnyH_take (i := 20) (oi := ⟨some 59, _, _, _, _, _⟩) (v := undef) rfl (by kernel_rfl) (by kernel_rfl) (by kernel_rfl) (fun _ _ _ h => h) (Or.inr ⟨by rfl, rfl⟩) (by assumption) ?_
            try simp only [Act.put, List.setIfInBounds_toArray, List.set_cons_zero, List.set_cons_succ]
            refine wpAnyH_take (i := 21) (oi := ⟨some 60, _, _, _, _, _⟩) (v := undef) rfl (by kernel_rfl) (by kernel_rfl) (by kernel_rfl) (fun _ _ _ h => h) (Or.inr ⟨by rfl, rfl⟩) (by assumption) ?_
            try simp only [Act.put, List.setIfInBounds_toArray, List.set_cons_zero, List.set_cons_succ]
            refine wpAnyH_take (i := 22) (oi := ⟨some 61, _, _, _, _, _⟩) (v := undef) rfl (by kernel_rfl) (by kernel_rfl) (by kernel_rfl) (fun _ _ _ h => h) (Or.inr ⟨by rfl, rfl⟩) (by assumption) ?_
            try simp only [Act.put, List.setIfInBounds_toArray, List.set_cons_zero, List.set_cons_succ]
            refine wpAnyH_take (i := 23) (oi := ⟨some 62, _, _, _, _, _⟩) (v := undef) rfl (by kernel_rfl) (by kernel_rfl) (by kernel_rfl) (fun _ _ _ h => h) (Or.inr ⟨by rfl, rfl⟩) (by assumption) ?_
            try simp only [Act.put, List.setIfInBounds_toArray, List.set_cons_zero, List.set_cons_succ]
            refine wpAnyH_take (i := 24) (oi := ⟨some 63, _, _, _, _, _⟩) (v := undef) rfl (by kernel_rfl) (by kernel_rfl) (by kernel_rfl) (fun _ _ _ h => h) (Or.inr ⟨by rfl, rfl⟩) (by assumption) ?_
            try simp only [Act.put, List.setIfInBounds_toArray, List.set_cons_zero, List.set_cons_succ]
            refine wpAnyH_take (i := 25) (oi := ⟨some 64, _, _, _, _, _⟩) (v := undef) rfl (by kernel_rfl) (by kernel_rfl) (by kernel_rfl) (fun _ _ _ h => h) (Or.inr ⟨by rfl, rfl⟩) (by assumption) ?_
            try simp only [Act.put, List.setIfInBounds_toArray, List.set_cons_zero, List.set_cons_succ]
            refine wpAnyH_take (i := 26) (oi := ⟨some 65, _, _, _, _, _⟩) (v := undef) rfl (by kernel_rfl) (by kernel_rfl) (by kernel_rfl) (fun _ _ _ h => h) (Or.inr ⟨by rfl, rfl⟩) (by assumption) ?_
            try simp only [Act.put, List.setIfInBounds_toArray, List.set_cons_zero, List.set_cons_succ]
            refine wpAnyH_take (i := 27) (oi := ⟨some 66, _, _, _, _, _⟩) (v := undef) rfl (by kernel_rfl) (by kernel_rfl) (by kernel_rfl) (fun _ _ _ h => h) (Or.inr ⟨by rfl, rfl⟩) (by assumption) ?_
            try simp only [Act.put, List.setIfInBounds_toArray, List.set_cons_zero, List.set_cons_succ]
            refine wpAnyH_take (i := 28) (oi := ⟨some 67, _, _, _, _, _⟩) (v := undef) rfl (by kernel_rfl) (by kernel_rfl) (by kernel_rfl) (fun _ _ _ h => h) (Or.inr ⟨by rfl, rfl⟩) (by assumption) ?_
            try simp only [Act.put, List.setIfInBounds_toArray, List.set_cons_zero, List.set_cons_succ]
            refine wpAnyH_take (i := 29) (oi := ⟨some 68, _, _, _, _, _⟩) (v := undef) rfl (by kernel_rfl) (by kernel_rfl) (by kernel_rfl) (fun _ _ _ h => h) (Or.inr ⟨by rfl, rfl⟩) (by assumption) ?_
            try simp only [Act.put, List.setIfInBounds_toArray, List.set_cons_zero, List.set_cons_succ]
            refine wpAnyH_take (i := 30) (oi := ⟨some 69, _, _, _, _, _⟩) (v := undef) rfl (by kernel_rfl) (by kernel_rfl) (by kernel_rfl) (fun _ _ _ h => h) (Or.inr ⟨by rfl, rfl⟩) (by assumption) ?_
            try simp only [Act.put, List.setIfInBounds_toArray, List.set_cons_zero, List.set_cons_succ]
            refine wpAnyH_take (i := 31) (oi := ⟨some 70, _, _, _, _, _⟩) (v := undef) rfl (by kernel_rfl) (by kernel_rfl) (by kernel_rfl) (fun _ _ _ h => h) (Or.inr ⟨by rfl, rfl⟩) (by assumption) ?_
            try simp only [Act.put, List.setIfInBounds_toArray, List.set_cons_zero, List.set_cons_succ]
            refine wpAnyH_take (i := 32) (oi := ⟨some 71, _, _, _, _, _⟩) (v := undef) rfl (by kernel_rfl) (by kernel_rfl) (by kernel_rfl) (fun _ _ _ h => h) (Or.inr ⟨by rfl, rfl⟩) (by assumption) ?_
            try simp only [Act.put, List.setIfInBounds_toArray, List.set_cons_zero, List.set_cons_succ]
            refine wpAnyH_take (i := 33) (oi := ⟨some 72, _, _, _, _, _⟩) (v := undef) rfl (by kernel_rfl) (by kernel_rfl) (by kernel_rfl) (fun _ _ _ h => h) (Or.inr ⟨by rfl, rfl⟩) (by assumption) ?_
            try simp only [Act.put, List.setIfInBounds_toArray, List.set_cons_zero, List.set_cons_succ]
            refine wpAnyH_take (i := 34) (oi := ⟨some 73, _, _, _, _, _⟩) (v := undef) rfl (by kernel_rfl) (by kernel_rfl) (by kernel_rfl) (fun _ _ _ h => h) (Or.inr ⟨by rfl, rfl⟩) (by assumption) ?_
            try simp only [Act.put, List.setIfInBounds_toArray, List.set_cons_zero, List.set_cons_succ]
            refine wpAnyH_take (i := 35) (oi := ⟨some 74, _, _, _, _, _⟩) (v := undef) rfl (by kernel_rfl) (by kernel_rfl) (by kernel_rfl) (fun _ _ _ h => h) (Or.inr ⟨by rfl, rfl⟩) (by assumption) ?_
            try simp only [Act.put, List.setIfInBounds_toArray, List.set_cons_zero, List.set_cons_succ]
            refine wpAnyH_take (i := 36) (oi := ⟨some 75, _, _, _, _, _⟩) (v := undef) rfl (by kernel_rfl) (by kernel_rfl) (by kernel_rfl) (fun _ _ _ h => h) (Or.inr ⟨by rfl, rfl⟩) (by assumption) ?_
            try simp only [Act.put, List.setIfInBounds_toArray, List.set_cons_zero, List.set_cons_succ]
            refine wpAnyH_take (i := 37) (oi := ⟨some 76, _, _, _, _, _⟩) (v := undef) rfl (by kernel_rfl) (by kernel_rfl) (by kernel_rfl) (fun _ _ _ h => h) (Or.inr ⟨by rfl, rfl⟩) (by assumption) ?_
            try simp only [Act.put, List.setIfInBounds_toArray, List.set_cons_zero, List.set_cons_succ]
            refine wpAnyH_take (i := 38) (oi := ⟨some 77, _, _, _, _, _⟩) (v := ?_) rfl (by kernel_rfl) (by kernel_rfl) (by kernel_rfl) (fun _ _ _ h => h) (Or.inl ⟨by rfl, ?_⟩) (by assumption) ?_
            rotate_left 1
            · (intro w hSw; (try dsimp only at hSw); go_simp; all_goals with_reducible rfl)
            try simp only [Act.put, List.setIfInBounds_toArray, List.set_cons_zero, List.set_cons_succ]
            refine wpAnyH_done (by kernel_rfl) ?_ _
            clear z0 z2
            have SB : Hid (StQ _ qb B y4) := Lib.hid (S6.out.keep hHeld (by simp) (by simp))
            have WB : Hid (LnOwn _ w.heap.size 56 [qb] a' c' out) := Lib.hid (W6.out.keep hHeld (by simp) (fun x hx => .inl hx))
            have FB : Hid (Frm [qb] w _) := Lib.hid (F6.out.trans hHeld (fun x hx => hx) (by simp))
            have BB := Lib.hid (hHeld.whole BV6.out (by simp))
            have CF := Lib.hid (stq_fail 23 23 rfl SB.out (by decide))
            go_wp2_with fail
            (with_reducible refine CF.out.mono ?_)
            rintro e w7 ⟨rfl, hs7, hf7⟩
            have AT := Lib.hid (LnsAt.bad (out' := out ++ [⟨nm, d, d, al, ae⟩]) RB.out.1 LR.out BT.out)
            obtain ⟨yF, hyF⟩ : ∃ yF, yF = nxF 23 y4 := ⟨_, rfl⟩
            rw [← hyF] at hs7 AT
            have S7 := Lib.hid hs7
            have W7 : Hid (LnOwn w7 w.heap.size 56 [qb] a' c' out) := Lib.hid (WB.out.keep hf7 (fun x hx => .inl hx) (fun x hx => .inl hx))
            have F7 : Hid (Frm [qb] w w7) := Lib.hid (FB.out.trans hf7 (fun x hx => hx) (fun x hx => .inl hx))
            have B7 := Lib.hid (hf7.whole BB.out (by have := YW.out; simp; omega))
            clear hs7 hf7 hyF SB WB FB BB CF
            have x0 := B7.out.cell 0
            have x1 := B7.out.cell 1
            have x2 := B7.out.cell 2
            have x3 := B7.out.cell 3
            have x4 := B7.out.cell 4
            simp only [List.getElem?_toArray, List.getElem?_cons_zero, List.getElem?_cons_succ] at x0 x1 x2 x3 x4
            have OWN : Hid ((w7.alloc (.cells #[.string nm, .int .u64 (d : Nat), .int .u64 (d : Nat), .int .u64 (al : Nat), .int .u64 (ae : Nat)] 56)).ownsRow w.heap.size 56 5 (.slice a' i c') i (lnc out)) := Lib.hid (by
              have := (W7.out.keep (S := []) (F' := []) ((Frm.refl [] w7).alloc (.cells #[.string nm, .int .u64 (d : Nat), .int .u64 (d : Nat), .int .u64 (al : Nat), .int .u64 (ae : Nat)] 56)) (by simp) (by simp)).own
              rwa [← HL.out] at this)
            have ONE : Hid (ValsAt (w7.alloc (.cells #[.string nm, .int .u64 (d : Nat), .int .u64 (d : Nat), .int .u64 (al : Nat), .int .u64 (ae : Nat)] 56)) (some ⟨w7.heap.size, 0, none⟩) (lnc [⟨nm, d, d, al, ae⟩])) := Lib.hid (lncvals_one w7 ⟨nm, d, d, al, ae⟩ 56)
            have hbz : w.heap.size ≤ (w7.alloc (.cells #[.string nm, .int .u64 (d : Nat), .int .u64 (d : Nat), .int .u64 (al : Nat), .int .u64 (ae : Nat)] 56)).heap.size := by have := F7.out.size; simp; omega
            have hfit1 : i + 1 ≤ 1000000000 := by omega
            go_wp2_with (at_builtin; refine stop_intro ?_)
            unfold Stopped
            refine wpList_appS (by rfl) (.tmp 80) (.tmp 82) 39 rfl w.heap.size 56 i0 (.agg #[.string ⟨#[]⟩, .int .u64 0, .int .u64 0, .int .u64 0, .int .u64 0]) 5 48 Tryd.underlying39 HI.out HZ0.out rfl (by decide) HZ1.out HZ2.out (by decide) (.slice a' i c') i _ rfl OWN.out _ 1 1 _ rfl ONE.out rfl (lnc_one _) (fun h => by cases h) hfit1 hbz ?_
            intro a3 c3 w8 happ
            have AL := (Frm.refl [] w7).alloc (.cells #[.string nm, .int .u64 (d : Nat), .int .u64 (d : Nat), .int .u64 (al : Nat), .int .u64 (ae : Nat)] 56)
            have QW8 : ∀ x ∈ [qb], x < w.heap.size := fun x hx => by have := HO.out; simp at hx; omega
            obtain ⟨g1, g2, g3, g4⟩ := (W7.out.keep (S := []) (F' := [qb]) AL (by simp) (fun x hx => .inl hx)).app (Y := [⟨nm, d, d, al, ae⟩]) HL.out (by intro z hz; simp at hz; subst hz; exact ⟨D64.out, D64.out, A64.out, E64.out⟩) (m := 1) rfl (fun x hx => by have h1 := QW8 x hx; have h2 := F7.out.size; simp; omega) happ
            have W8 : Hid (LnOwn w8 w.heap.size 56 [qb] a3 c3 (out ++ [⟨nm, d, d, al, ae⟩])) := Lib.hid g1
            have L8 : Hid (i + 1 = (out ++ [(⟨nm, d, d, al, ae⟩ : Ln)]).length) := Lib.hid g4
            have S8 : Hid (StQ w8 qb B yF) := Lib.hid ((S7.out.keep AL (by simp) (by simp)).keep g2 (fun hm => by have := (W7.out.blk_lt _ hm).1; have := HO.out; omega) (fun x hx => by have := (W7.out.blk_lt x hx).1; have := HO.out; omega))
            have F8 : Hid (Frm [qb] w w8) := Lib.hid ((F7.out.trans AL (U := [qb]) (fun x hx => hx) (by simp)).trans g2 (fun x hx => hx) (fun x hx => .inr (W7.out.blk_lt x hx).1))
            have AT8 : Hid (LnsAt V (n - (i + 1)) (out ++ [⟨nm, d, d, al, ae⟩]) yF R) := Lib.hid (by rw [show n - (i + 1) = n - i - 1 by omega]; exact AT.out)
            clear happ g1 g2 g3 g4 AL hbz OWN ONE x0 x1 x2 x3 x4
            go_wp2
            go_roundw
            case rel => exact ⟨i + 1, a3, c3, _, yF, by omega, by rfl, by go_num, L8, W8, S8, F8, AT8⟩
            case measure => simp [intOf]; omega
          · have k3 : ((d : Int) == 0) = false := by simp; omega
            by_cases c4 : i = 16
            · have BT : Hid (badL out ⟨nm, d, d, al, ae⟩ = true) := Lib.hid (by unfold badL; rw [← HL.out]; simp [c4])
              have k4 : ((i : Int) == 16) = true := by simp; omega
              have C4 := Lib.hid c4; clear c4
              refine wp_region_held_drew (S := fun w' => Frm [] V6 w') (by kernel_rfl) (Frm.drew (Frm.refl _ _)) (fun hHeld => ?_)
              refine wpAnyH_take (i := 0) (oi := ⟨some 39, _, _, _, _, _⟩) (v := ?_) rfl (by kernel_rfl) (by kernel_rfl) (by kernel_rfl) (fun _ _ _ h => h) (Or.inl ⟨by rfl, ?_⟩) (by assumption) ?_
              rotate_left 1
              · (intro w hSw; (try dsimp only at hSw); go_simp; all_goals with_reducible rfl)
              try simp only [Act.put, List.setIfInBounds_toArray, List.set_cons_zero, List.set_cons_succ]
              refine wpAnyH_take (i := 1) (oi := ⟨some 40, _, _, _, _, _⟩) (v := ?_) rfl (by kernel_rfl) (by kernel_rfl) (by kernel_rfl) (fun _ _ _ h => h) (Or.inl ⟨by rfl, ?_⟩) (by assumption) ?_
              rotate_left 1
              · (intro w hSw; (try dsimp only at hSw); go_simp; all_goals with_reducible rfl)
              try simp only [Act.put, List.setIfInBounds_toArray, List.set_cons_zero, List.set_cons_succ]
              refine wpAnyH_take (i := 2) (oi := ⟨some 41, _, _, _, _, _⟩) (v := ?_) rfl (by kernel_rfl) (by kernel_rfl) (by kernel_rfl) (fun _ _ _ h => h) (Or.inl ⟨by rfl, ?_⟩) (by assumption) ?_
              rotate_left 1
              · (intro w hSw; (try dsimp only at hSw); go_simp; all_goals with_reducible rfl)
              try simp only [Act.put, List.setIfInBounds_toArray, List.set_cons_zero, List.set_cons_succ]
              refine wpAnyH_take (i := 3) (oi := ⟨some 42, _, _, _, _, _⟩) (v := ?_) rfl (by kernel_rfl) (by kernel_rfl) (by kernel_rfl) (fun _ _ _ h => h) (Or.inl ⟨by rfl, ?_⟩) (by assumption) ?_
              rotate_left 1
              · (intro w hSw; (try dsimp only at hSw); go_simp; all_goals with_reducible rfl)
              try simp only [Act.put, List.setIfInBounds_toArray, List.set_cons_zero, List.set_cons_succ]
              refine wpAnyH_take (i := 4) (oi := ⟨some 43, _, _, _, _, _⟩) (v := ?_) rfl (by kernel_rfl) (by kernel_rfl) (by kernel_rfl) (fun _ _ _ h => h) (Or.inl ⟨by rfl, ?_⟩) (by assumption) ?_
              rotate_left 1
              · (intro w hSw; (try dsimp only at hSw); go_simp; all_goals with_reducible rfl)
              try simp only [Act.put, List.setIfInBounds_toArray, List.set_cons_zero, List.set_cons_succ]
              refine wpAnyH_take (i := 5) (oi := ⟨some 44, _, _, _, _, _⟩) (v := ?_) rfl (by kernel_rfl) (by kernel_rfl) (by kernel_rfl) (fun _ _ _ h => h) (Or.inl ⟨by rfl, ?_⟩) (by assumption) ?_
              rotate_left 1
              · (intro w hSw; (try dsimp only at hSw); go_simp; all_goals with_reducible rfl)
              try simp only [Act.put, List.setIfInBounds_toArray, List.set_cons_zero, List.set_cons_succ]
              refine wpAnyH_take (i := 6) (oi := ⟨some 45, _, _, _, _, _⟩) (v := ?_) rfl (by kernel_rfl) (by kernel_rfl) (by kernel_rfl) (fun _ _ _ h => h) (Or.inl ⟨by rfl, ?_⟩) (by assumption) ?_
              rotate_left 1
              · (intro w hSw; (try dsimp only at hSw); go_simp; all_goals with_reducible rfl)
              try simp only [Act.put, List.setIfInBounds_toArray, List.set_cons_zero, List.set_cons_succ]
              refine wpAnyH_take (i := 7) (oi := ⟨some 46, _, _, _, _, _⟩) (v := ?_) rfl (by kernel_rfl) (by kernel_rfl) (by kernel_rfl) (fun _ _ _ h => h) (Or.inl ⟨by rfl, ?_⟩) (by assumption) ?_
              rotate_left 1
              · (intro w hSw; (try dsimp only at hSw); go_simp; all_goals with_reducible rfl)
              try simp only [Act.put, List.setIfInBounds_toArray, List.set_cons_zero, List.set_cons_succ]
              refine wpAnyH_take (i := 8) (oi := ⟨some 47, _, _, _, _, _⟩) (v := ?_) rfl (by kernel_rfl) (by kernel_rfl) (by kernel_rfl) (fun _ _ _ h => h) (Or.inl ⟨by rfl, ?_⟩) (by assumption) ?_
              rotate_left 1
              · (intro w hSw; (try dsimp only at hSw); go_simp; all_goals with_reducible rfl)
              try simp only [Act.put, List.setIfInBounds_toArray, List.set_cons_zero, List.set_cons_succ]
              refine wpAnyH_take (i := 9) (oi := ⟨some 48, _, _, _, _, _⟩) (v := ?_) rfl (by kernel_rfl) (by kernel_rfl) (by kernel_rfl) (fun _ _ _ h => h) (Or.inl ⟨by rfl, ?_⟩) (by assumption) ?_
              rotate_left 1
              · (intro w hSw; (try dsimp only at hSw); go_simp; all_goals with_reducible rfl)
              try simp only [Act.put, List.setIfInBounds_toArray, List.set_cons_zero, List.set_cons_succ]
              refine wpAnyH_take (i := 10) (oi := ⟨some 49, _, _, _, _, _⟩) (v := ?_) rfl (by kernel_rfl) (by kernel_rfl) (by kernel_rfl) (fun _ _ _ h => h) (Or.inl ⟨by rfl, ?_⟩) (by assumption) ?_
              rotate_left 1
              · (intro w hSw; (try dsimp only at hSw); go_simp; all_goals with_reducible rfl)
              try simp only [Act.put, List.setIfInBounds_toArray, List.set_cons_zero, List.set_cons_succ]
              refine wpAnyH_take (i := 11) (oi := ⟨some 50, _, _, _, _, _⟩) (v := ?_) rfl (by kernel_rfl) (by kernel_rfl) (by kernel_rfl) (fun _ _ _ h => h) (Or.inl ⟨by rfl, ?_⟩) (by assumption) ?_
              rotate_left 1
              · (intro w hSw; (try dsimp only at hSw); go_simp; all_goals with_reducible rfl)
              try simp only [Act.put, List.setIfInBounds_toArray, List.set_cons_zero, List.set_cons_succ]
              refine wpAnyH_take (i := 12) (oi := ⟨some 51, _, _, _, _, _⟩) (v := ?_) rfl (by kernel_rfl) (by kernel_rfl) (by kernel_rfl) (fun _ _ _ h => h) (Or.inl ⟨by rfl, ?_⟩) (by assumption) ?_
              rotate_left 1
              · (intro w hSw; (try dsimp only at hSw); go_simp; all_goals with_reducible rfl)
              try simp only [Act.put, List.setIfInBounds_toArray, List.set_cons_zero, List.set_cons_succ]
              refine wpAnyH_take (i := 13) (oi := ⟨some 52, _, _, _, _, _⟩) (v := ?_) rfl (by kernel_rfl) (by kernel_rfl) (by kernel_rfl) (fun _ _ _ h => h) (Or.inl ⟨by rfl, ?_⟩) (by assumption) ?_
              rotate_left 1
              · (intro w hSw; (try dsimp only at hSw); go_simp; all_goals with_reducible rfl)
              try simp only [Act.put, List.setIfInBounds_toArray, List.set_cons_zero, List.set_cons_succ]
              refine wpAnyH_take (i := 14) (oi := ⟨some 53, _, _, _, _, _⟩) (v := ?_) rfl (by kernel_rfl) (by kernel_rfl) (by kernel_rfl) (fun _ _ _ h => h) (Or.inl ⟨by rfl, ?_⟩) (by assumption) ?_
              rotate_left 1
              · (intro w hSw; (try dsimp only at hSw); go_simp; all_goals with_reducible rfl)
              try simp only [Act.put, List.setIfInBounds_toArray, List.set_cons_zero, List.set_cons_succ]
              refine wpAnyH_take (i := 15) (oi := ⟨some 54, _, _, _, _, _⟩) (v := ?_) rfl (by kernel_rfl) (by kernel_rfl) (by kernel_rfl) (fun _ _ _ h => h) (Or.inl ⟨by rfl, ?_⟩) (by assumption) ?_
              rotate_left 1
              · (intro w hSw; (try dsimp only at hSw); go_simp; all_goals with_reducible rfl)
              try simp only [Act.put, List.setIfInBounds_toArray, List.set_cons_zero, List.set_cons_succ]
              refine wpAnyH_take (i := 16) (oi := ⟨some 55, _, _, _, _, _⟩) (v := ?_) rfl (by kernel_rfl) (by kernel_rfl) (by kernel_rfl) (fun _ _ _ h => h) (Or.inl ⟨by rfl, ?_⟩) (by assumption) ?_
              rotate_left 1
              · (intro w hSw; (try dsimp only at hSw); go_simp; all_goals with_reducible rfl)
              try simp only [Act.put, List.setIfInBounds_toArray, List.set_cons_zero, List.set_cons_succ]
              refine wpAnyH_take (i := 17) (oi := ⟨some 56, _, _, _, _, _⟩) (v := ?_) rfl (by kernel_rfl) (by kernel_rfl) (by kernel_rfl) (fun _ _ _ h => h) (Or.inl ⟨by rfl, ?_⟩) (by assumption) ?_
              rotate_left 1
              · (intro w hSw; (try dsimp only at hSw); go_simp; all_goals with_reducible rfl)
              try simp only [Act.put, List.setIfInBounds_toArray, List.set_cons_zero, List.set_cons_succ]
              refine wpAnyH_take (i := 18) (oi := ⟨some 57, _, _, _, _, _⟩) (v := ?_) rfl (by kernel_rfl) (by kernel_rfl) (by kernel_rfl) (fun _ _ _ h => h) (Or.inl ⟨by rfl, ?_⟩) (by assumption) ?_
              rotate_left 1
              · (intro w hSw; (try dsimp only at hSw); go_simp; all_goals with_reducible rfl)
              try simp only [Act.put, List.setIfInBounds_toArray, List.set_cons_zero, List.set_cons_succ]
              refine wpAnyH_take (i := 19) (oi := ⟨some 58, _, _, _, _, _⟩) (v := undef) rfl (by kernel_rfl) (by kernel_rfl) (by kernel_rfl) (fun _ _ _ h => h) (Or.inr ⟨by rfl, rfl⟩) (by assumption) ?_
              try simp only [Act.put, List.setIfInBounds_toArray, List.set_cons_zero, List.set_cons_succ]
              refine wpAnyH_take (i := 20) (oi := ⟨some 59, _, _, _, _, _⟩) (v := undef) rfl (by kernel_rfl) (by kernel_rfl) (by kernel_rfl) (fun _ _ _ h => h) (Or.inr ⟨by rfl, rfl⟩) (by assumption) ?_
              try simp only [Act.put, List.setIfInBounds_toArray, List.set_cons_zero, List.set_cons_succ]
              refine wpAnyH_take (i := 21) (oi := ⟨some 60, _, _, _, _, _⟩) (v := undef) rfl (by kernel_rfl) (by kernel_rfl) (by kernel_rfl) (fun _ _ _ h => h) (Or.inr ⟨by rfl, rfl⟩) (by assumption) ?_
              try simp only [Act.put, List.setIfInBounds_toArray, List.set_cons_zero, List.set_cons_succ]
              refine wpAnyH_take (i := 22) (oi := ⟨some 61, _, _, _, _, _⟩) (v := undef) rfl (by kernel_rfl) (by kernel_rfl) (by kernel_rfl) (fun _ _ _ h => h) (Or.inr ⟨by rfl, rfl⟩) (by assumption) ?_
              try simp only [Act.put, List.setIfInBounds_toArray, List.set_cons_zero, List.set_cons_succ]
              refine wpAnyH_take (i := 23) (oi := ⟨some 62, _, _, _, _, _⟩) (v := undef) rfl (by kernel_rfl) (by kernel_rfl) (by kernel_rfl) (fun _ _ _ h => h) (Or.inr ⟨by rfl, rfl⟩) (by assumption) ?_
              try simp only [Act.put, List.setIfInBounds_toArray, List.set_cons_zero, List.set_cons_succ]
              refine wpAnyH_take (i := 24) (oi := ⟨some 63, _, _, _, _, _⟩) (v := undef) rfl (by kernel_rfl) (by kernel_rfl) (by kernel_rfl) (fun _ _ _ h => h) (Or.inr ⟨by rfl, rfl⟩) (by assumption) ?_
              try simp only [Act.put, List.setIfInBounds_toArray, List.set_cons_zero, List.set_cons_succ]
              refine wpAnyH_take (i := 25) (oi := ⟨some 64, _, _, _, _, _⟩) (v := undef) rfl (by kernel_rfl) (by kernel_rfl) (by kernel_rfl) (fun _ _ _ h => h) (Or.inr ⟨by rfl, rfl⟩) (by assumption) ?_
              try simp only [Act.put, List.setIfInBounds_toArray, List.set_cons_zero, List.set_cons_succ]
              refine wpAnyH_take (i := 26) (oi := ⟨some 65, _, _, _, _, _⟩) (v := undef) rfl (by kernel_rfl) (by kernel_rfl) (by kernel_rfl) (fun _ _ _ h => h) (Or.inr ⟨by rfl, rfl⟩) (by assumption) ?_
              try simp only [Act.put, List.setIfInBounds_toArray, List.set_cons_zero, List.set_cons_succ]
              refine wpAnyH_take (i := 27) (oi := ⟨some 66, _, _, _, _, _⟩) (v := undef) rfl (by kernel_rfl) (by kernel_rfl) (by kernel_rfl) (fun _ _ _ h => h) (Or.inr ⟨by rfl, rfl⟩) (by assumption) ?_
              try simp only [Act.put, List.setIfInBounds_toArray, List.set_cons_zero, List.set_cons_succ]
              refine wpAnyH_take (i := 28) (oi := ⟨some 67, _, _, _, _, _⟩) (v := undef) rfl (by kernel_rfl) (by kernel_rfl) (by kernel_rfl) (fun _ _ _ h => h) (Or.inr ⟨by rfl, rfl⟩) (by assumption) ?_
              try simp only [Act.put, List.setIfInBounds_toArray, List.set_cons_zero, List.set_cons_succ]
              refine wpAnyH_take (i := 29) (oi := ⟨some 68, _, _, _, _, _⟩) (v := undef) rfl (by kernel_rfl) (by kernel_rfl) (by kernel_rfl) (fun _ _ _ h => h) (Or.inr ⟨by rfl, rfl⟩) (by assumption) ?_
              try simp only [Act.put, List.setIfInBounds_toArray, List.set_cons_zero, List.set_cons_succ]
              refine wpAnyH_take (i := 30) (oi := ⟨some 69, _, _, _, _, _⟩) (v := undef) rfl (by kernel_rfl) (by kernel_rfl) (by kernel_rfl) (fun _ _ _ h => h) (Or.inr ⟨by rfl, rfl⟩) (by assumption) ?_
              try simp only [Act.put, List.setIfInBounds_toArray, List.set_cons_zero, List.set_cons_succ]
              refine wpAnyH_take (i := 31) (oi := ⟨some 70, _, _, _, _, _⟩) (v := undef) rfl (by kernel_rfl) (by kernel_rfl) (by kernel_rfl) (fun _ _ _ h => h) (Or.inr ⟨by rfl, rfl⟩) (by assumption) ?_
              try simp only [Act.put, List.setIfInBounds_toArray, List.set_cons_zero, List.set_cons_succ]
              refine wpAnyH_take (i := 32) (oi := ⟨some 71, _, _, _, _, _⟩) (v := undef) rfl (by kernel_rfl) (by kernel_rfl) (by kernel_rfl) (fun _ _ _ h => h) (Or.inr ⟨by rfl, rfl⟩) (by assumption) ?_
              try simp only [Act.put, List.setIfInBounds_toArray, List.set_cons_zero, List.set_cons_succ]
              refine wpAnyH_take (i := 33) (oi := ⟨some 72, _, _, _, _, _⟩) (v := undef) rfl (by kernel_rfl) (by kernel_rfl) (by kernel_rfl) (fun _ _ _ h => h) (Or.inr ⟨by rfl, rfl⟩) (by assumption) ?_
              try simp only [Act.put, List.setIfInBounds_toArray, List.set_cons_zero, List.set_cons_succ]
              refine wpAnyH_take (i := 34) (oi := ⟨some 73, _, _, _, _, _⟩) (v := undef) rfl (by kernel_rfl) (by kernel_rfl) (by kernel_rfl) (fun _ _ _ h => h) (Or.inr ⟨by rfl, rfl⟩) (by assumption) ?_
              try simp only [Act.put, List.setIfInBounds_toArray, List.set_cons_zero, List.set_cons_succ]
              refine wpAnyH_take (i := 35) (oi := ⟨some 74, _, _, _, _, _⟩) (v := undef) rfl (by kernel_rfl) (by kernel_rfl) (by kernel_rfl) (fun _ _ _ h => h) (Or.inr ⟨by rfl, rfl⟩) (by assumption) ?_
              try simp only [Act.put, List.setIfInBounds_toArray, List.set_cons_zero, List.set_cons_succ]
              refine wpAnyH_take (i := 36) (oi := ⟨some 75, _, _, _, _, _⟩) (v := undef) rfl (by kernel_rfl) (by kernel_rfl) (by kernel_rfl) (fun _ _ _ h => h) (Or.inr ⟨by rfl, rfl⟩) (by assumption) ?_
              try simp only [Act.put, List.setIfInBounds_toArray, List.set_cons_zero, List.set_cons_succ]
              refine wpAnyH_take (i := 37) (oi := ⟨some 76, _, _, _, _, _⟩) (v := undef) rfl (by kernel_rfl) (by kernel_rfl) (by kernel_rfl) (fun _ _ _ h => h) (Or.inr ⟨by rfl, rfl⟩) (by assumption) ?_
              try simp only [Act.put, List.setIfInBounds_toArray, List.set_cons_zero, List.set_cons_succ]
              refine wpAnyH_take (i := 38) (oi := ⟨some 77, _, _, _, _, _⟩) (v := ?_) rfl (by kernel_rfl) (by kernel_rfl) (by kernel_rfl) (fun _ _ _ h => h) (Or.inl ⟨by rfl, ?_⟩) (by assumption) ?_
              rotate_left 1
              · (intro w hSw; (try dsimp only at hSw); go_simp; all_goals with_reducible rfl)
              try simp only [Act.put, List.setIfInBounds_toArray, List.set_cons_zero, List.set_cons_succ]
              refine wpAnyH_done (by kernel_rfl) ?_ _
              clear z0 z2
              have SB : Hid (StQ _ qb B y4) := Lib.hid (S6.out.keep hHeld (by simp) (by simp))
              have WB : Hid (LnOwn _ w.heap.size 56 [qb] a' c' out) := Lib.hid (W6.out.keep hHeld (by simp) (fun x hx => .inl hx))
              have FB : Hid (Frm [qb] w _) := Lib.hid (F6.out.trans hHeld (fun x hx => hx) (by simp))
              have BB := Lib.hid (hHeld.whole BV6.out (by simp))
              have CF := Lib.hid (stq_fail 23 23 rfl SB.out (by decide))
              go_wp2_with fail
              (with_reducible refine CF.out.mono ?_)
              rintro e w7 ⟨rfl, hs7, hf7⟩
              have AT := Lib.hid (LnsAt.bad (out' := out ++ [⟨nm, d, d, al, ae⟩]) RB.out.1 LR.out BT.out)
              obtain ⟨yF, hyF⟩ : ∃ yF, yF = nxF 23 y4 := ⟨_, rfl⟩
              rw [← hyF] at hs7 AT
              have S7 := Lib.hid hs7
              have W7 : Hid (LnOwn w7 w.heap.size 56 [qb] a' c' out) := Lib.hid (WB.out.keep hf7 (fun x hx => .inl hx) (fun x hx => .inl hx))
              have F7 : Hid (Frm [qb] w w7) := Lib.hid (FB.out.trans hf7 (fun x hx => hx) (fun x hx => .inl hx))
              have B7 := Lib.hid (hf7.whole BB.out (by have := YW.out; simp; omega))
              clear hs7 hf7 hyF SB WB FB BB CF
              have x0 := B7.out.cell 0
              have x1 := B7.out.cell 1
              have x2 := B7.out.cell 2
              have x3 := B7.out.cell 3
              have x4 := B7.out.cell 4
              simp only [List.getElem?_toArray, List.getElem?_cons_zero, List.getElem?_cons_succ] at x0 x1 x2 x3 x4
              have OWN : Hid ((w7.alloc (.cells #[.string nm, .int .u64 (d : Nat), .int .u64 (d : Nat), .int .u64 (al : Nat), .int .u64 (ae : Nat)] 56)).ownsRow w.heap.size 56 5 (.slice a' i c') i (lnc out)) := Lib.hid (by
                have := (W7.out.keep (S := []) (F' := []) ((Frm.refl [] w7).alloc (.cells #[.string nm, .int .u64 (d : Nat), .int .u64 (d : Nat), .int .u64 (al : Nat), .int .u64 (ae : Nat)] 56)) (by simp) (by simp)).own
                rwa [← HL.out] at this)
              have ONE : Hid (ValsAt (w7.alloc (.cells #[.string nm, .int .u64 (d : Nat), .int .u64 (d : Nat), .int .u64 (al : Nat), .int .u64 (ae : Nat)] 56)) (some ⟨w7.heap.size, 0, none⟩) (lnc [⟨nm, d, d, al, ae⟩])) := Lib.hid (lncvals_one w7 ⟨nm, d, d, al, ae⟩ 56)
              have hbz : w.heap.size ≤ (w7.alloc (.cells #[.string nm, .int .u64 (d : Nat), .int .u64 (d : Nat), .int .u64 (al : Nat), .int .u64 (ae : Nat)] 56)).heap.size := by have := F7.out.size; simp; omega
              have hfit1 : i + 1 ≤ 1000000000 := by omega
              go_wp2_with (at_builtin; refine stop_intro ?_)
              unfold Stopped
              refine wpList_appS (by rfl) (.tmp 80) (.tmp 82) 39 rfl w.heap.size 56 i0 (.agg #[.string ⟨#[]⟩, .int .u64 0, .int .u64 0, .int .u64 0, .int .u64 0]) 5 48 Tryd.underlying39 HI.out HZ0.out rfl (by decide) HZ1.out HZ2.out (by decide) (.slice a' i c') i _ rfl OWN.out _ 1 1 _ rfl ONE.out rfl (lnc_one _) (fun h => by cases h) hfit1 hbz ?_
              intro a3 c3 w8 happ
              have AL := (Frm.refl [] w7).alloc (.cells #[.string nm, .int .u64 (d : Nat), .int .u64 (d : Nat), .int .u64 (al : Nat), .int .u64 (ae : Nat)] 56)
              have QW8 : ∀ x ∈ [qb], x < w.heap.size := fun x hx => by have := HO.out; simp at hx; omega
              obtain ⟨g1, g2, g3, g4⟩ := (W7.out.keep (S := []) (F' := [qb]) AL (by simp) (fun x hx => .inl hx)).app (Y := [⟨nm, d, d, al, ae⟩]) HL.out (by intro z hz; simp at hz; subst hz; exact ⟨D64.out, D64.out, A64.out, E64.out⟩) (m := 1) rfl (fun x hx => by have h1 := QW8 x hx; have h2 := F7.out.size; simp; omega) happ
              have W8 : Hid (LnOwn w8 w.heap.size 56 [qb] a3 c3 (out ++ [⟨nm, d, d, al, ae⟩])) := Lib.hid g1
              have L8 : Hid (i + 1 = (out ++ [(⟨nm, d, d, al, ae⟩ : Ln)]).length) := Lib.hid g4
              have S8 : Hid (StQ w8 qb B yF) := Lib.hid ((S7.out.keep AL (by simp) (by simp)).keep g2 (fun hm => by have := (W7.out.blk_lt _ hm).1; have := HO.out; omega) (fun x hx => by have := (W7.out.blk_lt x hx).1; have := HO.out; omega))
              have F8 : Hid (Frm [qb] w w8) := Lib.hid ((F7.out.trans AL (U := [qb]) (fun x hx => hx) (by simp)).trans g2 (fun x hx => hx) (fun x hx => .inr (W7.out.blk_lt x hx).1))
              have AT8 : Hid (LnsAt V (n - (i + 1)) (out ++ [⟨nm, d, d, al, ae⟩]) yF R) := Lib.hid (by rw [show n - (i + 1) = n - i - 1 by omega]; exact AT.out)
              clear happ g1 g2 g3 g4 AL hbz OWN ONE x0 x1 x2 x3 x4
              go_wp2
              go_roundw
              case rel => exact ⟨i + 1, a3, c3, _, yF, by omega, by rfl, by go_num, L8, W8, S8, F8, AT8⟩
              case measure => simp [intOf]; omega
            · have k4 : ((i : Int) == 16) = false := by simp; omega
              by_cases c5 : 0 < i
              · have k5 : (0 : Int) < (i : Int) := by omega
                obtain ⟨b, off, rfl, q0⟩ := OUTL.out c5
                obtain ⟨j, hj⟩ : ∃ j, j = i - 1 := ⟨_, rfl⟩
                rw [← hj] at q0
                have s2 : (i : Int) - 1 = (j : Int) := by omega
                have s3 : (j : Int) < (i : Int) := by omega
                have s3n : j < i := by omega
                have wj : IntKind.i64.wrap (j : Int) = (j : Int) := by simp [IntKind.wrap, IntKind.bits, IntKind.signed]; omega
                have BD : Hid (badL out ⟨nm, d, d, al, ae⟩ = !kl (out.getD j default).nm nm) := Lib.hid (by
                  have h1 := S1'.out
                  unfold badL
                  rw [← HL.out, ← hj]
                  simp [h1, c2, c3, c4, c5])
                obtain ⟨ln, hln⟩ : ∃ ln, ln = (out.getD j default).nm := ⟨_, rfl⟩
                rw [← hln] at q0 BD
                have HJ := Lib.hid hj; have HLN := Lib.hid hln
                clear hj hln
                cases c6 : kl ln nm
                · have BT : Hid (badL out ⟨nm, d, d, al, ae⟩ = true) := Lib.hid (by rw [BD.out, c6]; rfl)
                  have k6 : Op.bytesLess ln.toList nm.toList = false := c6
                  clear c6
                  refine wp_region_held_drew (S := fun w' => Frm [] V6 w') (by kernel_rfl) (Frm.drew (Frm.refl _ _)) (fun hHeld => ?_)
                  refine wpAnyH_take (i := 0) (oi := ⟨some 39, _, _, _, _, _⟩) (v := ?_) rfl (by kernel_rfl) (by kernel_rfl) (by kernel_rfl) (fun _ _ _ h => h) (Or.inl ⟨by rfl, ?_⟩) (by assumption) ?_
                  rotate_left 1
                  · (intro w hSw; (try dsimp only at hSw); go_simp; all_goals with_reducible rfl)
                  try simp only [Act.put, List.setIfInBounds_toArray, List.set_cons_zero, List.set_cons_succ]
                  refine wpAnyH_take (i := 1) (oi := ⟨some 40, _, _, _, _, _⟩) (v := ?_) rfl (by kernel_rfl) (by kernel_rfl) (by kernel_rfl) (fun _ _ _ h => h) (Or.inl ⟨by rfl, ?_⟩) (by assumption) ?_
                  rotate_left 1
                  · (intro w hSw; (try dsimp only at hSw); go_simp; all_goals with_reducible rfl)
                  try simp only [Act.put, List.setIfInBounds_toArray, List.set_cons_zero, List.set_cons_succ]
                  refine wpAnyH_take (i := 2) (oi := ⟨some 41, _, _, _, _, _⟩) (v := ?_) rfl (by kernel_rfl) (by kernel_rfl) (by kernel_rfl) (fun _ _ _ h => h) (Or.inl ⟨by rfl, ?_⟩) (by assumption) ?_
                  rotate_left 1
                  · (intro w hSw; (try dsimp only at hSw); go_simp; all_goals with_reducible rfl)
                  try simp only [Act.put, List.setIfInBounds_toArray, List.set_cons_zero, List.set_cons_succ]
                  refine wpAnyH_take (i := 3) (oi := ⟨some 42, _, _, _, _, _⟩) (v := ?_) rfl (by kernel_rfl) (by kernel_rfl) (by kernel_rfl) (fun _ _ _ h => h) (Or.inl ⟨by rfl, ?_⟩) (by assumption) ?_
                  rotate_left 1
                  · (intro w hSw; (try dsimp only at hSw); go_simp; all_goals with_reducible rfl)
                  try simp only [Act.put, List.setIfInBounds_toArray, List.set_cons_zero, List.set_cons_succ]
                  refine wpAnyH_take (i := 4) (oi := ⟨some 43, _, _, _, _, _⟩) (v := ?_) rfl (by kernel_rfl) (by kernel_rfl) (by kernel_rfl) (fun _ _ _ h => h) (Or.inl ⟨by rfl, ?_⟩) (by assumption) ?_
                  rotate_left 1
                  · (intro w hSw; (try dsimp only at hSw); go_simp; all_goals with_reducible rfl)
                  try simp only [Act.put, List.setIfInBounds_toArray, List.set_cons_zero, List.set_cons_succ]
                  refine wpAnyH_take (i := 5) (oi := ⟨some 44, _, _, _, _, _⟩) (v := ?_) rfl (by kernel_rfl) (by kernel_rfl) (by kernel_rfl) (fun _ _ _ h => h) (Or.inl ⟨by rfl, ?_⟩) (by assumption) ?_
                  rotate_left 1
                  · (intro w hSw; (try dsimp only at hSw); go_simp; all_goals with_reducible rfl)
                  try simp only [Act.put, List.setIfInBounds_toArray, List.set_cons_zero, List.set_cons_succ]
                  refine wpAnyH_take (i := 6) (oi := ⟨some 45, _, _, _, _, _⟩) (v := ?_) rfl (by kernel_rfl) (by kernel_rfl) (by kernel_rfl) (fun _ _ _ h => h) (Or.inl ⟨by rfl, ?_⟩) (by assumption) ?_
                  rotate_left 1
                  · (intro w hSw; (try dsimp only at hSw); go_simp; all_goals with_reducible rfl)
                  try simp only [Act.put, List.setIfInBounds_toArray, List.set_cons_zero, List.set_cons_succ]
                  refine wpAnyH_take (i := 7) (oi := ⟨some 46, _, _, _, _, _⟩) (v := ?_) rfl (by kernel_rfl) (by kernel_rfl) (by kernel_rfl) (fun _ _ _ h => h) (Or.inl ⟨by rfl, ?_⟩) (by assumption) ?_
                  rotate_left 1
                  · (intro w hSw; (try dsimp only at hSw); go_simp; all_goals with_reducible rfl)
                  try simp only [Act.put, List.setIfInBounds_toArray, List.set_cons_zero, List.set_cons_succ]
                  refine wpAnyH_take (i := 8) (oi := ⟨some 47, _, _, _, _, _⟩) (v := ?_) rfl (by kernel_rfl) (by kernel_rfl) (by kernel_rfl) (fun _ _ _ h => h) (Or.inl ⟨by rfl, ?_⟩) (by assumption) ?_
                  rotate_left 1
                  · (intro w hSw; (try dsimp only at hSw); go_simp; all_goals with_reducible rfl)
                  try simp only [Act.put, List.setIfInBounds_toArray, List.set_cons_zero, List.set_cons_succ]
                  refine wpAnyH_take (i := 9) (oi := ⟨some 48, _, _, _, _, _⟩) (v := ?_) rfl (by kernel_rfl) (by kernel_rfl) (by kernel_rfl) (fun _ _ _ h => h) (Or.inl ⟨by rfl, ?_⟩) (by assumption) ?_
                  rotate_left 1
                  · (intro w hSw; (try dsimp only at hSw); go_simp; all_goals with_reducible rfl)
                  try simp only [Act.put, List.setIfInBounds_toArray, List.set_cons_zero, List.set_cons_succ]
                  refine wpAnyH_take (i := 10) (oi := ⟨some 49, _, _, _, _, _⟩) (v := ?_) rfl (by kernel_rfl) (by kernel_rfl) (by kernel_rfl) (fun _ _ _ h => h) (Or.inl ⟨by rfl, ?_⟩) (by assumption) ?_
                  rotate_left 1
                  · (intro w hSw; (try dsimp only at hSw); go_simp; all_goals with_reducible rfl)
                  try simp only [Act.put, List.setIfInBounds_toArray, List.set_cons_zero, List.set_cons_succ]
                  refine wpAnyH_take (i := 11) (oi := ⟨some 50, _, _, _, _, _⟩) (v := ?_) rfl (by kernel_rfl) (by kernel_rfl) (by kernel_rfl) (fun _ _ _ h => h) (Or.inl ⟨by rfl, ?_⟩) (by assumption) ?_
                  rotate_left 1
                  · (intro w hSw; (try dsimp only at hSw); go_simp; all_goals with_reducible rfl)
                  try simp only [Act.put, List.setIfInBounds_toArray, List.set_cons_zero, List.set_cons_succ]
                  refine wpAnyH_take (i := 12) (oi := ⟨some 51, _, _, _, _, _⟩) (v := ?_) rfl (by kernel_rfl) (by kernel_rfl) (by kernel_rfl) (fun _ _ _ h => h) (Or.inl ⟨by rfl, ?_⟩) (by assumption) ?_
                  rotate_left 1
                  · (intro w hSw; (try dsimp only at hSw); go_simp; all_goals with_reducible rfl)
                  try simp only [Act.put, List.setIfInBounds_toArray, List.set_cons_zero, List.set_cons_succ]
                  refine wpAnyH_take (i := 13) (oi := ⟨some 52, _, _, _, _, _⟩) (v := ?_) rfl (by kernel_rfl) (by kernel_rfl) (by kernel_rfl) (fun _ _ _ h => h) (Or.inl ⟨by rfl, ?_⟩) (by assumption) ?_
                  rotate_left 1
                  · (intro w hSw; (try dsimp only at hSw); go_simp; all_goals with_reducible rfl)
                  try simp only [Act.put, List.setIfInBounds_toArray, List.set_cons_zero, List.set_cons_succ]
                  refine wpAnyH_take (i := 14) (oi := ⟨some 53, _, _, _, _, _⟩) (v := ?_) rfl (by kernel_rfl) (by kernel_rfl) (by kernel_rfl) (fun _ _ _ h => h) (Or.inl ⟨by rfl, ?_⟩) (by assumption) ?_
                  rotate_left 1
                  · (intro w hSw; (try dsimp only at hSw); go_simp; all_goals with_reducible rfl)
                  try simp only [Act.put, List.setIfInBounds_toArray, List.set_cons_zero, List.set_cons_succ]
                  refine wpAnyH_take (i := 15) (oi := ⟨some 54, _, _, _, _, _⟩) (v := ?_) rfl (by kernel_rfl) (by kernel_rfl) (by kernel_rfl) (fun _ _ _ h => h) (Or.inl ⟨by rfl, ?_⟩) (by assumption) ?_
                  rotate_left 1
                  · (intro w hSw; (try dsimp only at hSw); go_simp; all_goals with_reducible rfl)
                  try simp only [Act.put, List.setIfInBounds_toArray, List.set_cons_zero, List.set_cons_succ]
                  refine wpAnyH_take (i := 16) (oi := ⟨some 55, _, _, _, _, _⟩) (v := ?_) rfl (by kernel_rfl) (by kernel_rfl) (by kernel_rfl) (fun _ _ _ h => h) (Or.inl ⟨by rfl, ?_⟩) (by assumption) ?_
                  rotate_left 1
                  · (intro w hSw; (try dsimp only at hSw); go_simp; all_goals with_reducible rfl)
                  try simp only [Act.put, List.setIfInBounds_toArray, List.set_cons_zero, List.set_cons_succ]
                  refine wpAnyH_take (i := 17) (oi := ⟨some 56, _, _, _, _, _⟩) (v := ?_) rfl (by kernel_rfl) (by kernel_rfl) (by kernel_rfl) (fun _ _ _ h => h) (Or.inl ⟨by rfl, ?_⟩) (by assumption) ?_
                  rotate_left 1
                  · (intro w hSw; (try dsimp only at hSw); go_simp; all_goals with_reducible rfl)
                  try simp only [Act.put, List.setIfInBounds_toArray, List.set_cons_zero, List.set_cons_succ]
                  refine wpAnyH_take (i := 18) (oi := ⟨some 57, _, _, _, _, _⟩) (v := ?_) rfl (by kernel_rfl) (by kernel_rfl) (by kernel_rfl) (fun _ _ _ h => h) (Or.inl ⟨by rfl, ?_⟩) (by assumption) ?_
                  rotate_left 1
                  · (intro w hSw; (try dsimp only at hSw); go_simp; all_goals with_reducible rfl)
                  try simp only [Act.put, List.setIfInBounds_toArray, List.set_cons_zero, List.set_cons_succ]
                  refine wpAnyH_take (i := 19) (oi := ⟨some 58, _, _, _, _, _⟩) (v := ?_) rfl (by kernel_rfl) (by kernel_rfl) (by kernel_rfl) (fun _ _ _ h => h) (Or.inl ⟨by rfl, ?_⟩) (by assumption) ?_
                  rotate_left 1
                  · (intro w hSw; (try dsimp only at hSw); go_simp; all_goals with_reducible rfl)
                  try simp only [Act.put, List.setIfInBounds_toArray, List.set_cons_zero, List.set_cons_succ]
                  refine wpAnyH_take (i := 20) (oi := ⟨some 59, _, _, _, _, _⟩) (v := ?_) rfl (by kernel_rfl) (by kernel_rfl) (by kernel_rfl) (fun _ _ _ h => h) (Or.inl ⟨by rfl, ?_⟩) (by assumption) ?_
                  rotate_left 1
                  · (intro w hSw; (try dsimp only at hSw); go_simp; all_goals with_reducible rfl)
                  try simp only [Act.put, List.setIfInBounds_toArray, List.set_cons_zero, List.set_cons_succ]
                  refine wpAnyH_take (i := 21) (oi := ⟨some 60, _, _, _, _, _⟩) (v := ?_) rfl (by kernel_rfl) (by kernel_rfl) (by kernel_rfl) (fun _ _ _ h => h) (Or.inl ⟨by rfl, ?_⟩) (by assumption) ?_
                  rotate_left 1
                  · (intro w hSw; (try dsimp only at hSw); go_simp; all_goals with_reducible rfl)
                  try simp only [Act.put, List.setIfInBounds_toArray, List.set_cons_zero, List.set_cons_succ]
                  refine wpAnyH_take (i := 22) (oi := ⟨some 61, _, _, _, _, _⟩) (v := ?_) rfl (by kernel_rfl) (by kernel_rfl) (by kernel_rfl) (fun _ _ _ h => h) (Or.inl ⟨by rfl, ?_⟩) (by assumption) ?_
                  rotate_left 1
                  · (intro w hSw; (try dsimp only at hSw); go_simp; all_goals with_reducible rfl)
                  try simp only [Act.put, List.setIfInBounds_toArray, List.set_cons_zero, List.set_cons_succ]
                  refine wpAnyH_take (i := 23) (oi := ⟨some 62, _, _, _, _, _⟩) (v := ?_) rfl (by kernel_rfl) (by kernel_rfl) (by kernel_rfl) (fun _ _ _ h => h) (Or.inl ⟨by rfl, ?_⟩) (by assumption) ?_
                  rotate_left 1
                  · (intro w hSw; (try dsimp only at hSw); go_simp; all_goals with_reducible rfl)
                  try simp only [Act.put, List.setIfInBounds_toArray, List.set_cons_zero, List.set_cons_succ]
                  refine wpAnyH_take (i := 24) (oi := ⟨some 63, _, _, _, _, _⟩) (v := ?_) rfl (by kernel_rfl) (by kernel_rfl) (by kernel_rfl) (fun _ _ _ h => h) (Or.inl ⟨by rfl, ?_⟩) (by assumption) ?_
                  rotate_left 1
                  · (intro w hSw; (try dsimp only at hSw); go_simp; all_goals with_reducible rfl)
                  try simp only [Act.put, List.setIfInBounds_toArray, List.set_cons_zero, List.set_cons_succ]
                  refine wpAnyH_take (i := 25) (oi := ⟨some 64, _, _, _, _, _⟩) (v := ?_) rfl (by kernel_rfl) (by kernel_rfl) (by kernel_rfl) (fun _ _ _ h => h) (Or.inl ⟨by rfl, ?_⟩) (by assumption) ?_
                  rotate_left 1
                  · (intro w hSw; (try dsimp only at hSw); go_simp; all_goals with_reducible rfl)
                  try simp only [Act.put, List.setIfInBounds_toArray, List.set_cons_zero, List.set_cons_succ]
                  refine wpAnyH_take (i := 26) (oi := ⟨some 65, _, _, _, _, _⟩) (v := ?_) rfl (by kernel_rfl) (by kernel_rfl) (by kernel_rfl) (fun _ _ _ h => h) (Or.inl ⟨by rfl, ?_⟩) (by assumption) ?_
                  rotate_left 1
                  · (intro w hSw; (try dsimp only at hSw); go_simp; all_goals with_reducible rfl)
                  try simp only [Act.put, List.setIfInBounds_toArray, List.set_cons_zero, List.set_cons_succ]
                  refine wpAnyH_take (i := 27) (oi := ⟨some 66, _, _, _, _, _⟩) (v := ?_) rfl (by kernel_rfl) (by kernel_rfl) (by kernel_rfl) (fun _ _ _ h => h) (Or.inl ⟨by rfl, ?_⟩) (by assumption) ?_
                  rotate_left 1
                  · (intro w hSw; (try dsimp only at hSw); go_simp; all_goals with_reducible rfl)
                  try simp only [Act.put, List.setIfInBounds_toArray, List.set_cons_zero, List.set_cons_succ]
                  refine wpAnyH_take (i := 28) (oi := ⟨some 67, _, _, _, _, _⟩) (v := ?_) rfl (by kernel_rfl) (by kernel_rfl) (by kernel_rfl) (fun _ _ _ h => h) (Or.inl ⟨by rfl, ?_⟩) (by assumption) ?_
                  rotate_left 1
                  · (intro w hSw; (try dsimp only at hSw); go_simp; all_goals with_reducible rfl)
                  try simp only [Act.put, List.setIfInBounds_toArray, List.set_cons_zero, List.set_cons_succ]
                  refine wpAnyH_take (i := 29) (oi := ⟨some 68, _, _, _, _, _⟩) (v := ?_) rfl (by kernel_rfl) (by kernel_rfl) (by kernel_rfl) (fun _ _ _ h => h) (Or.inl ⟨by rfl, ?_⟩) (by assumption) ?_
                  rotate_left 1
                  · (intro w hSw; (try dsimp only at hSw); go_simp; all_goals with_reducible rfl)
                  try simp only [Act.put, List.setIfInBounds_toArray, List.set_cons_zero, List.set_cons_succ]
                  refine wpAnyH_take (i := 30) (oi := ⟨some 69, _, _, _, _, _⟩) (v := ?_) rfl (by kernel_rfl) (by kernel_rfl) (by kernel_rfl) (fun _ _ _ h => h) (Or.inl ⟨by rfl, ?_⟩) (by assumption) ?_
                  rotate_left 1
                  · (intro w hSw; (try dsimp only at hSw); go_simp; all_goals with_reducible rfl)
                  try simp only [Act.put, List.setIfInBounds_toArray, List.set_cons_zero, List.set_cons_succ]
                  refine wpAnyH_take (i := 31) (oi := ⟨some 70, _, _, _, _, _⟩) (v := ?_) rfl (by kernel_rfl) (by kernel_rfl) (by kernel_rfl) (fun _ _ _ h => h) (Or.inl ⟨by rfl, ?_⟩) (by assumption) ?_
                  rotate_left 1
                  · (intro w hSw; (try dsimp only at hSw); go_simp; all_goals with_reducible rfl)
                  try simp only [Act.put, List.setIfInBounds_toArray, List.set_cons_zero, List.set_cons_succ]
                  refine wpAnyH_take (i := 32) (oi := ⟨some 71, _, _, _, _, _⟩) (v := ?_) rfl (by kernel_rfl) (by kernel_rfl) (by kernel_rfl) (fun _ _ _ h => h) (Or.inl ⟨by rfl, ?_⟩) (by assumption) ?_
                  rotate_left 1
                  · (intro w hSw; (try dsimp only at hSw); go_simp; all_goals with_reducible rfl)
                  try simp only [Act.put, List.setIfInBounds_toArray, List.set_cons_zero, List.set_cons_succ]
                  refine wpAnyH_take (i := 33) (oi := ⟨some 72, _, _, _, _, _⟩) (v := ?_) rfl (by kernel_rfl) (by kernel_rfl) (by kernel_rfl) (fun _ _ _ h => h) (Or.inl ⟨by rfl, ?_⟩) (by assumption) ?_
                  rotate_left 1
                  · (intro w hSw; (try dsimp only at hSw); go_simp; all_goals with_reducible rfl)
                  try simp only [Act.put, List.setIfInBounds_toArray, List.set_cons_zero, List.set_cons_succ]
                  refine wpAnyH_take (i := 34) (oi := ⟨some 73, _, _, _, _, _⟩) (v := ?_) rfl (by kernel_rfl) (by kernel_rfl) (by kernel_rfl) (fun _ _ _ h => h) (Or.inl ⟨by rfl, ?_⟩) (by assumption) ?_
                  rotate_left 1
                  · (intro w hSw; (try dsimp only at hSw); go_simp; all_goals with_reducible rfl)
                  try simp only [Act.put, List.setIfInBounds_toArray, List.set_cons_zero, List.set_cons_succ]
                  refine wpAnyH_take (i := 35) (oi := ⟨some 74, _, _, _, _, _⟩) (v := ?_) rfl (by kernel_rfl) (by kernel_rfl) (by kernel_rfl) (fun _ _ _ h => h) (Or.inl ⟨by rfl, ?_⟩) (by assumption) ?_
                  rotate_left 1
                  · (intro w hSw; (try dsimp only at hSw); go_simp; all_goals with_reducible rfl)
                  try simp only [Act.put, List.setIfInBounds_toArray, List.set_cons_zero, List.set_cons_succ]
                  refine wpAnyH_take (i := 36) (oi := ⟨some 75, _, _, _, _, _⟩) (v := ?_) rfl (by kernel_rfl) (by kernel_rfl) (by kernel_rfl) (fun _ _ _ h => h) (Or.inl ⟨by rfl, ?_⟩) (by assumption) ?_
                  rotate_left 1
                  · (intro w hSw; (try dsimp only at hSw); go_simp; all_goals with_reducible rfl)
                  try simp only [Act.put, List.setIfInBounds_toArray, List.set_cons_zero, List.set_cons_succ]
                  refine wpAnyH_take (i := 37) (oi := ⟨some 76, _, _, _, _, _⟩) (v := ?_) rfl (by kernel_rfl) (by kernel_rfl) (by kernel_rfl) (fun _ _ _ h => h) (Or.inl ⟨by rfl, ?_⟩) (by assumption) ?_
                  rotate_left 1
                  · (intro w hSw; (try dsimp only at hSw); go_simp; all_goals with_reducible rfl)
                  try simp only [Act.put, List.setIfInBounds_toArray, List.set_cons_zero, List.set_cons_succ]
                  refine wpAnyH_take (i := 38) (oi := ⟨some 77, _, _, _, _, _⟩) (v := ?_) rfl (by kernel_rfl) (by kernel_rfl) (by kernel_rfl) (fun _ _ _ h => h) (Or.inl ⟨by rfl, ?_⟩) (by assumption) ?_
                  rotate_left 1
                  · (intro w hSw; (try dsimp only at hSw); go_simp; all_goals with_reducible rfl)
                  try simp only [Act.put, List.setIfInBounds_toArray, List.set_cons_zero, List.set_cons_succ]
                  refine wpAnyH_done (by kernel_rfl) ?_ _
                  clear q0
                  clear z0 z2
                  have SB : Hid (StQ _ qb B y4) := Lib.hid (S6.out.keep hHeld (by simp) (by simp))
                  have WB : Hid (LnOwn _ w.heap.size 56 [qb] (some ⟨b, off, none⟩) c' out) := Lib.hid (W6.out.keep hHeld (by simp) (fun x hx => .inl hx))
                  have FB : Hid (Frm [qb] w _) := Lib.hid (F6.out.trans hHeld (fun x hx => hx) (by simp))
                  have BB := Lib.hid (hHeld.whole BV6.out (by simp))
                  have CF := Lib.hid (stq_fail 23 23 rfl SB.out (by decide))
                  go_wp2_with fail
                  (with_reducible refine CF.out.mono ?_)
                  rintro e w7 ⟨rfl, hs7, hf7⟩
                  have AT := Lib.hid (LnsAt.bad (out' := out ++ [⟨nm, d, d, al, ae⟩]) RB.out.1 LR.out BT.out)
                  obtain ⟨yF, hyF⟩ : ∃ yF, yF = nxF 23 y4 := ⟨_, rfl⟩
                  rw [← hyF] at hs7 AT
                  have S7 := Lib.hid hs7
                  have W7 : Hid (LnOwn w7 w.heap.size 56 [qb] (some ⟨b, off, none⟩) c' out) := Lib.hid (WB.out.keep hf7 (fun x hx => .inl hx) (fun x hx => .inl hx))
                  have F7 : Hid (Frm [qb] w w7) := Lib.hid (FB.out.trans hf7 (fun x hx => hx) (fun x hx => .inl hx))
                  have B7 := Lib.hid (hf7.whole BB.out (by have := YW.out; simp; omega))
                  clear hs7 hf7 hyF SB WB FB BB CF
                  have x0 := B7.out.cell 0
                  have x1 := B7.out.cell 1
                  have x2 := B7.out.cell 2
                  have x3 := B7.out.cell 3
                  have x4 := B7.out.cell 4
                  simp only [List.getElem?_toArray, List.getElem?_cons_zero, List.getElem?_cons_succ] at x0 x1 x2 x3 x4
                  have OWN : Hid ((w7.alloc (.cells #[.string nm, .int .u64 (d : Nat), .int .u64 (d : Nat), .int .u64 (al : Nat), .int .u64 (ae : Nat)] 56)).ownsRow w.heap.size 56 5 (.slice (some ⟨b, off, none⟩) i c') i (lnc out)) := Lib.hid (by
                    have := (W7.out.keep (S := []) (F' := []) ((Frm.refl [] w7).alloc (.cells #[.string nm, .int .u64 (d : Nat), .int .u64 (d : Nat), .int .u64 (al : Nat), .int .u64 (ae : Nat)] 56)) (by simp) (by simp)).own
                    rwa [← HL.out] at this)
                  have ONE : Hid (ValsAt (w7.alloc (.cells #[.string nm, .int .u64 (d : Nat), .int .u64 (d : Nat), .int .u64 (al : Nat), .int .u64 (ae : Nat)] 56)) (some ⟨w7.heap.size, 0, none⟩) (lnc [⟨nm, d, d, al, ae⟩])) := Lib.hid (lncvals_one w7 ⟨nm, d, d, al, ae⟩ 56)
                  have hbz : w.heap.size ≤ (w7.alloc (.cells #[.string nm, .int .u64 (d : Nat), .int .u64 (d : Nat), .int .u64 (al : Nat), .int .u64 (ae : Nat)] 56)).heap.size := by have := F7.out.size; simp; omega
                  have hfit1 : i + 1 ≤ 1000000000 := by omega
                  go_wp2_with (at_builtin; refine stop_intro ?_)
                  unfold Stopped
                  refine wpList_appS (by rfl) (.tmp 80) (.tmp 82) 39 rfl w.heap.size 56 i0 (.agg #[.string ⟨#[]⟩, .int .u64 0, .int .u64 0, .int .u64 0, .int .u64 0]) 5 48 Tryd.underlying39 HI.out HZ0.out rfl (by decide) HZ1.out HZ2.out (by decide) (.slice (some ⟨b, off, none⟩) i c') i _ rfl OWN.out _ 1 1 _ rfl ONE.out rfl (lnc_one _) (fun h => by cases h) hfit1 hbz ?_
                  intro a3 c3 w8 happ
                  have AL := (Frm.refl [] w7).alloc (.cells #[.string nm, .int .u64 (d : Nat), .int .u64 (d : Nat), .int .u64 (al : Nat), .int .u64 (ae : Nat)] 56)
                  have QW8 : ∀ x ∈ [qb], x < w.heap.size := fun x hx => by have := HO.out; simp at hx; omega
                  obtain ⟨g1, g2, g3, g4⟩ := (W7.out.keep (S := []) (F' := [qb]) AL (by simp) (fun x hx => .inl hx)).app (Y := [⟨nm, d, d, al, ae⟩]) HL.out (by intro z hz; simp at hz; subst hz; exact ⟨D64.out, D64.out, A64.out, E64.out⟩) (m := 1) rfl (fun x hx => by have h1 := QW8 x hx; have h2 := F7.out.size; simp; omega) happ
                  have W8 : Hid (LnOwn w8 w.heap.size 56 [qb] a3 c3 (out ++ [⟨nm, d, d, al, ae⟩])) := Lib.hid g1
                  have L8 : Hid (i + 1 = (out ++ [(⟨nm, d, d, al, ae⟩ : Ln)]).length) := Lib.hid g4
                  have S8 : Hid (StQ w8 qb B yF) := Lib.hid ((S7.out.keep AL (by simp) (by simp)).keep g2 (fun hm => by have := (W7.out.blk_lt _ hm).1; have := HO.out; omega) (fun x hx => by have := (W7.out.blk_lt x hx).1; have := HO.out; omega))
                  have F8 : Hid (Frm [qb] w w8) := Lib.hid ((F7.out.trans AL (U := [qb]) (fun x hx => hx) (by simp)).trans g2 (fun x hx => hx) (fun x hx => .inr (W7.out.blk_lt x hx).1))
                  have AT8 : Hid (LnsAt V (n - (i + 1)) (out ++ [⟨nm, d, d, al, ae⟩]) yF R) := Lib.hid (by rw [show n - (i + 1) = n - i - 1 by omega]; exact AT.out)
                  clear happ g1 g2 g3 g4 AL hbz OWN ONE x0 x1 x2 x3 x4
                  go_wp2
                  go_roundw
                  case rel => exact ⟨i + 1, a3, c3, _, yF, by omega, by rfl, by go_num, L8, W8, S8, F8, AT8⟩
                  case measure => simp [intOf]; omega
                · have BT : Hid (badL out ⟨nm, d, d, al, ae⟩ = false) := Lib.hid (by rw [BD.out, c6]; rfl)
                  have k6 : Op.bytesLess ln.toList nm.toList = true := c6
                  clear c6
                  refine wp_region_held_drew (S := fun w' => Frm [] V6 w') (by kernel_rfl) (Frm.drew (Frm.refl _ _)) (fun hHeld => ?_)
                  refine wpAnyH_take (i := 0) (oi := ⟨some 39, _, _, _, _, _⟩) (v := ?_) rfl (by kernel_rfl) (by kernel_rfl) (by kernel_rfl) (fun _ _ _ h => h) (Or.inl ⟨by rfl, ?_⟩) (by assumption) ?_
                  rotate_left 1
                  · (intro w hSw; (try dsimp only at hSw); go_simp; all_goals with_reducible rfl)
                  try simp only [Act.put, List.setIfInBounds_toArray, List.set_cons_zero, List.set_cons_succ]
                  refine wpAnyH_take (i := 1) (oi := ⟨some 40, _, _, _, _, _⟩) (v := ?_) rfl (by kernel_rfl) (by kernel_rfl) (by kernel_rfl) (fun _ _ _ h => h) (Or.inl ⟨by rfl, ?_⟩) (by assumption) ?_
                  rotate_left 1
                  · (intro w hSw; (try dsimp only at hSw); go_simp; all_goals with_reducible rfl)
                  try simp only [Act.put, List.setIfInBounds_toArray, List.set_cons_zero, List.set_cons_succ]
                  refine wpAnyH_take (i := 2) (oi := ⟨some 41, _, _, _, _, _⟩) (v := ?_) rfl (by kernel_rfl) (by kernel_rfl) (by kernel_rfl) (fun _ _ _ h => h) (Or.inl ⟨by rfl, ?_⟩) (by assumption) ?_
                  rotate_left 1
                  · (intro w hSw; (try dsimp only at hSw); go_simp; all_goals with_reducible rfl)
                  try simp only [Act.put, List.setIfInBounds_toArray, List.set_cons_zero, List.set_cons_succ]
                  refine wpAnyH_take (i := 3) (oi := ⟨some 42, _, _, _, _, _⟩) (v := ?_) rfl (by kernel_rfl) (by kernel_rfl) (by kernel_rfl) (fun _ _ _ h => h) (Or.inl ⟨by rfl, ?_⟩) (by assumption) ?_
                  rotate_left 1
                  · (intro w hSw; (try dsimp only at hSw); go_simp; all_goals with_reducible rfl)
                  try simp only [Act.put, List.setIfInBounds_toArray, List.set_cons_zero, List.set_cons_succ]
                  refine wpAnyH_take (i := 4) (oi := ⟨some 43, _, _, _, _, _⟩) (v := ?_) rfl (by kernel_rfl) (by kernel_rfl) (by kernel_rfl) (fun _ _ _ h => h) (Or.inl ⟨by rfl, ?_⟩) (by assumption) ?_
                  rotate_left 1
                  · (intro w hSw; (try dsimp only at hSw); go_simp; all_goals with_reducible rfl)
                  try simp only [Act.put, List.setIfInBounds_toArray, List.set_cons_zero, List.set_cons_succ]
                  refine wpAnyH_take (i := 5) (oi := ⟨some 44, _, _, _, _, _⟩) (v := ?_) rfl (by kernel_rfl) (by kernel_rfl) (by kernel_rfl) (fun _ _ _ h => h) (Or.inl ⟨by rfl, ?_⟩) (by assumption) ?_
                  rotate_left 1
                  · (intro w hSw; (try dsimp only at hSw); go_simp; all_goals with_reducible rfl)
                  try simp only [Act.put, List.setIfInBounds_toArray, List.set_cons_zero, List.set_cons_succ]
                  refine wpAnyH_take (i := 6) (oi := ⟨some 45, _, _, _, _, _⟩) (v := ?_) rfl (by kernel_rfl) (by kernel_rfl) (by kernel_rfl) (fun _ _ _ h => h) (Or.inl ⟨by rfl, ?_⟩) (by assumption) ?_
                  rotate_left 1
                  · (intro w hSw; (try dsimp only at hSw); go_simp; all_goals with_reducible rfl)
                  try simp only [Act.put, List.setIfInBounds_toArray, List.set_cons_zero, List.set_cons_succ]
                  refine wpAnyH_take (i := 7) (oi := ⟨some 46, _, _, _, _, _⟩) (v := ?_) rfl (by kernel_rfl) (by kernel_rfl) (by kernel_rfl) (fun _ _ _ h => h) (Or.inl ⟨by rfl, ?_⟩) (by assumption) ?_
                  rotate_left 1
                  · (intro w hSw; (try dsimp only at hSw); go_simp; all_goals with_reducible rfl)
                  try simp only [Act.put, List.setIfInBounds_toArray, List.set_cons_zero, List.set_cons_succ]
                  refine wpAnyH_take (i := 8) (oi := ⟨some 47, _, _, _, _, _⟩) (v := ?_) rfl (by kernel_rfl) (by kernel_rfl) (by kernel_rfl) (fun _ _ _ h => h) (Or.inl ⟨by rfl, ?_⟩) (by assumption) ?_
                  rotate_left 1
                  · (intro w hSw; (try dsimp only at hSw); go_simp; all_goals with_reducible rfl)
                  try simp only [Act.put, List.setIfInBounds_toArray, List.set_cons_zero, List.set_cons_succ]
                  refine wpAnyH_take (i := 9) (oi := ⟨some 48, _, _, _, _, _⟩) (v := ?_) rfl (by kernel_rfl) (by kernel_rfl) (by kernel_rfl) (fun _ _ _ h => h) (Or.inl ⟨by rfl, ?_⟩) (by assumption) ?_
                  rotate_left 1
                  · (intro w hSw; (try dsimp only at hSw); go_simp; all_goals with_reducible rfl)
                  try simp only [Act.put, List.setIfInBounds_toArray, List.set_cons_zero, List.set_cons_succ]
                  refine wpAnyH_take (i := 10) (oi := ⟨some 49, _, _, _, _, _⟩) (v := ?_) rfl (by kernel_rfl) (by kernel_rfl) (by kernel_rfl) (fun _ _ _ h => h) (Or.inl ⟨by rfl, ?_⟩) (by assumption) ?_
                  rotate_left 1
                  · (intro w hSw; (try dsimp only at hSw); go_simp; all_goals with_reducible rfl)
                  try simp only [Act.put, List.setIfInBounds_toArray, List.set_cons_zero, List.set_cons_succ]
                  refine wpAnyH_take (i := 11) (oi := ⟨some 50, _, _, _, _, _⟩) (v := ?_) rfl (by kernel_rfl) (by kernel_rfl) (by kernel_rfl) (fun _ _ _ h => h) (Or.inl ⟨by rfl, ?_⟩) (by assumption) ?_
                  rotate_left 1
                  · (intro w hSw; (try dsimp only at hSw); go_simp; all_goals with_reducible rfl)
                  try simp only [Act.put, List.setIfInBounds_toArray, List.set_cons_zero, List.set_cons_succ]
                  refine wpAnyH_take (i := 12) (oi := ⟨some 51, _, _, _, _, _⟩) (v := ?_) rfl (by kernel_rfl) (by kernel_rfl) (by kernel_rfl) (fun _ _ _ h => h) (Or.inl ⟨by rfl, ?_⟩) (by assumption) ?_
                  rotate_left 1
                  · (intro w hSw; (try dsimp only at hSw); go_simp; all_goals with_reducible rfl)
                  try simp only [Act.put, List.setIfInBounds_toArray, List.set_cons_zero, List.set_cons_succ]
                  refine wpAnyH_take (i := 13) (oi := ⟨some 52, _, _, _, _, _⟩) (v := ?_) rfl (by kernel_rfl) (by kernel_rfl) (by kernel_rfl) (fun _ _ _ h => h) (Or.inl ⟨by rfl, ?_⟩) (by assumption) ?_
                  rotate_left 1
                  · (intro w hSw; (try dsimp only at hSw); go_simp; all_goals with_reducible rfl)
                  try simp only [Act.put, List.setIfInBounds_toArray, List.set_cons_zero, List.set_cons_succ]
                  refine wpAnyH_take (i := 14) (oi := ⟨some 53, _, _, _, _, _⟩) (v := ?_) rfl (by kernel_rfl) (by kernel_rfl) (by kernel_rfl) (fun _ _ _ h => h) (Or.inl ⟨by rfl, ?_⟩) (by assumption) ?_
                  rotate_left 1
                  · (intro w hSw; (try dsimp only at hSw); go_simp; all_goals with_reducible rfl)
                  try simp only [Act.put, List.setIfInBounds_toArray, List.set_cons_zero, List.set_cons_succ]
                  refine wpAnyH_take (i := 15) (oi := ⟨some 54, _, _, _, _, _⟩) (v := ?_) rfl (by kernel_rfl) (by kernel_rfl) (by kernel_rfl) (fun _ _ _ h => h) (Or.inl ⟨by rfl, ?_⟩) (by assumption) ?_
                  rotate_left 1
                  · (intro w hSw; (try dsimp only at hSw); go_simp; all_goals with_reducible rfl)
                  try simp only [Act.put, List.setIfInBounds_toArray, List.set_cons_zero, List.set_cons_succ]
                  refine wpAnyH_take (i := 16) (oi := ⟨some 55, _, _, _, _, _⟩) (v := ?_) rfl (by kernel_rfl) (by kernel_rfl) (by kernel_rfl) (fun _ _ _ h => h) (Or.inl ⟨by rfl, ?_⟩) (by assumption) ?_
                  rotate_left 1
                  · (intro w hSw; (try dsimp only at hSw); go_simp; all_goals with_reducible rfl)
                  try simp only [Act.put, List.setIfInBounds_toArray, List.set_cons_zero, List.set_cons_succ]
                  refine wpAnyH_take (i := 17) (oi := ⟨some 56, _, _, _, _, _⟩) (v := ?_) rfl (by kernel_rfl) (by kernel_rfl) (by kernel_rfl) (fun _ _ _ h => h) (Or.inl ⟨by rfl, ?_⟩) (by assumption) ?_
                  rotate_left 1
                  · (intro w hSw; (try dsimp only at hSw); go_simp; all_goals with_reducible rfl)
                  try simp only [Act.put, List.setIfInBounds_toArray, List.set_cons_zero, List.set_cons_succ]
                  refine wpAnyH_take (i := 18) (oi := ⟨some 57, _, _, _, _, _⟩) (v := ?_) rfl (by kernel_rfl) (by kernel_rfl) (by kernel_rfl) (fun _ _ _ h => h) (Or.inl ⟨by rfl, ?_⟩) (by assumption) ?_
                  rotate_left 1
                  · (intro w hSw; (try dsimp only at hSw); go_simp; all_goals with_reducible rfl)
                  try simp only [Act.put, List.setIfInBounds_toArray, List.set_cons_zero, List.set_cons_succ]
                  refine wpAnyH_take (i := 19) (oi := ⟨some 58, _, _, _, _, _⟩) (v := ?_) rfl (by kernel_rfl) (by kernel_rfl) (by kernel_rfl) (fun _ _ _ h => h) (Or.inl ⟨by rfl, ?_⟩) (by assumption) ?_
                  rotate_left 1
                  · (intro w hSw; (try dsimp only at hSw); go_simp; all_goals with_reducible rfl)
                  try simp only [Act.put, List.setIfInBounds_toArray, List.set_cons_zero, List.set_cons_succ]
                  refine wpAnyH_take (i := 20) (oi := ⟨some 59, _, _, _, _, _⟩) (v := ?_) rfl (by kernel_rfl) (by kernel_rfl) (by kernel_rfl) (fun _ _ _ h => h) (Or.inl ⟨by rfl, ?_⟩) (by assumption) ?_
                  rotate_left 1
                  · (intro w hSw; (try dsimp only at hSw); go_simp; all_goals with_reducible rfl)
                  try simp only [Act.put, List.setIfInBounds_toArray, List.set_cons_zero, List.set_cons_succ]
                  refine wpAnyH_take (i := 21) (oi := ⟨some 60, _, _, _, _, _⟩) (v := ?_) rfl (by kernel_rfl) (by kernel_rfl) (by kernel_rfl) (fun _ _ _ h => h) (Or.inl ⟨by rfl, ?_⟩) (by assumption) ?_
                  rotate_left 1
                  · (intro w hSw; (try dsimp only at hSw); go_simp; all_goals with_reducible rfl)
                  try simp only [Act.put, List.setIfInBounds_toArray, List.set_cons_zero, List.set_cons_succ]
                  refine wpAnyH_take (i := 22) (oi := ⟨some 61, _, _, _, _, _⟩) (v := ?_) rfl (by kernel_rfl) (by kernel_rfl) (by kernel_rfl) (fun _ _ _ h => h) (Or.inl ⟨by rfl, ?_⟩) (by assumption) ?_
                  rotate_left 1
                  · (intro w hSw; (try dsimp only at hSw); go_simp; all_goals with_reducible rfl)
                  try simp only [Act.put, List.setIfInBounds_toArray, List.set_cons_zero, List.set_cons_succ]
                  refine wpAnyH_take (i := 23) (oi := ⟨some 62, _, _, _, _, _⟩) (v := ?_) rfl (by kernel_rfl) (by kernel_rfl) (by kernel_rfl) (fun _ _ _ h => h) (Or.inl ⟨by rfl, ?_⟩) (by assumption) ?_
                  rotate_left 1
                  · (intro w hSw; (try dsimp only at hSw); go_simp; all_goals with_reducible rfl)
                  try simp only [Act.put, List.setIfInBounds_toArray, List.set_cons_zero, List.set_cons_succ]
                  refine wpAnyH_take (i := 24) (oi := ⟨some 63, _, _, _, _, _⟩) (v := ?_) rfl (by kernel_rfl) (by kernel_rfl) (by kernel_rfl) (fun _ _ _ h => h) (Or.inl ⟨by rfl, ?_⟩) (by assumption) ?_
                  rotate_left 1
                  · (intro w hSw; (try dsimp only at hSw); go_simp; all_goals with_reducible rfl)
                  try simp only [Act.put, List.setIfInBounds_toArray, List.set_cons_zero, List.set_cons_succ]
                  refine wpAnyH_take (i := 25) (oi := ⟨some 64, _, _, _, _, _⟩) (v := ?_) rfl (by kernel_rfl) (by kernel_rfl) (by kernel_rfl) (fun _ _ _ h => h) (Or.inl ⟨by rfl, ?_⟩) (by assumption) ?_
                  rotate_left 1
                  · (intro w hSw; (try dsimp only at hSw); go_simp; all_goals with_reducible rfl)
                  try simp only [Act.put, List.setIfInBounds_toArray, List.set_cons_zero, List.set_cons_succ]
                  refine wpAnyH_take (i := 26) (oi := ⟨some 65, _, _, _, _, _⟩) (v := ?_) rfl (by kernel_rfl) (by kernel_rfl) (by kernel_rfl) (fun _ _ _ h => h) (Or.inl ⟨by rfl, ?_⟩) (by assumption) ?_
                  rotate_left 1
                  · (intro w hSw; (try dsimp only at hSw); go_simp; all_goals with_reducible rfl)
                  try simp only [Act.put, List.setIfInBounds_toArray, List.set_cons_zero, List.set_cons_succ]
                  refine wpAnyH_take (i := 27) (oi := ⟨some 66, _, _, _, _, _⟩) (v := ?_) rfl (by kernel_rfl) (by kernel_rfl) (by kernel_rfl) (fun _ _ _ h => h) (Or.inl ⟨by rfl, ?_⟩) (by assumption) ?_
                  rotate_left 1
                  · (intro w hSw; (try dsimp only at hSw); go_simp; all_goals with_reducible rfl)
                  try simp only [Act.put, List.setIfInBounds_toArray, List.set_cons_zero, List.set_cons_succ]
                  refine wpAnyH_take (i := 28) (oi := ⟨some 67, _, _, _, _, _⟩) (v := ?_) rfl (by kernel_rfl) (by kernel_rfl) (by kernel_rfl) (fun _ _ _ h => h) (Or.inl ⟨by rfl, ?_⟩) (by assumption) ?_
                  rotate_left 1
                  · (intro w hSw; (try dsimp only at hSw); go_simp; all_goals with_reducible rfl)
                  try simp only [Act.put, List.setIfInBounds_toArray, List.set_cons_zero, List.set_cons_succ]
                  refine wpAnyH_take (i := 29) (oi := ⟨some 68, _, _, _, _, _⟩) (v := ?_) rfl (by kernel_rfl) (by kernel_rfl) (by kernel_rfl) (fun _ _ _ h => h) (Or.inl ⟨by rfl, ?_⟩) (by assumption) ?_
                  rotate_left 1
                  · (intro w hSw; (try dsimp only at hSw); go_simp; all_goals with_reducible rfl)
                  try simp only [Act.put, List.setIfInBounds_toArray, List.set_cons_zero, List.set_cons_succ]
                  refine wpAnyH_take (i := 30) (oi := ⟨some 69, _, _, _, _, _⟩) (v := ?_) rfl (by kernel_rfl) (by kernel_rfl) (by kernel_rfl) (fun _ _ _ h => h) (Or.inl ⟨by rfl, ?_⟩) (by assumption) ?_
                  rotate_left 1
                  · (intro w hSw; (try dsimp only at hSw); go_simp; all_goals with_reducible rfl)
                  try simp only [Act.put, List.setIfInBounds_toArray, List.set_cons_zero, List.set_cons_succ]
                  refine wpAnyH_take (i := 31) (oi := ⟨some 70, _, _, _, _, _⟩) (v := ?_) rfl (by kernel_rfl) (by kernel_rfl) (by kernel_rfl) (fun _ _ _ h => h) (Or.inl ⟨by rfl, ?_⟩) (by assumption) ?_
                  rotate_left 1
                  · (intro w hSw; (try dsimp only at hSw); go_simp; all_goals with_reducible rfl)
                  try simp only [Act.put, List.setIfInBounds_toArray, List.set_cons_zero, List.set_cons_succ]
                  refine wpAnyH_take (i := 32) (oi := ⟨some 71, _, _, _, _, _⟩) (v := ?_) rfl (by kernel_rfl) (by kernel_rfl) (by kernel_rfl) (fun _ _ _ h => h) (Or.inl ⟨by rfl, ?_⟩) (by assumption) ?_
                  rotate_left 1
                  · (intro w hSw; (try dsimp only at hSw); go_simp; all_goals with_reducible rfl)
                  try simp only [Act.put, List.setIfInBounds_toArray, List.set_cons_zero, List.set_cons_succ]
                  refine wpAnyH_take (i := 33) (oi := ⟨some 72, _, _, _, _, _⟩) (v := ?_) rfl (by kernel_rfl) (by kernel_rfl) (by kernel_rfl) (fun _ _ _ h => h) (Or.inl ⟨by rfl, ?_⟩) (by assumption) ?_
                  rotate_left 1
                  · (intro w hSw; (try dsimp only at hSw); go_simp; all_goals with_reducible rfl)
                  try simp only [Act.put, List.setIfInBounds_toArray, List.set_cons_zero, List.set_cons_succ]
                  refine wpAnyH_take (i := 34) (oi := ⟨some 73, _, _, _, _, _⟩) (v := ?_) rfl (by kernel_rfl) (by kernel_rfl) (by kernel_rfl) (fun _ _ _ h => h) (Or.inl ⟨by rfl, ?_⟩) (by assumption) ?_
                  rotate_left 1
                  · (intro w hSw; (try dsimp only at hSw); go_simp; all_goals with_reducible rfl)
                  try simp only [Act.put, List.setIfInBounds_toArray, List.set_cons_zero, List.set_cons_succ]
                  refine wpAnyH_take (i := 35) (oi := ⟨some 74, _, _, _, _, _⟩) (v := ?_) rfl (by kernel_rfl) (by kernel_rfl) (by kernel_rfl) (fun _ _ _ h => h) (Or.inl ⟨by rfl, ?_⟩) (by assumption) ?_
                  rotate_left 1
                  · (intro w hSw; (try dsimp only at hSw); go_simp; all_goals with_reducible rfl)
                  try simp only [Act.put, List.setIfInBounds_toArray, List.set_cons_zero, List.set_cons_succ]
                  refine wpAnyH_take (i := 36) (oi := ⟨some 75, _, _, _, _, _⟩) (v := ?_) rfl (by kernel_rfl) (by kernel_rfl) (by kernel_rfl) (fun _ _ _ h => h) (Or.inl ⟨by rfl, ?_⟩) (by assumption) ?_
                  rotate_left 1
                  · (intro w hSw; (try dsimp only at hSw); go_simp; all_goals with_reducible rfl)
                  try simp only [Act.put, List.setIfInBounds_toArray, List.set_cons_zero, List.set_cons_succ]
                  refine wpAnyH_take (i := 37) (oi := ⟨some 76, _, _, _, _, _⟩) (v := ?_) rfl (by kernel_rfl) (by kernel_rfl) (by kernel_rfl) (fun _ _ _ h => h) (Or.inl ⟨by rfl, ?_⟩) (by assumption) ?_
                  rotate_left 1
                  · (intro w hSw; (try dsimp only at hSw); go_simp; all_goals with_reducible rfl)
                  try simp only [Act.put, List.setIfInBounds_toArray, List.set_cons_zero, List.set_cons_succ]
                  refine wpAnyH_take (i := 38) (oi := ⟨some 77, _, _, _, _, _⟩) (v := ?_) rfl (by kernel_rfl) (by kernel_rfl) (by kernel_rfl) (fun _ _ _ h => h) (Or.inl ⟨by rfl, ?_⟩) (by assumption) ?_
                  rotate_left 1
                  · (intro w hSw; (try dsimp only at hSw); go_simp; all_goals with_reducible rfl)
                  try simp only [Act.put, List.setIfInBounds_toArray, List.set_cons_zero, List.set_cons_succ]
                  refine wpAnyH_done (by kernel_rfl) ?_ _
                  clear q0
                  clear z0 z2
                  obtain ⟨w7, hw7⟩ : ∃ w7, w7 = V6.drew := ⟨_, rfl⟩
                  have hHeld7 : Frm [] V6 w7 := by rw [hw7]; exact (Frm.refl _ _).drew
                  rw [← hw7]
                  have AT := Lib.hid (LnsAt.good RB.out.1 RB.out.2 LR.out BT.out)
                  obtain ⟨yF, hyF⟩ : ∃ yF, yF = y4 := ⟨_, rfl⟩
                  have S7 : Hid (StQ w7 qb B yF) := Lib.hid (by rw [hyF]; exact S6.out.keep hHeld7 (by simp) (by simp))
                  rw [← hyF] at AT
                  have W7 : Hid (LnOwn w7 w.heap.size 56 [qb] (some ⟨b, off, none⟩) c' out) := Lib.hid (W6.out.keep hHeld7 (by simp) (fun x hx => .inl hx))
                  have F7 : Hid (Frm [qb] w w7) := Lib.hid (F6.out.trans hHeld7 (fun x hx => hx) (by simp))
                  have B7 := Lib.hid (hHeld7.whole BV6.out (by simp))
                  clear hw7 hHeld7 hyF hHeld
                  have x0 := B7.out.cell 0
                  have x1 := B7.out.cell 1
                  have x2 := B7.out.cell 2
                  have x3 := B7.out.cell 3
                  have x4 := B7.out.cell 4
                  simp only [List.getElem?_toArray, List.getElem?_cons_zero, List.getElem?_cons_succ] at x0 x1 x2 x3 x4
                  have OWN : Hid ((w7.alloc (.cells #[.string nm, .int .u64 (d : Nat), .int .u64 (d : Nat), .int .u64 (al : Nat), .int .u64 (ae : Nat)] 56)).ownsRow w.heap.size 56 5 (.slice (some ⟨b, off, none⟩) i c') i (lnc out)) := Lib.hid (by
                    have := (W7.out.keep (S := []) (F' := []) ((Frm.refl [] w7).alloc (.cells #[.string nm, .int .u64 (d : Nat), .int .u64 (d : Nat), .int .u64 (al : Nat), .int .u64 (ae : Nat)] 56)) (by simp) (by simp)).own
                    rwa [← HL.out] at this)
                  have ONE : Hid (ValsAt (w7.alloc (.cells #[.string nm, .int .u64 (d : Nat), .int .u64 (d : Nat), .int .u64 (al : Nat), .int .u64 (ae : Nat)] 56)) (some ⟨w7.heap.size, 0, none⟩) (lnc [⟨nm, d, d, al, ae⟩])) := Lib.hid (lncvals_one w7 ⟨nm, d, d, al, ae⟩ 56)
                  have hbz : w.heap.size ≤ (w7.alloc (.cells #[.string nm, .int .u64 (d : Nat), .int .u64 (d : Nat), .int .u64 (al : Nat), .int .u64 (ae : Nat)] 56)).heap.size := by have := F7.out.size; simp; omega
                  have hfit1 : i + 1 ≤ 1000000000 := by omega
                  go_wp2_with (at_builtin; refine stop_intro ?_)
                  unfold Stopped
                  refine wpList_appS (by rfl) (.tmp 80) (.tmp 82) 39 rfl w.heap.size 56 i0 (.agg #[.string ⟨#[]⟩, .int .u64 0, .int .u64 0, .int .u64 0, .int .u64 0]) 5 48 Tryd.underlying39 HI.out HZ0.out rfl (by decide) HZ1.out HZ2.out (by decide) (.slice (some ⟨b, off, none⟩) i c') i _ rfl OWN.out _ 1 1 _ rfl ONE.out rfl (lnc_one _) (fun h => by cases h) hfit1 hbz ?_
                  intro a3 c3 w8 happ
                  have AL := (Frm.refl [] w7).alloc (.cells #[.string nm, .int .u64 (d : Nat), .int .u64 (d : Nat), .int .u64 (al : Nat), .int .u64 (ae : Nat)] 56)
                  have QW8 : ∀ x ∈ [qb], x < w.heap.size := fun x hx => by have := HO.out; simp at hx; omega
                  obtain ⟨g1, g2, g3, g4⟩ := (W7.out.keep (S := []) (F' := [qb]) AL (by simp) (fun x hx => .inl hx)).app (Y := [⟨nm, d, d, al, ae⟩]) HL.out (by intro z hz; simp at hz; subst hz; exact ⟨D64.out, D64.out, A64.out, E64.out⟩) (m := 1) rfl (fun x hx => by have h1 := QW8 x hx; have h2 := F7.out.size; simp; omega) happ
                  have W8 : Hid (LnOwn w8 w.heap.size 56 [qb] a3 c3 (out ++ [⟨nm, d, d, al, ae⟩])) := Lib.hid g1
                  have L8 : Hid (i + 1 = (out ++ [(⟨nm, d, d, al, ae⟩ : Ln)]).length) := Lib.hid g4
                  have S8 : Hid (StQ w8 qb B yF) := Lib.hid ((S7.out.keep AL (by simp) (by simp)).keep g2 (fun hm => by have := (W7.out.blk_lt _ hm).1; have := HO.out; omega) (fun x hx => by have := (W7.out.blk_lt x hx).1; have := HO.out; omega))
                  have F8 : Hid (Frm [qb] w w8) := Lib.hid ((F7.out.trans AL (U := [qb]) (fun x hx => hx) (by simp)).trans g2 (fun x hx => hx) (fun x hx => .inr (W7.out.blk_lt x hx).1))
                  have AT8 : Hid (LnsAt V (n - (i + 1)) (out ++ [⟨nm, d, d, al, ae⟩]) yF R) := Lib.hid (by rw [show n - (i + 1) = n - i - 1 by omega]; exact AT.out)
                  clear happ g1 g2 g3 g4 AL hbz OWN ONE x0 x1 x2 x3 x4
                  go_wp2
                  go_roundw
                  case rel => exact ⟨i + 1, a3, c3, _, yF, by omega, by rfl, by go_num, L8, W8, S8, F8, AT8⟩
                  case measure => simp [intOf]; omega
              · have k5 : ¬ (0 : Int) < (i : Int) := by omega
                have BT : Hid (badL out ⟨nm, d, d, al, ae⟩ = false) := Lib.hid (by
                  have h1 := S1'.out
                  unfold badL
                  rw [← HL.out]
                  simp [h1, c2, c3, c4, c5])
                refine wp_region_held_drew (S := fun w' => Frm [] V6 w') (by kernel_rfl) (Frm.drew (Frm.refl _ _)) (fun hHeld => ?_)
                refine wpAnyH_take (i := 0) (oi := ⟨some 39, _, _, _, _, _⟩) (v := ?_) rfl (by kernel_rfl) (by kernel_rfl) (by kernel_rfl) (fun _ _ _ h => h) (Or.inl ⟨by rfl, ?_⟩) (by assumption) ?_
                rotate_left 1
                · (intro w hSw; (try dsimp only at hSw); go_simp; all_goals with_reducible rfl)
                try simp only [Act.put, List.setIfInBounds_toArray, List.set_cons_zero, List.set_cons_succ]
                refine wpAnyH_take (i := 1) (oi := ⟨some 40, _, _, _, _, _⟩) (v := ?_) rfl (by kernel_rfl) (by kernel_rfl) (by kernel_rfl) (fun _ _ _ h => h) (Or.inl ⟨by rfl, ?_⟩) (by assumption) ?_
                rotate_left 1
                · (intro w hSw; (try dsimp only at hSw); go_simp; all_goals with_reducible rfl)
                try simp only [Act.put, List.setIfInBounds_toArray, List.set_cons_zero, List.set_cons_succ]
                refine wpAnyH_take (i := 2) (oi := ⟨some 41, _, _, _, _, _⟩) (v := ?_) rfl (by kernel_rfl) (by kernel_rfl) (by kernel_rfl) (fun _ _ _ h => h) (Or.inl ⟨by rfl, ?_⟩) (by assumption) ?_
                rotate_left 1
                · (intro w hSw; (try dsimp only at hSw); go_simp; all_goals with_reducible rfl)
                try simp only [Act.put, List.setIfInBounds_toArray, List.set_cons_zero, List.set_cons_succ]
                refine wpAnyH_take (i := 3) (oi := ⟨some 42, _, _, _, _, _⟩) (v := ?_) rfl (by kernel_rfl) (by kernel_rfl) (by kernel_rfl) (fun _ _ _ h => h) (Or.inl ⟨by rfl, ?_⟩) (by assumption) ?_
                rotate_left 1
                · (intro w hSw; (try dsimp only at hSw); go_simp; all_goals with_reducible rfl)
                try simp only [Act.put, List.setIfInBounds_toArray, List.set_cons_zero, List.set_cons_succ]
                refine wpAnyH_take (i := 4) (oi := ⟨some 43, _, _, _, _, _⟩) (v := ?_) rfl (by kernel_rfl) (by kernel_rfl) (by kernel_rfl) (fun _ _ _ h => h) (Or.inl ⟨by rfl, ?_⟩) (by assumption) ?_
                rotate_left 1
                · (intro w hSw; (try dsimp only at hSw); go_simp; all_goals with_reducible rfl)
                try simp only [Act.put, List.setIfInBounds_toArray, List.set_cons_zero, List.set_cons_succ]
                refine wpAnyH_take (i := 5) (oi := ⟨some 44, _, _, _, _, _⟩) (v := ?_) rfl (by kernel_rfl) (by kernel_rfl) (by kernel_rfl) (fun _ _ _ h => h) (Or.inl ⟨by rfl, ?_⟩) (by assumption) ?_
                rotate_left 1
                · (intro w hSw; (try dsimp only at hSw); go_simp; all_goals with_reducible rfl)
                try simp only [Act.put, List.setIfInBounds_toArray, List.set_cons_zero, List.set_cons_succ]
                refine wpAnyH_take (i := 6) (oi := ⟨some 45, _, _, _, _, _⟩) (v := ?_) rfl (by kernel_rfl) (by kernel_rfl) (by kernel_rfl) (fun _ _ _ h => h) (Or.inl ⟨by rfl, ?_⟩) (by assumption) ?_
                rotate_left 1
                · (intro w hSw; (try dsimp only at hSw); go_simp; all_goals with_reducible rfl)
                try simp only [Act.put, List.setIfInBounds_toArray, List.set_cons_zero, List.set_cons_succ]
                refine wpAnyH_take (i := 7) (oi := ⟨some 46, _, _, _, _, _⟩) (v := ?_) rfl (by kernel_rfl) (by kernel_rfl) (by kernel_rfl) (fun _ _ _ h => h) (Or.inl ⟨by rfl, ?_⟩) (by assumption) ?_
                rotate_left 1
                · (intro w hSw; (try dsimp only at hSw); go_simp; all_goals with_reducible rfl)
                try simp only [Act.put, List.setIfInBounds_toArray, List.set_cons_zero, List.set_cons_succ]
                refine wpAnyH_take (i := 8) (oi := ⟨some 47, _, _, _, _, _⟩) (v := ?_) rfl (by kernel_rfl) (by kernel_rfl) (by kernel_rfl) (fun _ _ _ h => h) (Or.inl ⟨by rfl, ?_⟩) (by assumption) ?_
                rotate_left 1
                · (intro w hSw; (try dsimp only at hSw); go_simp; all_goals with_reducible rfl)
                try simp only [Act.put, List.setIfInBounds_toArray, List.set_cons_zero, List.set_cons_succ]
                refine wpAnyH_take (i := 9) (oi := ⟨some 48, _, _, _, _, _⟩) (v := ?_) rfl (by kernel_rfl) (by kernel_rfl) (by kernel_rfl) (fun _ _ _ h => h) (Or.inl ⟨by rfl, ?_⟩) (by assumption) ?_
                rotate_left 1
                · (intro w hSw; (try dsimp only at hSw); go_simp; all_goals with_reducible rfl)
                try simp only [Act.put, List.setIfInBounds_toArray, List.set_cons_zero, List.set_cons_succ]
                refine wpAnyH_take (i := 10) (oi := ⟨some 49, _, _, _, _, _⟩) (v := ?_) rfl (by kernel_rfl) (by kernel_rfl) (by kernel_rfl) (fun _ _ _ h => h) (Or.inl ⟨by rfl, ?_⟩) (by assumption) ?_
                rotate_left 1
                · (intro w hSw; (try dsimp only at hSw); go_simp; all_goals with_reducible rfl)
                try simp only [Act.put, List.setIfInBounds_toArray, List.set_cons_zero, List.set_cons_succ]
                refine wpAnyH_take (i := 11) (oi := ⟨some 50, _, _, _, _, _⟩) (v := ?_) rfl (by kernel_rfl) (by kernel_rfl) (by kernel_rfl) (fun _ _ _ h => h) (Or.inl ⟨by rfl, ?_⟩) (by assumption) ?_
                rotate_left 1
                · (intro w hSw; (try dsimp only at hSw); go_simp; all_goals with_reducible rfl)
                try simp only [Act.put, List.setIfInBounds_toArray, List.set_cons_zero, List.set_cons_succ]
                refine wpAnyH_take (i := 12) (oi := ⟨some 51, _, _, _, _, _⟩) (v := ?_) rfl (by kernel_rfl) (by kernel_rfl) (by kernel_rfl) (fun _ _ _ h => h) (Or.inl ⟨by rfl, ?_⟩) (by assumption) ?_
                rotate_left 1
                · (intro w hSw; (try dsimp only at hSw); go_simp; all_goals with_reducible rfl)
                try simp only [Act.put, List.setIfInBounds_toArray, List.set_cons_zero, List.set_cons_succ]
                refine wpAnyH_take (i := 13) (oi := ⟨some 52, _, _, _, _, _⟩) (v := ?_) rfl (by kernel_rfl) (by kernel_rfl) (by kernel_rfl) (fun _ _ _ h => h) (Or.inl ⟨by rfl, ?_⟩) (by assumption) ?_
                rotate_left 1
                · (intro w hSw; (try dsimp only at hSw); go_simp; all_goals with_reducible rfl)
                try simp only [Act.put, List.setIfInBounds_toArray, List.set_cons_zero, List.set_cons_succ]
                refine wpAnyH_take (i := 14) (oi := ⟨some 53, _, _, _, _, _⟩) (v := ?_) rfl (by kernel_rfl) (by kernel_rfl) (by kernel_rfl) (fun _ _ _ h => h) (Or.inl ⟨by rfl, ?_⟩) (by assumption) ?_
                rotate_left 1
                · (intro w hSw; (try dsimp only at hSw); go_simp; all_goals with_reducible rfl)
                try simp only [Act.put, List.setIfInBounds_toArray, List.set_cons_zero, List.set_cons_succ]
                refine wpAnyH_take (i := 15) (oi := ⟨some 54, _, _, _, _, _⟩) (v := ?_) rfl (by kernel_rfl) (by kernel_rfl) (by kernel_rfl) (fun _ _ _ h => h) (Or.inl ⟨by rfl, ?_⟩) (by assumption) ?_
                rotate_left 1
                · (intro w hSw; (try dsimp only at hSw); go_simp; all_goals with_reducible rfl)
                try simp only [Act.put, List.setIfInBounds_toArray, List.set_cons_zero, List.set_cons_succ]
                refine wpAnyH_take (i := 16) (oi := ⟨some 55, _, _, _, _, _⟩) (v := ?_) rfl (by kernel_rfl) (by kernel_rfl) (by kernel_rfl) (fun _ _ _ h => h) (Or.inl ⟨by rfl, ?_⟩) (by assumption) ?_
                rotate_left 1
                · (intro w hSw; (try dsimp only at hSw); go_simp; all_goals with_reducible rfl)
                try simp only [Act.put, List.setIfInBounds_toArray, List.set_cons_zero, List.set_cons_succ]
                refine wpAnyH_take (i := 17) (oi := ⟨some 56, _, _, _, _, _⟩) (v := ?_) rfl (by kernel_rfl) (by kernel_rfl) (by kernel_rfl) (fun _ _ _ h => h) (Or.inl ⟨by rfl, ?_⟩) (by assumption) ?_
                rotate_left 1
                · (intro w hSw; (try dsimp only at hSw); go_simp; all_goals with_reducible rfl)
                try simp only [Act.put, List.setIfInBounds_toArray, List.set_cons_zero, List.set_cons_succ]
                refine wpAnyH_take (i := 18) (oi := ⟨some 57, _, _, _, _, _⟩) (v := ?_) rfl (by kernel_rfl) (by kernel_rfl) (by kernel_rfl) (fun _ _ _ h => h) (Or.inl ⟨by rfl, ?_⟩) (by assumption) ?_
                rotate_left 1
                · (intro w hSw; (try dsimp only at hSw); go_simp; all_goals with_reducible rfl)
                try simp only [Act.put, List.setIfInBounds_toArray, List.set_cons_zero, List.set_cons_succ]
                refine wpAnyH_take (i := 19) (oi := ⟨some 58, _, _, _, _, _⟩) (v := ?_) rfl (by kernel_rfl) (by kernel_rfl) (by kernel_rfl) (fun _ _ _ h => h) (Or.inl ⟨by rfl, ?_⟩) (by assumption) ?_
                rotate_left 1
                · (intro w hSw; (try dsimp only at hSw); go_simp; all_goals with_reducible rfl)
                try simp only [Act.put, List.setIfInBounds_toArray, List.set_cons_zero, List.set_cons_succ]
                refine wpAnyH_take (i := 20) (oi := ⟨some 59, _, _, _, _, _⟩) (v := ?_) rfl (by kernel_rfl) (by kernel_rfl) (by kernel_rfl) (fun _ _ _ h => h) (Or.inl ⟨by rfl, ?_⟩) (by assumption) ?_
                rotate_left 1
                · (intro w hSw; (try dsimp only at hSw); go_simp; all_goals with_reducible rfl)
                try simp only [Act.put, List.setIfInBounds_toArray, List.set_cons_zero, List.set_cons_succ]
                refine wpAnyH_take (i := 21) (oi := ⟨some 60, _, _, _, _, _⟩) (v := ?_) rfl (by kernel_rfl) (by kernel_rfl) (by kernel_rfl) (fun _ _ _ h => h) (Or.inl ⟨by rfl, ?_⟩) (by assumption) ?_
                rotate_left 1
                · (intro w hSw; (try dsimp only at hSw); go_simp; all_goals with_reducible rfl)
                try simp only [Act.put, List.setIfInBounds_toArray, List.set_cons_zero, List.set_cons_succ]
                refine wpAnyH_take (i := 22) (oi := ⟨some 61, _, _, _, _, _⟩) (v := undef) rfl (by kernel_rfl) (by kernel_rfl) (by kernel_rfl) (fun _ _ _ h => h) (Or.inr ⟨by rfl, rfl⟩) (by assumption) ?_
                try simp only [Act.put, List.setIfInBounds_toArray, List.set_cons_zero, List.set_cons_succ]
                refine wpAnyH_take (i := 23) (oi := ⟨some 62, _, _, _, _, _⟩) (v := undef) rfl (by kernel_rfl) (by kernel_rfl) (by kernel_rfl) (fun _ _ _ h => h) (Or.inr ⟨by rfl, rfl⟩) (by assumption) ?_
                try simp only [Act.put, List.setIfInBounds_toArray, List.set_cons_zero, List.set_cons_succ]
                refine wpAnyH_take (i := 24) (oi := ⟨some 63, _, _, _, _, _⟩) (v := undef) rfl (by kernel_rfl) (by kernel_rfl) (by kernel_rfl) (fun _ _ _ h => h) (Or.inr ⟨by rfl, rfl⟩) (by assumption) ?_
                try simp only [Act.put, List.setIfInBounds_toArray, List.set_cons_zero, List.set_cons_succ]
                refine wpAnyH_take (i := 25) (oi := ⟨some 64, _, _, _, _, _⟩) (v := ?_) rfl (by kernel_rfl) (by kernel_rfl) (by kernel_rfl) (fun _ _ _ h => h) (Or.inl ⟨by rfl, ?_⟩) (by assumption) ?_
                rotate_left 1
                · (intro w hSw; (try dsimp only at hSw); go_simp; all_goals with_reducible rfl)
                try simp only [Act.put, List.setIfInBounds_toArray, List.set_cons_zero, List.set_cons_succ]
                refine wpAnyH_take (i := 26) (oi := ⟨some 65, _, _, _, _, _⟩) (v := ?_) rfl (by kernel_rfl) (by kernel_rfl) (by kernel_rfl) (fun _ _ _ h => h) (Or.inl ⟨by rfl, ?_⟩) (by assumption) ?_
                rotate_left 1
                · (intro w hSw; (try dsimp only at hSw); go_simp; all_goals with_reducible rfl)
                try simp only [Act.put, List.setIfInBounds_toArray, List.set_cons_zero, List.set_cons_succ]
                refine wpAnyH_take (i := 27) (oi := ⟨some 66, _, _, _, _, _⟩) (v := undef) rfl (by kernel_rfl) (by kernel_rfl) (by kernel_rfl) (fun _ _ _ h => h) (Or.inr ⟨by rfl, rfl⟩) (by assumption) ?_
                try simp only [Act.put, List.setIfInBounds_toArray, List.set_cons_zero, List.set_cons_succ]
                refine wpAnyH_take (i := 28) (oi := ⟨some 67, _, _, _, _, _⟩) (v := undef) rfl (by kernel_rfl) (by kernel_rfl) (by kernel_rfl) (fun _ _ _ h => h) (Or.inr ⟨by rfl, rfl⟩) (by assumption) ?_
                try simp only [Act.put, List.setIfInBounds_toArray, List.set_cons_zero, List.set_cons_succ]
                refine wpAnyH_take (i := 29) (oi := ⟨some 68, _, _, _, _, _⟩) (v := undef) rfl (by kernel_rfl) (by kernel_rfl) (by kernel_rfl) (fun _ _ _ h => h) (Or.inr ⟨by rfl, rfl⟩) (by assumption) ?_
                try simp only [Act.put, List.setIfInBounds_toArray, List.set_cons_zero, List.set_cons_succ]
                refine wpAnyH_take (i := 30) (oi := ⟨some 69, _, _, _, _, _⟩) (v := undef) rfl (by kernel_rfl) (by kernel_rfl) (by kernel_rfl) (fun _ _ _ h => h) (Or.inr ⟨by rfl, rfl⟩) (by assumption) ?_
                try simp only [Act.put, List.setIfInBounds_toArray, List.set_cons_zero, List.set_cons_succ]
                refine wpAnyH_take (i := 31) (oi := ⟨some 70, _, _, _, _, _⟩) (v := undef) rfl (by kernel_rfl) (by kernel_rfl) (by kernel_rfl) (fun _ _ _ h => h) (Or.inr ⟨by rfl, rfl⟩) (by assumption) ?_
                try simp only [Act.put, List.setIfInBounds_toArray, List.set_cons_zero, List.set_cons_succ]
                refine wpAnyH_take (i := 32) (oi := ⟨some 71, _, _, _, _, _⟩) (v := undef) rfl (by kernel_rfl) (by kernel_rfl) (by kernel_rfl) (fun _ _ _ h => h) (Or.inr ⟨by rfl, rfl⟩) (by assumption) ?_
                try simp only [Act.put, List.setIfInBounds_toArray, List.set_cons_zero, List.set_cons_succ]
                refine wpAnyH_take (i := 33) (oi := ⟨some 72, _, _, _, _, _⟩) (v := undef) rfl (by kernel_rfl) (by kernel_rfl) (by kernel_rfl) (fun _ _ _ h => h) (Or.inr ⟨by rfl, rfl⟩) (by assumption) ?_
                try simp only [Act.put, List.setIfInBounds_toArray, List.set_cons_zero, List.set_cons_succ]
                refine wpAnyH_take (i := 34) (oi := ⟨some 73, _, _, _, _, _⟩) (v := undef) rfl (by kernel_rfl) (by kernel_rfl) (by kernel_rfl) (fun _ _ _ h => h) (Or.inr ⟨by rfl, rfl⟩) (by assumption) ?_
                try simp only [Act.put, List.setIfInBounds_toArray, List.set_cons_zero, List.set_cons_succ]
                refine wpAnyH_take (i := 35) (oi := ⟨some 74, _, _, _, _, _⟩) (v := undef) rfl (by kernel_rfl) (by kernel_rfl) (by kernel_rfl) (fun _ _ _ h => h) (Or.inr ⟨by rfl, rfl⟩) (by assumption) ?_
                try simp only [Act.put, List.setIfInBounds_toArray, List.set_cons_zero, List.set_cons_succ]
                refine wpAnyH_take (i := 36) (oi := ⟨some 75, _, _, _, _, _⟩) (v := undef) rfl (by kernel_rfl) (by kernel_rfl) (by kernel_rfl) (fun _ _ _ h => h) (Or.inr ⟨by rfl, rfl⟩) (by assumption) ?_
                try simp only [Act.put, List.setIfInBounds_toArray, List.set_cons_zero, List.set_cons_succ]
                refine wpAnyH_take (i := 37) (oi := ⟨some 76, _, _, _, _, _⟩) (v := ?_) rfl (by kernel_rfl) (by kernel_rfl) (by kernel_rfl) (fun _ _ _ h => h) (Or.inl ⟨by rfl, ?_⟩) (by assumption) ?_
                rotate_left 1
                · (intro w hSw; (try dsimp only at hSw); go_simp; all_goals with_reducible rfl)
                try simp only [Act.put, List.setIfInBounds_toArray, List.set_cons_zero, List.set_cons_succ]
                refine wpAnyH_take (i := 38) (oi := ⟨some 77, _, _, _, _, _⟩) (v := ?_) rfl (by kernel_rfl) (by kernel_rfl) (by kernel_rfl) (fun _ _ _ h => h) (Or.inl ⟨by rfl, ?_⟩) (by assumption) ?_
                rotate_left 1
                · (intro w hSw; (try dsimp only at hSw); go_simp; all_goals with_reducible rfl)
                try simp only [Act.put, List.setIfInBounds_toArray, List.set_cons_zero, List.set_cons_succ]
                refine wpAnyH_done (by kernel_rfl) ?_ _
                clear z0 z2
                obtain ⟨w7, hw7⟩ : ∃ w7, w7 = V6.drew := ⟨_, rfl⟩
                have hHeld7 : Frm [] V6 w7 := by rw [hw7]; exact (Frm.refl _ _).drew
                rw [← hw7]
                have AT := Lib.hid (LnsAt.good RB.out.1 RB.out.2 LR.out BT.out)
                obtain ⟨yF, hyF⟩ : ∃ yF, yF = y4 := ⟨_, rfl⟩
                have S7 : Hid (StQ w7 qb B yF) := Lib.hid (by rw [hyF]; exact S6.out.keep hHeld7 (by simp) (by simp))
                rw [← hyF] at AT
                have W7 : Hid (LnOwn w7 w.heap.size 56 [qb] a' c' out) := Lib.hid (W6.out.keep hHeld7 (by simp) (fun x hx => .inl hx))
                have F7 : Hid (Frm [qb] w w7) := Lib.hid (F6.out.trans hHeld7 (fun x hx => hx) (by simp))
                have B7 := Lib.hid (hHeld7.whole BV6.out (by simp))
                clear hw7 hHeld7 hyF hHeld
                have x0 := B7.out.cell 0
                have x1 := B7.out.cell 1
                have x2 := B7.out.cell 2
                have x3 := B7.out.cell 3
                have x4 := B7.out.cell 4
                simp only [List.getElem?_toArray, List.getElem?_cons_zero, List.getElem?_cons_succ] at x0 x1 x2 x3 x4
                have OWN : Hid ((w7.alloc (.cells #[.string nm, .int .u64 (d : Nat), .int .u64 (d : Nat), .int .u64 (al : Nat), .int .u64 (ae : Nat)] 56)).ownsRow w.heap.size 56 5 (.slice a' i c') i (lnc out)) := Lib.hid (by
                  have := (W7.out.keep (S := []) (F' := []) ((Frm.refl [] w7).alloc (.cells #[.string nm, .int .u64 (d : Nat), .int .u64 (d : Nat), .int .u64 (al : Nat), .int .u64 (ae : Nat)] 56)) (by simp) (by simp)).own
                  rwa [← HL.out] at this)
                have ONE : Hid (ValsAt (w7.alloc (.cells #[.string nm, .int .u64 (d : Nat), .int .u64 (d : Nat), .int .u64 (al : Nat), .int .u64 (ae : Nat)] 56)) (some ⟨w7.heap.size, 0, none⟩) (lnc [⟨nm, d, d, al, ae⟩])) := Lib.hid (lncvals_one w7 ⟨nm, d, d, al, ae⟩ 56)
                have hbz : w.heap.size ≤ (w7.alloc (.cells #[.string nm, .int .u64 (d : Nat), .int .u64 (d : Nat), .int .u64 (al : Nat), .int .u64 (ae : Nat)] 56)).heap.size := by have := F7.out.size; simp; omega
                have hfit1 : i + 1 ≤ 1000000000 := by omega
                go_wp2_with (at_builtin; refine stop_intro ?_)
                unfold Stopped
                refine wpList_appS (by rfl) (.tmp 80) (.tmp 82) 39 rfl w.heap.size 56 i0 (.agg #[.string ⟨#[]⟩, .int .u64 0, .int .u64 0, .int .u64 0, .int .u64 0]) 5 48 Tryd.underlying39 HI.out HZ0.out rfl (by decide) HZ1.out HZ2.out (by decide) (.slice a' i c') i _ rfl OWN.out _ 1 1 _ rfl ONE.out rfl (lnc_one _) (fun h => by cases h) hfit1 hbz ?_
                intro a3 c3 w8 happ
                have AL := (Frm.refl [] w7).alloc (.cells #[.string nm, .int .u64 (d : Nat), .int .u64 (d : Nat), .int .u64 (al : Nat), .int .u64 (ae : Nat)] 56)
                have QW8 : ∀ x ∈ [qb], x < w.heap.size := fun x hx => by have := HO.out; simp at hx; omega
                obtain ⟨g1, g2, g3, g4⟩ := (W7.out.keep (S := []) (F' := [qb]) AL (by simp) (fun x hx => .inl hx)).app (Y := [⟨nm, d, d, al, ae⟩]) HL.out (by intro z hz; simp at hz; subst hz; exact ⟨D64.out, D64.out, A64.out, E64.out⟩) (m := 1) rfl (fun x hx => by have h1 := QW8 x hx; have h2 := F7.out.size; simp; omega) happ
                have W8 : Hid (LnOwn w8 w.heap.size 56 [qb] a3 c3 (out ++ [⟨nm, d, d, al, ae⟩])) := Lib.hid g1
                have L8 : Hid (i + 1 = (out ++ [(⟨nm, d, d, al, ae⟩ : Ln)]).length) := Lib.hid g4
                have S8 : Hid (StQ w8 qb B yF) := Lib.hid ((S7.out.keep AL (by simp) (by simp)).keep g2 (fun hm => by have := (W7.out.blk_lt _ hm).1; have := HO.out; omega) (fun x hx => by have := (W7.out.blk_lt x hx).1; have := HO.out; omega))
                have F8 : Hid (Frm [qb] w w8) := Lib.hid ((F7.out.trans AL (U := [qb]) (fun x hx => hx) (by simp)).trans g2 (fun x hx => hx) (fun x hx => .inr (W7.out.blk_lt x hx).1))
                have AT8 : Hid (LnsAt V (n - (i + 1)) (out ++ [⟨nm, d, d, al, ae⟩]) yF R) := Lib.hid (by rw [show n - (i + 1) = n - i - 1 by omega]; exact AT.out)
                clear happ g1 g2 g3 g4 AL hbz OWN ONE x0 x1 x2 x3 x4
                go_wp2
                go_roundw
                case rel => exact ⟨i + 1, a3, c3, _, yF, by omega, by rfl, by go_num, L8, W8, S8, F8, AT8⟩
                case measure => simp [intOf]; omega
    · have HE : Hid (Q (.returned (.slice a' i c')) wr) := Lib.hid (by
        rw [HQ.out]
        refine ⟨a', i, c', out, x, rfl, HL.out, HW.out, HS.out, HF.out, ?_⟩
        rcases HR.out with ⟨l, rfl, h1, _⟩ | ⟨c, rfl, h1⟩
        · have h0 : code = 0 := hc2.2 ⟨l, rfl⟩
          have h2 : n - i = 0 := by omega
          rw [h2] at h1
          exact .inl ⟨l, rfl, h1⟩
        · exact .inr ⟨c, rfl, h1⟩)
      by_cases hlt : i < n
      · have hlt' : (i : Int) < (n : Int) := by omega
        have hcn : ((code : Int) == 0) = false := by simp; omega
        clear hc2 hgo
        go_wp2
        exact HE.out
      · have hlt' : ¬ (i : Int) < (n : Int) := by omega
        clear hc2 hgo
        go_wp2
        exact HE.out
end Go.Proofs.YtahhkffghhgojaaDoor
