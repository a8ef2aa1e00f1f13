/- Contract of Join. -/
import Derived.Test.YtolmpmihchjmlaaRgLay
import Derived.Deep.LoopGhost
namespace Go.Proofs.Ytolmpmihchjmlaa
open Go.RowKit

def JRel (W : World) (A B : List Rg) (kx : Nat) (v0 v1 v5 : Value) (wr : World) : Prop :=
  ∃ (aa ab ao : Option Addr) (na nb m ca cb co : Nat) (la lb out : List Rg), v0 = .slice aa na ca ∧ v1 = .slice ab nb cb ∧ v5 = .slice ao m co ∧
    Hid (na = la.length) ∧ Hid (nb = lb.length) ∧ Hid (m = out.length) ∧ Hid (∀ w', Frm [] W w' → SlIn w' ⟨aa, ca, la⟩) ∧ Hid (∀ w', Frm [] W w' → SlIn w' ⟨ab, cb, lb⟩) ∧
    Hid (OwnR wr W.heap.size ao co out) ∧ Hid (JTo A B out la lb) ∧ Hid (Frm [] W wr) ∧ na + nb ≤ kx

theorem lft_cut {W : World} {a : Option Addr} {c : Nat} {l : List Rg} (h : ∀ w', Frm [] W w' → SlIn w' ⟨a, c, l⟩) (h0 : 0 < l.length) : ∀ w', Frm [] W w' → SlIn w' ⟨cutR a c 1, c - 1, l.drop 1⟩ := fun w' hf => by
  obtain ⟨h1, h2, h3, h4⟩ := h w' hf
  have h3' : l.length ≤ c := h3
  have h4' : c ≤ 9223372036854775807 := h4
  refine ⟨h1.cut h3' 1, fun hn => ?_, ?_, ?_⟩
  · exact cutR_none h2 hn
  · show (l.drop 1).length ≤ c - 1
    rw [List.length_drop]; omega
  · show c - 1 ≤ _; omega

set_option maxRecDepth 100000 in
set_option maxHeartbeats 8000000 in
theorem join_any {w : World} {a b : Option Addr} {A B : List Rg} {n n' cap cap' : Nat} (h : SlIn w ⟨a, cap, A⟩) (hn : n = A.length) (h' : SlIn w ⟨b, cap', B⟩) (hn' : n' = B.length) (hra : Rt A) (hrb : Rt B) (hsz : n + n' ≤ 1000) :
    Calls Try.prog 35 #[.slice a n cap, .slice b n' cap'] w (Got w (fun x => Mem A x ∨ Mem B x) (n + n')) := by
  obtain ⟨i0, hi0, hz0, hz1, hz2⟩ := info_parts Try.info51
  have hmk : ∀ W : World, (Instr.makeSlice 44 (.int .i64 0) (.int .i64 ((n : Int) + (n' : Int)))).run Try.prog W = .ok (.slice (some ⟨W.heap.size, 0, none⟩) 0 (n + n')) (W.alloc (.cells (madeCells #[.int .u64 0, .int .u64 0] ((n + n') * 2)) 51)) := by
    intro W
    have hb : (i0.bytes : Int) * ((n + n' : Nat) : Int) ≤ 281474976710656 := by rw [hz2]; omega
    have hr := run_make (P := Try.prog) W 44 51 i0 (.agg #[.int .u64 0, .int .u64 0]) Try.underlying44 hi0 hz0 .i64 .i64 0 ((n + n' : Nat) : Int) (by omega) (by omega) hb (by omega)
    simp only [Int.toNat_natCast, hz1] at hr
    rw [Int.natCast_add] at hr
    exact hr
  have hsum : IntKind.i64.wrap ((n : Int) + (n' : Int)) = (n : Int) + (n' : Int) := IntWalk.i64_in _ (by omega)
  have HA := Lib.hid h; clear h
  have HB := Lib.hid h'; clear h'
  have HN := Lib.hid hn; clear hn
  have HN' := Lib.hid hn'; clear hn'
  have HRA := Lib.hid hra; clear hra
  have HRB := Lib.hid hrb; clear hrb
  have HOM : Hid (OwnR (w.alloc (.cells (madeCells #[.int .u64 0, .int .u64 0] ((n + n') * 2)) 51)) w.heap.size (some ⟨w.heap.size, 0, none⟩) (n + n') []) :=
    World.ownsRow_made w _ (n + n') (Nat.le_refl _) (by unfold maxLen; omega) (by rw [size_madeCells])
  have HFM : Hid (Frm [] w (w.alloc (.cells (madeCells #[.int .u64 0, .int .u64 0] ((n + n') * 2)) 51))) := (Frm.refl _ _).alloc _
  clear hi0 hz0 hz1 hz2
  go_enter Try.func35, Try.ntmps35
  go_wp2
  go_loopg [0, 1, 5] (n + n') (fun kx v0 v1 v5 wr => JRel w A B kx v0 v1 v5 wr)
  case atStart => exact ⟨a, b, _, n, n', 0, cap, cap', _, A, B, [], rfl, rfl, rfl, HN, HN', rfl, fun w' hf => HA.out.keep hf, fun w' hf => HB.out.keep hf, HOM.out, JTo.start HRA.out HRB.out, HFM, Nat.le_refl _⟩
  case round =>
    obtain ⟨aa, ab, ao, na, nb, m, ca, cb, co, la, lb, out, rfl, rfl, rfl, HNA, HNB, HM, HLA, HLB, HO, HJ, HF, hkx⟩ := hrel
    have hml : m + na + nb ≤ 1000 := by have := HJ.out.len; have := HM.out; have := HNA.out; have := HNB.out; have := HN.out; have := HN'.out; omega
    clear hmk hsum
    rcases Nat.eq_zero_or_pos na with ha0 | ha0
    · subst ha0
      rcases Nat.eq_zero_or_pos nb with hb0 | hb0
      · subst hb0
        have FIN : Hid (Got w (fun x => Mem A x ∨ Mem B x) (n + n') (.returned (.slice ao m co)) wr) := by
          have e1 : la = [] := List.eq_nil_of_length_eq_zero HNA.out.symm
          have e2 : lb = [] := List.eq_nil_of_length_eq_zero HNB.out.symm
          refine ⟨out, RetR.of HM.out HO.out HF.out, HJ.out.rt, HJ.out.bd, fun x => ?_, by have := HJ.out.len; have := HN.out; have := HN'.out; omega⟩
          show Mem out x ↔ (Mem A x ∨ Mem B x)
          rw [← HJ.out.mem x, e1, e2]
          constructor
          · exact .inl
          · rintro (h | h | h)
            · exact h
            · exact absurd h (Mem.nil x)
            · exact absurd h (Mem.nil x)
        go_wp2
        go_ret
        exact FIN.out
      · have k1 : decide (0 < nb) = true := decide_eq_true hb0
        have k2 : decide ((0 : Int) < (nb : Int)) = true := decide_eq_true (by omega)
        obtain ⟨bb, ob, rfl, hcX⟩ := (HLB.out wr HF.out).1.2 (by have := HNB.out; show 0 < lb.length; omega)
        have e0 := (hcX 0 (by have := HNB.out; show 0 < lb.length; omega)).1
        have e1 := (hcX 0 (by have := HNB.out; show 0 < lb.length; omega)).2
        rw [Nat.zero_mul, Nat.add_zero] at e0 e1
        clear hcX
        have STEP := Lib.hid (HJ.out.swap.step (by have := HNB.out; omega) (getD_bd (HLB.out wr HF.out).1.1 0).2 (by intro h; have := HNA.out; omega))
        have LAY := Lib.hid (fun q => lay_any (W := w) (w := wr.drewN q) (HF.out.drewN q) (a := ao) (cap := co) (out := out) HO.out HM.out HJ.out.bd (by omega) (getD_bd (HLB.out wr HF.out).1.1 0).1 (getD_bd (HLB.out wr HF.out).1.1 0).2)
        have LC := Lib.hid (lft_cut HLB.out (by have := HNB.out; omega))
        have LN : Hid (nb - 1 = (lb.drop 1).length) := by show nb - 1 = _; rw [List.length_drop]; have := HNB.out; omega
        have cB := fun W => run_cutR_l W (some ⟨bb, ob, none⟩) nb cb 1 1 rfl (by omega)
        obtain ⟨aC, haC⟩ : ∃ aC, aC = cutR (some ⟨bb, ob, none⟩) cb 1 := ⟨_, rfl⟩
        obtain ⟨nC, hnC⟩ : ∃ nC, nC = nb - 1 := ⟨_, rfl⟩
        obtain ⟨cC, hcC⟩ : ∃ cC, cC = cb - 1 := ⟨_, rfl⟩
        rw [← haC, ← hnC, ← hcC] at cB
        rw [← haC, ← hcC] at LC
        rw [← hnC] at LN
        obtain ⟨hd, hhd⟩ : ∃ hd, hd = lb.getD 0 (0, 0) := ⟨_, rfl⟩
        rw [← hhd] at STEP LAY e0 e1
        clear haC hcC hhd
        obtain ⟨x0, y0⟩ := hd
        simp only at e0 e1 LAY
        have hnC2 : nC < nb := by omega
        have NN := Lib.hid hnC; clear hnC
        go_wp2
        go_quiet (fail)
        go_wp2_with fail
        refine (LAY.out nq).mono ?_
        rintro e w5 ⟨a5, m5, c5, rfl, hm5, ho5, hf5⟩
        have NEXT : Hid (JRel w A B (nC + 0) (.slice aC nC cC) (.slice aa 0 ca) (.slice a5 m5 c5) w5) :=
          ⟨aC, aa, a5, nC, 0, m5, cC, ca, c5, _, _, _, rfl, rfl, rfl, LN, HNA, hm5, LC.out, HLA, ho5, STEP.out, hf5, Nat.le_refl _⟩
        clear hm5 ho5 hf5 STEP LAY LC LN e0 e1
        go_wp2
        go_roundg (nC + 0)
        case measure => omega
        case rel => exact NEXT.out
    · have k0 : ((na : Int) == 0) = false := by simp; omega
      have k1 : decide (0 < na) = true := decide_eq_true ha0
      have k2 : decide ((0 : Int) < (na : Int)) = true := decide_eq_true (by omega)
      rcases Nat.eq_zero_or_pos nb with hb0 | hb0
      · subst hb0
        obtain ⟨ba, oa, rfl, hcX⟩ := (HLA.out wr HF.out).1.2 (by have := HNA.out; show 0 < la.length; omega)
        have e0 := (hcX 0 (by have := HNA.out; show 0 < la.length; omega)).1
        have e1 := (hcX 0 (by have := HNA.out; show 0 < la.length; omega)).2
        rw [Nat.zero_mul, Nat.add_zero] at e0 e1
        clear hcX
        have STEP := Lib.hid (HJ.out.step (by have := HNA.out; omega) (getD_bd (HLA.out wr HF.out).1.1 0).2 (by intro h; have := HNB.out; omega))
        have LAY := Lib.hid (fun q => lay_any (W := w) (w := wr.drewN q) (HF.out.drewN q) (a := ao) (cap := co) (out := out) HO.out HM.out HJ.out.bd (by omega) (getD_bd (HLA.out wr HF.out).1.1 0).1 (getD_bd (HLA.out wr HF.out).1.1 0).2)
        have LC := Lib.hid (lft_cut HLA.out (by have := HNA.out; omega))
        have LN : Hid (na - 1 = (la.drop 1).length) := by show na - 1 = _; rw [List.length_drop]; have := HNA.out; omega
        have cB := fun W => run_cutR_l W (some ⟨ba, oa, none⟩) na ca 1 1 rfl (by omega)
        obtain ⟨aC, haC⟩ : ∃ aC, aC = cutR (some ⟨ba, oa, none⟩) ca 1 := ⟨_, rfl⟩
        obtain ⟨nC, hnC⟩ : ∃ nC, nC = na - 1 := ⟨_, rfl⟩
        obtain ⟨cC, hcC⟩ : ∃ cC, cC = ca - 1 := ⟨_, rfl⟩
        rw [← haC, ← hnC, ← hcC] at cB
        rw [← haC, ← hcC] at LC
        rw [← hnC] at LN
        obtain ⟨hd, hhd⟩ : ∃ hd, hd = la.getD 0 (0, 0) := ⟨_, rfl⟩
        rw [← hhd] at STEP LAY e0 e1
        clear haC hcC hhd
        obtain ⟨x0, y0⟩ := hd
        simp only at e0 e1 LAY
        have hnC2 : nC < na := by omega
        have NN := Lib.hid hnC; clear hnC
        go_wp2
        go_quiet (fail)
        go_wp2_with fail
        refine (LAY.out nq).mono ?_
        rintro e w5 ⟨a5, m5, c5, rfl, hm5, ho5, hf5⟩
        have NEXT : Hid (JRel w A B (nC + 0) (.slice aC nC cC) (.slice ab 0 cb) (.slice a5 m5 c5) w5) :=
          ⟨aC, ab, a5, nC, 0, m5, cC, cb, c5, _, _, _, rfl, rfl, rfl, LN, HNB, hm5, LC.out, HLB, ho5, STEP.out, hf5, Nat.le_refl _⟩
        clear hm5 ho5 hf5 STEP LAY LC LN e0 e1
        go_wp2
        go_roundg (nC + 0)
        case measure => omega
        case rel => exact NEXT.out
      · have k3 : decide (0 < nb) = true := decide_eq_true hb0
        have k4 : decide ((0 : Int) < (nb : Int)) = true := decide_eq_true (by omega)
        have z1 : (0 : Int) < (na : Int) := by omega
        have z2 : (0 : Int) < (nb : Int) := by omega
        obtain ⟨ba, oa, rfl, hcX⟩ := (HLA.out wr HF.out).1.2 (by have := HNA.out; show 0 < la.length; omega)
        have e0 := (hcX 0 (by have := HNA.out; show 0 < la.length; omega)).1
        have e1 := (hcX 0 (by have := HNA.out; show 0 < la.length; omega)).2
        rw [Nat.zero_mul, Nat.add_zero] at e0 e1
        clear hcX
        obtain ⟨bb, ob, rfl, hcX⟩ := (HLB.out wr HF.out).1.2 (by have := HNB.out; show 0 < lb.length; omega)
        have u0 := (hcX 0 (by have := HNB.out; show 0 < lb.length; omega)).1
        have u1 := (hcX 0 (by have := HNB.out; show 0 < lb.length; omega)).2
        rw [Nat.zero_mul, Nat.add_zero] at u0 u1
        clear hcX
        by_cases hcmp : (lb.getD 0 (0, 0)).1 < (la.getD 0 (0, 0)).1
        · have q3 : (((lb.getD 0 (0, 0)).1 : Nat) : Int) < (((la.getD 0 (0, 0)).1 : Nat) : Int) := by omega
          obtain ⟨xa, hxa⟩ : ∃ xa, xa = (la.getD 0 (0, 0)).1 := ⟨_, rfl⟩
          have hmin : 0 < la.length → (lb.getD 0 (0, 0)).1 ≤ (la.getD 0 (0, 0)).1 := fun _ => by omega
          have HMN := Lib.hid hmin
          rw [← hxa] at e0 q3
          clear hmin e1 hxa hcmp
          have STEP := Lib.hid (HJ.out.swap.step (by have := HNB.out; omega) (getD_bd (HLB.out wr HF.out).1.1 0).2 HMN.out)
          have LAY := Lib.hid (fun q => lay_any (W := w) (w := wr.drewN q) (HF.out.drewN q) (a := ao) (cap := co) (out := out) HO.out HM.out HJ.out.bd (by omega) (getD_bd (HLB.out wr HF.out).1.1 0).1 (getD_bd (HLB.out wr HF.out).1.1 0).2)
          have LC := Lib.hid (lft_cut HLB.out (by have := HNB.out; omega))
          have LN : Hid (nb - 1 = (lb.drop 1).length) := by show nb - 1 = _; rw [List.length_drop]; have := HNB.out; omega
          have cB := fun W => run_cutR_l W (some ⟨bb, ob, none⟩) nb cb 1 1 rfl (by omega)
          obtain ⟨aC, haC⟩ : ∃ aC, aC = cutR (some ⟨bb, ob, none⟩) cb 1 := ⟨_, rfl⟩
          obtain ⟨nC, hnC⟩ : ∃ nC, nC = nb - 1 := ⟨_, rfl⟩
          obtain ⟨cC, hcC⟩ : ∃ cC, cC = cb - 1 := ⟨_, rfl⟩
          rw [← haC, ← hnC, ← hcC] at cB
          rw [← haC, ← hcC] at LC
          rw [← hnC] at LN
          obtain ⟨hd, hhd⟩ : ∃ hd, hd = lb.getD 0 (0, 0) := ⟨_, rfl⟩
          rw [← hhd] at STEP LAY u0 u1 q3
          clear haC hcC hhd
          obtain ⟨x0, y0⟩ := hd
          simp only at u0 u1 LAY q3
          have hnC2 : nC < nb := by omega
          have NN := Lib.hid hnC; clear hnC
          go_wp2
          go_quiet (fail)
          go_wp2_with fail
          refine (LAY.out nq).mono ?_
          rintro e w5 ⟨a5, m5, c5, rfl, hm5, ho5, hf5⟩
          have NEXT : Hid (JRel w A B (nC + na) (.slice aC nC cC) (.slice (some ⟨ba, oa, none⟩) na ca) (.slice a5 m5 c5) w5) :=
            ⟨aC, (some ⟨ba, oa, none⟩), a5, nC, na, m5, cC, ca, c5, _, _, _, rfl, rfl, rfl, LN, HNA, hm5, LC.out, HLA, ho5, STEP.out, hf5, Nat.le_refl _⟩
          clear hm5 ho5 hf5 STEP LAY LC LN u0 u1 e0 q3
          go_wp2
          go_roundg (nC + na)
          case measure => omega
          case rel => exact NEXT.out
        · have q3 : ¬ (((lb.getD 0 (0, 0)).1 : Nat) : Int) < (((la.getD 0 (0, 0)).1 : Nat) : Int) := by omega
          obtain ⟨xb, hxb⟩ : ∃ xb, xb = (lb.getD 0 (0, 0)).1 := ⟨_, rfl⟩
          have hmin : 0 < lb.length → (la.getD 0 (0, 0)).1 ≤ (lb.getD 0 (0, 0)).1 := fun _ => by omega
          have HMN := Lib.hid hmin
          rw [← hxb] at u0 q3
          clear hmin u1 hxb hcmp
          have STEP := Lib.hid (HJ.out.step (by have := HNA.out; omega) (getD_bd (HLA.out wr HF.out).1.1 0).2 HMN.out)
          have LAY := Lib.hid (fun q => lay_any (W := w) (w := wr.drewN q) (HF.out.drewN q) (a := ao) (cap := co) (out := out) HO.out HM.out HJ.out.bd (by omega) (getD_bd (HLA.out wr HF.out).1.1 0).1 (getD_bd (HLA.out wr HF.out).1.1 0).2)
          have LC := Lib.hid (lft_cut HLA.out (by have := HNA.out; omega))
          have LN : Hid (na - 1 = (la.drop 1).length) := by show na - 1 = _; rw [List.length_drop]; have := HNA.out; omega
          have cB := fun W => run_cutR_l W (some ⟨ba, oa, none⟩) na ca 1 1 rfl (by omega)
          obtain ⟨aC, haC⟩ : ∃ aC, aC = cutR (some ⟨ba, oa, none⟩) ca 1 := ⟨_, rfl⟩
          obtain ⟨nC, hnC⟩ : ∃ nC, nC = na - 1 := ⟨_, rfl⟩
          obtain ⟨cC, hcC⟩ : ∃ cC, cC = ca - 1 := ⟨_, rfl⟩
          rw [← haC, ← hnC, ← hcC] at cB
          rw [← haC, ← hcC] at LC
          rw [← hnC] at LN
          obtain ⟨hd, hhd⟩ : ∃ hd, hd = la.getD 0 (0, 0) := ⟨_, rfl⟩
          rw [← hhd] at STEP LAY e0 e1 q3
          clear haC hcC hhd
          obtain ⟨x0, y0⟩ := hd
          simp only at e0 e1 LAY q3
          have hnC2 : nC < na := by omega
          have NN := Lib.hid hnC; clear hnC
          go_wp2
          go_quiet (fail)
          go_wp2_with fail
          refine (LAY.out nq).mono ?_
          rintro e w5 ⟨a5, m5, c5, rfl, hm5, ho5, hf5⟩
          have NEXT : Hid (JRel w A B (nC + nb) (.slice aC nC cC) (.slice (some ⟨bb, ob, none⟩) nb cb) (.slice a5 m5 c5) w5) :=
            ⟨aC, (some ⟨bb, ob, none⟩), a5, nC, nb, m5, cC, cb, c5, _, _, _, rfl, rfl, rfl, LN, HNB, hm5, LC.out, HLB, ho5, STEP.out, hf5, Nat.le_refl _⟩
          clear hm5 ho5 hf5 STEP LAY LC LN u0 e0 e1 q3
          go_wp2
          go_roundg (nC + nb)
          case measure => omega
          case rel => exact NEXT.out
end Go.Proofs.Ytolmpmihchjmlaa
