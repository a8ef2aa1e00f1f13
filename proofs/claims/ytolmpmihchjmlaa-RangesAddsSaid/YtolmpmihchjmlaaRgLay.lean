/- Contract of lay; what Join's loop keeps, as mathematics. -/
import Derived.Test.YtolmpmihchjmlaaRgSet
import Derived.StillTailTactics
import Derived.Deep.DeepCutAuto
namespace Go.Proofs.Ytolmpmihchjmlaa
open Go.RowKit

/-- What lay makes of right ranges and one that begins nowhere ahead of the last. -/
def layL (out : List Rg) (r : Rg) : List Rg :=
  if out.length ≤ 0 ∨ (out.getD (out.length - 1) (0, 0)).2 < r.1 then out ++ [r] else out.set (out.length - 1) ((out.getD (out.length - 1) (0, 0)).1, max (out.getD (out.length - 1) (0, 0)).2 r.2)
theorem lay_spec {out : List Rg} {r : Rg} (h : Rt out) (hb : Bd out) (hr : r.1 < r.2) (hrb : r.2 < 18446744073709551616) (hlo : ∀ q ∈ out, q.1 ≤ r.1) :
    Rt (layL out r) ∧ Bd (layL out r) ∧ (∀ x, Mem (layL out r) x ↔ Mem out x ∨ (r.1 ≤ x ∧ x < r.2)) ∧ (∀ q ∈ layL out r, q.1 ≤ r.1) ∧ (layL out r).length ≤ out.length + 1 := by
  unfold layL
  by_cases hc : out.length ≤ 0 ∨ (out.getD (out.length - 1) (0, 0)).2 < r.1
  · rw [if_pos hc]
    have hall : ∀ p ∈ out, p.2 < r.1 := by
      intro p hp
      obtain ⟨j, hj, rfl⟩ := List.getElem_of_mem hp
      have ej : out[j] = out.getD j (0, 0) := by simp [hj]
      rcases hc with hc | hc
      · omega
      · rw [ej]
        rcases Nat.lt_or_ge j (out.length - 1) with h6 | h6
        · have := rt_gap h h6 (by omega)
          have := rt_lt h (i := out.length - 1) (by omega)
          omega
        · rw [show j = out.length - 1 by omega]; exact hc
    refine ⟨?_, ?_, ?_, ?_, by simp⟩
    · rw [rt_append]
      exact ⟨h, (rt_cons _ _).2 ⟨hr, by simp, Rt.nil⟩, fun p hp q hq => by simp only [List.mem_singleton] at hq; subst hq; exact hall p hp⟩
    · exact hb.append (by intro p hp; simp only [List.mem_singleton] at hp; subst hp; exact ⟨by omega, hrb⟩)
    · intro x
      rw [mem_append, mem_cons]
      simp [Mem.nil]
    · intro q hq
      rcases List.mem_append.1 hq with hq | hq
      · exact hlo q hq
      · simp only [List.mem_singleton] at hq; subst hq; exact Nat.le_refl _
  · rw [if_neg hc]
    have h0 : 0 < out.length := by omega
    have es := split_last h0
    rw [set_last h0]
    have hc2 : r.1 ≤ (out.getD (out.length - 1) (0, 0)).2 := by omega
    obtain ⟨A, hA⟩ : ∃ A, A = out.take (out.length - 1) := ⟨_, rfl⟩
    obtain ⟨p, hp⟩ : ∃ p, p = out.getD (out.length - 1) (0, 0) := ⟨_, rfl⟩
    rw [← hA, ← hp] at es
    rw [← hp] at hc2
    rw [← hA, ← hp]
    clear hc hA hp
    subst es
    obtain ⟨r1, r2, r3⟩ := (rt_append A [p]).1 h
    have hp2 := ((rt_cons p []).1 r2).1
    have hpl := hlo p (by simp)
    have hpb := hb p (by simp)
    refine ⟨?_, ?_, ?_, ?_, by simp⟩
    · rw [rt_append]
      exact ⟨r1, (rt_cons _ _).2 ⟨by show p.1 < max p.2 r.2; omega, by simp, Rt.nil⟩, fun q hq s hs => by simp only [List.mem_singleton] at hs; subst hs; exact r3 q hq p (by simp)⟩
    · exact Bd.append (fun q hq => hb q (List.mem_append_left _ hq)) (by intro q hq; simp only [List.mem_singleton] at hq; subst hq; exact ⟨hpb.1, by show max p.2 r.2 < _; omega⟩)
    · intro x
      rw [mem_append, mem_append, mem_cons, mem_cons]
      simp only
      have := Mem.nil x
      constructor
      · rintro (h3 | h3 | h3)
        · exact .inl (.inl h3)
        · rcases Nat.lt_or_ge x p.2 with h5 | h5
          · exact .inl (.inr (.inl ⟨h3.1, h5⟩))
          · exact .inr ⟨by omega, by omega⟩
        · exact absurd h3 (Mem.nil x)
      · rintro ((h3 | h3 | h3) | h3)
        · exact .inl h3
        · exact .inr (.inl ⟨h3.1, by omega⟩)
        · exact absurd h3 (Mem.nil x)
        · exact .inr (.inl ⟨by omega, by omega⟩)
    · intro q hq
      rcases List.mem_append.1 hq with hq | hq
      · exact hlo q (List.mem_append_left _ hq)
      · simp only [List.mem_singleton] at hq; subst hq; exact hpl

/-- What Join's loop keeps: what is laid; what is left of both. -/
structure JTo (A B out la lb : List Rg) : Prop where
  rt : Rt out
  bd : Bd out
  ra : Rt la
  rb : Rt lb
  lo : ∀ q ∈ out, ∀ p, p ∈ la ∨ p ∈ lb → q.1 ≤ p.1
  mem : ∀ x, (Mem out x ∨ Mem la x ∨ Mem lb x) ↔ (Mem A x ∨ Mem B x)
  len : out.length + la.length + lb.length ≤ A.length + B.length
theorem JTo.start {A B : List Rg} (ha : Rt A) (hb : Rt B) : JTo A B [] A B :=
  ⟨Rt.nil, by intro p hp; simp at hp, ha, hb, by simp, fun x => ⟨fun h => h.elim (fun h => absurd h (Mem.nil x)) id, .inr⟩, by simp⟩
theorem JTo.swap {A B out la lb : List Rg} (h : JTo A B out la lb) : JTo A B out lb la :=
  ⟨h.rt, h.bd, h.rb, h.ra, fun q hq p hp => h.lo q hq p hp.symm, fun x => by rw [← h.mem x]; constructor <;> (rintro (h1 | h1 | h1) <;> simp [h1]), by have := h.len; omega⟩
theorem JTo.step {A B out la lb : List Rg} (h : JTo A B out la lb) (h0 : 0 < la.length) (hb : (la.getD 0 (0, 0)).2 < 18446744073709551616) (hmin : 0 < lb.length → (la.getD 0 (0, 0)).1 ≤ (lb.getD 0 (0, 0)).1) : JTo A B (layL out (la.getD 0 (0, 0))) (la.drop 1) lb := by
  match la, h0 with
  | r :: t, _ =>
    have e : (r :: t).getD 0 (0, 0) = r := rfl
    rw [e] at hb hmin ⊢
    obtain ⟨a1, a2, a3⟩ := (rt_cons r t).1 h.ra
    obtain ⟨s1, s2, s3, s4, s5⟩ := lay_spec (r := r) h.rt h.bd a1 hb (fun q hq => h.lo q hq r (.inl (by simp)))
    refine ⟨s1, s2, a3, h.rb, ?_, ?_, ?_⟩
    · intro q hq p hp
      have := s4 q hq
      rcases hp with hp | hp
      · have := a2 p hp; omega
      · have hl : 0 < lb.length := List.length_pos_of_mem hp
        have h1 := hmin hl
        have h2 : (lb.getD 0 (0, 0)).1 ≤ p.1 := by
          obtain ⟨i, hi, rfl⟩ := List.getElem_of_mem hp
          have := (rt_le h.rb (Nat.zero_le i) hi).1
          simpa [hi] using this
        omega
    · intro x
      rw [← h.mem x, s3 x, mem_cons]
      simp only [List.drop_succ_cons, List.drop_zero]
      constructor
      · rintro ((h1 | h1) | h1 | h1)
        · exact .inl h1
        · exact .inr (.inl (.inl h1))
        · exact .inr (.inl (.inr h1))
        · exact .inr (.inr h1)
      · rintro (h1 | (h1 | h1) | h1)
        · exact .inl (.inl h1)
        · exact .inl (.inr h1)
        · exact .inr (.inl h1)
        · exact .inr (.inr h1)
    · have := h.len
      simp only [List.drop_succ_cons, List.drop_zero, List.length_cons] at this ⊢
      omega

/-- What lay hands back: the row of the call's own, laid on. -/
def LaidR (W : World) (l : List Rg) (e : Ending) (w' : World) : Prop := ∃ (a' : Option Addr) (m c' : Nat), e = .returned (.slice a' m c') ∧ Hid (m = l.length) ∧ Hid (OwnR w' W.heap.size a' c' l) ∧ Hid (Frm [] W w')

set_option maxRecDepth 100000 in
set_option maxHeartbeats 2000000 in
theorem lay_any {W w : World} (hf : Frm [] W w) {a : Option Addr} {m cap : Nat} {out : List Rg} (ho : OwnR w W.heap.size a cap out) (hm : m = out.length) (hb : Bd out) (hsz : m ≤ 10000) {r1 r2 : Nat} (h1 : r1 < 18446744073709551616) (h2 : r2 < 18446744073709551616) :
    Calls Try.prog 61 #[.slice a m cap, .agg #[.int .u64 r1, .int .u64 r2]] w (LaidR W (layL out (r1, r2))) := by
  obtain ⟨i0, hi0, hz0, hz1, hz2⟩ := info_parts Try.info51
  have HI0 := Lib.hid hi0; clear hi0
  have HZ0 := Lib.hid hz0; clear hz0
  have HZ1 := Lib.hid hz1; clear hz1
  have HZ2 := Lib.hid hz2; clear hz2
  obtain ⟨W0, hW0⟩ : ∃ W0, W0 = w.alloc (.cells #[.int .u64 r1, .int .u64 r2] 51) := ⟨_, rfl⟩
  obtain ⟨g3, hg3⟩ : ∃ g3, g3 = w.heap.size := ⟨_, rfl⟩
  have h3 : Whole W0 g3 51 #[.int .u64 r1, .int .u64 r2] := by rw [hW0, hg3]; exact Whole.made _ _ _
  have HF : Hid (Frm [] W W0) := by rw [hW0]; exact hf.alloc _
  have HO : Hid (OwnR W0 W.heap.size a cap out) := by rw [hW0]; exact ho.keep ((Frm.refl [] w).alloc _) (by simp)
  have HG : Hid (∀ x, a = some x → x.block ≠ g3) := fun x hx => by have := (ho.lt x hx).2; omega
  have HG3 := Lib.hid hg3
  have HW0 := Lib.hid hW0
  have hgW : W.heap.size ≤ g3 := by have := hf.size; omega
  clear hg3 hW0 ho hf
  have HM := Lib.hid hm; clear hm
  have HB := Lib.hid hb; clear hb
  have k0 := h3.cell 0
  have k1 := h3.cell 1
  simp only [List.getElem?_toArray] at k0 k1
  have H3 := Lib.hid h3; clear h3
  have hwm : IntKind.i64.wrap ((m : Int) - 1) = (m : Int) - 1 := IntWalk.i64_in _ (by omega)
  rcases Nat.eq_zero_or_pos m with hm0 | hm0
  · subst hm0
    have EL : Hid (layL out (r1, r2) = out ++ [(r1, r2)]) := if_pos (.inl (by have := HM.out; omega))
    clear hwm
    go_enter Try.func61, Try.ntmps61
    go_upto_region 2 with (fail)
    rw [← HW0.out, ← HG3.out]
    go_quiet (fail)
    obtain ⟨W2, hW2⟩ : ∃ W2, W2 = W0.drewN nq := ⟨_, rfl⟩
    have f0 : W2.cell? ⟨g3, 0, none⟩ = some (.int .u64 (r1 : Nat)) := by rw [hW2]; exact k0
    have f1 : W2.cell? ⟨g3, 1, none⟩ = some (.int .u64 (r2 : Nat)) := by rw [hW2]; exact k1
    have HO2 : Hid (OwnR W2 W.heap.size a cap out) := by rw [hW2]; exact HO.out
    have HF2 : Hid (Frm [] W W2) := by rw [hW2]; exact HF.out.drewN nq
    rw [← hW2]
    clear hW2 k0 k1
    have hb2 : W.heap.size ≤ W2.heap.size := HF2.out.size
    go_wp2_with (at_builtin; refine wpList_appR rfl (.tmp 21) (.tmp 23) 44 rfl W.heap.size 51 i0 Try.underlying44 HI0.out HZ0.out HZ1.out HZ2.out _ 0 (fl out) rfl ?own1 _ 1 1 [(r1, r2)] rfl ?b1 rfl (by intro h; cases h) ?fit1 ?base1 ?_)
    case own1 => rw [HM.out]; exact HO2.out.keep ((Frm.refl [] W2).alloc _) (by simp)
    case b1 => exact one_rg (r1, r2) ⟨h1, h2⟩
    case fit1 => omega
    case base1 => first | exact (HF2.out.alloc _).size | omega
    intro a5 c5 w5 happ
    have FIN : Hid (LaidR W (layL out (r1, r2)) (.returned (.slice a5 1 c5)) w5) := by
      rw [EL.out]
      refine ⟨a5, 1, c5, rfl, ?_, own_app happ HM.out rfl, frm_app (HF2.out.alloc _) happ (fun x hx => .inr (HO2.out.lt x hx).1)⟩
      show 1 = _; rw [List.length_append]; have := HM.out; show _ = out.length + 1; omega
    clear happ hb2
    go_wp2
    go_ret
    exact FIN.out
  · obtain ⟨g, rfl⟩ := HO.out.addr (by have := HM.out; omega)
    obtain ⟨j, hj⟩ : ∃ j, j = m - 1 := ⟨_, rfl⟩
    have hh : W0.ownsRow W.heap.size 51 2 (.slice (some ⟨g, 0, none⟩) out.length cap) out.length (fl out) := HO.out
    have e0 : W0.cell? ⟨g, j * 2 + 1, none⟩ = some (.int .u64 ((out.getD j (0, 0)).2 : Nat)) := by
      rw [hh.cellAt (j * 2 + 1) (by have := HM.out; omega)]
      exact (fl_at out j (by have := HM.out; omega)).2
    have e1 := hh.frozenAt (j * 2 + 1)
    have bj := getD_bd HB.out j
    obtain ⟨y, hy⟩ : ∃ y, y = (out.getD j (0, 0)).2 := ⟨_, rfl⟩
    rw [← hy] at e0 bj
    have HY := Lib.hid hy; clear hy hh
    have hjw : (m : Int) - 1 = (j : Int) := by omega
    have hjm : (j : Int) < (m : Int) := by omega
    have HJ : Hid (j = out.length - 1) := by show j = _; have := HM.out; omega
    have hneg2 : decide ((j : Int) < 0) = false := decide_eq_false (by omega)
    have hneg3 : ¬ (j : Int) < 0 := by omega
    clear hj
    by_cases hc : y < r1
    · have hc2 : (y : Int) < (r1 : Int) := by omega
      have EL : Hid (layL out (r1, r2) = out ++ [(r1, r2)]) := if_pos (.inr (by rw [← HJ.out, ← HY.out]; exact hc))
      go_enter Try.func61, Try.ntmps61
      go_upto_region 2 with (fail)
      rw [← HW0.out, ← HG3.out]
      go_quiet (fail)
      clear e0 e1
      obtain ⟨W2, hW2⟩ : ∃ W2, W2 = W0.drewN nq := ⟨_, rfl⟩
      have f0 : W2.cell? ⟨g3, 0, none⟩ = some (.int .u64 (r1 : Nat)) := by rw [hW2]; exact k0
      have f1 : W2.cell? ⟨g3, 1, none⟩ = some (.int .u64 (r2 : Nat)) := by rw [hW2]; exact k1
      have HO2 : Hid (OwnR W2 W.heap.size (some ⟨g, 0, none⟩) cap out) := by rw [hW2]; exact HO.out
      have HF2 : Hid (Frm [] W W2) := by rw [hW2]; exact HF.out.drewN nq
      rw [← hW2]
      clear hW2 k0 k1
      have hb2 : W.heap.size ≤ W2.heap.size := HF2.out.size
      go_wp2_with (at_builtin; refine wpList_appR rfl (.tmp 21) (.tmp 23) 44 rfl W.heap.size 51 i0 Try.underlying44 HI0.out HZ0.out HZ1.out HZ2.out _ m (fl out) rfl ?own1 _ 1 1 [(r1, r2)] rfl ?b1 rfl (by intro h; cases h) ?fit1 ?base1 ?_)
      case own1 => rw [HM.out]; exact HO2.out.keep ((Frm.refl [] W2).alloc _) (by simp)
      case b1 => exact one_rg (r1, r2) ⟨h1, h2⟩
      case fit1 => omega
      case base1 => first | exact (HF2.out.alloc _).size | omega
      intro a5 c5 w5 happ
      have FIN : Hid (LaidR W (layL out (r1, r2)) (.returned (.slice a5 (m + 1) c5)) w5) := by
        rw [EL.out]
        refine ⟨a5, m + 1, c5, rfl, ?_, own_app happ HM.out rfl, frm_app (HF2.out.alloc _) happ (fun x hx => .inr (HO2.out.lt x hx).1)⟩
        show m + 1 = _; rw [List.length_append]; have := HM.out; show _ = out.length + 1; omega
      clear happ hb2
      go_wp2
      go_ret
      exact FIN.out
    · have hc2 : ¬ (y : Int) < (r1 : Int) := by omega
      have EL : Hid (layL out (r1, r2) = out.set j ((out.getD j (0, 0)).1, max y r2)) := by
        show layL out (r1, r2) = _
        unfold layL
        rw [← HJ.out, ← HY.out, if_neg (by have := HM.out; omega)]
      obtain ⟨m2, hm2⟩ : ∃ m2, m2 = max y r2 := ⟨_, rfl⟩
      rw [← hm2] at EL
      have i2 : max (y : Int) (r2 : Int) = (m2 : Int) := by omega
      clear hm2 hc
      go_enter Try.func61, Try.ntmps61
      go_upto_region 2 with (fail)
      rw [← HW0.out, ← HG3.out]
      go_quiet (fail)
      obtain ⟨W2, hW2⟩ : ∃ W2, W2 = W0.drewN nq := ⟨_, rfl⟩
      have f0 : W2.cell? ⟨g3, 0, none⟩ = some (.int .u64 (r1 : Nat)) := by rw [hW2]; exact k0
      have f1 : W2.cell? ⟨g3, 1, none⟩ = some (.int .u64 (r2 : Nat)) := by rw [hW2]; exact k1
      have f2 : W2.cell? ⟨g, j * 2 + 1, none⟩ = some (.int .u64 (y : Nat)) := by rw [hW2]; exact e0
      have f3 : W2.frozen? ⟨g, j * 2 + 1, none⟩ = false := by rw [hW2]; exact e1
      have HO2 : Hid (OwnR W2 W.heap.size (some ⟨g, 0, none⟩) cap out) := by rw [hW2]; exact HO.out
      have HF2 : Hid (Frm [] W W2) := by rw [hW2]; exact HF.out.drewN nq
      rw [← hW2]
      clear hW2 k0 k1 e0 e1
      go_wp2
      go_still_tail 12, (by kernel_rfl)
      change wpList _ _ _ _ _ W2.drew
      have FIN : Hid (LaidR W (layL out (r1, r2)) (.returned (.slice (some ⟨g, 0, none⟩) m cap)) ((W2.setCell ⟨g, j * 2 + 1, none⟩ (.int .u64 (m2 : Nat))).drew)) := by
        rw [EL.out]
        refine ⟨some ⟨g, 0, none⟩, m, cap, rfl, ?_, own_drew (HO2.out.store (i := j) (by have := HM.out; omega) m2), (HF2.out.setCell (p := ⟨g, j * 2 + 1, none⟩) (.inr (HO2.out.lt _ rfl).1) _).drew⟩
        show m = _; rw [List.length_set]; exact HM.out
      go_wp2
      go_ret
      exact FIN.out
end Go.Proofs.Ytolmpmihchjmlaa
