/- Contract of the document's Set: the right ranges of the numbers that are in some, and in none of others. -/
import Derived.Test.YtolmpmihchjmlaaRgREnds
namespace Go.Proofs.Ytolmpmihchjmlaa
open Go.RowKit

theorem fl_set (l : List Rg) : ∀ i, i < l.length → ∀ v : Nat, (fl l).set (i * 2 + 1) (.int .u64 (v : Nat)) = fl (l.set i ((l.getD i (0, 0)).1, v)) := by
  induction l with
  | nil => intro i hi; simp at hi
  | cons p l ih =>
    intro i hi v
    have e : fl (p :: l) = .int .u64 (p.1 : Nat) :: .int .u64 (p.2 : Nat) :: fl l := rfl
    rcases i with _ | i
    · rw [e]; rfl
    · have h1 : (i + 1) * 2 + 1 = i * 2 + 1 + 1 + 1 := by omega
      rw [h1, e, List.set_cons_succ, List.set_cons_succ, ih i (by simpa using hi) v]
      rfl
theorem OwnR.store {w : World} {base g cap : Nat} {l : List Rg} (h : OwnR w base (some ⟨g, 0, none⟩) cap l) {i : Nat} (hi : i < l.length) (v : Nat) :
    OwnR (w.setCell ⟨g, i * 2 + 1, none⟩ (.int .u64 (v : Nat))) base (some ⟨g, 0, none⟩) cap (l.set i ((l.getD i (0, 0)).1, v)) := by
  have hh : w.ownsRow base 51 2 (.slice (some ⟨g, 0, none⟩) l.length cap) l.length (fl l) := h
  have := (hh.stored (i * 2 + 1) (.int .u64 (v : Nat))).1
  rw [fl_set l i hi v] at this
  unfold OwnR
  rw [List.length_set]
  exact this
theorem OwnR.addr {w : World} {base cap : Nat} {a : Option Addr} {l : List Rg} (h : OwnR w base a cap l) (h0 : 0 < l.length) : ∃ g, a = some ⟨g, 0, none⟩ := by
  rcases h.2 with ⟨_, h1⟩ | ⟨g, cap', cur, hv, _⟩
  · omega
  · simp only [Value.slice.injEq] at hv
    exact ⟨g, hv.1⟩

def SRel2 (W : World) (l l' : List Rg) (c : List Nat) (v i : Value) (wr : World) : Prop :=
  ∃ (k m cap : Nat) (a : Option Addr) (out : List Rg), i = .int .i64 k ∧ v = .slice a m cap ∧ Hid (m = out.length) ∧ Hid (OwnR wr W.heap.size a cap out) ∧ Hid (SetTo l l' c k out) ∧ Hid (k < c.length ∨ (c = [] ∧ k = 0)) ∧ Hid (Frm [] W wr)

set_option maxRecDepth 100000 in
set_option maxHeartbeats 4000000 in
theorem set_any {w : World} {a a' : Option Addr} {l l' : List Rg} {n n' cap cap' : Nat} (h : Rr w a l) (hn : n = l.length) (hnil : a = none → cap = 0) (h' : Rr w a' l') (hn' : n' = l'.length) (hnil' : a' = none → cap' = 0) (hsz : n + n' ≤ 1000) :
    Calls Try.prog 34 #[.slice a n cap, .slice a' n' cap'] w (Got w (fun x => Mem l x ∧ ¬ Mem l' x) (2 * (n + n'))) := by
  obtain ⟨i0, hi0, hz0, hz1, hz2⟩ := info_parts Try.info51
  have HI0 := Lib.hid hi0; clear hi0
  have HZ0 := Lib.hid hz0; clear hz0
  have HZ1 := Lib.hid hz1; clear hz1
  have HZ2 := Lib.hid hz2; clear hz2
  have H := Lib.hid h; clear h
  have H' := Lib.hid h'; clear h'
  have HN := Lib.hid hn; clear hn
  have HN' := Lib.hid hn'; clear hn'
  have HL := Lib.hid hnil; clear hnil
  have HL' := Lib.hid hnil'; clear hnil'
  go_enter Try.func34, Try.ntmps34
  go_wp2_with (at_builtin; refine wpList_appR rfl (.tmp 9) (.tmp 10) 44 rfl w.heap.size 51 i0 Try.underlying44 HI0.out HZ0.out HZ1.out HZ2.out _ 0 (fl []) rfl ?own1 _ _ _ l rfl ?b1 HN.out HL.out ?fit1 ?base1 ?_)
  case own1 => exact World.ownsRow_lit w #[] 0 (Nat.le_refl _) (by unfold maxLen; omega) rfl
  case b1 => exact H.out.keep0 ((Frm.refl [] w).alloc _)
  case fit1 => omega
  case base1 => simp
  intro a1 c1 w1 happ
  have HF1 := Lib.hid (frm_app ((Frm.refl [] w).alloc _) happ (fun x hx => .inr (by cases hx; simp)))
  have HO1 := Lib.hid (own_app happ rfl HN.out)
  rw [List.nil_append] at HO1
  clear happ
  have hb1 : w.heap.size ≤ w1.heap.size := HF1.out.size
  go_wp2_with (at_builtin; refine wpList_appR rfl (.tmp 11) (.tmp 12) 44 rfl w.heap.size 51 i0 Try.underlying44 HI0.out HZ0.out HZ1.out HZ2.out _ n (fl l) rfl ?own2 _ _ _ l' rfl ?b2 HN'.out HL'.out ?fit2 hb1 ?_)
  case own2 => have h := HO1.out; unfold OwnR at h; rw [← HN.out] at h; exact h
  case b2 => exact H'.out.keep0 HF1.out
  case fit2 => omega
  intro a2 c2 w2 happ
  have HF2 := Lib.hid (frm_app HF1.out happ (fun x hx => .inr (HO1.out.lt x hx).1))
  have HO2 := Lib.hid (own_app happ HN.out HN'.out)
  clear happ hb1
  have EB : Hid (Bd (l ++ l')) := H.out.1 |> fun h => Bd.append h H'.out.1
  have ER := Lib.hid (rends_any (n := n + n') (cap := c2) (HO2.out.rr EB.out).1 (by rw [List.length_append, ← HN.out, ← HN'.out]) (by omega))
  go_wp2_with fail
  refine ER.out.mono ?_
  rintro e W ⟨ac, nc, cc, c, rfl, HNC, HUC, HSC, hlc, HF3⟩
  clear ER
  have EL : Hid (Ends l c) := fun p hp => ⟨(HSC.out.2 _).2 ⟨p, List.mem_append_left _ hp, .inl rfl⟩, (HSC.out.2 _).2 ⟨p, List.mem_append_left _ hp, .inr rfl⟩⟩
  have EL' : Hid (Ends l' c) := fun p hp => ⟨(HSC.out.2 _).2 ⟨p, List.mem_append_right _ hp, .inl rfl⟩, (HSC.out.2 _).2 ⟨p, List.mem_append_right _ hp, .inr rfl⟩⟩
  have HFW : Hid (Frm [] w W) := HF2.out.trans HF3.out (by simp) (by simp)
  have hnc : nc ≤ 2 * (n + n') := by have := HNC.out; omega
  clear hlc HF1 HO1 HF2 HO2 HF3
  go_wp2
  go_loopw [6, 7] (fun v i wr => SRel2 W l l' c v i wr) (fun _ i _ => nc - (intOf i).toNat)
  case atStart => exact ⟨0, 0, 0, none, [], rfl, rfl, rfl, OwnR.nil _ _, SetTo.zero HSC.out.1 EL.out, (by rcases Nat.eq_zero_or_pos c.length with h | h; exact .inr ⟨List.eq_nil_of_length_eq_zero h, rfl⟩; exact .inl h), (Frm.refl _ _ : Frm [] W W)⟩
  case round =>
    obtain ⟨k, m, cp, ak, out, rfl, rfl, HM, HO, HS, HK, HF⟩ := hrel
    have hkb : k ≤ nc := by have := HNC.out; rcases HK.out with h | h <;> omega
    have hmb : m ≤ k := by have := HM.out; have := HS.out.len; omega
    by_cases hlt : k + 1 < nc
    · have hlt' : (k : Int) + 1 < (nc : Int) := by omega
      have hltk : (k : Int) < (nc : Int) := by omega
      obtain ⟨bc, oc, rfl, hcc⟩ := HUC.out.1.2 (by have := HNC.out; omega)
      have dW0 := hcc k (by have := HNC.out; omega)
      have dW1 := hcc (k + 1) (by have := HNC.out; omega)
      have bk := u_bd HUC.out.1.1 k
      have bk1 := u_bd HUC.out.1.1 (k + 1)
      have HLT : Hid (k + 1 < c.length) := by show k + 1 < c.length; have := HNC.out; omega
      have HWF : Hid (Frm [] w wr) := HFW.out.trans HF.out (by simp) (by simp)
      clear hcc
      obtain ⟨ck, hck⟩ : ∃ ck, ck = c.getD k 0 := ⟨_, rfl⟩
      obtain ⟨cn, hcn⟩ : ∃ cn, cn = c.getD (k + 1) 0 := ⟨_, rfl⟩
      rw [← hck] at dW0 bk
      rw [← hcn] at dW1 bk1
      have CELLS : Hid (∀ w', Frm [] W w' → w'.cell? ⟨bc, oc + k, none⟩ = some (.int .u64 (ck : Nat)) ∧ w'.cell? ⟨bc, oc + (k + 1), none⟩ = some (.int .u64 (cn : Nat))) := fun w' hf => ⟨(hf.cell (p := ⟨bc, oc + k, none⟩) (block_lt_of_cell dW0) (by simp)).trans dW0, (hf.cell (p := ⟨bc, oc + (k + 1), none⟩) (block_lt_of_cell dW1) (by simp)).trans dW1⟩
      have d0 := (CELLS.out wr HF.out).1
      have d1 := (CELLS.out wr HF.out).2
      clear dW0 dW1
      have d1b := d1
      rw [← Nat.add_assoc] at d1b
      have CK := Lib.hid hck; clear hck
      have CN := Lib.hid hcn; clear hcn
      have IN1 := Lib.hid (in_any (x := ck) (cap := cap) (H.out.keep0 HWF.out) HN.out (by omega))
      have IN2 := Lib.hid (in_any (x := ck) (cap := cap') (H'.out.keep0 HWF.out) HN'.out (by omega))
      have hw1 : IntKind.i64.wrap ((k : Int) + 1) = (k : Int) + 1 := IntWalk.i64_in _ (by omega)
      by_cases m1 : Mem l ck
      · by_cases m2 : Mem l' ck
        · have NEXT : Hid (SRel2 W l l' c (.slice ak m cp) (.int .i64 ((k + 1 : Nat) : Int)) wr) := ⟨k + 1, m, cp, ak, out, rfl, rfl, HM, HO, HS.out.skip HSC.out.1 EL.out EL'.out HLT.out (.inr (by rw [← CK.out]; exact m2)), .inl HLT.out, HF⟩
          go_wp2_with fail
          refine IN1.out.mono ?_
          rintro e w' ⟨hbo, rfl⟩
          obtain ⟨rfl, _⟩ := hbo.yes m1
          clear hbo
          go_wp2_with fail
          refine IN2.out.mono ?_
          rintro e w' ⟨hbo, rfl⟩
          obtain ⟨rfl, _⟩ := hbo.yes m2
          clear hbo
          go_wp2
          go_roundw
          case rel => exact NEXT.out
          case measure => simp [intOf]; omega
        · have M1 : Hid (Mem l (c.getD k 0)) := by show Mem l (c.getD k 0); rw [← CK.out]; exact m1
          have M2 : Hid (¬ Mem l' (c.getD k 0)) := by show ¬ Mem l' (c.getD k 0); rw [← CK.out]; exact m2
          go_wp2_with fail
          refine IN1.out.mono ?_
          rintro e w' ⟨hbo, rfl⟩
          obtain ⟨rfl, _⟩ := hbo.yes m1
          clear hbo
          go_wp2_with fail
          refine IN2.out.mono ?_
          rintro e w' ⟨hbo, rfl⟩
          obtain ⟨rfl, _⟩ := hbo.no m2
          clear hbo m1 m2 IN1 IN2
          rcases Nat.eq_zero_or_pos m with hm0 | hm0
          · have k1 : decide (0 < m) = false := decide_eq_false (by omega)
            have k2 : decide ((0 : Int) < (m : Int)) = false := decide_eq_false (by omega)
            have GR := Lib.hid (HS.out.grow HSC.out.1 HUC.out.1.1 EL.out EL'.out HLT.out M1.out M2.out (.inl (by have := HM.out; omega)))
            clear hm0
            go_wp2
            go_quiet (fail)
            obtain ⟨W2, hW2⟩ : ∃ W2, W2 = wr.drewN nq := ⟨_, rfl⟩
            have f0 : W2.cell? ⟨bc, oc + k, none⟩ = some (.int .u64 (ck : Nat)) := by rw [hW2]; exact d0
            have f1 : W2.cell? ⟨bc, oc + (k + 1), none⟩ = some (.int .u64 (cn : Nat)) := by rw [hW2]; exact d1
            have HO2 : Hid (OwnR W2 W.heap.size ak cp out) := by rw [hW2]; exact HO.out
            have HF2 : Hid (Frm [] W W2) := by rw [hW2]; exact HF.out.drewN nq
            rw [← hW2]
            clear hW2 d0 d1 d1b
            go_wp2
            have z1 : (0 : Int) ≤ (k : Int) + 1 := by omega
            have z2 : ((k : Int) + 1).toNat = k + 1 := by omega
            have hb2 : W.heap.size ≤ W2.heap.size := HF2.out.size
            have OWN : Hid ((W2.alloc (.cells #[.int .u64 (ck : Nat), .int .u64 (cn : Nat)] 51)).drew.ownsRow W.heap.size 51 2 (.slice ak m cp) m (fl out)) := by
              have h := HO2.out
              unfold OwnR at h
              rw [← HM.out] at h
              exact own_drew (h.alloc _)
            have ONE : Hid (Rr (W2.alloc (.cells #[.int .u64 (ck : Nat), .int .u64 (cn : Nat)] 51)).drew (some ⟨W2.heap.size, 0, none⟩) [(ck, cn)]) := (one_rg (W := W2) (ck, cn) ⟨bk, bk1⟩).keep0 (Frm.drew1 _)
            go_region_held3 (fun w' => w'.cell? ⟨bc, oc + k, none⟩ = some (.int .u64 (ck : Nat)) ∧ w'.cell? ⟨bc, oc + (k + 1), none⟩ = some (.int .u64 (cn : Nat))) (first | go_keep | exact CELLS.out _ hf5) ((refine step_appR rfl (.tmp 64) (.tmp 75) 44 rfl W.heap.size 51 i0 Try.underlying44 HI0.out HZ0.out HZ1.out HZ2.out _ m (fl out) rfl OWN.out _ 1 1 [(ck, cn)] rfl ONE.out rfl (by intro h; cases h) (by omega) (by simp; omega) ?_; intro a5 c5 w5 happ; have hf5 : Frm [] W w5 := frm_app (HF2.out.alloc _).drew happ (fun x hx => .inr (HO2.out.lt x hx).1)))
            have NEXT : Hid (SRel2 W l l' c (.slice a5 (m + 1) c5) (.int .i64 ((k + 1 : Nat) : Int)) w5) := by
              refine ⟨k + 1, m + 1, c5, a5, out ++ [(ck, cn)], rfl, rfl, ?_, own_app happ HM.out rfl, ?_, .inl HLT.out, hf5⟩
              · show m + 1 = _; rw [List.length_append]; have := HM.out; simp; omega
              · have := GR.out
                rw [← CK.out, ← CN.out] at this
                exact this
            clear happ hb2 hf5
            go_wp2
            go_roundw
            case rel => exact NEXT.out
            case measure => simp [intOf]; omega
          · obtain ⟨g, rfl⟩ := HO.out.addr (by have := HM.out; omega)
            obtain ⟨j, hj⟩ : ∃ j, j = m - 1 := ⟨_, rfl⟩
            have hh : wr.ownsRow W.heap.size 51 2 (.slice (some ⟨g, 0, none⟩) out.length cp) out.length (fl out) := HO.out
            have e0 : wr.cell? ⟨g, j * 2 + 1, none⟩ = some (.int .u64 ((out.getD j (0, 0)).2 : Nat)) := by
              rw [hh.cellAt (j * 2 + 1) (by have := HM.out; omega)]
              exact (fl_at out j (by have := HM.out; omega)).2
            have e1 := hh.frozenAt (j * 2 + 1)
            have bj := getD_bd HS.out.bd j
            obtain ⟨y, hy⟩ : ∃ y, y = (out.getD j (0, 0)).2 := ⟨_, rfl⟩
            rw [← hy] at e0 bj
            have HY := Lib.hid hy; clear hy hh
            have hwj : IntKind.i64.wrap ((m : Int) - 1) = (j : Int) := by rw [IntWalk.i64_in _ (by omega)]; omega
            have hjm : (j : Int) < (m : Int) := by omega
            have HJ : Hid (j = out.length - 1) := by show j = _; have := HM.out; omega
            have k1 : decide (0 < m) = true := decide_eq_true (by omega)
            have k2 : decide ((0 : Int) < (m : Int)) = true := decide_eq_true (by omega)
            by_cases hyc : y = ck
            · have q1 : ((y : Int) == (ck : Int)) = true := by simp; omega
              have ST := Lib.hid (HS.out.stretch HSC.out.1 HUC.out.1.1 EL.out EL'.out HLT.out M1.out M2.out (by have := HM.out; omega) (by rw [← HJ.out, ← HY.out, ← CK.out]; exact hyc))
              have NEXT : Hid (∀ q, SRel2 W l l' c (.slice (some ⟨g, 0, none⟩) m cp) (.int .i64 ((k + 1 : Nat) : Int)) (((wr.drewN q).setCell ⟨g, j * 2 + 1, none⟩ (.int .u64 (cn : Nat))))) := by
                intro q
                refine ⟨k + 1, m, cp, some ⟨g, 0, none⟩, out.set j ((out.getD j (0, 0)).1, cn), rfl, rfl, ?_, OwnR.store (w := wr.drewN q) HO.out (i := j) (by have := HM.out; omega) cn, ?_, .inl HLT.out, ?_⟩
                · show m = _; rw [List.length_set]; exact HM.out
                · have := ST.out
                  rw [← HJ.out, ← CN.out] at this
                  exact this
                · exact (HF.out.drewN q).setCell (p := ⟨g, j * 2 + 1, none⟩) (.inr (HO.out.lt _ rfl).1) _
              clear hyc ST hj hm0
              go_wp2
              go_quiet (fail)
              go_wp2
              go_roundw
              case rel => exact NEXT.out nq
              case measure => simp [intOf]; omega
            · have q1 : ((y : Int) == (ck : Int)) = false := by simp; omega
              have GR := Lib.hid (HS.out.grow HSC.out.1 HUC.out.1.1 EL.out EL'.out HLT.out M1.out M2.out (.inr (by rw [← HJ.out, ← HY.out, ← CK.out]; exact hyc)))
              clear hyc hj hm0 bj
              go_wp2
              go_quiet (fail)
              clear e0 e1
              obtain ⟨W2, hW2⟩ : ∃ W2, W2 = wr.drewN nq := ⟨_, rfl⟩
              have f0 : W2.cell? ⟨bc, oc + k, none⟩ = some (.int .u64 (ck : Nat)) := by rw [hW2]; exact d0
              have f1 : W2.cell? ⟨bc, oc + (k + 1), none⟩ = some (.int .u64 (cn : Nat)) := by rw [hW2]; exact d1
              have HO2 : Hid (OwnR W2 W.heap.size (some ⟨g, 0, none⟩) cp out) := by rw [hW2]; exact HO.out
              have HF2 : Hid (Frm [] W W2) := by rw [hW2]; exact HF.out.drewN nq
              rw [← hW2]
              clear hW2 d0 d1 d1b
              go_wp2
              have z1 : (0 : Int) ≤ (k : Int) + 1 := by omega
              have z2 : ((k : Int) + 1).toNat = k + 1 := by omega
              have hb2 : W.heap.size ≤ W2.heap.size := HF2.out.size
              have OWN : Hid ((W2.alloc (.cells #[.int .u64 (ck : Nat), .int .u64 (cn : Nat)] 51)).drew.ownsRow W.heap.size 51 2 (.slice (some ⟨g, 0, none⟩) m cp) m (fl out)) := by
                have h := HO2.out
                unfold OwnR at h
                rw [← HM.out] at h
                exact own_drew (h.alloc _)
              have ONE : Hid (Rr (W2.alloc (.cells #[.int .u64 (ck : Nat), .int .u64 (cn : Nat)] 51)).drew (some ⟨W2.heap.size, 0, none⟩) [(ck, cn)]) := (one_rg (W := W2) (ck, cn) ⟨bk, bk1⟩).keep0 (Frm.drew1 _)
              go_region_held3 (fun w' => w'.cell? ⟨bc, oc + k, none⟩ = some (.int .u64 (ck : Nat)) ∧ w'.cell? ⟨bc, oc + (k + 1), none⟩ = some (.int .u64 (cn : Nat))) (first | go_keep | exact CELLS.out _ hf5) ((refine step_appR rfl (.tmp 64) (.tmp 75) 44 rfl W.heap.size 51 i0 Try.underlying44 HI0.out HZ0.out HZ1.out HZ2.out _ m (fl out) rfl OWN.out _ 1 1 [(ck, cn)] rfl ONE.out rfl (by intro h; cases h) (by omega) (by simp; omega) ?_; intro a5 c5 w5 happ; have hf5 : Frm [] W w5 := frm_app (HF2.out.alloc _).drew happ (fun x hx => .inr (HO2.out.lt x hx).1)))
              have NEXT : Hid (SRel2 W l l' c (.slice a5 (m + 1) c5) (.int .i64 ((k + 1 : Nat) : Int)) w5) := by
                refine ⟨k + 1, m + 1, c5, a5, out ++ [(ck, cn)], rfl, rfl, ?_, own_app happ HM.out rfl, ?_, .inl HLT.out, hf5⟩
                · show m + 1 = _; rw [List.length_append]; have := HM.out; simp; omega
                · have := GR.out
                  rw [← CK.out, ← CN.out] at this
                  exact this
              clear happ hb2 hf5
              go_wp2
              go_roundw
              case rel => exact NEXT.out
              case measure => simp [intOf]; omega
      · have NEXT : Hid (SRel2 W l l' c (.slice ak m cp) (.int .i64 ((k + 1 : Nat) : Int)) wr) := ⟨k + 1, m, cp, ak, out, rfl, rfl, HM, HO, HS.out.skip HSC.out.1 EL.out EL'.out HLT.out (.inl (by rw [← CK.out]; exact m1)), .inl HLT.out, HF⟩
        go_wp2_with fail
        refine IN1.out.mono ?_
        rintro e w' ⟨hbo, rfl⟩
        obtain ⟨rfl, _⟩ := hbo.no m1
        clear hbo
        go_wp2
        go_roundw
        case rel => exact NEXT.out
        case measure => simp [intOf]; omega
    · have hlt' : ¬ (k : Int) + 1 < (nc : Int) := by omega
      have FIN : Hid (Got w (fun x => Mem l x ∧ ¬ Mem l' x) (2 * (n + n')) (.returned (.slice ak m cp)) wr) :=
        ⟨out, retR_from HFW.out (RetR.of HM.out HO.out HF.out), HS.out.rt, HS.out.bd, HS.out.done HSC.out.1 EL.out (by have := HNC.out; omega) HK.out, by have := HM.out; omega⟩
      go_wp2
      go_ret
      exact FIN.out
end Go.Proofs.Ytolmpmihchjmlaa
