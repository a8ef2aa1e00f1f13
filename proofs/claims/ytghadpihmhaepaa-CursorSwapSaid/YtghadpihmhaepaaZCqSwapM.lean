/- Mathematics of two acks in either order. -/
import Derived.Test.YtghadpihmhaepaaZCqAk
import Derived.Test.YtghadpihmhaepaaZRgAddM
namespace Go.Proofs.Ytghadpihmhaepaa
open Go.RowKit

theorem gap_ex' {l : List Rg} (h : Rt l) (x : Nat) : ∃ g, GapOf l x g := by
  by_cases hm : Mem l x
  · obtain ⟨i, hi, h1, h2⟩ := (mem_iff_getD l x).1 hm
    exact ⟨_, gapOf_hi h hi h1 h2⟩
  · exact ⟨x, gapOf_self hm⟩
theorem gap_congr {l l' : List Rg} {x g : Nat} (h : ∀ m, x ≤ m → (Mem l m ↔ Mem l' m)) (k : GapOf l x g) : GapOf l' x g :=
  ⟨k.1, fun hm => k.2.1 ((h g k.1).2 hm), fun m h1 h2 => (h m h1).1 (k.2.2 m h1 h2)⟩
theorem step_congr {X : List Ld} {o : Nat} {H H' : List Hel} {a c d : Ps} (hc : ∀ l e, ¬ (Ps.mk l e).lt a → (Mem (ofH H l) e ↔ Mem (ofH H' l) e)) (hge : ¬ c.lt a) (h : Step X o H c d) : Step X o H' c d := by
  obtain ⟨p, hn, hm, hl, hg⟩ := h
  have h1 := nextP_ge hn
  have h2 : ∀ m, p.e ≤ m → ¬ (Ps.mk p.l m).lt a := fun m hm => by
    unfold Ps.lt at *
    simp only
    omega
  exact ⟨p, hn, (hc p.l p.e (h2 _ (Nat.le_refl _))).1 hm, hl, gap_congr (fun m hm => hc p.l m (h2 m hm)) hg⟩
theorem reach_congr {X : List Ld} {o : Nat} {H H' : List Hel} {a b : Ps} (hc : ∀ l e, ¬ (Ps.mk l e).lt a → (Mem (ofH H l) e ↔ Mem (ofH H' l) e)) (h : Reach X o H a b) : Reach X o H' a b := by
  induction h with
  | refl => exact .refl _
  | step h1 h2 ih => exact .step ih (step_congr hc (reach_ge h1) h2)
theorem stop_congr {X : List Ld} {o : Nat} {H H' : List Hel} {a b : Ps} (hc : ∀ l e, ¬ (Ps.mk l e).lt a → (Mem (ofH H l) e ↔ Mem (ofH H' l) e)) (hge : ¬ b.lt a) (h : Stop X o H b) : Stop X o H' b := fun p hn hm => by
  refine h p hn ((hc p.l p.e ?_).2 hm)
  have h1 := nextP_ge hn
  unfold Ps.lt at *
  simp only
  omega
/-- One more that is held. -/
def More (H : List Hel) (q : Ps) (HF : List Hel) : Prop := ∀ l e, Mem (ofH HF l) e ↔ Mem (ofH H l) e ∨ Ps.mk l e = q
theorem stage_one {X : List Ld} {o : Nat} {H1 HF : List Hel} {q : Ps} (hX : RtLd X) (hF : RgsH HF) (hm : More H1 q HF) (hq : q ∈ allP X o) (hn : ¬ Mem (ofH H1 q.l) q.e) {m a : Ps} (h : Reach X o H1 m a) :
    Reach X o HF m a ∨ (a = q ∧ ∃ g, GapOf (ofH HF q.l) q.e g ∧ Reach X o HF m ⟨q.l, g⟩) := by
  have rt : Rt (ofH HF q.l) := by
    rcases ofH_find HF q.l with h0 | ⟨x, hx, _, h0⟩
    · rw [h0]; exact Rt.nil
    · rw [h0]; exact (hF x hx).2
  induction h with
  | refl => exact .inl (.refl _)
  | step h1 h2 ih =>
    rename_i c d
    obtain ⟨p, hp, hpm, hl, hg⟩ := h2
    rcases ih with h3 | ⟨rfl, _⟩
    · have hpF : Mem (ofH HF p.l) p.e := (hm p.l p.e).2 (.inl hpm)
      by_cases hd : d = q
      · refine .inr ⟨hd, ?_⟩
        subst hd
        obtain ⟨g, hgg⟩ := gap_ex' rt d.e
        refine ⟨g, hgg, .step h3 ⟨p, hp, hpF, hl, ?_⟩⟩
        simp only
        rw [← hl]
        refine ⟨Nat.le_trans hg.1 hgg.1, hgg.2.1, fun k h4 h5 => ?_⟩
        by_cases h6 : k < d.e
        · refine (hm d.l k).2 (.inl ?_)
          rw [hl]
          exact hg.2.2 k h4 h6
        · exact hgg.2.2 k (by omega) h5
      · refine .inl (.step h3 ⟨p, hp, hpF, hl, hg.1, fun hx => ?_, fun k h4 h5 => (hm p.l k).2 (.inl (hg.2.2 k h4 h5))⟩)
        rcases (hm p.l d.e).1 hx with h4 | h4
        · exact hg.2.1 h4
        · exact hd (by rw [← h4, ← hl])
    · have h4 := (hasP_mem hX).2 hq
      unfold hasP at h4
      rw [decide_eq_true_iff] at h4
      rw [h4] at hp
      cases hp
      exact absurd hpm hn
theorem two_stage {X : List Ld} {o : Nat} {H1 H2 HF : List Hel} {q m M1 M2 : Ps} (hX : RtLd X) (hF : RgsH HF) (hm : More H1 q HF) (hq : q ∈ allP X o) (hn : ¬ Mem (ofH H1 q.l) q.e) (h1 : Reach X o H1 m M1) (h2 : ∀ l e, Mem (ofH H2 l) e ↔ (Mem (ofH H1 l) e ∧ ¬ (Ps.mk l e).lt M1) ∨ Ps.mk l e = q) (hr : Reach X o H2 M1 M2) (hs : Stop X o H2 M2) : Reach X o HF m M2 ∧ Stop X o HF M2 := by
  have hc : ∀ l e, ¬ (Ps.mk l e).lt M1 → (Mem (ofH H2 l) e ↔ Mem (ofH HF l) e) := fun l e h => by
    rw [h2, hm]
    exact ⟨fun h3 => h3.imp (fun h => h.1) id, fun h3 => h3.imp (fun h4 => ⟨h4, h⟩) id⟩
  have r2 := reach_congr hc hr
  have s2 := stop_congr hc (reach_ge hr) hs
  refine ⟨?_, s2⟩
  rcases stage_one hX hF hm hq hn h1 with h3 | ⟨rfl, g, hg, h3⟩
  · exact reach_trans h3 r2
  · have h4 := (hasP_mem hX).2 hq
    unfold hasP at h4
    rw [decide_eq_true_iff] at h4
    have st : Step X o HF M1 ⟨M1.l, g⟩ := ⟨M1, h4, (hm _ _).2 (.inr rfl), rfl, hg⟩
    exact reach_trans h3 (step_on r2 s2 st)
/-- What two acks come to, one behind the other. -/
theorem ack_two {X : List Ld} {o : Nat} {c A B : Crs} {p q : Ps} {HF : List Hel} (hX : RtLd X) (hc : OkC c) (hF : RgsH HF) (hq : q ∈ allP X o) (hpq : p ≠ q) (hnq : ¬ ackedC c q) (hm : ∀ l e, Mem (ofH HF l) e ↔ Mem (ofH c.held l) e ∨ Ps.mk l e = p ∨ Ps.mk l e = q) (h1 : AckTo X o c p A) (h2 : AckTo X o A q B) : Reach X o HF c.mark B.mark ∧ Stop X o HF B.mark ∧ Srt B.held ∧ RgsH B.held ∧ ∀ l e, Mem (ofH B.held l) e ↔ Mem (ofH HF l) e ∧ ¬ (Ps.mk l e).lt B.mark := by
  have okB := h2.ok (h1.ok hc)
  obtain ⟨H1, a1, r1, s1, e1⟩ := h1
  obtain ⟨H2, a2, r2, s2, e2⟩ := h2
  have ok1 := a1.ok hc.srt hc.rgs
  have m1 : More H1 q HF := fun l e => by
    rw [hm, show Mem (ofH H1 l) e ↔ _ from a1.mem ⟨l, e⟩]
    exact (or_assoc).symm
  have hn : ¬ Mem (ofH H1 q.l) q.e := fun h => by
    rcases (a1.mem q).1 h with h | h
    · exact hnq (.inr h)
    · exact hpq h.symm
  have m2 : ∀ l e, Mem (ofH H2 l) e ↔ (Mem (ofH H1 l) e ∧ ¬ (Ps.mk l e).lt A.mark) ∨ Ps.mk l e = q := fun l e => by
    rw [show Mem (ofH H2 l) e ↔ _ from a2.mem ⟨l, e⟩]
    simp only
    rw [e1, ofH_leftH ok1.1, mem_leftT]
  obtain ⟨t1, t2⟩ := two_stage hX hF m1 hq hn r1 m2 r2 s2
  refine ⟨t1, t2, okB.srt, okB.rgs, fun l e => ?_⟩
  have ok2 := a2.ok (by rw [e1]; exact srt_leftH ok1.1) (by
    have := (okc_left (M := A.mark) ok1.1 ok1.2).rgs
    rw [e1]; exact this)
  rw [e2, ofH_leftH ok2.1, mem_leftT, m2, m1]
  have hge := reach_ge r2
  refine ⟨fun h => ⟨h.1.imp (fun h => h.1) id, h.2⟩, fun h => ⟨h.1.imp (fun h3 => ⟨h3, fun h4 => h.2 ?_⟩) id, h.2⟩⟩
  unfold Ps.lt at *
  simp only at *
  omega
theorem ack_swap {X : List Ld} {o : Nat} {c A A2 B B2 : Crs} {p q : Ps} (hX : RtLd X) (hc : OkC c) (hp : p ∈ allP X o) (hq : q ∈ allP X o) (hpq : p ≠ q) (hnp : ¬ ackedC c p) (hnq : ¬ ackedC c q) (h1 : AckTo X o c p A) (h2 : AckTo X o A q A2) (k1 : AckTo X o c q B) (k2 : AckTo X o B p B2) : A2 = B2 := by
  have h1' := h1
  obtain ⟨H1, a1, _, _, _⟩ := h1'
  have ok1 := a1.ok hc.srt hc.rgs
  -- both are held
  obtain ⟨HF, hF, hm⟩ : ∃ HF, RgsH HF ∧ ∀ l e, Mem (ofH HF l) e ↔ Mem (ofH c.held l) e ∨ Ps.mk l e = p ∨ Ps.mk l e = q := by
    obtain ⟨R, hr1, hr2⟩ : ∃ R : List Rg, Rt R ∧ ∀ x, Mem R x ↔ Mem (ofH H1 q.l) x ∨ x = q.e := by
      have rt : Rt (ofH H1 q.l) := by
        rcases ofH_find H1 q.l with h0 | ⟨x, hx, _, h0⟩
        · rw [h0]; exact Rt.nil
        · rw [h0]; exact (ok1.2 x hx).2
      obtain ⟨S, hs1, hs2⟩ := rt_add rt q.e
      exact ⟨S, hs1, hs2⟩
    have ad : ∀ l e, Mem (ofH (holdH q.l R H1) l) e ↔ Mem (ofH H1 l) e ∨ Ps.mk l e = q := fun l e => by
      rw [ofH_holdH]
      by_cases hl : l = q.l
      · rw [if_pos hl, hr2, hl]
        exact ⟨fun h => h.imp id (fun h => Ps.ext' rfl h), fun h => h.imp id (fun h => by rw [← h])⟩
      · rw [if_neg hl]
        exact ⟨.inl, fun h => h.elim id (fun h => absurd (by rw [← h]) hl)⟩
    refine ⟨holdH q.l R H1, fun x hx => ?_, fun l e => ?_⟩
    · rcases mem_holdH hx with ⟨rfl, hne⟩ | hm
      · exact ⟨hne, hr1⟩
      · exact ok1.2 x hm
    · rw [ad, show Mem (ofH H1 l) e ↔ _ from a1.mem ⟨l, e⟩, or_assoc]
  obtain ⟨r1, s1, b1, c1, d1⟩ := ack_two hX hc hF hq hpq hnq hm h1 h2
  obtain ⟨r2, s2, b2, c2, d2⟩ := ack_two hX hc hF hp (Ne.symm hpq) hnp (fun l e => by rw [hm]; exact ⟨fun h => h.imp id Or.symm, fun h => h.imp id Or.symm⟩) k1 k2
  have em := reach_uniq r1 s1 r2 s2
  refine crs_ext em (srt_ext b1 b2 (fun h hh => (c1 h hh).1) (fun h hh => (c2 h hh).1) (fun l => ?_))
  have rt : ∀ {H : List Hel}, RgsH H → Rt (ofH H l) := fun {H} h => by
    rcases ofH_find H l with h0 | ⟨x, hx, _, h0⟩
    · rw [h0]; exact Rt.nil
    · rw [h0]; exact (h x hx).2
  refine rt_uniq (rt c1) (rt c2) (fun e => ?_)
  rw [d1, d2, em]
end Go.Proofs.Ytghadpihmhaepaa
