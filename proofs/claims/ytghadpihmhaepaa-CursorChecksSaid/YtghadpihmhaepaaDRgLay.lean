/- Contract of lay; what Join's loop keeps, as mathematics. -/
import Derived.Test.YtghadpihmhaepaaCC
import Derived.StillTailTactics
import Derived.Deep.DeepCutAuto
namespace Go.Proofs.Ytghadpihmhaepaa
open Go.RowKit

/-- What lay makes of right ranges and one that begins nowhere ahead of the last. -/
def layL (out : List Rg) (r : Rg) : List Rg :=
  if out.length ≤ 0 ∨ (out.getD (out.length - 1) (0, 0)).2 < r.1 then out ++ [r] else out.set (out.length - 1) ((out.getD (out.length - 1) (0, 0)).1, max (out.getD (out.length - 1) (0, 0)).2 r.2)
theorem lay_spec {out : List Rg} {r : Rg} (h : Rt out) (hb : Bd out) (hr : r.1 < r.2) (hrb : r.2 < 18446744073709551616) (hlo : ∀ q ∈ out, q.1 ≤ r.1) :
    Rt (layL out r) ∧ Bd (layL out r) ∧ (∀ x, Mem (layL out r) x ↔ Mem out x ∨ (r.1 ≤ x ∧ x < r.2)) ∧ (∀ q ∈ layL out r, q.1 ≤ r.1) ∧ (layL out r).length ≤ out.length + 1 := by
  unfold layL
  by_cases hc : out.length ≤ 0 ∨ (out.getD (out.length - 1) (0, 0)).2 < r.1
  · rw [if_pos hc]
    have hall : ∀ p ∈ out, p.2 < r.1 := by
      intro p hp
      obtain ⟨j, hj, rfl⟩ := List.getElem_of_mem hp
      have ej : out[j] = out.getD j (0, 0) := by simp [hj]
      rcases hc with hc | hc
      · omega
      · rw [ej]
        rcases Nat.lt_or_ge j (out.length - 1) with h6 | h6
        · have := rt_gap h h6 (by omega)
          have := rt_lt h (i := out.length - 1) (by omega)
          omega
        · rw [show j = out.length - 1 by omega]; exact hc
    refine ⟨?_, ?_, ?_, ?_, by simp⟩
    · rw [rt_append]
      exact ⟨h, (rt_cons _ _).2 ⟨hr, by simp, Rt.nil⟩, fun p hp q hq => by simp only [List.mem_singleton] at hq; subst hq; exact hall p hp⟩
    · exact hb.append (by intro p hp; simp only [List.mem_singleton] at hp; subst hp; exact ⟨by omega, hrb⟩)
    · intro x
      rw [mem_append, mem_cons]
      simp [Mem.nil]
    · intro q hq
      rcases List.mem_append.1 hq with hq | hq
      · exact hlo q hq
      · simp only [List.mem_singleton] at hq; subst hq; exact Nat.le_refl _
  · rw [if_neg hc]
    have h0 : 0 < out.length := by omega
    have es := split_last h0
    rw [set_last h0]
    have hc2 : r.1 ≤ (out.getD (out.length - 1) (0, 0)).2 := by omega
    obtain ⟨A, hA⟩ : ∃ A, A = out.take (out.length - 1) := ⟨_, rfl⟩
    obtain ⟨p, hp⟩ : ∃ p, p = out.getD (out.length - 1) (0, 0) := ⟨_, rfl⟩
    rw [← hA, ← hp] at es
    rw [← hp] at hc2
    rw [← hA, ← hp]
    clear hc hA hp
    subst es
    obtain ⟨r1, r2, r3⟩ := (rt_append A [p]).1 h
    have hp2 := ((rt_cons p []).1 r2).1
    have hpl := hlo p (by simp)
    have hpb := hb p (by simp)
    refine ⟨?_, ?_, ?_, ?_, by simp⟩
    · rw [rt_append]
      exact ⟨r1, (rt_cons _ _).2 ⟨by show p.1 < max p.2 r.2; omega, by simp, Rt.nil⟩, fun q hq s hs => by simp only [List.mem_singleton] at hs; subst hs; exact r3 q hq p (by simp)⟩
    · exact Bd.append (fun q hq => hb q (List.mem_append_left _ hq)) (by intro q hq; simp only [List.mem_singleton] at hq; subst hq; exact ⟨hpb.1, by show max p.2 r.2 < _; omega⟩)
    · intro x
      rw [mem_append, mem_append, mem_cons, mem_cons]
      simp only
      have := Mem.nil x
      constructor
      · rintro (h3 | h3 | h3)
        · exact .inl (.inl h3)
        · rcases Nat.lt_or_ge x p.2 with h5 | h5
          · exact .inl (.inr (.inl ⟨h3.1, h5⟩))
          · exact .inr ⟨by omega, by omega⟩
        · exact absurd h3 (Mem.nil x)
      · rintro ((h3 | h3 | h3) | h3)
        · exact .inl h3
        · exact .inr (.inl ⟨h3.1, by omega⟩)
        · exact absurd h3 (Mem.nil x)
        · exact .inr (.inl ⟨by omega, by omega⟩)
    · intro q hq
      rcases List.mem_append.1 hq with hq | hq
      · exact hlo q (List.mem_append_left _ hq)
      · simp only [List.mem_singleton] at hq; subst hq; exact hpl

/-- What Join's loop keeps: what is laid; what is left of both. -/
structure JTo (A B out la lb : List Rg) : Prop where
  rt : Rt out
  bd : Bd out
  ra : Rt la
  rb : Rt lb
  lo : ∀ q ∈ out, ∀ p, p ∈ la ∨ p ∈ lb → q.1 ≤ p.1
  mem : ∀ x, (Mem out x ∨ Mem la x ∨ Mem lb x) ↔ (Mem A x ∨ Mem B x)
  len : out.length + la.length + lb.length ≤ A.length + B.length
theorem JTo.start {A B : List Rg} (ha : Rt A) (hb : Rt B) : JTo A B [] A B :=
  ⟨Rt.nil, by intro p hp; simp at hp, ha, hb, by simp, fun x => ⟨fun h => h.elim (fun h => absurd h (Mem.nil x)) id, .inr⟩, by simp⟩
theorem JTo.step {A B out la lb : List Rg} (h : JTo A B out la lb) (h0 : 0 < la.length) (hb : (la.getD 0 (0, 0)).2 < 18446744073709551616) (hmin : 0 < lb.length → (la.getD 0 (0, 0)).1 ≤ (lb.getD 0 (0, 0)).1) : JTo A B (layL out (la.getD 0 (0, 0))) (la.drop 1) lb := by
  match la, h0 with
  | r :: t, _ =>
    have e : (r :: t).getD 0 (0, 0) = r := rfl
    rw [e] at hb hmin ⊢
    obtain ⟨a1, a2, a3⟩ := (rt_cons r t).1 h.ra
    obtain ⟨s1, s2, s3, s4, s5⟩ := lay_spec (r := r) h.rt h.bd a1 hb (fun q hq => h.lo q hq r (.inl (by simp)))
    refine ⟨s1, s2, a3, h.rb, ?_, ?_, ?_⟩
    · intro q hq p hp
      have := s4 q hq
      rcases hp with hp | hp
      · have := a2 p hp; omega
      · have hl : 0 < lb.length := List.length_pos_of_mem hp
        have h1 := hmin hl
        have h2 : (lb.getD 0 (0, 0)).1 ≤ p.1 := by
          obtain ⟨i, hi, rfl⟩ := List.getElem_of_mem hp
          have := (rt_le h.rb (Nat.zero_le i) hi).1
          simpa [hi] using this
        omega
    · intro x
      rw [← h.mem x, s3 x, mem_cons]
      simp only [List.drop_succ_cons, List.drop_zero]
      constructor
      · rintro ((h1 | h1) | h1 | h1)
        · exact .inl h1
        · exact .inr (.inl (.inl h1))
        · exact .inr (.inl (.inr h1))
        · exact .inr (.inr h1)
      · rintro (h1 | (h1 | h1) | h1)
        · exact .inl (.inl h1)
        · exact .inl (.inr h1)
        · exact .inr (.inl h1)
        · exact .inr (.inr h1)
    · have := h.len
      simp only [List.drop_succ_cons, List.drop_zero, List.length_cons] at this ⊢
      omega

/-- What lay hands back: the row of the call's own, laid on. -/
def LaidR (W : World) (l : List Rg) (e : Ending) (w' : World) : Prop := ∃ (a' : Option Addr) (m c' : Nat), e = .returned (.slice a' m c') ∧ Hid (m = l.length) ∧ Hid (OwnR w' W.heap.size a' c' l) ∧ Hid (Frm [] W w')

end Go.Proofs.Ytghadpihmhaepaa
