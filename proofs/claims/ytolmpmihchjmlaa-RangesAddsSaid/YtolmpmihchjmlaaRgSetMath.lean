/- Plain mathematics behind the document's Set: a number more in a rising list; what holds between two numbers of the list of all ends. They speak of no program. -/
import Derived.Test.YtolmpmihchjmlaaRgMath
namespace Go.Proofs.Ytolmpmihchjmlaa

/-- A rising list. -/
def Up (l : List Nat) : Prop := l.Pairwise (· < ·)
theorem up_at {l : List Nat} (h : Up l) {i j : Nat} (hij : i < j) (hj : j < l.length) : l.getD i 0 < l.getD j 0 := by
  have hi : i < l.length := by omega
  have e : l.getD i 0 = l[i] := by simp [hi]
  have e' : l.getD j 0 = l[j] := by simp [hj]
  rw [e, e']; exact List.pairwise_iff_getElem.1 h i j hi hj hij
theorem up_mem {l : List Nat} {x : Nat} (h : x ∈ l) : ∃ i, i < l.length ∧ l.getD i 0 = x := by
  obtain ⟨i, hi, rfl⟩ := List.getElem_of_mem h
  exact ⟨i, hi, by simp [hi]⟩
theorem mem_getD {l : List Nat} {i : Nat} (hi : i < l.length) : l.getD i 0 ∈ l := by
  have e : l.getD i 0 = l[i] := by simp [hi]
  rw [e]; exact List.getElem_mem hi
theorem mem_take_at {l : List Nat} {k x : Nat} (h : x ∈ l.take k) : ∃ i, i < k ∧ i < l.length ∧ l.getD i 0 = x := by
  obtain ⟨i, hi, rfl⟩ := List.getElem_of_mem h
  have hi' : i < k ∧ i < l.length := by rw [List.length_take] at hi; omega
  exact ⟨i, hi'.1, hi'.2, by simp [hi'.2]⟩
theorem mem_drop_at {l : List Nat} {k x : Nat} (h : x ∈ l.drop k) : ∃ i, k ≤ i ∧ i < l.length ∧ l.getD i 0 = x := by
  obtain ⟨i, hi, rfl⟩ := List.getElem_of_mem h
  have hi' : k + i < l.length := by rw [List.length_drop] at hi; omega
  exact ⟨k + i, by omega, hi', by simp [hi']⟩
theorem up_put {l : List Nat} (h : Up l) {n k : Nat} (_hk : k ≤ l.length) (h1 : ∀ i, i < k → l.getD i 0 < n) (h2 : k < l.length → n < l.getD k 0) :
    Up (l.take k ++ ([n] ++ l.drop k)) ∧ ∀ x, x ∈ l.take k ++ ([n] ++ l.drop k) ↔ x ∈ l ∨ x = n := by
  have hd : ∀ x ∈ l.drop k, n < x := by
    intro x hx
    obtain ⟨i, hi, hil, rfl⟩ := mem_drop_at hx
    have := h2 (by omega)
    rcases Nat.lt_or_eq_of_le hi with h3 | rfl
    · have := up_at h h3 hil; omega
    · exact this
  have ht : ∀ x ∈ l.take k, x < n := by
    intro x hx
    obtain ⟨i, hi, hil, rfl⟩ := mem_take_at hx
    exact h1 i hi
  constructor
  · unfold Up
    rw [List.pairwise_append]
    refine ⟨h.sublist (List.take_sublist _ _), ?_, ?_⟩
    · rw [List.singleton_append, List.pairwise_cons]
      exact ⟨hd, h.sublist (List.drop_sublist _ _)⟩
    · intro x hx y hy
      rcases List.mem_append.1 hy with hy | hy
      · simp only [List.mem_singleton] at hy
        subst hy; exact ht x hx
      · have := ht x hx; have := hd y hy; omega
  · intro x
    have e : x ∈ l ↔ x ∈ l.take k ∨ x ∈ l.drop k := by rw [← List.mem_append, List.take_append_drop]
    rw [e]
    simp only [List.mem_append, List.mem_singleton]
    constructor
    · rintro (h | h | h)
      · exact .inl (.inl h)
      · exact .inr h
      · exact .inl (.inr h)
    · rintro ((h | h) | h)
      · exact .inl h
      · exact .inr (.inr h)
      · exact .inr (.inl h)

/-- All ends of some are in c. -/
def Ends (l : List Rg) (c : List Nat) : Prop := ∀ p ∈ l, p.1 ∈ c ∧ p.2 ∈ c
theorem same_between {l : List Rg} {c : List Nat} (hc : Up c) (he : Ends l c) {i x : Nat} (hi : i + 1 < c.length) (h1 : c.getD i 0 ≤ x) (h2 : x < c.getD (i + 1) 0) : Mem l x ↔ Mem l (c.getD i 0) := by
  have key : ∀ y ∈ c, (y ≤ x ↔ y ≤ c.getD i 0) := by
    intro y hy
    obtain ⟨j, hj, rfl⟩ := up_mem hy
    constructor
    · intro h3
      rcases Nat.lt_or_ge i j with h4 | h4
      · have : c.getD (i + 1) 0 ≤ c.getD j 0 := by
          rcases Nat.lt_or_eq_of_le (Nat.succ_le_of_lt h4) with h5 | h5
          · exact Nat.le_of_lt (up_at hc h5 hj)
          · rw [← h5]; exact Nat.le_refl _
        omega
      · rcases Nat.lt_or_eq_of_le h4 with h5 | h5
        · exact Nat.le_of_lt (up_at hc h5 (by omega))
        · rw [h5]; exact Nat.le_refl _
    · intro h3; omega
  constructor
  · rintro ⟨p, hp, h3, h4⟩
    have k1 := key p.1 (he p hp).1
    have k2 := key p.2 (he p hp).2
    exact ⟨p, hp, by omega, by omega⟩
  · rintro ⟨p, hp, h3, h4⟩
    have k1 := key p.1 (he p hp).1
    have k2 := key p.2 (he p hp).2
    exact ⟨p, hp, by omega, by omega⟩

/-- What stands in out behind i of the ends. -/
structure SetTo (some none : List Rg) (c : List Nat) (i : Nat) (out : List Rg) : Prop where
  rt : Rt out
  bd : ∀ p ∈ out, p.1 < 18446744073709551616 ∧ p.2 < 18446744073709551616
  hi : ∀ p ∈ out, p.2 ≤ c.getD i 0
  mem : ∀ x, Mem out x ↔ x < c.getD i 0 ∧ Mem some x ∧ ¬ Mem none x
  len : out.length ≤ i
variable {some none : List Rg} {c : List Nat} {i : Nat} {out : List Rg}
theorem SetTo.zero (hc : Up c) (he : Ends some c) : SetTo some none c 0 [] where
  rt := Rt.nil
  bd := by simp
  hi := by simp
  mem := fun x => ⟨fun h => absurd h (Mem.nil x), fun ⟨h1, ⟨p, hp, h2, _⟩, _⟩ => by
    obtain ⟨j, hj, h3⟩ := up_mem (he p hp).1
    rcases Nat.eq_zero_or_pos j with rfl | h4
    · omega
    · have := up_at hc h4 hj; omega⟩
  len := Nat.le_refl _
theorem SetTo.skip (h : SetTo some none c i out) (hc : Up c) (he : Ends some c) (he' : Ends none c) (hi : i + 1 < c.length) (hno : ¬ Mem some (c.getD i 0) ∨ Mem none (c.getD i 0)) : SetTo some none c (i + 1) out where
  rt := h.rt
  bd := h.bd
  hi := fun p hp => by have := h.hi p hp; have := up_at hc (Nat.lt_add_one i) hi; omega
  mem := fun x => by
    have hlt := up_at hc (Nat.lt_add_one i) hi
    rw [h.mem x]
    constructor
    · rintro ⟨h1, h2⟩; exact ⟨by omega, h2⟩
    · rintro ⟨h1, h2, h3⟩
      rcases Nat.lt_or_ge x (c.getD i 0) with h4 | h4
      · exact ⟨h4, h2, h3⟩
      · have e1 := same_between hc he hi h4 h1
        have e2 := same_between hc he' hi h4 h1
        rcases hno with h5 | h5
        · exact absurd (e1.1 h2) h5
        · exact absurd (e2.2 h5) h3
  len := Nat.le_succ_of_le h.len
theorem SetTo.grow (h : SetTo some none c i out) (hc : Up c) (hcb : ∀ x ∈ c, x < 18446744073709551616) (he : Ends some c) (he' : Ends none c) (hi : i + 1 < c.length) (h1 : Mem some (c.getD i 0)) (h2 : ¬ Mem none (c.getD i 0))
    (hl : out.length ≤ 0 ∨ (out.getD (out.length - 1) (0, 0)).2 ≠ c.getD i 0) : SetTo some none c (i + 1) (out ++ [(c.getD i 0, c.getD (i + 1) 0)]) := by
  have hlt := up_at hc (Nat.lt_add_one i) hi
  have hall : ∀ p ∈ out, p.2 < c.getD i 0 := by
    intro p hp
    obtain ⟨j, hj, rfl⟩ := List.getElem_of_mem hp
    have ej : out[j] = out.getD j (0, 0) := by simp [hj]
    rcases hl with hl | hl
    · omega
    · have hlast : out.getD (out.length - 1) (0, 0) ∈ out := by
        have e : out.getD (out.length - 1) (0, 0) = out[out.length - 1] := by simp [show out.length - 1 < out.length by omega]
        rw [e]; exact List.getElem_mem _
      have h5 := h.hi _ hlast
      rw [ej]
      rcases Nat.lt_or_ge j (out.length - 1) with h6 | h6
      · have := rt_gap h.rt h6 (by omega)
        have := rt_lt h.rt (i := out.length - 1) (by omega)
        omega
      · rw [show j = out.length - 1 by omega]; omega
  refine ⟨?_, ?_, ?_, ?_, ?_⟩
  · rw [rt_append]
    exact ⟨h.rt, (rt_cons _ _).2 ⟨hlt, by simp, Rt.nil⟩, fun p hp q hq => by simp only [List.mem_singleton] at hq; subst hq; exact hall p hp⟩
  · intro p hp
    rcases List.mem_append.1 hp with hp | hp
    · exact h.bd p hp
    · simp only [List.mem_singleton] at hp
      subst hp; exact ⟨hcb _ (mem_getD (by omega)), hcb _ (mem_getD hi)⟩
  · intro p hp
    rcases List.mem_append.1 hp with hp | hp
    · have := h.hi p hp; omega
    · simp only [List.mem_singleton] at hp
      subst hp; exact Nat.le_refl _
  · intro x
    rw [mem_append, h.mem x, mem_cons]
    constructor
    · rintro (⟨h3, h4⟩ | h3 | h3)
      · exact ⟨by omega, h4⟩
      · simp only at h3
        exact ⟨h3.2, (same_between hc he hi h3.1 h3.2).2 h1, fun h4 => h2 ((same_between hc he' hi h3.1 h3.2).1 h4)⟩
      · exact absurd h3 (Mem.nil x)
    · rintro ⟨h3, h4⟩
      rcases Nat.lt_or_ge x (c.getD i 0) with h5 | h5
      · exact .inl ⟨h5, h4⟩
      · exact .inr (.inl ⟨h5, h3⟩)
  · have := h.len
    simp; omega
theorem set_last {l : List Rg} (h : 0 < l.length) (p : Rg) : l.set (l.length - 1) p = l.take (l.length - 1) ++ [p] := by
  rw [List.set_eq_take_append_cons_drop, if_pos (by omega)]
  rw [List.drop_eq_nil_of_le (by omega)]
theorem split_last {l : List Rg} (h : 0 < l.length) : l = l.take (l.length - 1) ++ [l.getD (l.length - 1) (0, 0)] := by
  have e : l.getD (l.length - 1) (0, 0) = l[l.length - 1] := by simp [show l.length - 1 < l.length by omega]
  rw [e, List.take_append_getElem]
  rw [List.take_of_length_le (by omega)]
theorem SetTo.stretch (h : SetTo some none c i out) (hc : Up c) (hcb : ∀ x ∈ c, x < 18446744073709551616) (he : Ends some c) (he' : Ends none c) (hi : i + 1 < c.length) (h1 : Mem some (c.getD i 0)) (h2 : ¬ Mem none (c.getD i 0))
    (h0 : 0 < out.length) (hl : (out.getD (out.length - 1) (0, 0)).2 = c.getD i 0) : SetTo some none c (i + 1) (out.set (out.length - 1) ((out.getD (out.length - 1) (0, 0)).1, c.getD (i + 1) 0)) := by
  have hlt := up_at hc (Nat.lt_add_one i) hi
  have es := split_last h0
  rw [set_last h0]
  obtain ⟨A, hA⟩ : ∃ A, A = out.take (out.length - 1) := ⟨_, rfl⟩
  obtain ⟨p, hp⟩ : ∃ p, p = out.getD (out.length - 1) (0, 0) := ⟨_, rfl⟩
  rw [← hA, ← hp] at es
  rw [← hp] at hl
  rw [← hA, ← hp]
  have hlen := h.len
  have hr := h.rt
  have hb := h.bd
  have hh := h.hi
  have hm := h.mem
  rw [es] at hlen hr hb hh hm
  obtain ⟨r1, r2, r3⟩ := (rt_append A [p]).1 hr
  have hp2 := ((rt_cons p []).1 r2).1
  refine ⟨?_, ?_, ?_, ?_, ?_⟩
  · rw [rt_append]
    exact ⟨r1, (rt_cons _ _).2 ⟨by show p.1 < _; omega, by simp, Rt.nil⟩, fun q hq s hs => by simp only [List.mem_singleton] at hs; subst hs; exact r3 q hq p (by simp)⟩
  · intro q hq
    rcases List.mem_append.1 hq with hq | hq
    · exact hb q (List.mem_append_left _ hq)
    · simp only [List.mem_singleton] at hq
      subst hq; exact ⟨(hb p (by simp)).1, hcb _ (mem_getD hi)⟩
  · intro q hq
    rcases List.mem_append.1 hq with hq | hq
    · have := hh q (List.mem_append_left _ hq); omega
    · simp only [List.mem_singleton] at hq
      subst hq; exact Nat.le_refl _
  · intro x
    have hmx := hm x
    rw [mem_append, mem_cons] at hmx
    rw [mem_append, mem_cons]
    simp only
    constructor
    · rintro (h3 | h3 | h3)
      · have := hmx.1 (.inl h3); exact ⟨by omega, this.2⟩
      · rcases Nat.lt_or_ge x (c.getD i 0) with h5 | h5
        · have := hmx.1 (.inr (.inl ⟨h3.1, by omega⟩)); exact ⟨by omega, this.2⟩
        · exact ⟨h3.2, (same_between hc he hi h5 h3.2).2 h1, fun h4 => h2 ((same_between hc he' hi h5 h3.2).1 h4)⟩
      · exact absurd h3 (Mem.nil x)
    · rintro ⟨h3, h4⟩
      rcases Nat.lt_or_ge x (c.getD i 0) with h5 | h5
      · rcases hmx.2 ⟨h5, h4⟩ with h6 | h6 | h6
        · exact .inl h6
        · exact .inr (.inl ⟨h6.1, by omega⟩)
        · exact absurd h6 (Mem.nil x)
      · exact .inr (.inl ⟨by omega, h3⟩)
  · rw [List.length_append] at hlen ⊢
    simp at hlen ⊢; omega
theorem SetTo.done (h : SetTo some none c i out) (hc : Up c) (he : Ends some c) (hi : ¬ i + 1 < c.length) (hi2 : i < c.length ∨ (c = [] ∧ i = 0)) : ∀ x, Mem out x ↔ Mem some x ∧ ¬ Mem none x := by
  intro x
  rw [h.mem x]
  constructor
  · rintro ⟨_, h1⟩; exact h1
  · rintro ⟨⟨p, hp, h3, h4⟩, h2⟩
    refine ⟨?_, ⟨p, hp, h3, h4⟩, h2⟩
    obtain ⟨j, hj, h5⟩ := up_mem (he p hp).2
    rcases hi2 with h6 | ⟨h6, _⟩
    · rcases Nat.lt_or_eq_of_le (show j ≤ i by omega) with h7 | rfl
      · have := up_at hc h7 h6; omega
      · omega
    · rw [h6] at hj; simp at hj
end Go.Proofs.Ytolmpmihchjmlaa
