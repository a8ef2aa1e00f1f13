/- Sets of numbers as ranges, as plain mathematics over lists of pairs: right ranges, what is in them, that right ranges with the same numbers are the same; what adding, removing, joining, counting comes to. They speak of no program. -/
namespace Go.Proofs.Ytolmpmihchjmlaa
abbrev Rg := Nat × Nat
/-- Is n in one of them? -/
def Mem (l : List Rg) (n : Nat) : Prop := ∃ p ∈ l, p.1 ≤ n ∧ n < p.2
/-- Right: each has a number; they rise, with something between them. -/
def Rt (l : List Rg) : Prop := (∀ p ∈ l, p.1 < p.2) ∧ l.Pairwise (fun p q => p.2 < q.1)

theorem Mem.nil (n : Nat) : ¬ Mem [] n := fun ⟨_, h, _⟩ => by simp at h
theorem mem_cons (p : Rg) (l : List Rg) (n : Nat) : Mem (p :: l) n ↔ (p.1 ≤ n ∧ n < p.2) ∨ Mem l n := by
  unfold Mem; simp
theorem mem_append (a b : List Rg) (n : Nat) : Mem (a ++ b) n ↔ Mem a n ∨ Mem b n := by
  unfold Mem
  constructor
  · rintro ⟨p, hp, h⟩
    rcases List.mem_append.1 hp with h1 | h1
    · exact .inl ⟨p, h1, h⟩
    · exact .inr ⟨p, h1, h⟩
  · rintro (⟨p, hp, h⟩ | ⟨p, hp, h⟩)
    · exact ⟨p, List.mem_append_left _ hp, h⟩
    · exact ⟨p, List.mem_append_right _ hp, h⟩
theorem Rt.nil : Rt [] := ⟨by simp, .nil⟩
theorem rt_cons (p : Rg) (l : List Rg) : Rt (p :: l) ↔ p.1 < p.2 ∧ (∀ q ∈ l, p.2 < q.1) ∧ Rt l := by
  unfold Rt
  rw [List.pairwise_cons]
  simp only [List.mem_cons, forall_eq_or_imp]
  constructor
  · rintro ⟨⟨h1, h2⟩, h3, h4⟩; exact ⟨h1, h3, h2, h4⟩
  · rintro ⟨h1, h3, h2, h4⟩; exact ⟨⟨h1, h2⟩, h3, h4⟩
theorem rt_append (a b : List Rg) : Rt (a ++ b) ↔ Rt a ∧ Rt b ∧ ∀ p ∈ a, ∀ q ∈ b, p.2 < q.1 := by
  unfold Rt
  rw [List.pairwise_append]
  simp only [List.mem_append]
  constructor
  · rintro ⟨h1, h2, h3, h4⟩; exact ⟨⟨fun p hp => h1 p (.inl hp), h2⟩, ⟨fun p hp => h1 p (.inr hp), h3⟩, h4⟩
  · rintro ⟨⟨h1, h2⟩, ⟨h3, h4⟩, h5⟩; exact ⟨fun p hp => hp.elim (h1 p) (h3 p), h2, h4, h5⟩
theorem mem_lo {p : Rg} {l : List Rg} (h : Rt (p :: l)) {n : Nat} (hn : Mem (p :: l) n) : p.1 ≤ n := by
  obtain ⟨h1, h2, h3⟩ := (rt_cons p l).1 h
  rcases (mem_cons p l n).1 hn with h4 | ⟨q, hq, h4⟩
  · exact h4.1
  · have := h2 q hq; omega
theorem not_mem_hi {p : Rg} {l : List Rg} (h : Rt (p :: l)) : ¬ Mem (p :: l) p.2 := by
  obtain ⟨h1, h2, h3⟩ := (rt_cons p l).1 h
  intro hn
  rcases (mem_cons p l _).1 hn with h4 | ⟨q, hq, h4⟩
  · omega
  · have := h2 q hq; omega
/-- Right ranges with the same numbers are the same. -/
theorem rt_uniq : ∀ {a b : List Rg}, Rt a → Rt b → (∀ n, Mem a n ↔ Mem b n) → a = b
  | [], [], _, _, _ => rfl
  | [], q :: b, _, hb, h => absurd ((h q.1).2 ((mem_cons q b _).2 (.inl ⟨Nat.le_refl _, ((rt_cons q b).1 hb).1⟩))) (Mem.nil _)
  | p :: a, [], ha, _, h => absurd ((h p.1).1 ((mem_cons p a _).2 (.inl ⟨Nat.le_refl _, ((rt_cons p a).1 ha).1⟩))) (Mem.nil _)
  | p :: a, q :: b, ha, hb, h => by
    obtain ⟨a1, a2, a3⟩ := (rt_cons p a).1 ha
    obtain ⟨b1, b2, b3⟩ := (rt_cons q b).1 hb
    have e1 : q.1 ≤ p.1 := mem_lo hb ((h p.1).1 ((mem_cons p a _).2 (.inl ⟨Nat.le_refl _, a1⟩)))
    have e2 : p.1 ≤ q.1 := mem_lo ha ((h q.1).2 ((mem_cons q b _).2 (.inl ⟨Nat.le_refl _, b1⟩)))
    have e3 : ¬ p.2 < q.2 := fun hlt => not_mem_hi ha ((h p.2).2 ((mem_cons q b _).2 (.inl ⟨by omega, hlt⟩)))
    have e4 : ¬ q.2 < p.2 := fun hlt => not_mem_hi hb ((h q.2).1 ((mem_cons p a _).2 (.inl ⟨by omega, hlt⟩)))
    have e5 : p = q := by
      obtain ⟨p1, p2⟩ := p; obtain ⟨q1, q2⟩ := q
      simp only at *
      rw [show p1 = q1 by omega, show p2 = q2 by omega]
    subst e5
    have e6 : a = b := rt_uniq a3 b3 (fun n => by
      constructor
      · rintro ⟨r, hr, h1⟩
        have := a2 r hr
        rcases (mem_cons p b n).1 ((h n).1 ((mem_cons p a n).2 (.inr ⟨r, hr, h1⟩))) with h2 | h2
        · omega
        · exact h2
      · rintro ⟨r, hr, h1⟩
        have := b2 r hr
        rcases (mem_cons p a n).1 ((h n).2 ((mem_cons p b n).2 (.inr ⟨r, hr, h1⟩))) with h2 | h2
        · omega
        · exact h2)
    rw [e6]

/-- Right ranges, place by place. -/
theorem rt_lt {l : List Rg} (h : Rt l) {i : Nat} (hi : i < l.length) : (l.getD i (0, 0)).1 < (l.getD i (0, 0)).2 := by
  have e : l.getD i (0, 0) = l[i] := by simp [hi]
  rw [e]; exact h.1 _ (List.getElem_mem hi)
theorem rt_gap {l : List Rg} (h : Rt l) {i j : Nat} (hij : i < j) (hj : j < l.length) : (l.getD i (0, 0)).2 < (l.getD j (0, 0)).1 := by
  have hi : i < l.length := by omega
  have e : l.getD i (0, 0) = l[i] := by simp [hi]
  have e' : l.getD j (0, 0) = l[j] := by simp [hj]
  rw [e, e']; exact List.pairwise_iff_getElem.1 h.2 i j hi hj hij
theorem rt_split {l : List Rg} (h : Rt l) (k : Nat) : Rt (l.take k) ∧ Rt (l.drop k) ∧ ∀ p ∈ l.take k, ∀ q ∈ l.drop k, p.2 < q.1 := by
  have := (rt_append (l.take k) (l.drop k)).1 (by rw [List.take_append_drop]; exact h)
  exact this
theorem mem_split (l : List Rg) (k n : Nat) : Mem l n ↔ Mem (l.take k) n ∨ Mem (l.drop k) n := by
  rw [← mem_append, List.take_append_drop]
theorem mem_iff_getD (l : List Rg) (n : Nat) : Mem l n ↔ ∃ i, i < l.length ∧ (l.getD i (0, 0)).1 ≤ n ∧ n < (l.getD i (0, 0)).2 := by
  constructor
  · rintro ⟨p, hp, h⟩
    obtain ⟨i, hi, rfl⟩ := List.getElem_of_mem hp
    exact ⟨i, hi, by simpa [hi] using h⟩
  · rintro ⟨i, hi, h⟩
    have e : l.getD i (0, 0) = l[i] := by simp [hi]
    rw [e] at h
    exact ⟨_, List.getElem_mem hi, h⟩
theorem getD_take {l : List Rg} {i k : Nat} (h : i < k) : (l.take k).getD i (0, 0) = l.getD i (0, 0) := by
  simp [List.getD, h]
theorem getD_drop (l : List Rg) (i k : Nat) : (l.drop k).getD i (0, 0) = l.getD (k + i) (0, 0) := by
  simp [List.getD, List.getElem?_drop]
theorem mem_take_getD {l : List Rg} {k : Nat} {p : Rg} (h : p ∈ l.take k) : ∃ i, i < k ∧ i < l.length ∧ p = l.getD i (0, 0) := by
  obtain ⟨i, hi, rfl⟩ := List.getElem_of_mem h
  have hi' : i < k ∧ i < l.length := by rw [List.length_take] at hi; omega
  exact ⟨i, hi'.1, hi'.2, by simp [hi'.2]⟩
theorem mem_drop_getD {l : List Rg} {k : Nat} {p : Rg} (h : p ∈ l.drop k) : ∃ i, k ≤ i ∧ i < l.length ∧ p = l.getD i (0, 0) := by
  obtain ⟨i, hi, rfl⟩ := List.getElem_of_mem h
  have hi' : k + i < l.length := by rw [List.length_drop] at hi; omega
  exact ⟨k + i, by omega, hi', by simp [hi']⟩

/-- What stands in place of the ones from 'from' on and ahead of 'to', of which each touches r: one range around them and r. -/
theorem add_spec {l : List Rg} (h : Rt l) {r : Rg} (hr : r.1 < r.2) {fr to : Nat} (hft : fr ≤ to) (hto : to ≤ l.length)
    (h1 : ∀ i, i < fr → (l.getD i (0, 0)).2 < r.1) (h2 : ∀ i, fr ≤ i → i < l.length → r.1 ≤ (l.getD i (0, 0)).2)
    (h3 : ∀ i, i < to → (l.getD i (0, 0)).1 ≤ r.2) (h4 : ∀ i, to ≤ i → i < l.length → r.2 < (l.getD i (0, 0)).1)
    {s : Rg} (hs : s = if fr < to then (min r.1 (l.getD fr (0, 0)).1, max r.2 (l.getD (to - 1) (0, 0)).2) else r) :
    Rt (l.take fr ++ ([s] ++ l.drop to)) ∧ ∀ n, Mem (l.take fr ++ ([s] ++ l.drop to)) n ↔ Mem l n ∨ (r.1 ≤ n ∧ n < r.2) := by
  have hs1 : s.1 ≤ r.1 ∧ r.2 ≤ s.2 := by subst hs; split <;> simp <;> omega
  have hA : ∀ p ∈ l.take fr, p.2 < s.1 := by
    intro p hp
    obtain ⟨i, hi, hil, rfl⟩ := mem_take_getD hp
    have := h1 i hi
    subst hs
    split
    · have := rt_gap h (i := i) (j := fr) hi (by omega)
      simp only; omega
    · exact this
  have hC : ∀ q ∈ l.drop to, s.2 < q.1 := by
    intro p hp
    obtain ⟨i, hi, hil, rfl⟩ := mem_drop_getD hp
    have := h4 i hi hil
    subst hs
    split
    · have := rt_gap h (i := to - 1) (j := i) (by omega) hil
      simp only; omega
    · exact this
  have hss : s.1 < s.2 := by omega
  constructor
  · rw [rt_append, rt_append]
    refine ⟨(rt_split h fr).1, ⟨(rt_cons s []).2 ⟨hss, by simp, Rt.nil⟩, (rt_split h to).2.1, ?_⟩, ?_⟩
    · intro p hp q hq
      simp only [List.mem_singleton] at hp
      subst hp; exact hC q hq
    · intro p hp q hq
      rcases List.mem_append.1 hq with hq | hq
      · simp only [List.mem_singleton] at hq
        subst hq; exact hA p hp
      · have := hA p hp; have := hC q hq; omega
  · intro n
    rw [mem_append, mem_append, mem_cons]
    constructor
    · rintro (⟨p, hp, hn⟩ | ((hn | hn) | ⟨p, hp, hn⟩))
      · exact .inl ⟨p, List.mem_of_mem_take hp, hn⟩
      · by_cases hin : r.1 ≤ n ∧ n < r.2
        · exact .inr hin
        · left
          subst hs
          split at hn
          · rename_i hlt
            simp only at hn
            rw [mem_iff_getD]
            by_cases hlo : n < r.1
            · exact ⟨fr, by omega, by omega, by have := h2 fr (Nat.le_refl _) (by omega); omega⟩
            · exact ⟨to - 1, by omega, by have := h3 (to - 1) (by omega); omega, by omega⟩
          · exact absurd hn hin
      · exact absurd hn (Mem.nil _)
      · exact .inl ⟨p, List.mem_of_mem_drop hp, hn⟩
    · rintro (hn | hn)
      · rw [mem_iff_getD] at hn
        obtain ⟨i, hil, hn⟩ := hn
        by_cases hif : i < fr
        · left; rw [mem_iff_getD]; exact ⟨i, by rw [List.length_take]; omega, by rw [getD_take hif]; exact hn⟩
        · by_cases hit : i < to
          · right; left; left
            subst hs
            rw [if_pos (by omega)]
            simp only
            constructor
            · by_cases e : i = fr
              · subst e; omega
              · have := rt_gap h (i := fr) (j := i) (by omega) hil
                have := rt_lt h (i := fr) (by omega); omega
            · by_cases e : i = to - 1
              · subst e; omega
              · have := rt_gap h (i := i) (j := to - 1) (by omega) (by omega)
                have := rt_lt h (i := to - 1) (by omega); omega
          · right; right
            rw [mem_iff_getD]
            exact ⟨i - to, by rw [List.length_drop]; omega, by rw [getD_drop, show to + (i - to) = i by omega]; exact hn⟩
      · right; left; left; omega

/-- What the range from lo on and below hi has on either side of r. -/
def endsL (lo hi : Nat) (r : Rg) : List Rg := (if lo < r.1 then [(lo, r.1)] else []) ++ (if r.2 < hi then [(r.2, hi)] else [])
theorem remove_spec {l : List Rg} (h : Rt l) {r : Rg} (hr : r.1 < r.2) {fr to : Nat} (hft : fr ≤ to) (hto : to ≤ l.length)
    (h1 : ∀ i, i < fr → (l.getD i (0, 0)).2 ≤ r.1) (h2 : ∀ i, fr ≤ i → i < l.length → r.1 < (l.getD i (0, 0)).2)
    (h3 : ∀ i, i < to → (l.getD i (0, 0)).1 < r.2) (h4 : ∀ i, to ≤ i → i < l.length → r.2 ≤ (l.getD i (0, 0)).1)
    {k : List Rg} (hk : k = if fr < to then endsL (l.getD fr (0, 0)).1 (l.getD (to - 1) (0, 0)).2 r else []) :
    Rt (l.take fr ++ (k ++ l.drop to)) ∧ ∀ n, Mem (l.take fr ++ (k ++ l.drop to)) n ↔ Mem l n ∧ ¬ (r.1 ≤ n ∧ n < r.2) := by
  have hk1 : ∀ p ∈ k, fr < to ∧ ((p.1 = (l.getD fr (0, 0)).1 ∧ p.2 = r.1 ∧ (l.getD fr (0, 0)).1 < r.1) ∨ (p.1 = r.2 ∧ p.2 = (l.getD (to - 1) (0, 0)).2 ∧ r.2 < (l.getD (to - 1) (0, 0)).2)) := by
    intro p hp
    subst hk
    by_cases hlt : fr < to
    · rw [if_pos hlt] at hp
      refine ⟨hlt, ?_⟩
      unfold endsL at hp
      rcases List.mem_append.1 hp with hp | hp
      · by_cases hc : (l.getD fr (0, 0)).1 < r.1
        · rw [if_pos hc] at hp
          simp only [List.mem_singleton] at hp
          subst hp; exact .inl ⟨rfl, rfl, hc⟩
        · rw [if_neg hc] at hp; simp at hp
      · by_cases hc : r.2 < (l.getD (to - 1) (0, 0)).2
        · rw [if_pos hc] at hp
          simp only [List.mem_singleton] at hp
          subst hp; exact .inr ⟨rfl, rfl, hc⟩
        · rw [if_neg hc] at hp; simp at hp
    · rw [if_neg hlt] at hp; simp at hp
  have hkr : Rt k := by
    subst hk
    by_cases hlt : fr < to
    · rw [if_pos hlt]
      unfold endsL
      rw [rt_append]
      refine ⟨?_, ?_, ?_⟩
      · split
        · exact (rt_cons _ _).2 ⟨by assumption, by simp, Rt.nil⟩
        · exact Rt.nil
      · split
        · exact (rt_cons _ _).2 ⟨by assumption, by simp, Rt.nil⟩
        · exact Rt.nil
      · intro p hp q hq
        split at hp
        · split at hq
          · simp only [List.mem_singleton] at hp hq
            subst hp hq; exact hr
          · simp at hq
        · simp at hp
    · rw [if_neg hlt]; exact Rt.nil
  have hA : ∀ p ∈ l.take fr, ∀ q ∈ k, p.2 < q.1 := by
    intro p hp q hq
    obtain ⟨i, hi, hil, rfl⟩ := mem_take_getD hp
    have := h1 i hi
    obtain ⟨hlt, hq⟩ := hk1 q hq
    have := rt_gap h (i := i) (j := fr) hi (by omega)
    omega
  have hC : ∀ p ∈ k, ∀ q ∈ l.drop to, p.2 < q.1 := by
    intro p hp q hq
    obtain ⟨i, hi, hil, rfl⟩ := mem_drop_getD hq
    have := h4 i hi hil
    obtain ⟨hlt, hp⟩ := hk1 p hp
    have := rt_gap h (i := to - 1) (j := i) (by omega) hil
    omega
  constructor
  · rw [rt_append, rt_append]
    refine ⟨(rt_split h fr).1, ⟨hkr, (rt_split h to).2.1, hC⟩, ?_⟩
    intro p hp q hq
    rcases List.mem_append.1 hq with hq | hq
    · exact hA p hp q hq
    · obtain ⟨i, hi, hil, rfl⟩ := mem_take_getD hp
      obtain ⟨j, hj, hjl, rfl⟩ := mem_drop_getD hq
      exact rt_gap h (by omega) hjl
  · intro n
    rw [mem_append, mem_append]
    constructor
    · rintro (⟨p, hp, hn⟩ | ⟨p, hp, hn⟩ | ⟨p, hp, hn⟩)
      · obtain ⟨i, hi, hil, rfl⟩ := mem_take_getD hp
        have := h1 i hi
        exact ⟨⟨_, List.mem_of_mem_take hp, hn⟩, by omega⟩
      · obtain ⟨hlt, hp⟩ := hk1 p hp
        constructor
        · rw [mem_iff_getD]
          rcases hp with hp | hp
          · have := h2 fr (Nat.le_refl _) (by omega)
            exact ⟨fr, by omega, by omega, by omega⟩
          · have := h3 (to - 1) (by omega)
            exact ⟨to - 1, by omega, by omega, by omega⟩
        · omega
      · obtain ⟨i, hi, hil, rfl⟩ := mem_drop_getD hp
        have := h4 i hi hil
        exact ⟨⟨_, List.mem_of_mem_drop hp, hn⟩, by omega⟩
    · rintro ⟨hn, hno⟩
      rw [mem_iff_getD] at hn
      obtain ⟨i, hil, hn⟩ := hn
      by_cases hif : i < fr
      · left; rw [mem_iff_getD]; exact ⟨i, by rw [List.length_take]; omega, by rw [getD_take hif]; exact hn⟩
      · by_cases hit : i < to
        · right; left
          subst hk
          rw [if_pos (by omega)]
          unfold endsL
          rw [mem_append]
          by_cases hlo : n < r.1
          · left
            have hl1 : (l.getD fr (0, 0)).1 ≤ n := by
              by_cases e : i = fr
              · subst e; omega
              · have := rt_gap h (i := fr) (j := i) (by omega) hil
                have := rt_lt h (i := fr) (by omega); omega
            rw [if_pos (by omega)]
            exact ⟨_, List.mem_singleton.2 rfl, hl1, hlo⟩
          · right
            have hl1 : n < (l.getD (to - 1) (0, 0)).2 := by
              by_cases e : i = to - 1
              · subst e; omega
              · have := rt_gap h (i := i) (j := to - 1) (by omega) (by omega)
                have := rt_lt h (i := to - 1) (by omega); omega
            rw [if_pos (by omega)]
            exact ⟨_, List.mem_singleton.2 rfl, by simp only; omega, hl1⟩
        · right; right
          rw [mem_iff_getD]
          exact ⟨i - to, by rw [List.length_drop]; omega, by rw [getD_drop, show to + (i - to) = i by omega]; exact hn⟩

/-- How many numbers. -/
def cnt : List Rg → Nat
  | [] => 0
  | p :: l => (p.2 - p.1) + cnt l
theorem cnt_append (a b : List Rg) : cnt (a ++ b) = cnt a + cnt b := by
  induction a with
  | nil => simp [cnt]
  | cons p a ih => simp only [List.cons_append, cnt, ih]; omega
theorem cnt_take {l : List Rg} {k : Nat} (h : k < l.length) : cnt (l.take (k + 1)) = cnt (l.take k) + ((l.getD k (0, 0)).2 - (l.getD k (0, 0)).1) := by
  have e : l.getD k (0, 0) = l[k] := by simp [h]
  rw [e, List.take_succ_eq_append_getElem h, cnt_append]; simp [cnt]
theorem cnt_le_lo : ∀ {l : List Rg}, Rt l → ∀ {k : Nat}, k < l.length → cnt (l.take k) ≤ (l.getD k (0, 0)).1 := by
  intro l h k
  induction k with
  | zero => intro _; simp [cnt]
  | succ k ih =>
    intro hk
    have h1 := ih (by omega)
    have h2 := rt_gap h (i := k) (j := k + 1) (by omega) hk
    have h3 := rt_lt h (i := k) (by omega)
    rw [cnt_take (by omega)]; omega
instance (l : List Rg) (n : Nat) : Decidable (Mem l n) := inferInstanceAs (Decidable (∃ p ∈ l, p.1 ≤ n ∧ n < p.2))
/-- The numbers below N that are in. -/
def below (l : List Rg) : Nat → Nat
  | 0 => 0
  | N + 1 => below l N + if Mem l N then 1 else 0
theorem below_congr {a b : List Rg} (h : ∀ n, Mem a n ↔ Mem b n) (N : Nat) : below a N = below b N := by
  induction N with
  | zero => rfl
  | succ N ih => simp only [below, ih, h N]
theorem below_nil (N : Nat) : below [] N = 0 := by
  induction N with
  | zero => rfl
  | succ N ih => simp only [below, ih, if_neg (Mem.nil N)]
theorem below_one (p : Rg) (hp : p.1 ≤ p.2) (N : Nat) : below [p] N = (min N p.2) - p.1 := by
  induction N with
  | zero => simp [below]
  | succ N ih =>
    simp only [below, ih]
    have e : Mem [p] N ↔ p.1 ≤ N ∧ N < p.2 := by rw [mem_cons]; simp [Mem.nil]
    simp only [e]
    split <;> omega
theorem below_disj {a b : List Rg} (h : ∀ n, ¬ (Mem a n ∧ Mem b n)) (N : Nat) : below (a ++ b) N = below a N + below b N := by
  induction N with
  | zero => rfl
  | succ N ih =>
    simp only [below, ih, mem_append]
    have := h N
    by_cases h1 : Mem a N <;> by_cases h2 : Mem b N <;> simp [h1, h2] at this ⊢ <;> omega
theorem cnt_below : ∀ {l : List Rg}, Rt l → ∀ {N : Nat}, (∀ p ∈ l, p.2 ≤ N) → cnt l = below l N
  | [], _, N, _ => by rw [below_nil]; rfl
  | p :: l, h, N, hN => by
    obtain ⟨h1, h2, h3⟩ := (rt_cons p l).1 h
    have e : below (p :: l) N = below ([p] ++ l) N := rfl
    rw [e, below_disj, below_one p (by omega), ← cnt_below h3 (fun q hq => hN q (by simp [hq]))]
    · have := hN p (by simp)
      simp only [cnt]; omega
    · rintro n ⟨m1, m2⟩
      obtain ⟨q, hq, m2⟩ := m2
      have := h2 q hq
      rw [mem_cons] at m1
      rcases m1 with m1 | m1
      · omega
      · exact Mem.nil _ m1
/-- One list's numbers are the other's and r's, which the other has none of: it has that many more. -/
theorem cnt_more {a b : List Rg} (ha : Rt a) (hb : Rt b) {r : Rg} (hr : r.1 ≤ r.2) (h : ∀ n, Mem a n ↔ Mem b n ∨ (r.1 ≤ n ∧ n < r.2)) (hd : ∀ n, ¬ (Mem b n ∧ r.1 ≤ n ∧ n < r.2))
    {N : Nat} (hN : ∀ p ∈ a, p.2 ≤ N) (hN2 : ∀ p ∈ b, p.2 ≤ N) (hN3 : r.2 ≤ N) : cnt a = cnt b + (r.2 - r.1) := by
  have hm : ∀ n, Mem [r] n ↔ (r.1 ≤ n ∧ n < r.2) := fun n => by rw [mem_cons]; simp [Mem.nil]
  rw [cnt_below ha hN, cnt_below hb hN2, below_congr (b := b ++ [r]) (fun n => by rw [h n, mem_append, hm]), below_disj (fun n hn => hd n ⟨hn.1, (hm n).1 hn.2⟩), below_one r hr]
  omega
end Go.Proofs.Ytolmpmihchjmlaa
