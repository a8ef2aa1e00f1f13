/- What MenderKeeps says, as plain data: what places have, who is fenced, what is confirmed, what was heard. -/
import Derived.Test.YtecfoomjpjcldaaMdRes
import Derived.Test.YtecfoomjpjcldaaWrU
namespace Go.Proofs.Ytecfoomjpjcldaa
open Go.RowKit
theorem okN_more {P W A e : Nat} {H H' : Nat → Nat → Bool} (hP : 0 < P) (h7 : P ≤ 7) (h : ∀ k, k < P → H e k = true → H' e k = true) (ho : okN P W A H e = true) : okN P W A H' e = true := by
  unfold okN enN at ho ⊢
  have := told_more (P := P) (W := W) (e := e) (x := hasL (H e)) (y := hasL (H' e)) hP (fun p hp hx => by
    rw [hasL_at _ _ (by omega)] at hx ⊢
    exact h p hp hx)
  simp only [decide_eq_true_eq] at ho ⊢
  omega
theorem okN_meets {P W A e : Nat} {H : Nat → Nat → Bool} {fe : Nat → Bool} (hP : 0 < P) (h7 : P ≤ 7) (hA : A ≤ W) (ho : okN P W A H e = true) (hc : covN P W A (hrdL fe) = true) : ∃ p, p < P ∧ H e p = true ∧ fe p = true := by
  unfold okN enN at ho
  simp only [decide_eq_true_eq] at ho
  obtain ⟨p, hp, h1, h2⟩ := meets hP hA ho hc
  rw [hasL_at _ _ (by omega)] at h1
  rw [hrdL_at _ _ (by omega)] at h2
  exact ⟨p, hp, h1, h2⟩
/-- In the midst: D what is written, H who said so of what, su confirmed; L what places have, fe who is fenced, f what was heard. -/
structure Mk (P W A : Nat) (D : List (List Nat)) (H : Nat → Nat → Bool) (su : Nat) (L : Nat → Nat → Option (List Nat)) (fe : Nat → Bool) (f : Nat → Option (List Nat)) : Prop where
  has : ∀ k e d, L k e = some d → e < D.length ∧ d = D.getD e []
  said : ∀ e k, e < D.length → k < P → H e k = true → L k e ≠ none
  ok : ∀ e, e < su → okN P W A H e = true
  su_le : su ≤ D.length
  heard : ∀ e d, f e = some d ↔ ∃ k, k < P ∧ fe k = true ∧ L k e = some d
theorem Mk.start (P W A : Nat) : Mk P W A [] (fun _ _ => false) 0 (fun _ _ => none) (fun _ => false) (fun _ => none) :=
  ⟨fun _ _ _ h => by simp at h, fun e k h => by simp at h, fun e h => by omega, Nat.zero_le _, fun e d => by simp⟩
section
variable {P W A : Nat} {D : List (List Nat)} {H : Nat → Nat → Bool} {su : Nat} {L : Nat → Nat → Option (List Nat)} {fe : Nat → Bool} {f : Nat → Option (List Nat)}
/-- An entry more. -/
theorem Mk.add (m : Mk P W A D H su L fe f) (d : List Nat) : Mk P W A (D ++ [d]) (hasNew H D.length) su L fe f := by
  refine ⟨fun k e x h => ?_, fun e k he hk h => ?_, fun e he => ?_, by have := m.su_le; simp; omega, m.heard⟩
  · obtain ⟨h1, h2⟩ := m.has k e x h
    refine ⟨by simp; omega, ?_⟩
    rw [h2]
    simp [List.getD, List.getElem?_append, h1]
  · unfold hasNew at h
    by_cases hl : e = D.length
    · rw [if_pos hl] at h; cases h
    · rw [if_neg hl] at h
      exact m.said e k (by simp at he; omega) hk h
  · have h1 := m.ok e he
    have h2 := m.su_le
    unfold okN at h1 ⊢
    unfold hasNew
    rw [if_neg (by omega)]
    exact h1
/-- A place has an entry. -/
def putL (L : Nat → Nat → Option (List Nat)) (k e : Nat) (d : List Nat) : Nat → Nat → Option (List Nat) := fun i j => if i = k ∧ j = e then some d else L i j
theorem Mk.put (m : Mk P W A D H su L fe f) {k e : Nat} (he : e < D.length) (hk : fe k = false) : Mk P W A D H su (putL L k e (D.getD e [])) fe f := by
  refine ⟨fun i j d h => ?_, fun j i hj hi h => ?_, m.ok, m.su_le, fun j d => ?_⟩
  · unfold putL at h
    by_cases hij : i = k ∧ j = e
    · rw [if_pos hij] at h
      injection h with h
      rw [hij.2]; exact ⟨he, h.symm⟩
    · rw [if_neg hij] at h; exact m.has i j d h
  · unfold putL
    by_cases hij : i = k ∧ j = e
    · rw [if_pos hij]; simp
    · rw [if_neg hij]; exact m.said j i hj hi h
  · rw [m.heard]
    constructor
    · rintro ⟨i, h1, h2, h3⟩
      exact ⟨i, h1, h2, by unfold putL; rw [if_neg (fun h => by rw [h.1, hk] at h2; cases h2)]; exact h3⟩
    · rintro ⟨i, h1, h2, h3⟩
      unfold putL at h3
      rw [if_neg (fun h => by rw [h.1, hk] at h2; cases h2)] at h3
      exact ⟨i, h1, h2, h3⟩
/-- A place that has it says so. -/
theorem Mk.ack (m : Mk P W A D H su L fe f) {k e s : Nat} {H' : Nat → Nat → Bool} (hP : 0 < P) (h7 : P ≤ 7) (hL : L k e ≠ none) (h : AckTo P W A D H su (k : Int) e s H') : Mk P W A D H' s L fe f ∧ su ≤ s := by
  rcases h with ⟨_, rfl, rfl⟩ | ⟨_, pn, hp, rfl, h1, h2, h3, _⟩
  · exact ⟨m, Nat.le_refl _⟩
  · obtain rfl : pn = k := by omega
    refine ⟨⟨m.has, fun j i hj hi h => ?_, fun i hi => ?_, h2, m.heard⟩, h1⟩
    · unfold hasAdd at h
      by_cases hij : j = e ∧ i = pn
      · rw [hij.1, hij.2]; exact hL
      · rw [if_neg hij] at h; exact m.said j i hj hi h
    · by_cases his : i < su
      · exact okN_more hP h7 (fun q _ hq => by unfold hasAdd; by_cases hij : i = e ∧ q = pn; rw [if_pos hij]; rw [if_neg hij]; exact hq) (m.ok i his)
      · exact h3 i (by omega) hi
/-- A place is fenced, and heard. -/
theorem Mk.fence (m : Mk P W A D H su L fe f) {p : Nat} (hp : p < P) {l : List (Nat × List Nat)} (hl : ∀ e d, (e, d) ∈ l ↔ L p e = some d) {f' : Nat → Option (List Nat)} (hj : joinF f l = some f') : Mk P W A D H su L (hrd fe p) f' := by
  refine ⟨m.has, m.said, m.ok, m.su_le, fun e d => ?_⟩
  rw [joinF_some hj e d, m.heard, hl]
  constructor
  · rintro (⟨k, h1, h2, h3⟩ | h)
    · exact ⟨k, h1, by unfold hrd; rw [h2]; simp, h3⟩
    · exact ⟨p, hp, by unfold hrd; simp, h⟩
  · rintro ⟨k, h1, h2, h3⟩
    unfold hrd at h2
    by_cases hk : k = p
    · subst hk; exact .inr h3
    · simp [hk] at h2; exact .inl ⟨k, h1, h2, h3⟩
theorem joinF_ok {l : List (Nat × List Nat)} : ∀ {f : Nat → Option (List Nat)} (g : Nat → List Nat), (∀ e d, f e = some d → d = g e) → (∀ x ∈ l, x.2 = g x.1) → ∃ f', joinF f l = some f' := by
  induction l with
  | nil => intro f g _ _; exact ⟨f, rfl⟩
  | cons x l ih =>
    intro f g hf hl
    obtain ⟨k, d⟩ := x
    have hd : d = g k := hl (k, d) (by simp)
    simp only [joinF]
    cases hk : f k with
    | none =>
      refine ih g (fun e d' h => ?_) (fun x hx => hl x (List.mem_cons_of_mem _ hx))
      by_cases he : e = k
      · rw [if_pos he] at h; injection h with h; rw [he, ← hd, h]
      · rw [if_neg he] at h; exact hf e d' h
    | some y =>
      have : y = d := by rw [hf k y hk, hd]
      simp only [this, if_true]
      exact ih g hf (fun x hx => hl x (List.mem_cons_of_mem _ hx))
theorem Mk.joins (m : Mk P W A D H su L fe f) {p : Nat} {l : List (Nat × List Nat)} (hl : ∀ e d, (e, d) ∈ l ↔ L p e = some d) : ∃ f', joinF f l = some f' := by
  refine joinF_ok (fun e => D.getD e []) (fun e d h => ?_) (fun x hx => ?_)
  · obtain ⟨k, _, _, h3⟩ := (m.heard e d).1 h
    exact (m.has k e d h3).2
  · exact (m.has p x.1 x.2 ((hl x.1 x.2).1 hx)).2
end
/-- Behind all: those that aren't fenced say so of what is still under way. -/
structure Ml (P W A : Nat) (D : List (List Nat)) (H : Nat → Nat → Bool) (su : Nat) (fe : Nat → Bool) (f : Nat → Option (List Nat)) : Prop where
  said : ∀ e k, e < D.length → k < P → H e k = true → fe k = true → f e ≠ none
  ok : ∀ e, e < su → okN P W A H e = true
  su_le : su ≤ D.length
  data : ∀ e d, f e = some d → e < D.length ∧ d = D.getD e []
section
variable {P W A : Nat} {D : List (List Nat)} {H : Nat → Nat → Bool} {su : Nat} {L : Nat → Nat → Option (List Nat)} {fe : Nat → Bool} {f : Nat → Option (List Nat)}
theorem Mk.late (m : Mk P W A D H su L fe f) : Ml P W A D H su fe f := by
  refine ⟨fun e k he hk h hf hn => ?_, m.ok, m.su_le, fun e d h => ?_⟩
  · have h1 := m.said e k he hk h
    cases hL : L k e with
    | none => exact h1 hL
    | some d =>
      have := (m.heard e d).2 ⟨k, hk, hf, hL⟩
      rw [hn] at this; cases this
  · obtain ⟨k, _, _, h3⟩ := (m.heard e d).1 h
    exact m.has k e d h3
theorem Ml.ack (m : Ml P W A D H su fe f) {k e s : Nat} {H' : Nat → Nat → Bool} (hP : 0 < P) (h7 : P ≤ 7) (hk : fe k = false) (h : AckTo P W A D H su (k : Int) e s H') : Ml P W A D H' s fe f ∧ su ≤ s := by
  rcases h with ⟨_, rfl, rfl⟩ | ⟨_, pn, hp, rfl, h1, h2, h3, _⟩
  · exact ⟨m, Nat.le_refl _⟩
  · obtain rfl : pn = k := by omega
    refine ⟨⟨fun j i hj hi h hf => ?_, fun i hi => ?_, h2, m.data⟩, h1⟩
    · unfold hasAdd at h
      by_cases hij : j = e ∧ i = pn
      · rw [hij.2, hk] at hf; cases hf
      · rw [if_neg hij] at h; exact m.said j i hj hi h hf
    · by_cases his : i < su
      · exact okN_more hP h7 (fun q _ hq => by unfold hasAdd; by_cases hij : i = e ∧ q = pn; rw [if_pos hij]; rw [if_neg hij]; exact hq) (m.ok i his)
      · exact h3 i (by omega) hi
/-- What is mended: all that is confirmed, and no more than was written. -/
theorem Ml.res (m : Ml P W A D H su fe f) (hP : 0 < P) (h7 : P ≤ 7) (hA : A ≤ W) (hc : covN P W A (hrdL fe) = true) {code : Nat} {l : List (Nat × List Nat)} (hr : ResV P W A fe 0 f code l) : code = 0 ∧ su ≤ l.length ∧ l.length ≤ D.length ∧ ∀ i, i < l.length → l[i]? = some (i, D.getD i []) := by
  rcases hr with ⟨h1, _⟩ | ⟨_, k, hk, ⟨h2, _⟩ | ⟨_, rfl, rfl⟩⟩
  · rw [hc] at h1; cases h1
  · omega
  · have hall : ∀ i, i < su → f i ≠ none := fun i hi => by
      obtain ⟨p, hp, h1, h2⟩ := okN_meets hP h7 hA (m.ok i hi) hc
      exact m.said i p (by have := m.su_le; omega) hp h1 h2
    have hsk : su ≤ k := by
      rcases Nat.lt_or_ge k su with h | h
      · exact absurd hk.2 (hall k h)
      · exact h
    have hkd : k ≤ D.length := by
      rcases Nat.lt_or_ge D.length k with h | h
      · have h1 := hk.1 D.length h
        cases hf : f D.length with
        | none => exact absurd hf h1
        | some d => have := (m.data _ _ hf).1; omega
      · exact h
    refine ⟨rfl, by rw [rowN_len]; exact hsk, by rw [rowN_len]; exact hkd, fun i hi => ?_⟩
    rw [rowN_len] at hi
    unfold rowN
    simp only [List.getElem?_map, List.getElem?_range hi, Option.map_some]
    cases hf : f i with
    | none => exact absurd hf (hk.1 i hi)
    | some d => rw [Option.getD_some, (m.data _ _ hf).2]
end
end Go.Proofs.Ytecfoomjpjcldaa
