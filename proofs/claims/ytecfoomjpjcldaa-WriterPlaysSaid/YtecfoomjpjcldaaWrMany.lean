/- The walk of WriterMany. -/
import Derived.Test.YtecfoomjpjcldaaWrRep
namespace Go.Proofs.Ytecfoomjpjcldaa
open Go.RowKit
set_option maxRecDepth 100000
theorem okN_zero {P W A a : Nat} {H : Nat → Nat → Bool} (hA : 1 ≤ A) (h : ∀ b, H a b = false) : okN P W A H a = false := by
  unfold okN enN toldN
  have h0 : (List.range W).countP (fun i => (hasL (H a)).getD (plN P a i) false) = 0 := by
    rw [List.countP_eq_zero]
    intro i _
    by_cases h1 : plN P a i < 7
    · rw [hasL_at _ _ h1, h]; simp
    · rw [List.getD_eq_getElem?_getD, List.getElem?_eq_none (by rw [hasL_len]; omega)]; simp
  rw [h0]; exact decide_eq_false (by omega)
theorem okN_full {P W A a : Nat} {H : Nat → Nat → Bool} (hA : A ≤ W) (h7 : P ≤ 7) (hP : 0 < P) (h : ∀ b, b ∈ setN P W a → H a b = true) : okN P W A H a = true := by
  unfold okN enN toldN
  have h0 : (List.range W).countP (fun i => (hasL (H a)).getD (plN P a i) false) = (List.range W).length := by
    rw [List.countP_eq_length]
    intro i hi
    have := plN_lt hP a i
    rw [hasL_at _ _ (by omega)]
    exact h _ (List.mem_map.2 ⟨i, hi, rfl⟩)
  rw [h0]; exact decide_eq_true (by simp; omega)
/-- In the midst of hearing the places of the entry i, up to p. -/
def AkS (P W A i p su : Nat) (H : Nat → Nat → Bool) : Prop :=
  (∀ a, i < a → ∀ b, H a b = false) ∧ (su = i ∨ su = i + 1) ∧ (su = i → okN P W A H i = false ∧ ∀ b, b < p → b ∈ setN P W i → H i b = true)
theorem ak_step {wr wx : World} {B q P W A i p su : Nat} {D : List (List Nat)} {H : Nat → Nat → Bool} {e : Ending} (h : AkS P W A i p su H) (hx : WrAckEnd wr B q [] P W A D H su false (p : Int) i e wx) (hi : i < D.length) (hA : 1 ≤ A) :
    ∃ a k c s H', e = .returned (.slice a k c) ∧ Frm [q] wr wx ∧ Wq wx B q [] P W A D H' s false ∧ AkS P W A i (p + 1) s H' := by
  obtain ⟨h1, h2, h3⟩ := h
  rcases hx with ⟨hb, rfl, hf, hq⟩ | ⟨hs, _, hin, pm, hpm, _, s, a, cx, X, rfl, hs1, hs2, _, hall, hend, _, hq, hf⟩
  · refine ⟨none, 0, 0, su, H, rfl, hf.weak (by simp), hq, h1, h2, fun he => ⟨(h3 he).1, fun b hbp hbs => ?_⟩⟩
    rcases hb with hb | hb | hb
    · omega
    · omega
    · by_cases hbb : b = p
      · subst hbb
        rw [hasI_nat] at hb
        have : (setN P W i).contains b = true := by simpa using hbs
        rw [this] at hb; cases hb
      · exact (h3 he).2 b (by omega) hbs
  · obtain rfl : pm = p := by omega
    have hsu : su = i := by omega
    have h1' : ∀ a, i < a → ∀ b, hasAdd H i pm a b = false := fun a ha b => by
      unfold hasAdd
      rw [if_neg (by omega)]
      exact h1 a ha b
    have hsi : s ≤ i + 1 := by
      rcases Nat.lt_or_ge (i + 1) s with h4 | h4
      · have h5 := hall (i + 1) (by omega) h4
        rw [okN_zero hA (h1' (i + 1) (by omega))] at h5; cases h5
      · exact h4
    refine ⟨a, X.length, cx, s, _, rfl, hf, hq, h1', by omega, fun he => ⟨?_, fun b hbp hbs => ?_⟩⟩
    · have := hend (by omega)
      rw [he] at this; exact this
    · unfold hasAdd
      by_cases hbb : b = pm
      · rw [if_pos ⟨rfl, hbb⟩]
      · rw [if_neg (fun h => hbb h.2)]
        exact (h3 hsu).2 b (by omega) hbs
theorem ak_end {P W A i p su : Nat} {H : Nat → Nat → Bool} (h : AkS P W A i p su H) (hp : P ≤ p) (hA : A ≤ W) (h7 : P ≤ 7) (hP : 0 < P) : su = i + 1 := by
  rcases h.2.1 with h1 | h1
  · obtain ⟨h2, h3⟩ := h.2.2 h1
    rw [okN_full hA h7 hP (fun b hb => h3 b (by
      unfold setN at hb
      obtain ⟨j, _, rfl⟩ := List.mem_map.1 hb
      have := plN_lt hP i j
      omega) hb)] at h2
    cases h2
  · exact h1
theorem ak_new {P W A i : Nat} {H : Nat → Nat → Bool} (hA : 1 ≤ A) (h : ∀ a, i ≤ a → ∀ b, H a b = false) : AkS P W A i 0 i H :=
  ⟨fun a ha b => h a (by omega) b, .inl rfl, fun _ => ⟨okN_zero hA (h i (Nat.le_refl _)), fun b hb => absurd hb (by omega)⟩⟩
theorem nil_bytes (w : World) : Bytes w none [] := ⟨by simp, by simp, .inl rfl⟩
def Rm1 (w : World) (B p g P W A : Nat) (s38 : Value) (z : World) : Prop :=
  ∃ (i : Nat) (D : List (List Nat)) (H : Nat → Nat → Bool), s38 = .int .i64 (i : Nat) ∧ i ≤ 64 ∧ D.length = i ∧ Hid (∀ a b, H a b = false) ∧ Hid (WrOn w B p g P W A D H 0 z)
def Rm2 (w : World) (B p g P W A c : Nat) (D : List (List Nat)) (s72 : Value) (z : World) : Prop :=
  ∃ (i : Nat) (H : Nat → Nat → Bool), s72 = .int .i64 (i : Nat) ∧ i ≤ c ∧ Hid (∀ a, i ≤ a → ∀ b, H a b = false) ∧ Hid (WrOn w B p g P W A D H i z)
def Rm3 (w : World) (B p g P W A i : Nat) (D : List (List Nat)) (s77 : Value) (z : World) : Prop :=
  ∃ (j su : Nat) (H : Nat → Nat → Bool), s77 = .int .i64 (j : Nat) ∧ j ≤ P ∧ Hid (AkS P W A i j su H) ∧ Hid (WrOn w B p g P W A D H su z)
end Go.Proofs.Ytecfoomjpjcldaa
