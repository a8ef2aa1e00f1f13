/- The program's writer: Add and Ack in one word each. -/
import Derived.Test.YtecfoomjpjcldaaWrAwake
namespace Go.Proofs.Ytecfoomjpjcldaa
open Go.RowKit
set_option maxRecDepth 100000
def adN (D : List (List Nat)) (E : Nat) : Nat := if E = 0 then D.length else 0
def adD (D : List (List Nat)) (E : Nat) (d : List Nat) : List (List Nat) := if E = 0 then D ++ [d] else D
def adH (D : List (List Nat)) (H : Nat → Nat → Bool) (E : Nat) : Nat → Nat → Bool := if E = 0 then hasNew H D.length else H
theorem adD_len (D : List (List Nat)) (E : Nat) (d : List Nat) : (adD D E d).length ≤ D.length + 1 := by
  unfold adD
  by_cases h : E = 0
  · rw [if_pos h]; simp
  · rw [if_neg h]; omega
theorem wradd_u {w : World} {B p : Nat} {F : List Nat} {P W A : Nat} {D : List (List Nat)} {H : Nat → Nat → Bool} {su : Nat} {cl : Bool} (a : Option Addr) (n cap : Nat) (d : List Nat) (h : Wq w B p F P W A D H su cl) (hF : ∀ x ∈ F, x < w.heap.size) (hb : Bytes w a d) (hn : n = d.length) (hnil : a = none → cap = 0) :
    Calls Try.prog 16 #[.pointer (some ⟨p, 0, none⟩), .slice a n cap] w fun e w' => e = .returned (.tuple #[.int .u64 (adN D (wrAddE D su cl n) : Nat), .int .i64 (wrAddE D su cl n : Nat)]) ∧ Frm [p] w w' ∧ Wq w' B p F P W A (adD D (wrAddE D su cl n) d) (adH D H (wrAddE D su cl n)) su cl := by
  refine (wradd_any a n cap d h hF hb hn hnil).mono ?_
  rintro e w' ⟨hf, ⟨h0, rfl, hw⟩ | ⟨h0, rfl, hw⟩⟩
  · rw [← hn] at h0 ⊢
    unfold adN adD adH
    rw [if_neg h0, if_neg h0, if_neg h0]
    exact ⟨rfl, hf, hw⟩
  · rw [← hn] at h0
    unfold adN adD adH
    rw [if_pos h0, if_pos h0, if_pos h0, h0]
    exact ⟨rfl, hf, hw⟩
/-- What Ack comes to. -/
def AckTo (P W A : Nat) (D : List (List Nat)) (H : Nat → Nat → Bool) (su : Nat) (pl : Int) (n s : Nat) (H' : Nat → Nat → Bool) : Prop :=
  ((n < su ∨ D.length ≤ n ∨ hasI (setN P W n) pl = false) ∧ s = su ∧ H' = H) ∨
  (¬ (n < su ∨ D.length ≤ n ∨ hasI (setN P W n) pl = false) ∧ ∃ pn : Nat, pl = (pn : Int) ∧ H' = hasAdd H n pn ∧ su ≤ s ∧ s ≤ D.length ∧ (∀ i, su ≤ i → i < s → okN P W A H' i = true) ∧ (s < D.length → okN P W A H' s = false))
theorem AckTo.one {P W A : Nat} {D : List (List Nat)} {H : Nat → Nat → Bool} {su : Nat} {pl : Int} {n s s' : Nat} {H1 H2 : Nat → Nat → Bool} (h : AckTo P W A D H su pl n s H1) (h' : AckTo P W A D H su pl n s' H2) : s = s' ∧ H1 = H2 := by
  rcases h with ⟨hb, rfl, rfl⟩ | ⟨hb, pn, hp, rfl, h1, h2, h3, h4⟩
  · rcases h' with ⟨_, rfl, rfl⟩ | ⟨hb', _⟩
    · exact ⟨rfl, rfl⟩
    · exact absurd hb hb'
  · rcases h' with ⟨hb', _, _⟩ | ⟨_, pn', hp', rfl, g1, g2, g3, g4⟩
    · exact absurd hb' hb
    · obtain rfl : pn = pn' := by omega
      refine ⟨?_, rfl⟩
      rcases Nat.lt_trichotomy s s' with hlt | rfl | hlt
      · have := g3 s h1 hlt; rw [h4 (by omega)] at this; cases this
      · rfl
      · have := h3 s' g1 hlt; rw [g4 (by omega)] at this; cases this
theorem not_bad {P W n su : Nat} {D : List (List Nat)} {pl : Int} (h1 : su ≤ n) (h2 : n < D.length) (h3 : hasI (setN P W n) pl = true) : ¬ (n < su ∨ D.length ≤ n ∨ hasI (setN P W n) pl = false) := by
  rintro (h | h | h)
  · omega
  · omega
  · rw [h3] at h; cases h
theorem wrack_u {w : World} {B p : Nat} {F : List Nat} {P W A : Nat} {D : List (List Nat)} {H : Nat → Nat → Bool} {su : Nat} {cl : Bool} (pl : Int) (n : Nat) (h : Wq w B p F P W A D H su cl) (hn : n < 18446744073709551616) :
    Calls Try.prog 17 #[.pointer (some ⟨p, 0, none⟩), .int .i64 pl, .int .u64 (n : Nat)] w fun e w' => ∃ s H' a c X, e = .returned (.slice a X.length c) ∧ AckTo P W A D H su pl n s H' ∧ its X = itemsN D su s ∧ IL w' (List.range w.heap.size) a X ∧ Wq w' B p F P W A D H' s cl ∧ Frm [p] w w' := by
  refine (wrack_new pl n h hn).mono ?_
  rintro e w' (⟨hb, rfl, hf, hw⟩ | ⟨h1, h2, h3, pn, rfl, hp, s, a, c, X, rfl, g1, g2, g3, g4, g5, g6, g7, g8⟩)
  · exact ⟨su, H, none, 0, [], rfl, .inl ⟨hb, rfl, rfl⟩, by rw [itemsN_self]; rfl, IL.nil _ _ _, hw, hf.weak (by simp)⟩
  · exact ⟨s, _, a, c, X, rfl, .inr ⟨not_bad h1 h2 h3, pn, rfl, rfl, g1, g2, g4, g5⟩, g3, g6, g7, g8⟩
end Go.Proofs.Ytecfoomjpjcldaa
