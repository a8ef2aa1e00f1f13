/- What the calls of a book answer, and what they make of it: in plain words, for the program and for the document alike. -/
import Derived.Test.YtefplgligmkbiaaLsMath
namespace Go.Proofs.Ytefplgligmkbiaa
open Go.RowKit

/-- Open: an error's number; what is answered; the last Id; the sessions. -/
def openC (last n life : Nat) : Nat := if 1 ≤ life ∧ life ≤ 1099511627776 then (if n = 16 ∨ last = 18446744073709551615 then 14 else 0) else 63
def openR (last n life : Nat) : Nat := if openC last n life = 0 then last + 1 else 0
def openT (last n life : Nat) : Nat := if openC last n life = 0 then last + 1 else last
def openS (X : List Sn) (last now life : Nat) : List Sn := if openC last X.length life = 0 then X ++ [⟨last + 1, sumN now life, life⟩] else X
/-- Renew. -/
def renewC (X : List Sn) (id now : Nat) : Nat := if atS X id < X.length then (if (X.getD (atS X id) default).ends ≤ now then 15 else 0) else 11
def renewL (X : List Sn) (id now : Nat) : List Sn := if renewC X id now = 0 then renewS X (atS X id) now else X
/-- Close. -/
def closeC (X : List Sn) (id : Nat) : Nat := if atS X id < X.length then 0 else 11
def closeL (X : List Sn) (id : Nat) : List Sn := if atS X id < X.length then closeS X (atS X id) else X

theorem openC_ok {last n life : Nat} (h : openC last n life = 0) : 1 ≤ life ∧ life ≤ 1099511627776 ∧ n ≠ 16 ∧ last ≠ 18446744073709551615 := by
  unfold openC at h
  split at h
  · rename_i h1
    split at h
    · omega
    · rename_i h2
      exact ⟨h1.1, h1.2, fun e => h2 (.inl e), fun e => h2 (.inr e)⟩
  · omega
theorem openS_srt {X : List Sn} {last now life : Nat} (h : SrtS last X) : SrtS (openT last X.length life) (openS X last now life) := by
  unfold openT openS
  by_cases hc : openC last X.length life = 0
  · rw [if_pos hc, if_pos hc]
    exact (h.more (by omega)).push _ (fun x hx => by have := (h.from1 x hx).2; show x.id < last + 1; omega) (by show 0 < last + 1; omega) (Nat.le_refl _)
  · rw [if_neg hc, if_neg hc]; exact h
theorem renewL_srt {X : List Sn} {last id now : Nat} (h : SrtS last X) : SrtS last (renewL X id now) := by
  unfold renewL
  by_cases hc : renewC X id now = 0
  · rw [if_pos hc]
    have hin : atS X id < X.length := by
      unfold renewC at hc
      by_cases h1 : atS X id < X.length
      · exact h1
      · rw [if_neg h1] at hc; omega
    exact h.ends _ _ hin
  · rw [if_neg hc]; exact h
theorem renewL_len {X : List Sn} {id now : Nat} : (renewL X id now).length = X.length := by
  unfold renewL renewS; split <;> simp
theorem closeL_srt {X : List Sn} {last id : Nat} (h : SrtS last X) : SrtS last (closeL X id) := by
  unfold closeL; split
  · exact h.sub (closeS_sub _ _)
  · exact h
theorem fits_push {last now life : Nat} (hlife : life ≤ 1099511627776) (hl : last + 1 < 18446744073709551616) : (⟨last + 1, sumN now life, life⟩ : Sn).fits := ⟨hl, sumN_lt _ _, by show life < _; omega⟩

/-! Cells of a block that a run of stores turns. -/
theorem Whole.puts {g : Nat} {t : TypeId} : ∀ (vs : List Value) (o : Nat) {w : World} {cs : List Value}, Whole w g t cs.toArray → o + vs.length ≤ cs.length → Whole (w.setCells g o vs) g t (cs.take o ++ vs ++ cs.drop (o + vs.length)).toArray ∧ Frm [g] w (w.setCells g o vs)
  | [], o, w, cs, h, _ => by
    refine ⟨?_, Frm.refl _ _⟩
    have e : cs.take o ++ [] ++ cs.drop (o + ([] : List Value).length) = cs := by simp
    rw [e]; exact h
  | v :: vs, o, w, cs, h, hl => by
    have h1 := h.put o v
    rw [List.setIfInBounds_toArray] at h1
    have hlc : o < cs.length := by simp at hl; omega
    obtain ⟨h2, h3⟩ := Whole.puts vs (o + 1) h1 (by simp at hl ⊢; omega)
    refine ⟨?_, ((Frm.refl [g] w).setCell (p := ⟨g, o, none⟩) (.inl (by simp)) v).trans h3 (fun x hx => hx) (fun x hx => .inl hx)⟩
    have e : (cs.set o v).take (o + 1) ++ vs ++ (cs.set o v).drop (o + 1 + vs.length) = cs.take o ++ (v :: vs) ++ cs.drop (o + (v :: vs).length) := by
      rw [List.take_succ_eq_append_getElem (by simpa using hlc), List.take_set_of_le (Nat.le_refl _), List.getElem_set_self, List.drop_set_of_lt (by omega)]
      simp [Nat.add_assoc, Nat.add_comm 1]
    rw [← e]
    exact h2
end Go.Proofs.Ytefplgligmkbiaa
