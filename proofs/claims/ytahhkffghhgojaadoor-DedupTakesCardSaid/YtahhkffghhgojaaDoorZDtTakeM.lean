/- What a table that is taken has so far. It speaks of no program. -/
import Derived.Test.YtahhkffghhgojaaDoorMB
import Derived.Test.YtahhkffghhgojaaDoorZMapS
namespace Go.Proofs.YtahhkffghhgojaaDoor
open Go.RowKit
set_option maxRecDepth 100000

def lastN (out : List Ln) : ByteArray := (out.getD (out.length - 1) default).nm
theorem kl_empty (s : ByteArray) : kl ⟨#[]⟩ s = !decide (s.size = 0) := by
  rw [kl_data]
  show Op.bytesLess [] s.data.toList = _
  cases h : s.data.toList with
  | nil =>
    have : s.size = 0 := by rw [Lib.size_eq, h]; rfl
    simp [Op.bytesLess, this]
  | cons x r =>
    have : s.size ≠ 0 := by rw [Lib.size_eq, h]; simp
    simp [Op.bytesLess, this]
theorem kl_to_empty (a : ByteArray) (s : ByteArray) (h : s.size = 0) : kl a s = false := by
  rw [kl_data]
  have : s.data.toList = [] := List.eq_nil_of_length_eq_zero (by rw [← Lib.size_eq]; exact h)
  rw [this]
  cases a.data.toList <;> rfl
/-- The program asks the same. -/
theorem badL_eq (out : List Ln) (x : Ln) : badL out x = (!kl (lastN out) x.nm || decide (64 < x.nm.size) || decide (x.done = 0) || decide (out.length = 16)) := by
  unfold badL
  rcases out with _ | ⟨y, r⟩
  · have h1 : lastN [] = ⟨#[]⟩ := rfl
    rw [h1, kl_empty]
    simp
  · have h1 : (y :: r).getD ((y :: r).length - 1) default = (y :: r).getD ((y :: r).length - 1) default := rfl
    have h2 : decide (0 < (y :: r).length) = true := by simp
    rw [h2]
    unfold lastN
    by_cases h0 : x.nm.size = 0
    · rw [kl_to_empty _ _ h0]; simp [h0]
    · simp only [h0, decide_false, Bool.false_or, Bool.true_and]
      generalize kl ((y :: r).getD ((y :: r).length - 1) default).nm x.nm = a
      generalize decide (64 < x.nm.size) = b
      generalize decide (x.done = 0) = c
      generalize decide ((y :: r).length = 16) = d
      cases a <;> cases b <;> cases c <;> cases d <;> rfl
/-- All that holds of them. -/
structure TkOk (out : List Ln) : Prop where
  srt : SrtL out
  fits : ∀ x ∈ out, x.fits ∧ 1 ≤ x.nm.size ∧ x.nm.size ≤ 64 ∧ 0 < x.done ∧ x.top = x.done
  few : out.length ≤ 16
theorem TkOk.nil : TkOk [] := ⟨List.Pairwise.nil, by simp, by simp⟩
theorem getD_last {out : List Ln} {x : Ln} (hx : x ∈ out) (h : SrtL out) : x.nm = lastN out ∨ kl x.nm (lastN out) = true := by
  obtain ⟨i, hi, rfl⟩ := List.getElem_of_mem hx
  have hl : out.length - 1 < out.length := by omega
  unfold lastN
  rw [ln_get hl]
  by_cases e : i = out.length - 1
  · subst e; exact .inl rfl
  · exact .inr (List.pairwise_iff_getElem.1 h i (out.length - 1) hi hl (by omega))
theorem TkOk.below {out : List Ln} (h : TkOk out) {x : Ln} (hx : kl (lastN out) x.nm = true) : ∀ y ∈ out, kl y.nm x.nm = true := by
  intro y hy
  rcases getD_last hy h.srt with e | e
  · rw [e]; exact hx
  · exact kl_trans e hx
theorem good_parts {out : List Ln} {x : Ln} (h : badL out x = false) : kl (lastN out) x.nm = true ∧ x.nm.size ≤ 64 ∧ x.done ≠ 0 ∧ out.length ≠ 16 ∧ 1 ≤ x.nm.size := by
  have h2 := h
  rw [badL_eq] at h
  simp only [Bool.or_eq_false_iff, Bool.not_eq_false', decide_eq_false_iff_not] at h
  obtain ⟨⟨⟨h3, h4⟩, h5⟩, h6⟩ := h
  refine ⟨h3, by omega, h5, h6, ?_⟩
  rcases Nat.eq_zero_or_pos x.nm.size with h0 | h0
  · rw [kl_to_empty _ _ h0] at h3; cases h3
  · exact h0
theorem TkOk.next {out : List Ln} (h : TkOk out) {x : Ln} (hb : badL out x = false) (hf : x.fits) (ht : x.top = x.done) : TkOk (out ++ [x]) := by
  obtain ⟨h1, h2, h3, h4, h5⟩ := good_parts hb
  refine ⟨?_, fun y hy => ?_, by have := h.few; simp; omega⟩
  · unfold SrtL
    rw [List.pairwise_append]
    exact ⟨h.srt, by simp, fun y hy z hz => by simp at hz; subst hz; exact h.below h1 y hy⟩
  · rcases List.mem_append.1 hy with h6 | h6
    · exact h.fits y h6
    · simp at h6; subst h6; exact ⟨hf, h5, h2, Nat.pos_of_ne_zero h3, ht⟩
theorem TkOk.put {out : List Ln} (h : TkOk out) {x : Ln} (hb : badL out x = false) : putL out x = out ++ [x] := by
  have h1 := (good_parts hb).1
  have hn : lookL out x.nm = none := lookL_none.2 (fun y hy e => by have := h.below h1 y hy; rw [e] at this; exact absurd this (by unfold kl; rw [less_irr]; simp))
  unfold putL
  rw [hn]
  rfl
theorem TkOk.tb {out : List Ln} (h : TkOk out) : TbOk out := ⟨h.srt.dist, fun x hx => ⟨(h.fits x hx).2.1, (h.fits x hx).2.2.1⟩, h.few, fun x hx => (h.fits x hx).1⟩
theorem lastN_snoc (out : List Ln) (x : Ln) : lastN (out ++ [x]) = x.nm := by
  unfold lastN
  simp
end Go.Proofs.YtahhkffghhgojaaDoor
