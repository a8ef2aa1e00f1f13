/- (For a door seat.) The program's Reader in the document's words: U8, U64, Text either yield what pN, pT say, or throw the fault. -/
import Derived.Test.YtahhkffghhgojaaDoorMB
namespace Go.Proofs.YtahhkffghhgojaaDoor
open Go.RowKit
set_option maxRecDepth 100000

/-- What taking a thing of value v leaves. -/
def DqE {α : Type} (w : World) (rb cb db : Nat) (x : (α × List Nat) ⊕ Nat) (v : α → Value) (e : Ending) (w' : World) : Prop :=
  (∃ n l', x = .inl (n, l') ∧ e = .returned (v n) ∧ Rdr w' rb cb db l' ∧ Frm [rb] w w') ∨ (∃ c : Nat, x = .inr c ∧ Thrown w rb cb (c : Nat) e w')
theorem dq_u8 {w : World} {rb cb db : Nat} {l : List Nat} (h : Rdr w rb cb db l) (hdb : db < w.heap.size) :
    Calls Tryd.prog 34 #[.pointer (some ⟨rb, 0, none⟩)] w (DqE w rb cb db (pN 1 l) fun n => .int .u8 (n : Nat)) := by
  by_cases hl : l.length < 1
  · refine (ru8_short h hl).mono fun e w' ht => .inr ⟨4, by unfold pN; simp only [hl, if_true], ht⟩
  · refine (ru8_ok h (by omega) hdb).mono ?_
    rintro e w' ⟨rfl, h1, h2⟩
    exact .inl ⟨_, _, by unfold pN; simp only [hl, if_false], rfl, h1, h2⟩
theorem dq_u64 {w : World} {rb cb db : Nat} {l : List Nat} (h : Rdr w rb cb db l) (hdb : db < w.heap.size) :
    Calls Tryd.prog 53 #[.pointer (some ⟨rb, 0, none⟩)] w (DqE w rb cb db (pN 8 l) fun n => .int .u64 (n : Nat)) := by
  by_cases hl : l.length < 8
  · refine (ru64_short h hl).mono fun e w' ht => .inr ⟨4, by unfold pN; simp only [hl, if_true], ht⟩
  · refine (ru64_ok h (by omega) hdb).mono ?_
    rintro e w' ⟨rfl, h1, h2⟩
    exact .inl ⟨_, _, by unfold pN; simp only [hl, if_false], rfl, h1, h2⟩
theorem dq_text {V : List Nat → Bool} (hV : VOk V) {w : World} {rb cb db : Nat} {l : List Nat} (h : Rdr w rb cb db l) (hT : Tabs w) (hB : 2 ≤ rb) (hdb : db < w.heap.size) (hfit : l.length ≤ 100000) :
    Calls Tryd.prog 52 #[.pointer (some ⟨rb, 0, none⟩)] w (DqE w rb cb db (pT V l) fun s => .string s) := by
  by_cases h1 : l.length < 4
  · refine (rtext_none (counted_short h h1)).mono fun e w' ht => .inr ⟨4, by unfold pT; rw [if_pos (.inl h1)], ht⟩
  · by_cases h2 : l.length - 4 < val (l.take 4)
    · refine (rtext_none (counted_less h (by omega) hdb h2)).mono fun e w' ht => .inr ⟨4, by unfold pT; rw [if_pos (.inr h2)], ht⟩
    · have hno : ¬ (l.length < 4 ∨ l.length - 4 < val (l.take 4)) := by omega
      refine (rtext_some hV h hT hB (by omega) hdb (val (l.take 4)) rfl (by omega) hfit).mono ?_
      rintro e w' (⟨hv, rfl, h3, h4⟩ | ⟨hv, ht⟩)
      · exact .inl ⟨_, _, by unfold pT; rw [if_neg hno, if_pos hv], rfl, h3, h4⟩
      · exact .inr ⟨6, by unfold pT; rw [if_neg hno, if_neg (by rw [hv]; simp)], ht⟩
/-- What bytes come to, if the document's Take left this. -/
theorem endTb_of {V : List Nat → Bool} {b : List Nat} {out : List Ln} {x : List Nat ⊕ Nat} (h : (∃ l, x = .inl l ∧ pTb V b = .inl (out, l)) ∨ (∃ c, x = .inr c ∧ pTb V b = .inr c)) :
    (endN x = 0 → endTb V b = .inl out) ∧ (endN x ≠ 0 → endTb V b = .inr (endN x)) := by
  rcases h with ⟨l, rfl, h⟩ | ⟨c, rfl, h⟩
  · unfold endTb endN
    rw [h]
    simp only
    by_cases h0 : l = []
    · simp [h0]
    · simp [h0]
  · have := pTb_ne h
    unfold endTb endN
    rw [h]
    simp [this]
end Go.Proofs.YtahhkffghhgojaaDoor
