/- A book of the call's own through the calls: what each answers and leaves, with all else as it was. -/
import Derived.Test.YtefplgligmkbiaaLsAwake
import Derived.Test.YtefplgligmkbiaaBkClose
import Derived.Test.YtefplgligmkbiaaBkAll
namespace Go.Proofs.Ytefplgligmkbiaa
open Go.RowKit

/-- Since w0 a book was made at p; it has the sessions X now. -/
def Lv (w0 w : World) (p last : Nat) (X : List Sn) : Prop := (∃ Y, Bk w w0.heap.size p 63 last X Y) ∧ Frm [] w0 w
theorem Lv.keep {w0 w w' : World} {p last : Nat} {X : List Sn} {S : List Nat} (h : Lv w0 w p last X) (hf : Frm S w w') (hp : p ∉ S) (hS : ∀ x ∈ S, w0.heap.size ≤ x) : Lv w0 w' p last X := by
  obtain ⟨⟨Y, hb⟩, hw⟩ := h
  exact ⟨⟨Y, hb.keep hf hp⟩, hw.trans hf (by simp) (fun x hx => .inr (hS x hx))⟩
theorem Lv.hp {w0 w : World} {p last : Nat} {X : List Sn} (h : Lv w0 w p last X) : w0.heap.size ≤ p := by obtain ⟨⟨Y, hb⟩, _⟩ := h; exact hb.hp
theorem Lv.few {w0 w : World} {p last : Nat} {X : List Sn} (h : Lv w0 w p last X) : X.length ≤ 16 := by obtain ⟨⟨Y, hb⟩, _⟩ := h; exact hb.few
theorem Lv.to {w0 w w' : World} {p last last' : Nat} {X X' : List Sn} (h : Lv w0 w p last X) (hb : BkTo w w' w0.heap.size p last' X') : Lv w0 w' p last' X' ∧ Frm [p] w w' :=
  ⟨⟨hb.1, h.2.trans hb.2 (by simp) (fun x hx => .inr (by simp at hx; subst hx; exact h.hp))⟩, hb.2⟩
theorem lv_new (w0 w : World) (last : Nat) (hl : last < 18446744073709551616) (hf : Frm [] w0 w) : Calls Try.prog 9 #[.int .u64 (last : Nat), .slice none 0 0] w fun e w' => ∃ p, e = .returned (.tuple #[.pointer (some ⟨p, 0, none⟩), .bool true]) ∧ Lv w0 w' p last [] ∧ w.heap.size ≤ p ∧ Frm [] w w' := by
  refine (new_nil w last hl).mono ?_
  rintro e w' ⟨p, Y, he, hb, hf'⟩
  exact ⟨p, he, ⟨⟨Y, { hb with hp := Nat.le_trans hf.size hb.hp }⟩, hf.trans hf' (by simp) (by simp)⟩, hb.hp, hf'⟩
theorem lv_open {w0 w : World} {p last : Nat} {X : List Sn} (now life : Nat) (h : Lv w0 w p last X) (hnow : now < 18446744073709551616) :
    Calls Try.prog 11 #[.pointer (some ⟨p, 0, none⟩), .int .u64 (now : Nat), .int .u64 (life : Nat)] w fun e w' => e = .returned (.tuple #[.int .u64 (openR last X.length life : Nat), .int .i64 (openC last X.length life : Nat)]) ∧ Lv w0 w' p (openT last X.length life) (openS X last now life) ∧ Frm [p] w w' := by
  obtain ⟨Y, hb⟩ := h.1
  refine (open_any now life hb hnow).mono ?_
  rintro e w' ⟨he, hb'⟩
  exact ⟨he, h.to hb'⟩
theorem lv_renew {w0 w : World} {p last : Nat} {X : List Sn} (id now : Nat) (h : Lv w0 w p last X) (hnow : now < 18446744073709551616) :
    Calls Try.prog 13 #[.pointer (some ⟨p, 0, none⟩), .int .u64 (id : Nat), .int .u64 (now : Nat)] w fun e w' => e = .returned (.int .i64 (renewC X id now : Nat)) ∧ Lv w0 w' p last (renewL X id now) ∧ Frm [p] w w' := by
  obtain ⟨Y, hb⟩ := h.1
  refine (renew_any id now hb hnow).mono ?_
  rintro e w' ⟨he, hb'⟩
  exact ⟨he, h.to hb'⟩
theorem lv_close {w0 w : World} {p last : Nat} {X : List Sn} (id : Nat) (h : Lv w0 w p last X) :
    Calls Try.prog 15 #[.pointer (some ⟨p, 0, none⟩), .int .u64 (id : Nat)] w fun e w' => e = .returned (.int .i64 (closeC X id : Nat)) ∧ Lv w0 w' p last (closeL X id) ∧ Frm [p] w w' := by
  obtain ⟨Y, hb⟩ := h.1
  refine (close_any id hb).mono ?_
  rintro e w' ⟨he, hb'⟩
  exact ⟨he, h.to hb'⟩
theorem lv_expire {w0 w : World} {p last : Nat} {X : List Sn} (now : Nat) (h : Lv w0 w p last X) :
    Calls Try.prog 18 #[.pointer (some ⟨p, 0, none⟩), .int .u64 (now : Nat)] w fun e w' => ∃ ga gc, e = .returned (.slice ga (goneS now X).length gc) ∧ ValsAt w' ga (uvs (goneS now X)) ∧ Lv w0 w' p last (leftS now X) ∧ Frm [p] w w' := by
  obtain ⟨Y, hb⟩ := h.1
  refine (expire_any now hb).mono ?_
  rintro e w' ⟨ga, gc, he, _, hv, hb'⟩
  exact ⟨ga, gc, he, hv, h.to hb'⟩
theorem lv_live {w0 w : World} {p last : Nat} {X : List Sn} (id now : Nat) (h : Lv w0 w p last X) :
    Calls Try.prog 21 #[.pointer (some ⟨p, 0, none⟩), .int .u64 (id : Nat), .int .u64 (now : Nat)] w fun e w' => e = .returned (.bool (liveS X id now)) ∧ Lv w0 w' p last X ∧ Frm [] w w' := by
  obtain ⟨Y, hb⟩ := h.1
  refine (live_any id now hb).mono ?_
  rintro e w' ⟨he, hf⟩
  exact ⟨he, h.keep hf (by simp) (by simp), hf⟩
theorem lv_all {w0 w : World} {p last n : Nat} {X : List Sn} (h : Lv w0 w p last X) (hn : n = X.length) :
    Calls Try.prog 23 #[.pointer (some ⟨p, 0, none⟩)] w fun e w' => ∃ a2 c2, e = .returned (.tuple #[.int .u64 (last : Nat), .slice a2 n c2]) ∧ SL w' [] a2 X ∧ Lv w0 w' p last X ∧ Frm [] w w' := by
  obtain ⟨Y, hb⟩ := h.1
  refine (all_any hb n hn).mono ?_
  rintro e w' ⟨a2, c2, he, ho, hf⟩
  exact ⟨a2, c2, he, ho.sl, h.keep hf (by simp) (by simp), hf⟩
/-- What is at a place is there. -/
theorem atS_in {X : List Sn} {r : Nat} (hr : r < X.length) : atS X (X.getD r default).id < X.length := by
  rcases Nat.lt_or_ge (atS X (X.getD r default).id) X.length with h | h
  · exact h
  · exact absurd rfl (atS_before (X := X) (id := (X.getD r default).id) (j := r) (by omega))
end Go.Proofs.Ytefplgligmkbiaa
