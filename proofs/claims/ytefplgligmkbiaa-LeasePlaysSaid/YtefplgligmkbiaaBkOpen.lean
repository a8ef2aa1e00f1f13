/- Contracts of the program's Open and Renew. -/
import Derived.Test.YtefplgligmkbiaaBkFind
import Derived.Test.YtefplgligmkbiaaBkAdd
import Derived.Test.YtefplgligmkbiaaLsCalls
import Derived.Deep.RegionWith
import Derived.Deep.RegionLaw
namespace Go.Proofs.Ytefplgligmkbiaa
open Go.RowKit

theorem Bk.bump {w : World} {B p : Nat} {t : TypeId} {last : Nat} {X Y : List Sn} (h : Bk w B p t last X Y) (hl : last + 1 < 18446744073709551616) : Bk (w.setCell ⟨p, 0, none⟩ (.int .u64 ((last + 1 : Nat) : Nat))) B p t (last + 1) X Y :=
  { h with book := by have h0 := h.book.put 0 (.int .u64 ((last + 1 : Nat) : Nat)); simpa [bkL] using h0, lt := hl, srt := h.srt.more (by omega) }
/-- What a call that answers a value leaves. -/
def BkEnd (w : World) (B p : Nat) (last' : Nat) (X' : List Sn) (v : Value) (e : Ending) (w' : World) : Prop := e = .returned v ∧ BkTo w w' B p last' X'

set_option maxRecDepth 100000 in
set_option maxHeartbeats 4000000 in
theorem open_any {w : World} {B p last : Nat} {X Y : List Sn} (now life : Nat) (h : Bk w B p 63 last X Y) (hnow : now < 18446744073709551616) :
    Calls Try.prog 11 #[.pointer (some ⟨p, 0, none⟩), .int .u64 (now : Nat), .int .u64 (life : Nat)] w
      (BkEnd w B p (openT last X.length life) (openS X last now life) (.tuple #[.int .u64 (openR last X.length life : Nat), .int .i64 (openC last X.length life : Nat)])) := by
  have hLA := lasts_any (w := w) life
  have c0 := h.c0
  have c1 := h.c1
  have f0 := h.book.free 0
  have hsrt := openS_srt (now := now) (life := life) h.srt
  have HSAME : Hid (BkTo w w B p last X) := Lib.hid ⟨⟨Y, h⟩, Frm.refl _ _⟩
  by_cases hlife : lastsS life
  · rw [show decide (lastsS life) = true from decide_eq_true hlife] at hLA
    have HLA := Lib.hid hLA; clear hLA
    by_cases h16 : X.length = 16
    · have hc : openC last X.length life = 14 := by unfold openC; rw [if_pos (show 1 ≤ life ∧ life ≤ 1099511627776 from hlife), if_pos (.inl h16)]
      have hr : openR last X.length life = 0 := by unfold openR; rw [hc]; rfl
      have ht : openT last X.length life = last := by unfold openT; rw [hc]; rfl
      have hX : openS X last now life = X := by unfold openS; rw [hc]; rfl
      rw [hc, hr, ht, hX]
      rw [h16] at c1
      clear hc hr ht hX h hsrt
      go_enter Try.func11, Try.ntmps11
      go_wp2_with fail
      (with_reducible refine HLA.out.mono ?_)
      rintro e w' ⟨rfl, rfl⟩
      go_wp2
      go_ret2
      exact ⟨rfl, HSAME.out⟩
    · by_cases hmax : last = 18446744073709551615
      · have hc : openC last X.length life = 14 := by unfold openC; rw [if_pos (show 1 ≤ life ∧ life ≤ 1099511627776 from hlife), if_pos (.inr hmax)]
        have hr : openR last X.length life = 0 := by unfold openR; rw [hc]; rfl
        have ht : openT last X.length life = last := by unfold openT; rw [hc]; rfl
        have hX : openS X last now life = X := by unfold openS; rw [hc]; rfl
        rw [hc, hr, ht, hX]
        generalize X.length = n at c1 h16
        have hn16 : ((n : Int) == 16) = false := by rw [beq_eq_false_iff_ne]; omega
        have hmm : ((last : Int) == 18446744073709551615) = true := by rw [beq_iff_eq]; omega
        clear hc hr ht hX h hsrt hmax
        go_enter Try.func11, Try.ntmps11
        go_wp2_with fail
        (with_reducible refine HLA.out.mono ?_)
        rintro e w' ⟨rfl, rfl⟩
        go_wp2
        go_ret2
        exact ⟨rfl, HSAME.out⟩
      · have hc : openC last X.length life = 0 := by unfold openC; rw [if_pos (show 1 ≤ life ∧ life ≤ 1099511627776 from hlife), if_neg (fun h => h.elim h16 hmax)]
        have hr : openR last X.length life = last + 1 := by unfold openR; rw [hc]; rfl
        have ht : openT last X.length life = last + 1 := by unfold openT; rw [hc]; rfl
        have hX : openS X last now life = X ++ [⟨last + 1, sumN now life, life⟩] := by unfold openS; rw [hc]; rfl
        rw [ht, hX] at hsrt
        rw [hc, hr, ht, hX]
        have hlt := h.lt
        have hl1 : last + 1 < 18446744073709551616 := by omega
        have hx16 : X.length < 16 := by have := h.few; omega
        have hb1 := h.bump hl1
        have HAD := Lib.hid (fun (z : World) (hz : Frm [] (w.setCell ⟨p, 0, none⟩ (.int .u64 ((last + 1 : Nat) : Nat))) z) => add_any (w := z) ⟨last + 1, sumN now life, life⟩ (hb1.keep hz (by simp)) (fits_push hlife.2 hl1) hx16 hsrt)
        have hf1 : Frm [p] w (w.setCell ⟨p, 0, none⟩ (.int .u64 ((last + 1 : Nat) : Nat))) := (Frm.refl _ _).setCell (.inl (by simp)) _
        have HEN := Lib.hid (fun w => end_any (w := w) now life hnow)
        unfold Sn.val at HAD
        simp only at HAD
        obtain ⟨s, hs⟩ : ∃ s, s = sumN now life := ⟨_, rfl⟩
        rw [← hs] at HAD HEN ⊢
        obtain ⟨l1, hl1'⟩ : ∃ l1, l1 = last + 1 := ⟨_, rfl⟩
        have hw0 : ((last : Int) + 1) % 18446744073709551616 = (l1 : Int) := by omega
        have hw : IntKind.u64.wrap ((last : Int) + 1) = (l1 : Int) := by rw [← hw0]; simp [IntKind.wrap, IntKind.bits, IntKind.signed]
        rw [← hl1'] at HAD hf1 hb1 ⊢
        have c01 := hb1.c0
        obtain ⟨w1, hw1⟩ : ∃ w1, w1 = w.setCell ⟨p, 0, none⟩ (.int .u64 (l1 : Nat)) := ⟨_, rfl⟩
        rw [← hw1] at HAD hf1 c01
        have HF1 := Lib.hid hf1
        have hw1' : w.setCell ⟨p, 0, none⟩ (.int .u64 (l1 : Nat)) = w1 := hw1.symm
        generalize X.length = n at c1 h16
        have hn16 : ((n : Int) == 16) = false := by rw [beq_eq_false_iff_ne]; omega
        have hmm : ((last : Int) == 18446744073709551615) = false := by rw [beq_eq_false_iff_ne]; omega
        clear hc hr ht hX h hsrt hmax hb1 hf1 hs hl1' hl1 hw1 HSAME hlt hx16 h16
        go_enter Try.func11, Try.ntmps11
        go_wp2_with fail
        (with_reducible refine HLA.out.mono ?_)
        rintro e w' ⟨rfl, rfl⟩
        go_wp2
        try rw [hw1']
        go_region_with (first
          | (go_at_call 27; refine (HEN.out _).mono ?_; rintro e w' ⟨rfl, rfl⟩)
          | (go_at_call 25; refine (HAD.out _ (by repeat (first | exact Frm.refl _ _ | apply Frm.drew))).mono ?_; rintro e w5 ⟨rfl, ⟨Y5, hb5⟩, hf5⟩; have c05 := hb5.c0; have HE5 : Hid (BkTo w w5 B p l1 (X ++ [⟨l1, s, life⟩])) := (Lib.hid ⟨⟨Y5, hb5⟩, HF1.out.trans (Frm.drew (Frm.refl [] w1) |>.weak (by simp) |>.trans hf5 (fun x hx => hx) (fun x hx => .inl hx)) (fun x hx => hx) (fun x hx => .inl hx)⟩); clear hb5 hf5))
        all_goals
          go_wp2
          go_ret2
          exact ⟨rfl, HE5.out⟩
  · rw [show decide (lastsS life) = false from decide_eq_false hlife] at hLA
    have HLA := Lib.hid hLA; clear hLA
    have hc : openC last X.length life = 63 := by unfold openC; rw [if_neg (show ¬ (1 ≤ life ∧ life ≤ 1099511627776) from hlife)]
    have hr : openR last X.length life = 0 := by unfold openR; rw [hc]; rfl
    have ht : openT last X.length life = last := by unfold openT; rw [hc]; rfl
    have hX : openS X last now life = X := by unfold openS; rw [hc]; rfl
    rw [hc, hr, ht, hX]
    clear hc hr ht hX h hsrt hlife
    go_enter Try.func11, Try.ntmps11
    go_wp2_with fail
    (with_reducible refine HLA.out.mono ?_)
    rintro e w' ⟨rfl, rfl⟩
    go_wp2
    go_ret2
    exact ⟨rfl, HSAME.out⟩
end Go.Proofs.Ytefplgligmkbiaa
