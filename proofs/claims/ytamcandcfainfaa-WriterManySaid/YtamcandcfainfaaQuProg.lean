/- The layer quorum: Enough, Covered. -/
import Derived.Test.YtamcandcfainfaaQuSet
import Derived.Deep.RegionHeld3
namespace Go.Proofs.Ytamcandcfainfaa
open Go.RowKit
set_option maxRecDepth 100000

/-- Have so many said so? -/
def enN (P W A e : Nat) (bs : List Bool) : Bool := decide (A ≤ toldN P W e bs)

set_option maxHeartbeats 4000000 in
theorem enough_any (P W A e : Nat) (a0 : Option Addr) (len cap : Nat) (bs : List Bool) (w : World) (hA : 1 ≤ A) (hAW : A ≤ W) (h7 : P ≤ 7) (hW : W ≤ P) (he : e < 18446744073709551616) (hb : BIn w a0 bs) (hl : len = bs.length) :
    Calls Try.prog 34 #[quV P W A, .int .u64 (e : Nat), .slice a0 len cap] w fun x w' => x = .returned (.bool (enN P W A e bs)) ∧ Frm [] w w' := by
  go_enter Try.func34, Try.ntmps34
  have HQ0 := Lib.hid (Whole.made w 23 (quC P W A))
  have HF0 := Lib.hid ((Frm.refl [] w).alloc (.cells (quC P W A) 23))
  go_wp2_with fail
  generalize hw0 : w.alloc (.cells (quC P W A) 23) = w0 at HQ0 HF0 ⊢
  clear hw0
  obtain ⟨p, hp⟩ : ∃ p, p = w.heap.size := ⟨_, rfl⟩
  rw [← hp] at HQ0 ⊢
  have hb0 := hb.keep HF0.out
  clear hp hb
  have CK := Lib.hid (fun z => check_any P W A z)
  rw [(okQ_iff P W A).2 (by omega)] at CK
  have TO := Lib.hid (fun z (hz : Frm [] w0 z) => told_any P W A e a0 len cap bs z (by omega) h7 hW he (hb0.keep hz) hl)
  have n0 : ∀ y, Frm [] w0 y → y.cell? ⟨p, 0, none⟩ = some (.int .i64 (P : Int)) := fun y hy => (hy.whole HQ0.out (by simp)).cell 0
  have n1 : ∀ y, Frm [] w0 y → y.cell? ⟨p, 1, none⟩ = some (.int .i64 (W : Int)) := fun y hy => (hy.whole HQ0.out (by simp)).cell 1
  have n2 : ∀ y, Frm [] w0 y → y.cell? ⟨p, 2, none⟩ = some (.int .i64 (A : Int)) := fun y hy => (hy.whole HQ0.out (by simp)).cell 2
  clear hb0 hl
  have hS0 := Frm.refl [] w0
  go_region_held3 (fun y => Frm [] w0 y) (repeat (first | assumption | apply Frm.drew | exact Frm.refl _ _)) ((first
    | (go_at_call 24; (with_reducible refine (CK.out _).mono ?_); rintro ex wz ⟨rfl, hfz⟩; have S1 : Frm [] w0 wz := Frm.trans (by assumption) hfz (by simp) (by simp); clear hfz)
    | (go_at_call 41; (with_reducible refine (TO.out _ (by assumption)).mono ?_); rintro ex wz ⟨rfl, hfz⟩; have S1 : Frm [] w0 wz := Frm.trans (by assumption) hfz (by simp) (by simp); clear hfz)))
  all_goals
    go_wp2
    go_ret
    exact ⟨by simp [enN], Frm.trans HF0.out (by assumption) (by simp) (by simp)⟩

theorem covN_yes {P W A : Nat} {bs : List Bool} (h : ∀ e, e < P → W - A < toldN P W e bs) : covN P W A bs = true := by
  unfold covN
  rw [List.all_eq_true]
  intro e he
  exact decide_eq_true (h e (List.mem_range.1 he))
theorem covN_no {P W A e : Nat} {bs : List Bool} (he : e < P) (h : toldN P W e bs ≤ W - A) : covN P W A bs = false := by
  refine Bool.eq_false_iff.2 fun ht => ?_
  unfold covN at ht
  rw [List.all_eq_true] at ht
  have := ht e (List.mem_range.2 he)
  simp at this
  omega

def CoRel (w : World) (p P W A : Nat) (bs : List Bool) (s11 : Value) (wr : World) : Prop :=
  ∃ k, k ≤ P ∧ s11 = .int .i64 (k : Nat) ∧ (∀ e, e < k → W - A < toldN P W e bs) ∧ Frm [] w wr ∧ Whole wr p 23 (quC P W A)

end Go.Proofs.Ytamcandcfainfaa
