/- The layer quorum: Enough, Covered. -/
import Derived.Test.YtecfoomjpjcldaaQuSet
import Derived.Deep.RegionHeld3
namespace Go.Proofs.Ytecfoomjpjcldaa
open Go.RowKit
set_option maxRecDepth 100000

/-- Have so many said so? -/
def enN (P W A e : Nat) (bs : List Bool) : Bool := decide (A ≤ toldN P W e bs)

set_option maxHeartbeats 4000000 in
theorem enough_any (P W A e : Nat) (a0 : Option Addr) (len cap : Nat) (bs : List Bool) (w : World) (hA : 1 ≤ A) (hAW : A ≤ W) (h7 : P ≤ 7) (hW : W ≤ P) (he : e < 18446744073709551616) (hb : BIn w a0 bs) (hl : len = bs.length) :
    Calls Try.prog 46 #[quV P W A, .int .u64 (e : Nat), .slice a0 len cap] w fun x w' => x = .returned (.bool (enN P W A e bs)) ∧ Frm [] w w' := by
  go_enter Try.func46, Try.ntmps46
  have HQ0 := Lib.hid (Whole.made w 23 (quC P W A))
  have HF0 := Lib.hid ((Frm.refl [] w).alloc (.cells (quC P W A) 23))
  go_wp2_with fail
  generalize hw0 : w.alloc (.cells (quC P W A) 23) = w0 at HQ0 HF0 ⊢
  clear hw0
  obtain ⟨p, hp⟩ : ∃ p, p = w.heap.size := ⟨_, rfl⟩
  rw [← hp] at HQ0 ⊢
  have hb0 := hb.keep HF0.out
  clear hp hb
  have CK := Lib.hid (fun z => check_any P W A z)
  rw [(okQ_iff P W A).2 (by omega)] at CK
  have TO := Lib.hid (fun z (hz : Frm [] w0 z) => told_any P W A e a0 len cap bs z (by omega) h7 hW he (hb0.keep hz) hl)
  have n0 : ∀ y, Frm [] w0 y → y.cell? ⟨p, 0, none⟩ = some (.int .i64 (P : Int)) := fun y hy => (hy.whole HQ0.out (by simp)).cell 0
  have n1 : ∀ y, Frm [] w0 y → y.cell? ⟨p, 1, none⟩ = some (.int .i64 (W : Int)) := fun y hy => (hy.whole HQ0.out (by simp)).cell 1
  have n2 : ∀ y, Frm [] w0 y → y.cell? ⟨p, 2, none⟩ = some (.int .i64 (A : Int)) := fun y hy => (hy.whole HQ0.out (by simp)).cell 2
  clear hb0 hl
  have hS0 := Frm.refl [] w0
  go_region_held3 (fun y => Frm [] w0 y) (repeat (first | assumption | apply Frm.drew | exact Frm.refl _ _)) ((first
    | (go_at_call 34; (with_reducible refine (CK.out _).mono ?_); rintro ex wz ⟨rfl, hfz⟩; have S1 : Frm [] w0 wz := Frm.trans (by assumption) hfz (by simp) (by simp); clear hfz)
    | (go_at_call 57; (with_reducible refine (TO.out _ (by assumption)).mono ?_); rintro ex wz ⟨rfl, hfz⟩; have S1 : Frm [] w0 wz := Frm.trans (by assumption) hfz (by simp) (by simp); clear hfz)))
  all_goals
    go_wp2
    go_ret
    exact ⟨by simp [enN], Frm.trans HF0.out (by assumption) (by simp) (by simp)⟩

theorem covN_yes {P W A : Nat} {bs : List Bool} (h : ∀ e, e < P → W - A < toldN P W e bs) : covN P W A bs = true := by
  unfold covN
  rw [List.all_eq_true]
  intro e he
  exact decide_eq_true (h e (List.mem_range.1 he))
theorem covN_no {P W A e : Nat} {bs : List Bool} (he : e < P) (h : toldN P W e bs ≤ W - A) : covN P W A bs = false := by
  refine Bool.eq_false_iff.2 fun ht => ?_
  unfold covN at ht
  rw [List.all_eq_true] at ht
  have := ht e (List.mem_range.2 he)
  simp at this
  omega

def CoRel (w : World) (p P W A : Nat) (bs : List Bool) (s11 : Value) (wr : World) : Prop :=
  ∃ k, k ≤ P ∧ s11 = .int .i64 (k : Nat) ∧ (∀ e, e < k → W - A < toldN P W e bs) ∧ Frm [] w wr ∧ Whole wr p 23 (quC P W A)

set_option maxHeartbeats 4000000 in
theorem covered_any (P W A : Nat) (a0 : Option Addr) (len cap : Nat) (bs : List Bool) (w : World) (hA : 1 ≤ A) (hAW : A ≤ W) (h7 : P ≤ 7) (hW : W ≤ P) (hb : BIn w a0 bs) (hl : len = bs.length) :
    Calls Try.prog 51 #[quV P W A, .slice a0 len cap] w fun x w' => x = .returned (.bool (covN P W A bs)) ∧ Frm [] w w' := by
  have HB := Lib.hid hb; clear hb
  have HL := Lib.hid hl; clear hl
  go_enter Try.func51, Try.ntmps51
  have HQ0 := Lib.hid (Whole.made w 23 (quC P W A))
  have HF0 := Lib.hid ((Frm.refl [] w).alloc (.cells (quC P W A) 23))
  have c0 : (w.alloc (.cells (quC P W A) 23)).cell? ⟨w.heap.size, 0, none⟩ = some (.int .i64 (P : Int)) := (Whole.made w _ _).cell 0
  have c1 : (w.alloc (.cells (quC P W A) 23)).cell? ⟨w.heap.size, 1, none⟩ = some (.int .i64 (W : Int)) := (Whole.made w _ _).cell 1
  have c2 : (w.alloc (.cells (quC P W A) 23)).cell? ⟨w.heap.size, 2, none⟩ = some (.int .i64 (A : Int)) := (Whole.made w _ _).cell 2
  have CK := Lib.hid (fun z => check_any P W A z)
  rw [(okQ_iff P W A).2 (by omega)] at CK
  go_wp2_with fail
  generalize hw0 : w.alloc (.cells (quC P W A) 23) = w0 at c0 c1 c2 HQ0 HF0 ⊢
  clear hw0
  obtain ⟨p, hp⟩ : ∃ p, p = w.heap.size := ⟨_, rfl⟩
  rw [← hp] at HQ0 c0 c1 c2 ⊢
  clear hp
  refine (CK.out w0).mono ?_
  rintro x w1 ⟨rfl, hf1⟩
  have HQ1 := Lib.hid (hf1.whole HQ0.out (by simp))
  have HF1 := Lib.hid (HF0.out.trans hf1 (U := []) (by simp) (by simp))
  have d0 : w1.cell? ⟨p, 0, none⟩ = some (.int .i64 (P : Int)) := HQ1.out.cell 0
  have HR0 : Hid (CoRel w p P W A bs (.int .i64 (0 : Nat)) w1) := Lib.hid ⟨0, Nat.zero_le _, rfl, fun e he => absurd he (by omega), HF1.out, HQ1.out⟩
  clear hf1 HQ0 HF0 c0 c1 c2 CK HF1 HQ1
  go_wp2
  clear d0
  go_loopw [11] (fun s11 wr => CoRel w p P W A bs s11 wr) (fun s11 _ => P - (intOf s11).toNat)
  case atStart => exact HR0.out
  case round =>
    clear HR0
    obtain ⟨k, hk, rfl, hall, hf, hq⟩ := hrel
    have HF := Lib.hid hf; clear hf
    have HQ := Lib.hid hq; clear hq
    have HALL := Lib.hid hall; clear hall
    by_cases hlt : k < P
    · have TO := Lib.hid (fun z (hz : Frm [] wr z) => told_any P W A k a0 len cap bs z (by omega) h7 hW (by omega) (HB.out.keep (HF.out.trans hz (U := []) (by simp) (by simp))) HL.out)
      have n0 : ∀ y, Frm [] wr y → y.cell? ⟨p, 0, none⟩ = some (.int .i64 (P : Int)) := fun y hy => (hy.whole HQ.out (by simp)).cell 0
      have n1 : ∀ y, Frm [] wr y → y.cell? ⟨p, 1, none⟩ = some (.int .i64 (W : Int)) := fun y hy => (hy.whole HQ.out (by simp)).cell 1
      have n2 : ∀ y, Frm [] wr y → y.cell? ⟨p, 2, none⟩ = some (.int .i64 (A : Int)) := fun y hy => (hy.whole HQ.out (by simp)).cell 2
      have u1 : IntKind.u64.wrap (k : Int) = (k : Int) := by simp [IntKind.wrap, IntKind.bits, IntKind.signed]; omega
      have u2 : IntKind.i64.wrap ((W : Int) - (A : Int)) = (W : Int) - (A : Int) := IntWalk.i64_in _ (by omega)
      obtain ⟨n, hn⟩ : ∃ n, n = toldN P W k bs := ⟨_, rfl⟩
      rw [← hn] at TO
      have HN := Lib.hid hn; clear hn
      go_wp2
      have hS0 := Frm.refl [] wr
      by_cases hc : n ≤ W - A
      · have hd : decide ((n : Int) ≤ (W : Int) - (A : Int)) = true := decide_eq_true (by omega)
        go_region_held3 (fun y => Frm [] wr y) (repeat (first | assumption | apply Frm.drew | exact Frm.refl _ _)) (
          (go_at_call 57; (with_reducible refine (TO.out _ (by assumption)).mono ?_); rintro ex wz ⟨rfl, hfz⟩; have S1 : Frm [] wr wz := Frm.trans (by assumption) hfz (by simp) (by simp); clear hfz))
        all_goals
          clear n0 n1 n2 TO
          go_wp2
          go_ret
          exact ⟨by rw [covN_no hlt (by rw [← HN.out]; exact hc)]; rfl, HF.out.trans S1 (by simp) (by simp)⟩
      · have hd : decide ((n : Int) ≤ (W : Int) - (A : Int)) = false := decide_eq_false (by omega)
        go_region_held3 (fun y => Frm [] wr y) (repeat (first | assumption | apply Frm.drew | exact Frm.refl _ _)) (
          (go_at_call 57; (with_reducible refine (TO.out _ (by assumption)).mono ?_); rintro ex wz ⟨rfl, hfz⟩; have S1 : Frm [] wr wz := Frm.trans (by assumption) hfz (by simp) (by simp); clear hfz))
        all_goals
          clear n0 n1 n2 TO
          go_wp2
          go_roundw
          case rel =>
            refine ⟨k + 1, hlt, by go_num, fun e he => ?_, HF.out.trans S1 (by simp) (by simp), S1.whole HQ.out (by simp)⟩
            by_cases hek : e = k
            · rw [hek, ← HN.out]; omega
            · exact HALL.out e (by omega)
          case measure => simp [intOf]; omega
    · obtain rfl : k = P := by omega
      go_wp2
      go_ret
      exact ⟨by rw [covN_yes HALL.out]; rfl, HF.out⟩
end Go.Proofs.Ytecfoomjpjcldaa
