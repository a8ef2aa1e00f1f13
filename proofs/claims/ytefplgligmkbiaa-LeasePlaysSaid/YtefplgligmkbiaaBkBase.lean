/- Contracts of the program's small functions over sessions: over, end, lasts, the comparison, sessions, find. -/
import Derived.Test.YtefplgligmkbiaaLsMath
import Derived.WalkKit
import Derived.Outline
import Derived.BigQuiet
namespace Go.Proofs.Ytefplgligmkbiaa
open Go.RowKit

set_option maxHeartbeats 1000000 in
theorem over_any {w : World} (s : Sn) (now : Nat) :
    Calls Try.prog 30 #[s.val, .int .u64 (now : Nat)] w fun e w' => e = .returned (.bool (decide (s.ends ≤ now))) ∧ Frm [] w w' := by
  obtain ⟨i, en, li⟩ := s
  unfold Sn.val
  by_cases h : en ≤ now
  · rw [show decide ((⟨i, en, li⟩ : Sn).ends ≤ now) = true from decide_eq_true h]
    go_enter Try.func30, Try.ntmps30
    go_wp2
    go_ret
    exact ⟨rfl, (Frm.refl [] w).alloc _⟩
  · rw [show decide ((⟨i, en, li⟩ : Sn).ends ≤ now) = false from decide_eq_false h]
    go_enter Try.func30, Try.ntmps30
    go_wp2
    go_ret
    exact ⟨rfl, (Frm.refl [] w).alloc _⟩

set_option maxHeartbeats 1000000 in
theorem end_any {w : World} (a b : Nat) (ha : a < 18446744073709551616) :
    Calls Try.prog 27 #[.int .u64 (a : Nat), .int .u64 (b : Nat)] w fun e w' => e = .returned (.int .u64 (sumN a b : Nat)) ∧ w = w' := by
  obtain ⟨r, hr⟩ : ∃ r, r = 18446744073709551615 - a := ⟨_, rfl⟩
  have hr0 : (18446744073709551615 - (a : Int)) % 18446744073709551616 = (r : Int) := by omega
  have hrw : IntKind.u64.wrap (18446744073709551615 - (a : Int)) = (r : Int) := by rw [← hr0]; simp [IntKind.wrap, IntKind.bits, IntKind.signed]
  obtain ⟨m, hm⟩ : ∃ m, m = min b r := ⟨_, rfl⟩
  have hmin : min (b : Int) (r : Int) = (m : Int) := by omega
  obtain ⟨s, hs⟩ : ∃ s, s = sumN a b := ⟨_, rfl⟩
  have hs2 : a + m = s := by rw [hs]; unfold sumN; split <;> omega
  have hs3 : s < 18446744073709551616 := by rw [hs]; exact sumN_lt _ _
  have hw0 : ((a : Int) + (m : Int)) % 18446744073709551616 = (s : Int) := by omega
  have hw : IntKind.u64.wrap ((a : Int) + (m : Int)) = (s : Int) := by rw [← hw0]; simp [IntKind.wrap, IntKind.bits, IntKind.signed]
  rw [← hs]
  by_cases hbr : (b : Int) ≤ (r : Int)
  · have hbr2 : ¬ (r : Int) < (b : Int) := by omega
    obtain rfl : m = b := by omega
    clear hs hs2 hs3 hm hr ha
    go_enter Try.func27, Try.ntmps27
    go_wp2
    go_ret
    exact ⟨rfl, rfl⟩
  · have hbr2 : (r : Int) < (b : Int) := by omega
    obtain rfl : m = r := by omega
    clear hs hs2 hs3 hm hr ha
    go_enter Try.func27, Try.ntmps27
    go_wp2
    go_ret
    exact ⟨rfl, rfl⟩

def lastsS (life : Nat) : Prop := 1 ≤ life ∧ life ≤ 1099511627776
instance (life : Nat) : Decidable (lastsS life) := by unfold lastsS; infer_instance
set_option maxHeartbeats 1000000 in
theorem lasts_any {w : World} (life : Nat) :
    Calls Try.prog 26 #[.int .u64 (life : Nat)] w fun e w' => e = .returned (.bool (decide (lastsS life))) ∧ w = w' := by
  unfold lastsS
  by_cases h1 : 1 ≤ life
  · by_cases h2 : life ≤ 1099511627776
    · rw [show decide (1 ≤ life ∧ life ≤ 1099511627776) = true from decide_eq_true ⟨h1, h2⟩]
      have h3 : decide ((1 : Int) ≤ (life : Int)) = true := decide_eq_true (by omega)
      have h4 : decide ((life : Int) ≤ 1099511627776) = true := decide_eq_true (by omega)
      go_enter Try.func26, Try.ntmps26
      go_wp2
      go_ret
      exact ⟨rfl, rfl⟩
    · rw [show decide (1 ≤ life ∧ life ≤ 1099511627776) = false from decide_eq_false (fun h => h2 h.2)]
      have h3 : decide ((1 : Int) ≤ (life : Int)) = true := decide_eq_true (by omega)
      have h4 : decide ((life : Int) ≤ 1099511627776) = false := decide_eq_false (by omega)
      go_enter Try.func26, Try.ntmps26
      go_wp2
      go_ret
      exact ⟨rfl, rfl⟩
  · rw [show decide (1 ≤ life ∧ life ≤ 1099511627776) = false from decide_eq_false (fun h => h1 h.1)]
    have h3 : decide ((1 : Int) ≤ (life : Int)) = false := decide_eq_false (by omega)
    go_enter Try.func26, Try.ntmps26
    go_wp2
    go_ret
    exact ⟨rfl, rfl⟩

theorem isNaN_any {w : World} (a : Nat) : Calls Try.prog 39 #[.int .u64 (a : Nat)] w fun e w' => e = .returned (.bool false) ∧ w = w' := by
  go_enter Try.func39, Try.ntmps39
  go_wp2
  go_ret
  exact ⟨rfl, rfl⟩
def cmpN (a b : Nat) : Int := if a < b then -1 else if b < a then 1 else 0
set_option maxHeartbeats 1000000 in
theorem cmpU_any {w : World} (a b : Nat) : Calls Try.prog 38 #[.int .u64 (a : Nat), .int .u64 (b : Nat)] w fun e w' => e = .returned (.int .i64 (cmpN a b)) ∧ w = w' := by
  have h1 := Lib.hid (fun w => isNaN_any (w := w) a)
  have h2 := Lib.hid (fun w => isNaN_any (w := w) b)
  unfold cmpN
  by_cases ha : a < b
  · rw [if_pos ha]
    go_enter Try.func38, Try.ntmps38
    go_wp2_with ((first | (with_reducible refine (h1.out _).mono ?_) | (with_reducible refine (h2.out _).mono ?_)); rintro e w' ⟨rfl, rfl⟩)
    go_ret
    exact ⟨rfl, rfl⟩
  · rw [if_neg ha]
    by_cases hb : b < a
    · rw [if_pos hb]
      go_enter Try.func38, Try.ntmps38
      go_wp2_with ((first | (with_reducible refine (h1.out _).mono ?_) | (with_reducible refine (h2.out _).mono ?_)); rintro e w' ⟨rfl, rfl⟩)
      go_ret
      exact ⟨rfl, rfl⟩
    · rw [if_neg hb]
      go_enter Try.func38, Try.ntmps38
      go_wp2_with ((first | (with_reducible refine (h1.out _).mono ?_) | (with_reducible refine (h2.out _).mono ?_)); rintro e w' ⟨rfl, rfl⟩)
      go_ret
      exact ⟨rfl, rfl⟩
set_option maxHeartbeats 1000000 in
theorem findf_any {w : World} (s : Sn) (id : Nat) : Calls Try.prog 37 #[s.val, .int .u64 (id : Nat)] w fun e w' => e = .returned (.int .i64 (cmpN s.id id)) ∧ Frm [] w w' := by
  obtain ⟨i, en, li⟩ := s
  unfold Sn.val
  have h1 := Lib.hid (fun w => cmpU_any (w := w) i id)
  show Calls _ _ _ _ fun e w' => e = .returned (.int .i64 (cmpN i id)) ∧ _
  generalize cmpN i id = c at h1 ⊢
  go_enter Try.func37, Try.ntmps37
  go_wp2_with ((with_reducible refine (h1.out _).mono ?_); rintro e w' ⟨rfl, rfl⟩)
  go_ret
  exact ⟨rfl, (Frm.refl [] w).alloc _⟩

/-- A slice of the book's array. -/
theorem run_row (w : World) (p n : Nat) (hn : n ≤ 16) : (Instr.sliceAt 61 (.pointer (some ⟨p, 2, none⟩)) none (some (.int .i64 (n : Nat))) none).run Try.prog w = .ok (.slice (some ⟨p, 2, none⟩) n 16) w := by
  have he : Try.prog.elem 61 = 56 := by kernel_rfl
  have hl : Try.prog.arrayLen 61 = 16 := by kernel_rfl
  have hz : ∀ w, (Go.sizeOf 56).run Try.prog w = .ok 3 w := fun _ => by kernel_rfl
  have ht : Try.prog.underlying 61 = some (.array (Try.prog.arrayLen 61) (Try.prog.elem 61)) := by kernel_rfl
  rw [run_sliceAt_array_h w _ _ ht .i64 _ (by omega) (by omega), he, hz, hl]
  simp [Result.andThen, slicedAt, Addr.add]

set_option maxHeartbeats 1000000 in
theorem sessions_any {w : World} {B p last : Nat} {X Y : List Sn} (h : Bk w B p 63 last X Y) :
    Calls Try.prog 33 #[.pointer (some ⟨p, 0, none⟩)] w fun e w' => e = .returned (.slice (some ⟨p, 2, none⟩) X.length 16) ∧ Frm [] w w' := by
  have c1 := h.c1
  have hn := h.few
  have hrow := fun w => run_row w p X.length hn
  generalize X.length = n at c1 hn hrow ⊢
  clear h
  go_enter Try.func33, Try.ntmps33
  go_wp2
  go_region
  go_wp2
  go_ret
  exact ⟨rfl, (Frm.refl [] w).drewN _⟩
end Go.Proofs.Ytefplgligmkbiaa
