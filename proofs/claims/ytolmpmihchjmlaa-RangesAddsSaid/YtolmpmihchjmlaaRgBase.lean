/- What a slice of ranges reads as; sort.Search over a predicate of the call's own; the predicates of package ranges. -/
import Derived.Test.YtolmpmihchjmlaaRgMath
import Derived.Test.YtolmpmihchjmlaaFrm
import Derived.WalkKit
import Derived.Deep.LoopGhost
import Derived.Deep.QuietTactic
import Derived.BigQuiet
import Derived.Outline
import Derived.IntWalk
import Derived.Lib.Hide
namespace Go.Proofs.Ytolmpmihchjmlaa
open Go.RowKit

/-- A slice at a reads as the ranges l. -/
def Rr (w : World) (a : Option Addr) (l : List Rg) : Prop :=
  (∀ p ∈ l, p.1 < 18446744073709551616 ∧ p.2 < 18446744073709551616) ∧
  (0 < l.length → ∃ b off, a = some ⟨b, off, none⟩ ∧ ∀ i, i < l.length →
    w.cell? ⟨b, off + i * 2, none⟩ = some (.int .u64 ((l.getD i (0, 0)).1 : Nat)) ∧ w.cell? ⟨b, off + i * 2 + 1, none⟩ = some (.int .u64 ((l.getD i (0, 0)).2 : Nat)))
theorem Rr.nil (w : World) (a : Option Addr) : Rr w a [] := ⟨by simp, fun h => absurd h (by simp)⟩
theorem getD_bd {l : List Rg} (h : ∀ p ∈ l, p.1 < 18446744073709551616 ∧ p.2 < 18446744073709551616) (i : Nat) : (l.getD i (0, 0)).1 < 18446744073709551616 ∧ (l.getD i (0, 0)).2 < 18446744073709551616 := by
  by_cases hi : i < l.length
  · have e : l.getD i (0, 0) = l[i] := by simp [hi]
    rw [e]; exact h _ (List.getElem_mem hi)
  · have e : l.getD i (0, 0) = (0, 0) := by simp [Nat.le_of_not_lt hi]
    rw [e]; simp
theorem Rr.keep {w w' : World} {a : Option Addr} {l : List Rg} {S : List Nat} (h : Rr w a l) (hf : Frm S w w') (hn : 0 < l.length → ∀ x, a = some x → x.block ∉ S) : Rr w' a l := by
  refine ⟨h.1, fun h0 => ?_⟩
  obtain ⟨b, off, rfl, hc⟩ := h.2 h0
  have hb := hn h0 ⟨b, off, none⟩ rfl
  refine ⟨b, off, rfl, fun i hi => ?_⟩
  obtain ⟨c0, c1⟩ := hc i hi
  exact ⟨(hf.cell (p := ⟨b, off + i * 2, none⟩) (block_lt_of_cell c0) hb).trans c0, (hf.cell (p := ⟨b, off + i * 2 + 1, none⟩) (block_lt_of_cell c1) hb).trans c1⟩
theorem Rr.keep0 {w w' : World} {a : Option Addr} {l : List Rg} (h : Rr w a l) (hf : Frm [] w w') : Rr w' a l := h.keep hf (by simp)
theorem Rr.lt {w : World} {a : Option Addr} {l : List Rg} (h : Rr w a l) (h0 : 0 < l.length) : ∀ x, a = some x → x.block < w.heap.size := by
  intro x hx
  obtain ⟨b, off, rfl, hc⟩ := h.2 h0
  cases hx
  exact block_lt_of_cell (a := ⟨b, off + 0 * 2, none⟩) (hc 0 h0).1

/-- What Search hands back. -/
def SearchPost (w : World) (n : Nat) (p : Nat → Bool) (e : Ending) (w' : World) : Prop :=
  ∃ r : Nat, e = .returned (.int .i64 r) ∧ r ≤ n ∧ (∀ t, t < r → p t = false) ∧ (∀ t, r ≤ t → t < n → p t = true) ∧ Frm [] w w'
def SRel (w : World) (n : Nat) (p : Nat → Bool) (kx : Nat) (s5 s6 : Value) (wr : World) : Prop :=
  ∃ lo hi : Nat, s5 = .int .i64 lo ∧ s6 = .int .i64 hi ∧ lo ≤ hi ∧ hi ≤ n ∧ hi - lo ≤ kx ∧ Frm [] w wr ∧ (∀ t, t < lo → p t = false) ∧ (∀ t, hi ≤ t → t < n → p t = true)

set_option maxHeartbeats 2000000 in
theorem search_any (g : Nat) (cb : Array Value) (n : Nat) (p : Nat → Bool) (w : World) (eg : ∀ args w, (callFunc g args).run Try.prog w = .ok (.enter g args) w) (hsz : n < 4611686018427387904)
    (hf : ∀ (wr : World) (i : Nat), Frm [] w wr → i < n → Calls Try.prog g (#[.int .i64 i] ++ cb) wr fun e w' => e = .returned (.bool (p i)) ∧ Frm [] wr w')
    (hmono : ∀ a b, a ≤ b → b < n → p a = true → p b = true) :
    Calls Try.prog 54 #[.int .i64 n, .func (.func g) #[] cb] w (SearchPost w n p) := by
  have HF := Lib.hid hf; clear hf
  have M := Lib.hid hmono; clear hmono
  go_enter Try.func54, Try.ntmps54
  go_wp2
  go_loopg [5, 6] n (fun kx s5 s6 wr => SRel w n p kx s5 s6 wr)
  case atStart => exact ⟨0, n, rfl, rfl, Nat.zero_le _, Nat.le_refl _, by omega, Frm.refl _ _, fun t ht => absurd ht (Nat.not_lt_zero _), fun t h1 h2 => by omega⟩
  case round =>
    obtain ⟨lo, hi, rfl, rfl, hlh, hin, hg, hw, hA, hB⟩ := hrel
    have HW := Lib.hid hw; clear hw
    have HA := Lib.hid hA; clear hA
    have HB := Lib.hid hB; clear hB
    by_cases hlt : lo < hi
    · have hc := HF.out wr ((lo + hi) / 2) HW.out (by omega)
      rw [show (((lo + hi) / 2 : Nat) : Int) = ((lo : Int) + (hi : Int)) / 2 by omega] at hc
      cases hp : p ((lo + hi) / 2) <;> rw [hp] at hc
      · have HP := Lib.hid hp
        clear hp
        go_wp2_with fail
        refine hc.mono ?_
        rintro e w' ⟨rfl, hw'⟩
        have HW' := Lib.hid hw'; clear hw'
        go_wp2
        go_roundg (hi - ((lo + hi) / 2 + 1))
        case measure => omega
        case rel =>
          exact ⟨(lo + hi) / 2 + 1, hi, by rw [show ((lo : Int) + (hi : Int)) / 2 + 1 = (((lo + hi) / 2 + 1 : Nat) : Int) by omega], rfl, by omega, hin, Nat.le_refl _, HW.out.trans HW'.out (by simp) (by simp), fun t ht => (by
            cases h : p t with
            | false => rfl
            | true => have := M.out t ((lo + hi) / 2) (by omega) (by omega) h; rw [HP.out] at this; cases this), HB.out⟩
      · have HP := Lib.hid hp
        clear hp
        go_wp2_with fail
        refine hc.mono ?_
        rintro e w' ⟨rfl, hw'⟩
        have HW' := Lib.hid hw'; clear hw'
        go_wp2
        go_roundg ((lo + hi) / 2 - lo)
        case measure => omega
        case rel =>
          exact ⟨lo, (lo + hi) / 2, rfl, by rw [show ((lo : Int) + (hi : Int)) / 2 = (((lo + hi) / 2 : Nat) : Int) by omega], by omega, by omega, Nat.le_refl _, HW.out.trans HW'.out (by simp) (by simp), HA.out, fun t ht htn => M.out ((lo + hi) / 2) t ht htn HP.out⟩
    · obtain rfl : hi = lo := by omega
      go_wp2
      go_ret
      exact ⟨_, rfl, hin, HA.out, HB.out, HW.out⟩
end Go.Proofs.Ytolmpmihchjmlaa
