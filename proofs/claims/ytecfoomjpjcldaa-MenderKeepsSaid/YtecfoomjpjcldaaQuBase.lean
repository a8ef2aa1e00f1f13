/- The layer quorum, and the document's: is it a quorum, the place of an entry, how many say so. -/
import Derived.Test.YtecfoomjpjcldaaQuMath
import Derived.WalkKit
import Derived.BigGuard
import Derived.BigCall
import Derived.CellFam
import Derived.Deep.Draws
import Derived.Deep.QuietTactic
import Derived.BigQuiet
namespace Go.Proofs.Ytecfoomjpjcldaa
open Go.RowKit
set_option maxRecDepth 100000

/-- A quorum as it is handed in. -/
abbrev quV (p w a : Int) : Value := .agg #[.int .i64 p, .int .i64 w, .int .i64 a]
abbrev quC (p w a : Int) : Array Value := #[.int .i64 p, .int .i64 w, .int .i64 a]

set_option maxHeartbeats 2000000 in
theorem check_any (p q a : Int) (w : World) : Calls Try.prog 34 #[quV p q a] w fun e w' => e = .returned (.bool (okQ p q a)) ∧ Frm [] w w' := by
  have HQ := Lib.hid (show okQ p q a = (decide (1 ≤ a) && (decide (a ≤ q) && (decide (q ≤ p) && decide (p ≤ 7)))) from rfl)
  go_enter Try.func34, Try.ntmps34
  by_cases h1 : decide (1 ≤ a) = true
  · by_cases h2 : decide (a ≤ q) = true
    · by_cases h3 : decide (q ≤ p) = true
      · go_wp2
        go_ret
        refine ⟨?_, (Frm.refl [] w).alloc _⟩
        rw [HQ.out, h1, h2, h3]
        simp
      · replace h3 : decide (q ≤ p) = false := by simpa using h3
        go_wp2
        go_ret
        refine ⟨?_, (Frm.refl [] w).alloc _⟩
        rw [HQ.out, h1, h2, h3]
        simp
    · replace h2 : decide (a ≤ q) = false := by simpa using h2
      go_wp2
      go_ret
      refine ⟨?_, (Frm.refl [] w).alloc _⟩
      rw [HQ.out, h1, h2]
      simp
  · replace h1 : decide (1 ≤ a) = false := by simpa using h1
    go_wp2
    go_ret
    refine ⟨?_, (Frm.refl [] w).alloc _⟩
    rw [HQ.out, h1]
    simp
set_option maxHeartbeats 2000000 in
theorem rcheck_any (p q a : Int) (w : World) : Calls Try.prog 12 #[quV p q a] w fun e w' => e = .returned (.bool (okQ p q a)) ∧ Frm [] w w' := by
  have HQ := Lib.hid (show okQ p q a = (decide (1 ≤ a) && (decide (a ≤ q) && (decide (q ≤ p) && decide (p ≤ 7)))) from rfl)
  go_enter Try.func12, Try.ntmps12
  by_cases h1 : decide (1 ≤ a) = true
  · by_cases h2 : decide (a ≤ q) = true
    · by_cases h3 : decide (q ≤ p) = true
      · go_wp2
        go_ret
        refine ⟨?_, (Frm.refl [] w).alloc _⟩
        rw [HQ.out, h1, h2, h3]
        simp
      · replace h3 : decide (q ≤ p) = false := by simpa using h3
        go_wp2
        go_ret
        refine ⟨?_, (Frm.refl [] w).alloc _⟩
        rw [HQ.out, h1, h2, h3]
        simp
    · replace h2 : decide (a ≤ q) = false := by simpa using h2
      go_wp2
      go_ret
      refine ⟨?_, (Frm.refl [] w).alloc _⟩
      rw [HQ.out, h1, h2]
      simp
  · replace h1 : decide (1 ≤ a) = false := by simpa using h1
    go_wp2
    go_ret
    refine ⟨?_, (Frm.refl [] w).alloc _⟩
    rw [HQ.out, h1]
    simp

/-! The numbers of a quorum that is one. -/
theorem modI (e P : Nat) : ((e : Int)).tmod (P : Int) = ((e % P : Nat) : Int) := by rw [Int.tmod_eq_emod_of_nonneg (by omega)]; exact (Int.natCast_emod e P).symm

set_option maxHeartbeats 2000000 in
theorem place_any (P W A e i : Nat) (w : World) (hP : 0 < P) (h7 : P ≤ 7) (_he : e < 18446744073709551616) (hi : i < 7) :
    Calls Try.prog 62 #[quV P W A, .int .u64 (e : Nat), .int .i64 (i : Nat)] w fun x w' => x = .returned (.int .i64 (plN P e i : Nat)) ∧ Frm [] w w' := by
  have hr : e % P < P := Nat.mod_lt _ hP
  have a1 : IntKind.u64.wrap (P : Int) = (P : Int) := by simp [IntKind.wrap, IntKind.bits, IntKind.signed]; omega
  have a1' : (P : Int) % 18446744073709551616 = (P : Int) := by omega
  have a2 : (P : Int) ≠ 0 := by omega
  have a3 : ((e : Int)).tmod (P : Int) = ((e % P : Nat) : Int) := modI e P
  obtain ⟨r, hre⟩ : ∃ r, r = e % P := ⟨_, rfl⟩
  have hpl : plN P e i = (r + i) % P := by rw [hre]; rfl
  rw [← hre] at a3 hr
  have a4 : IntKind.u64.wrap (r : Int) = (r : Int) := by simp [IntKind.wrap, IntKind.bits, IntKind.signed]; omega
  have a4' : (r : Int) % 18446744073709551616 = (r : Int) := by omega
  have a5 : IntKind.i64.wrap (r : Int) = (r : Int) := by simp [IntKind.wrap, IntKind.bits, IntKind.signed]; omega
  have a6 : IntKind.i64.wrap ((r : Int) + (i : Int)) = ((r + i : Nat) : Int) := by simp [IntKind.wrap, IntKind.bits, IntKind.signed]; omega
  have a7 : (((r + i : Nat) : Int)).tmod (P : Int) = (((r + i) % P : Nat) : Int) := modI (r + i) P
  have hr2 : (r + i) % P < P := Nat.mod_lt _ hP
  rw [hpl]
  clear hre hpl
  obtain ⟨q, hq⟩ : ∃ q, q = (r + i) % P := ⟨_, rfl⟩
  rw [← hq] at a7 hr2 ⊢
  have a8 : IntKind.i64.wrap (q : Int) = (q : Int) := by simp [IntKind.wrap, IntKind.bits, IntKind.signed]; omega
  go_enter Try.func62, Try.ntmps62
  go_wp2_with fail
  go_quiet (fail)
  go_wp2
  go_ret
  refine ⟨?_, (Frm.refl [] w).alloc _ |>.drewN _⟩
  show Ending.returned (.int .i64 (((r : Int) + (i : Int)) % (P : Int))) = _
  rw [show ((r : Int) + (i : Int)) % (P : Int) = (q : Int) from by rw [hq]; exact (Int.natCast_emod (r + i) P).symm]

theorem toldN_succ (P k e : Nat) (bs : List Bool) : toldN P (k + 1) e bs = toldN P k e bs + if bs.getD (plN P e k) false = true then 1 else 0 := by
  unfold toldN
  rw [List.range_succ, List.countP_append]
  simp [List.countP_cons]

/-- At the head of the loop over an entry's places. -/
def ToRel (w : World) (P W A e : Nat) (bs : List Bool) (s7 s12 : Value) (wr : World) : Prop :=
  ∃ k, k ≤ W ∧ s12 = .int .i64 (k : Nat) ∧ s7 = .int .i64 (toldN P k e bs : Nat) ∧ Frm [] w wr ∧ Whole wr w.heap.size 23 (quC P W A)

set_option maxHeartbeats 4000000 in
theorem told_any (P W A e : Nat) (a0 : Option Addr) (len cap : Nat) (bs : List Bool) (w : World) (hP : 0 < P) (h7 : P ≤ 7) (hW : W ≤ P) (he : e < 18446744073709551616) (hb : BIn w a0 bs) (hl : len = bs.length) :
    Calls Try.prog 57 #[quV P W A, .int .u64 (e : Nat), .slice a0 len cap] w fun x w' => x = .returned (.int .i64 (toldN P W e bs : Nat)) ∧ Frm [] w w' := by
  have HB := Lib.hid hb; clear hb
  have HL := Lib.hid hl; clear hl
  go_enter Try.func57, Try.ntmps57
  have HR0 : Hid (ToRel w P W A e bs (.int .i64 (0 : Nat)) (.int .i64 (0 : Nat)) (w.alloc (.cells (quC P W A) 23))) := Lib.hid ⟨0, Nat.zero_le _, rfl, rfl, (Frm.refl [] w).alloc _, Whole.made w _ _⟩
  go_wp2
  go_loopw [7, 12] (fun s7 s12 wr => ToRel w P W A e bs s7 s12 wr) (fun _ s12 _ => W - (intOf s12).toNat)
  case atStart => exact HR0.out
  case round =>
    clear HR0
    obtain ⟨k, hk, rfl, rfl, hf, hq⟩ := hrel
    have c0 : wr.cell? ⟨w.heap.size, 0, none⟩ = some (.int .i64 (P : Int)) := hq.cell 0
    have c1 : wr.cell? ⟨w.heap.size, 1, none⟩ = some (.int .i64 (W : Int)) := hq.cell 1
    have c2 : wr.cell? ⟨w.heap.size, 2, none⟩ = some (.int .i64 (A : Int)) := hq.cell 2
    have HF := Lib.hid hf; clear hf
    have HQ := Lib.hid hq; clear hq
    by_cases hlt : k < W
    · have PL := Lib.hid (place_any P W A e k wr hP h7 he (by omega))
      have hpl := plN_lt hP e k
      have HT := Lib.hid (toldN_succ P k e bs)
      obtain ⟨r, hr⟩ : ∃ r, r = plN P e k := ⟨_, rfl⟩
      rw [← hr] at PL HT hpl
      clear hr
      obtain ⟨n, hn⟩ : ∃ n, n = toldN P k e bs := ⟨_, rfl⟩
      have hn7 : n ≤ k := by rw [hn]; exact toldN_le P k e bs
      rw [← hn] at HT ⊢
      go_wp2_with fail
      refine PL.out.mono ?_
      rintro x w1 ⟨rfl, hf1⟩
      have HF1 := Lib.hid (HF.out.trans hf1 (U := []) (by simp) (by simp))
      have HQ1 := Lib.hid (hf1.whole HQ.out (by simp))
      have HB1 := Lib.hid (HB.out.keep HF1.out)
      clear hf1 c0 c1 c2 HF HQ PL hn
      by_cases hb : r < len
      · have hd : decide ((r : Int) < (len : Int)) = true := decide_eq_true (by omega)
        obtain ⟨b, off, ha, hc⟩ := HB1.out r (by rw [← HL.out]; exact hb)
        obtain ⟨g, hg⟩ : ∃ g, g = bs.getD r false := ⟨_, rfl⟩
        rw [← hg] at hc HT
        subst ha
        clear hg HB1
        cases g
        · go_wp2
          go_roundw
          case rel => exact ⟨k + 1, hlt, by go_num, by rw [HT.out]; rfl, HF1.out, HQ1.out⟩
          case measure => simp [intOf]; omega
        · go_wp2
          go_roundw
          case rel => exact ⟨k + 1, hlt, by go_num, by rw [HT.out]; rfl, HF1.out, HQ1.out⟩
          case measure => simp [intOf]; omega
      · have hd : decide ((r : Int) < (len : Int)) = false := decide_eq_false (by omega)
        have hg : bs.getD r false = false := by rw [List.getD_eq_getElem?_getD, List.getElem?_eq_none (by rw [← HL.out]; omega)]; rfl
        rw [hg] at HT
        clear HB1
        go_wp2
        go_roundw
        case rel => exact ⟨k + 1, hlt, by go_num, by rw [HT.out]; rfl, HF1.out, HQ1.out⟩
        case measure => simp [intOf]; omega
    · have hke : k = W := by omega
      subst hke
      go_wp2
      go_ret
      exact ⟨rfl, HF.out⟩
end Go.Proofs.Ytecfoomjpjcldaa
