/- The document's book of sessions in memory; contracts of at, Live, SameSessions. (For stage 7.) -/
import Derived.Test.YtefplgligmkbiaaSn
import Derived.WalkKit
import Derived.Outline
namespace Go.Proofs.Ytefplgligmkbiaa
open Go.RowKit

/-- The document's book at p: the last Id, the sessions X; its row lies outside p and the blocks F. -/
structure Rb (w : World) (B p : Nat) (F : List Nat) (a : Option Addr) (cap last : Nat) (X : List Sn) : Prop where
  book : Whole w p 66 #[.int .u64 (last : Nat), .slice a X.length cap]
  row : SOwn w B 56 (p :: F) a cap X
  hp : B ≤ p
  out : p ∉ F
  few : X.length ≤ 16
  lt : last < 18446744073709551616
def atSI (X : List Sn) (id : Nat) : Int := if atS X id < X.length then ((atS X id : Nat) : Int) else -1

set_option maxRecDepth 100000 in
set_option maxHeartbeats 1000000 in
theorem rbat_any {w : World} {B p : Nat} {F : List Nat} {a : Option Addr} {cap last : Nat} {X : List Sn} (id : Nat) (h : Rb w B p F a cap last X) :
    Calls Try.prog 31 #[.pointer (some ⟨p, 0, none⟩), .int .u64 (id : Nat)] w fun e w' => e = .returned (.int .i64 (atSI X id)) ∧ w = w' := by
  have c1 := h.book.cell 1
  simp at c1
  have hn := h.few
  obtain ⟨n, hnn⟩ : ∃ n, n = X.length := ⟨_, rfl⟩
  rw [← hnn] at c1 hn
  have HR := Lib.hid h.row.sl
  have HN := Lib.hid hnn
  have hle := atS_le X id
  rw [← hnn] at hle
  have hatI : atSI X id = if atS X id < n then ((atS X id : Nat) : Int) else -1 := by unfold atSI; rw [hnn]
  have HAK := Lib.hid (fun h => atS_at (X := X) (id := id) h)
  have HAB := Lib.hid (fun j h => atS_before (X := X) (id := id) (j := j) h)
  obtain ⟨q, hq⟩ : ∃ q, q = atS X id := ⟨_, rfl⟩
  rw [← hq] at hle hatI HAK HAB
  have HAI := Lib.hid hatI
  clear h hnn hatI hq
  go_enter Try.func31, Try.ntmps31
  go_wp2
  go_loop [5] (fun u => ∃ k : Nat, k ≤ n ∧ k ≤ q ∧ u = .int .i64 (k : Nat)) (fun u => n - (intOf u).toNat)
  case atStart => exact ⟨0, Nat.zero_le _, Nat.zero_le _, rfl⟩
  case round =>
    obtain ⟨k, hk, hkq, rfl⟩ := hrel
    by_cases hlt : k < n
    · obtain ⟨b, off, rfl, p0, _⟩ := HR.out.at (i := k) (by have := HN.out; omega)
      by_cases hkq2 : k = q
      · subst hkq2
        have hkey := HAK.out (by have := HN.out; omega)
        rw [hkey] at p0
        go_wp2
        go_ret
        exact ⟨ret_same (by rw [HAI.out, if_pos hlt]), rfl⟩
      · obtain ⟨K, hK⟩ : ∃ K, K = (X.getD k default).id := ⟨_, rfl⟩
        have hne : ¬ K = id := by rw [hK]; exact HAB.out k (by omega)
        rw [← hK] at p0
        have hnt : ((K : Int) == (id : Int)) = false := by rw [beq_eq_false_iff_ne]; omega
        clear hK hne
        go_wp2
        go_round
        case rel => exact ⟨k + 1, by omega, by omega, by go_num⟩
        case measure => simp [intOf]; omega
    · go_wp2
      go_ret
      exact ⟨ret_same (by rw [HAI.out, if_neg (by omega)]), rfl⟩
/-- Is a session there, in time? -/
def liveS (X : List Sn) (id now : Nat) : Bool := decide (atS X id < X.length) && decide (now < (X.getD (atS X id) default).ends)

set_option maxRecDepth 100000 in
set_option maxHeartbeats 1000000 in
theorem rblive_any {w : World} {B p : Nat} {F : List Nat} {a : Option Addr} {cap last : Nat} {X : List Sn} (id now : Nat) (h : Rb w B p F a cap last X) :
    Calls Try.prog 22 #[.pointer (some ⟨p, 0, none⟩), .int .u64 (id : Nat), .int .u64 (now : Nat)] w fun e w' => e = .returned (.bool (liveS X id now)) ∧ w = w' := by
  have hA := rbat_any id h
  have c1 := h.book.cell 1
  simp at c1
  have hn := h.few
  unfold liveS
  by_cases hin : atS X id < X.length
  · obtain ⟨b, off, rfl, p0, p1, p2, _⟩ := h.row.sl.at hin
    have hat : atSI X id = ((atS X id : Nat) : Int) := by unfold atSI; rw [if_pos hin]
    rw [hat] at hA
    rw [decide_eq_true hin, Bool.true_and]
    generalize (X.getD (atS X id) default).ends = ends at p1
    generalize atS X id = q at hA p1 hin
    obtain ⟨n, hnn⟩ : ∃ n, n = X.length := ⟨_, rfl⟩
    rw [← hnn] at c1 hn hin
    have HA := Lib.hid hA
    clear h hA hat hnn p0 p2
    by_cases hnow : now < ends
    · rw [decide_eq_true hnow]
      go_enter Try.func22, Try.ntmps22
      go_wp2_with ((with_reducible refine HA.out.mono ?_); rintro e w' ⟨rfl, rfl⟩)
      go_ret
      exact ⟨rfl, rfl⟩
    · rw [decide_eq_false hnow]
      go_enter Try.func22, Try.ntmps22
      go_wp2_with ((with_reducible refine HA.out.mono ?_); rintro e w' ⟨rfl, rfl⟩)
      go_ret
      exact ⟨rfl, rfl⟩
  · have hat : atSI X id = -1 := by unfold atSI; rw [if_neg hin]
    rw [hat] at hA
    rw [decide_eq_false hin, Bool.false_and]
    have HA := Lib.hid hA
    clear h hA hat c1
    go_enter Try.func22, Try.ntmps22
    go_wp2_with ((with_reducible refine HA.out.mono ?_); rintro e w' ⟨rfl, rfl⟩)
    go_ret
    exact ⟨rfl, rfl⟩
end Go.Proofs.Ytefplgligmkbiaa
