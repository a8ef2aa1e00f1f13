/- Contracts of the predicates of package ranges, of endsBehind and of what only reads ranges. -/
import Derived.Test.YtolmpmihchjmlaaRgBase
namespace Go.Proofs.Ytolmpmihchjmlaa
open Go.RowKit

theorem ret_dec {p q : Prop} [Decidable p] [Decidable q] (h : p ↔ q) : Ending.returned (.bool (decide p)) = .returned (.bool (decide q)) := by rw [decide_eq_decide.2 h]

section
variable {w : World} {a : Option Addr} {l : List Rg} (h : Rr w a l) {b2 b3 i n cap : Nat} {r : Rg} (hi : i < l.length) (hn : n = l.length)
  (c2 : w.cell? ⟨b2, 0, none⟩ = some (.slice a n cap)) (c3 : w.cell? ⟨b3, 0, none⟩ = some (.int .u64 (r.1 : Nat))) (c4 : w.cell? ⟨b3, 1, none⟩ = some (.int .u64 (r.2 : Nat)))
include h hi hn c2 c3 c4
theorem add1_any : Calls Try.prog 55 (#[.int .i64 i] ++ #[.pointer (some ⟨b2, 0, none⟩), .pointer (some ⟨b3, 0, none⟩)]) w fun e w' => e = .returned (.bool (decide (r.1 ≤ (l.getD i (0, 0)).2))) ∧ Frm [] w w' := by
  obtain ⟨b, off, rfl, hc⟩ := h.2 (by omega)
  obtain ⟨d0, d1⟩ := hc i hi
  obtain ⟨x, hx⟩ : ∃ x, x = (l.getD i (0, 0)).2 := ⟨_, rfl⟩
  rw [← hx] at d1 ⊢
  obtain ⟨r1, r2⟩ := r
  simp only at c3 c4 ⊢
  have hlt : (i : Int) < (n : Int) := by omega
  clear hx h hc d0 c4 hn hi
  show Calls Try.prog 55 #[.int .i64 i, .pointer (some ⟨b2, 0, none⟩), .pointer (some ⟨b3, 0, none⟩)] w _
  go_enter Try.func55, Try.ntmps55
  go_wp2
  go_quiet (fail)
  go_wp2
  go_ret
  exact ⟨ret_dec (by omega), (Frm.refl _ _).drewN _⟩
theorem add2_any : Calls Try.prog 56 (#[.int .i64 i] ++ #[.pointer (some ⟨b2, 0, none⟩), .pointer (some ⟨b3, 0, none⟩)]) w fun e w' => e = .returned (.bool (decide (r.2 < (l.getD i (0, 0)).1))) ∧ Frm [] w w' := by
  obtain ⟨b, off, rfl, hc⟩ := h.2 (by omega)
  obtain ⟨d0, d1⟩ := hc i hi
  obtain ⟨x, hx⟩ : ∃ x, x = (l.getD i (0, 0)).1 := ⟨_, rfl⟩
  rw [← hx] at d0 ⊢
  obtain ⟨r1, r2⟩ := r
  simp only at c3 c4 ⊢
  have hlt : (i : Int) < (n : Int) := by omega
  clear hx h hc d1 c3 hn hi
  show Calls Try.prog 56 #[.int .i64 i, .pointer (some ⟨b2, 0, none⟩), .pointer (some ⟨b3, 0, none⟩)] w _
  go_enter Try.func56, Try.ntmps56
  go_wp2
  go_quiet (fail)
  go_wp2
  go_ret
  exact ⟨ret_dec (by omega), (Frm.refl _ _).drewN _⟩
theorem rem1_any : Calls Try.prog 58 (#[.int .i64 i] ++ #[.pointer (some ⟨b2, 0, none⟩), .pointer (some ⟨b3, 0, none⟩)]) w fun e w' => e = .returned (.bool (decide (r.2 ≤ (l.getD i (0, 0)).1))) ∧ Frm [] w w' := by
  obtain ⟨b, off, rfl, hc⟩ := h.2 (by omega)
  obtain ⟨d0, d1⟩ := hc i hi
  obtain ⟨x, hx⟩ : ∃ x, x = (l.getD i (0, 0)).1 := ⟨_, rfl⟩
  rw [← hx] at d0 ⊢
  obtain ⟨r1, r2⟩ := r
  simp only at c3 c4 ⊢
  have hlt : (i : Int) < (n : Int) := by omega
  clear hx h hc d1 c3 hn hi
  show Calls Try.prog 58 #[.int .i64 i, .pointer (some ⟨b2, 0, none⟩), .pointer (some ⟨b3, 0, none⟩)] w _
  go_enter Try.func58, Try.ntmps58
  go_wp2
  go_quiet (fail)
  go_wp2
  go_ret
  exact ⟨ret_dec (by omega), (Frm.refl _ _).drewN _⟩
end
theorem beh1_any {w : World} {a : Option Addr} {l : List Rg} (h : Rr w a l) {b2 b3 i n cap x : Nat} (hi : i < l.length) (hn : n = l.length)
    (c2 : w.cell? ⟨b2, 0, none⟩ = some (.slice a n cap)) (c3 : w.cell? ⟨b3, 0, none⟩ = some (.int .u64 (x : Nat))) :
    Calls Try.prog 67 (#[.int .i64 i] ++ #[.pointer (some ⟨b2, 0, none⟩), .pointer (some ⟨b3, 0, none⟩)]) w fun e w' => e = .returned (.bool (decide (x < (l.getD i (0, 0)).2))) ∧ Frm [] w w' := by
  obtain ⟨b, off, rfl, hc⟩ := h.2 (by omega)
  obtain ⟨d0, d1⟩ := hc i hi
  obtain ⟨y, hy⟩ : ∃ x, x = (l.getD i (0, 0)).2 := ⟨_, rfl⟩
  rw [← hy] at d1 ⊢
  have hlt : (i : Int) < (n : Int) := by omega
  clear hy h hc d0 hn hi
  show Calls Try.prog 67 #[.int .i64 i, .pointer (some ⟨b2, 0, none⟩), .pointer (some ⟨b3, 0, none⟩)] w _
  go_enter Try.func67, Try.ntmps67
  go_wp2
  go_quiet (fail)
  go_wp2
  go_ret
  exact ⟨ret_dec (by omega), (Frm.refl _ _).drewN _⟩

theorem enters_add1 (args : Array Value) (w : World) : (callFunc 55 args).run Try.prog w = .ok (.enter 55 args) w := by kernel_rfl
theorem enters_add2 (args : Array Value) (w : World) : (callFunc 56 args).run Try.prog w = .ok (.enter 56 args) w := by kernel_rfl
theorem enters_rem1 (args : Array Value) (w : World) : (callFunc 58 args).run Try.prog w = .ok (.enter 58 args) w := by kernel_rfl
theorem enters_beh1 (args : Array Value) (w : World) : (callFunc 67 args).run Try.prog w = .ok (.enter 67 args) w := by kernel_rfl

theorem rt_le {l : List Rg} (h : Rt l) {i j : Nat} (hij : i ≤ j) (hj : j < l.length) : (l.getD i (0, 0)).1 ≤ (l.getD j (0, 0)).1 ∧ (l.getD i (0, 0)).2 ≤ (l.getD j (0, 0)).2 := by
  rcases Nat.lt_or_eq_of_le hij with h1 | rfl
  · have := rt_gap h h1 hj
    have := rt_lt h (i := i) (by omega)
    have := rt_lt h hj
    omega
  · exact ⟨Nat.le_refl _, Nat.le_refl _⟩

/-- The first one that ends behind x. -/
def Behind (w : World) (l : List Rg) (x : Nat) (e : Ending) (w' : World) : Prop :=
  ∃ r : Nat, e = .returned (.int .i64 r) ∧ r ≤ l.length ∧ (∀ t, t < r → (l.getD t (0, 0)).2 ≤ x) ∧ (∀ t, r ≤ t → t < l.length → x < (l.getD t (0, 0)).2) ∧ Frm [] w w'

set_option maxHeartbeats 1000000 in
theorem behind_any {w : World} {a : Option Addr} {l : List Rg} (h : Rr w a l) (hr : Rt l) {n cap x : Nat} (hn : n = l.length) (hsz : n < 4611686018427387904) :
    Calls Try.prog 52 #[.slice a n cap, .int .u64 x] w (Behind w l x) := by
  have hmf : ∀ (fn : Fn) (first cap : Array Value) (w : World), (Instr.makeFunc fn first cap).run Try.prog w = .ok (.func fn first cap) w := fun _ _ _ _ => rfl
  obtain ⟨W0, hW0⟩ : ∃ W0, W0 = (w.alloc (.cells #[.slice a n cap] 44)).alloc (.cells #[.int .u64 x] 33) := ⟨_, rfl⟩
  have h2 : Whole W0 w.heap.size 44 #[.slice a n cap] := by rw [hW0]; exact (Whole.made w _ _).alloc _
  have h3 : Whole W0 (w.heap.size + 1) 33 #[.int .u64 x] := by
    rw [hW0]
    have := Whole.made (w.alloc (.cells #[.slice a n cap] 44)) 33 #[.int .u64 x]
    simpa using this
  have hF : Frm [] w W0 := by rw [hW0]; exact ((Frm.refl _ _).alloc _).alloc _
  have hrr := h.keep0 hF
  have S := Lib.hid (search_any 67 #[.pointer (some ⟨w.heap.size, 0, none⟩), .pointer (some ⟨w.heap.size + 1, 0, none⟩)] n (fun i => decide (x < (l.getD i (0, 0)).2)) W0 enters_beh1 hsz
    (fun wr i hf hi => beh1_any (hrr.keep0 hf) (by omega) hn ((hf.whole h2 (by simp)).cell 0) ((hf.whole h3 (by simp)).cell 0))
    (fun i j hij hj hd => by
      have h1 := rt_le hr hij (by omega)
      have h2 : x < (l.getD i (0, 0)).2 := of_decide_eq_true hd
      exact decide_eq_true (show x < (l.getD j (0, 0)).2 by omega)))
  have HF := Lib.hid hF; clear hF
  have HN := Lib.hid hn; clear hn
  have HW0 := Lib.hid hW0; clear hW0
  clear h h2 h3 hrr hr
  go_enter Try.func52, Try.ntmps52
  go_wp2_with fail
  rw [← HW0.out]
  refine S.out.mono ?_
  rintro e w' ⟨r, rfl, h1, h2, h3, hf⟩
  have FIN : Hid (Behind w l x (.returned (.int .i64 r)) w') := ⟨r, rfl, by have := HN.out; omega, fun t ht => (by have h6 : ¬ x < (l.getD t (0, 0)).2 := of_decide_eq_false (h2 t ht); omega), fun t h4 h5 => of_decide_eq_true (h3 t h4 (by have := HN.out; omega)), HF.out.trans hf (by simp) (by simp)⟩
  clear h1 h2 h3 hf
  go_wp2
  go_ret
  exact FIN.out
end Go.Proofs.Ytolmpmihchjmlaa
