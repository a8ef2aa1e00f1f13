/- Package ledgers: contracts of size, last, endsOpen; cmp.Compare, cmp.Or, Order. -/
import Derived.Test.YtimmoencmmpkdaaLdMath
import Derived.WalkKit
import Derived.Deep.LoopGhost
import Derived.Deep.QuietTactic
import Derived.BigQuiet
import Derived.Outline
import Derived.IntWalk
import Derived.Lib.Hide
import Derived.Lib.QuietBelow
import Derived.Deep.RegionHeld3
import Derived.Laws.Rows
namespace Go.Proofs.Ytimmoencmmpkdaa
open Go.RowKit
set_option maxRecDepth 100000

/-- The same world but for new blocks. -/
def LRet (w : World) (v : Value) (e : Ending) (w' : World) : Prop := e = .returned v ∧ Frm [] w w'
theorem ldsize_any (x : Ld) (o : Nat) (w : World) : Calls Try.prog 35 #[x.val, .int .u64 (o : Nat)] w (LRet w (.int .u64 (x.size o : Nat))) := by
  obtain ⟨i, c, n⟩ := x
  unfold Ld.val Ld.size LRet
  have HF : Hid (Frm [] w (w.alloc (.cells #[.int .u64 (i : Nat), .bool c, .int .u64 (n : Nat)] 32))) := (Frm.refl _ _).alloc _
  cases c
  · go_enter Try.func35, Try.ntmps35
    go_wp2
    go_ret
    exact ⟨rfl, HF.out⟩
  · go_enter Try.func35, Try.ntmps35
    go_wp2
    go_ret
    exact ⟨rfl, HF.out⟩
/-- The last one; a zero one, if there is none. -/
def lastL (X : List Ld) : Ld := X.getD (X.length - 1) default
theorem ldlast_any (a : Option Addr) (n cap : Nat) (X : List Ld) (w : World) (h : LdL w [] a X) (hn : n = X.length) (hsz : n < 4611686018427387904) : Calls Try.prog 31 #[.slice a n cap] w (LRet w (lastL X).val) := by
  have HF : Hid (Frm [] w (w.alloc (.cells #[.int .u64 0, .bool false, .int .u64 0] 32))) := (Frm.refl _ _).alloc _
  rcases Nat.eq_zero_or_pos n with h0 | h0
  · have hX : X = [] := List.eq_nil_of_length_eq_zero (by omega)
    subst hX
    subst h0
    clear h hn
    go_enter Try.func31, Try.ntmps31
    go_wp2
    refine bodyPost_ret (results_cell_row (P := Try.prog) rfl _ _ w.heap.size _ _ _ _ rfl (heap_alloc_new w _) Try.underlying32 rfl (by kernel_rfl)) rfl ?_
    exact ⟨rfl, (Frm.refl _ _).alloc _⟩
  · obtain ⟨k, rfl⟩ : ∃ k, n = k + 1 := ⟨n - 1, by omega⟩
    have hh := h.sub HF.out
    obtain ⟨b, off, rfl, d0, d1, d2, _⟩ := hh.at (i := k) (by omega)
    have e : X.getD k default = lastL X := by unfold lastL; rw [← hn, Nat.add_sub_cancel]
    rw [e] at d0 d1 d2
    generalize lastL X = x at d0 d1 d2 ⊢
    obtain ⟨i, c, m⟩ := x
    unfold Ld.val LRet
    simp only at d0 d1 d2 ⊢
    have e1 : ((k + 1 : Nat) : Int) - 1 = (k : Nat) := by omega
    have e2 : (((k + 1 : Nat) : Int) == 0) = false := by rw [beq_eq_false_iff_ne]; omega
    clear h hn hh e h0
    go_enter Try.func31, Try.ntmps31
    go_wp2
    refine bodyPost_ret (results_cell_row (P := Try.prog) rfl _ _ w.heap.size _ _ _ _ rfl (heap_alloc_new w _) Try.underlying32 rfl (by kernel_rfl)) rfl ?_
    exact ⟨rfl, (Frm.refl _ _).alloc _⟩
theorem ldfld0 (a b c : Value) (w : World) : (Instr.field 32 (.agg #[a, b, c]) 0).run Try.prog w = .ok a w := by kernel_rfl
theorem ldfld1 (a b c : Value) (w : World) : (Instr.field 32 (.agg #[a, b, c]) 1).run Try.prog w = .ok b w := by kernel_rfl
theorem ldends_any (a : Option Addr) (n cap : Nat) (X : List Ld) (w : World) (h : LdL w [] a X) (hn : n = X.length) (hsz : n < 4611686018427387904) :
    Calls Try.prog 30 #[.slice a n cap] w (LRet w (.bool (decide (0 < n) && !(lastL X).cl))) := by
  have HL := Lib.hid (fun z (hz : Frm [] w z) => ldlast_any a n cap X z (h.sub hz) hn hsz)
  clear h hn
  generalize lastL X = x at HL ⊢
  obtain ⟨i, c, m⟩ := x
  unfold Ld.val LRet at HL
  unfold LRet
  simp only at HL ⊢
  have F0 : Frm [] w w := Frm.refl _ _
  have f1 := fun a b c w => ldfld1 a b c w
  rcases Nat.eq_zero_or_pos n with h0 | h0
  · subst h0
    go_enter Try.func30, Try.ntmps30
    go_wp2
    go_ret
    exact ⟨rfl, F0⟩
  · have d1 : decide (0 < n) = true := decide_eq_true h0
    have d2 : decide ((0 : Int) < (n : Int)) = true := decide_eq_true (by omega)
    rw [d1]
    have LL := Lib.hid (HL.out w F0)
    clear HL h0
    go_enter Try.func30, Try.ntmps30
    go_wp2_with fail
    (with_reducible refine LL.out.mono ?_)
    rintro e w' ⟨rfl, hf⟩
    cases c
    all_goals
      go_wp2
      go_ret
      exact ⟨rfl, hf⟩
theorem ldnan_any {w : World} (a : Nat) : Calls Try.prog 43 #[.int .u64 (a : Nat)] w fun e w' => e = .returned (.bool false) ∧ w = w' := by
  go_enter Try.func43, Try.ntmps43
  go_wp2
  go_ret
  exact ⟨rfl, rfl⟩
def ldcmp (a b : Nat) : Int := if a < b then -1 else if b < a then 1 else 0
set_option maxHeartbeats 1000000 in
theorem ldcmp_any {w : World} (a b : Nat) : Calls Try.prog 39 #[.int .u64 (a : Nat), .int .u64 (b : Nat)] w fun e w' => e = .returned (.int .i64 (ldcmp a b)) ∧ w = w' := by
  have h1 := Lib.hid (fun w => ldnan_any (w := w) a)
  have h2 := Lib.hid (fun w => ldnan_any (w := w) b)
  unfold ldcmp
  by_cases ha : a < b
  · rw [if_pos ha]
    go_enter Try.func39, Try.ntmps39
    go_wp2_with ((first | (with_reducible refine (h1.out _).mono ?_) | (with_reducible refine (h2.out _).mono ?_)); rintro e w' ⟨rfl, rfl⟩)
    go_ret
    exact ⟨rfl, rfl⟩
  · rw [if_neg ha]
    by_cases hb : b < a
    · rw [if_pos hb]
      go_enter Try.func39, Try.ntmps39
      go_wp2_with ((first | (with_reducible refine (h1.out _).mono ?_) | (with_reducible refine (h2.out _).mono ?_)); rintro e w' ⟨rfl, rfl⟩)
      go_ret
      exact ⟨rfl, rfl⟩
    · rw [if_neg hb]
      go_enter Try.func39, Try.ntmps39
      go_wp2_with ((first | (with_reducible refine (h1.out _).mono ?_) | (with_reducible refine (h2.out _).mono ?_)); rintro e w' ⟨rfl, rfl⟩)
      go_ret
      exact ⟨rfl, rfl⟩
/-- The first of two that is not zero. -/
theorem ldor_any (g : Nat) (a b : Int) (w : World) (h0 : w.cell? ⟨g, 0, none⟩ = some (.int .i64 a)) (h1 : w.cell? ⟨g, 1, none⟩ = some (.int .i64 b)) :
    Calls Try.prog 38 #[.slice (some ⟨g, 0, none⟩) 2 2] w fun e w' => e = .returned (.int .i64 (if a = 0 then b else a)) ∧ w = w' := by
  by_cases ha : a = 0
  · subst ha
    rw [if_pos rfl]
    by_cases hb : b = 0
    · subst hb
      go_enter Try.func38, Try.ntmps38
      go_wp2
      refine wp_loop_rounds 3 ?_
      iterate 3 (rw [rounds_succ]; go_wp2)
      go_ret
      exact ⟨rfl, rfl⟩
    · have hb' : (b != 0) = true := by simpa using hb
      go_enter Try.func38, Try.ntmps38
      go_wp2
      refine wp_loop_rounds 2 ?_
      iterate 2 (rw [rounds_succ]; go_wp2)
      go_ret
      exact ⟨rfl, rfl⟩
  · rw [if_neg ha]
    have ha' : (a != 0) = true := by simpa using ha
    go_enter Try.func38, Try.ntmps38
    go_wp2
    refine wp_loop_rounds 1 ?_
    iterate 1 (rw [rounds_succ]; go_wp2)
    go_ret
    exact ⟨rfl, rfl⟩
end Go.Proofs.Ytimmoencmmpkdaa
