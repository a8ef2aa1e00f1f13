/- Contracts and mathematics that the proofs of this seat stand on: LdMath2, CuMath, LdBase, LdCheck, EqLd, LdSame, LdOrder, LdTrim, EqPs, LdRefO, CuOf, LdRefA, CuHold, CuHoldM, CqFind, CqConcat, CqAcked, LdNext, LdHas, LdRefN, CuNext, RgAdd, RgAdd2, RgEnds, RgRemove, RgSetMath, RgPut. -/
import Derived.Test.YtghadpihmhaepaaCA
import Derived.WalkKit
import Derived.Deep.LoopGhost
import Derived.Deep.QuietTactic
import Derived.BigQuiet
import Derived.Outline
import Derived.IntWalk
import Derived.Lib.Hide
import Derived.Lib.QuietBelow
import Derived.Deep.RegionHeld3
import Derived.Laws.Rows
import Derived.RegionTactic
import Derived.BigRegion
import Derived.Laws.StructEq
import Derived.Deep.RegionWith
import Derived.Deep.DeepCutAuto
import Derived.Lib.SliceRun
import Derived.Lib.AppendZerosOnto
import Derived.Lib.Walk
import Derived.StillTailTactics
/- Ledgers in a row: from place to place; what trimming leaves. It speaks of no program. -/
namespace Go.Proofs.Ytghadpihmhaepaa
open Go.RowKit

/-- The place behind all places. -/
def farP : Ps := ⟨18446744073709551615, 18446744073709551615⟩
theorem Ld.size_lt {x : Ld} (hx : x.fits) {o : Nat} (ho : o < 18446744073709551616) : x.size o < 18446744073709551616 := by
  unfold Ld.size
  split
  · exact hx.2
  · exact ho
theorem ld_fits_at {X : List Ld} (h : ∀ x ∈ X, x.fits) (i : Nat) : (X.getD i default).fits := by
  rcases Nat.lt_or_ge i X.length with h1 | h1
  · have e : X.getD i default = X[i] := by simp [h1]
    rw [e]; exact h _ (List.getElem_mem h1)
  · have e : X.getD i default = default := by simp [Nat.not_lt.2 h1]
    rw [e]; exact ⟨by decide, by decide⟩
/-- How many go. -/
def goesN (X : List Ld) (p : Ps) : Nat := (X.takeWhile (goesL p)).length
theorem RtLd.drop {X : List Ld} (h : RtLd X) (k : Nat) : RtLd (X.drop k) := by
  refine ⟨by rw [List.length_drop]; have := h.1; omega, fun i hi => ?_⟩
  rw [List.length_drop] at hi
  have e : ∀ j, (X.drop k).getD j default = X.getD (k + j) default := fun j => by
    rw [List.getD_eq_getElem?_getD, List.getD_eq_getElem?_getD, List.getElem?_drop]
  obtain ⟨h1, h2, h3, h4⟩ := h.2 (k + i) (by omega)
  rw [e, e, List.length_drop]
  refine ⟨h1, h2, fun h0 => ?_, fun hc => ?_⟩
  · have := h3 (by omega)
    rwa [show k + i - 1 = k + (i - 1) by omega] at this
  · have := h4 hc
    exact ⟨by omega, this.2⟩
end Go.Proofs.Ytghadpihmhaepaa
/- Cursors as plain data. It speaks of no program. -/
namespace Go.Proofs.Ytghadpihmhaepaa
open Go.RowKit

abbrev Hel := Nat × List Rg
/-- A cursor. -/
structure Crs where
  mark : Ps := {}
  held : List Hel := []
/-- What is held of a ledger. -/
def ofH (H : List Hel) (led : Nat) : List Rg := match H.find? (fun h => decide (h.1 = led)) with
  | some h => h.2
  | none => []
theorem hels_getD (X : List Hx) (i : Nat) : (hels X).getD i default = (X.getD i default).t := by
  unfold hels
  rw [List.getD_eq_getElem?_getD, List.getD_eq_getElem?_getD, List.getElem?_map]
  cases X[i]? <;> rfl
theorem ofH_at {H : List Hel} {led k : Nat} (hk : k < H.length) (h1 : ∀ j, j < k → (H.getD j default).1 ≠ led) (h2 : (H.getD k default).1 = led) : ofH H led = (H.getD k default).2 := by
  induction H generalizing k with
  | nil => simp at hk
  | cons h H ih =>
    unfold ofH
    rcases k with _ | k
    · simp only [List.getD_cons_zero] at h2 ⊢
      rw [List.find?_cons_of_pos (by simpa using h2)]
    · have h3 := h1 0 (by omega)
      simp only [List.getD_cons_zero] at h3
      rw [List.find?_cons_of_neg (by simpa using h3)]
      simp only [List.getD_cons_succ] at h2 ⊢
      exact ih (by simpa using hk) (fun j hj => by have := h1 (j + 1) (by omega); simpa using this) h2
theorem ofH_none {H : List Hel} {led : Nat} (h1 : ∀ j, j < H.length → (H.getD j default).1 ≠ led) : ofH H led = [] := by
  induction H with
  | nil => rfl
  | cons h H ih =>
    unfold ofH
    have h3 := h1 0 (by simp)
    simp only [List.getD_cons_zero] at h3
    rw [List.find?_cons_of_neg (by simpa using h3)]
    exact ih (fun j hj => by have := h1 (j + 1) (by simpa using hj); simpa using this)
/-- Acked. -/
def ackedC (c : Crs) (p : Ps) : Prop := p.lt c.mark ∨ Mem (ofH c.held p.l) p.e
/-- Right, one by one. -/
def RtH1 (m : Ps) (H : List Hel) (i : Nat) : Prop := (H.getD i default).2 ≠ [] ∧ RtI (H.getD i default).2 ∧ (0 < i → (H.getD (i - 1) default).1 < (H.getD i default).1) ∧ ¬ (Ps.mk (H.getD i default).1 ((H.getD i default).2.getD 0 (0, 0)).1).lt m
def RtC (c : Crs) : Prop := ∀ i, i < c.held.length → RtH1 c.mark c.held i
end Go.Proofs.Ytghadpihmhaepaa
/- Package ledgers: contracts of size, last, endsOpen; cmp.Compare, cmp.Or, Order. -/
namespace Go.Proofs.Ytghadpihmhaepaa
open Go.RowKit
set_option maxRecDepth 100000

/-- The same world but for new blocks. -/
def LRet (w : World) (v : Value) (e : Ending) (w' : World) : Prop := e = .returned v ∧ Frm [] w w'
theorem ldsize_any (x : Ld) (o : Nat) (w : World) : Calls Try.prog 80 #[x.val, .int .u64 (o : Nat)] w (LRet w (.int .u64 (x.size o : Nat))) := by
  obtain ⟨i, c, n⟩ := x
  unfold Ld.val Ld.size LRet
  have HF : Hid (Frm [] w (w.alloc (.cells #[.int .u64 (i : Nat), .bool c, .int .u64 (n : Nat)] 69))) := (Frm.refl _ _).alloc _
  cases c
  · go_enter Try.func80, Try.ntmps80
    go_wp2
    go_ret
    exact ⟨rfl, HF.out⟩
  · go_enter Try.func80, Try.ntmps80
    go_wp2
    go_ret
    exact ⟨rfl, HF.out⟩
/-- The last one; a zero one, if there is none. -/
def lastL (X : List Ld) : Ld := X.getD (X.length - 1) default
theorem ldlast_any (a : Option Addr) (n cap : Nat) (X : List Ld) (w : World) (h : LdL w [] a X) (hn : n = X.length) (hsz : n < 4611686018427387904) : Calls Try.prog 81 #[.slice a n cap] w (LRet w (lastL X).val) := by
  have HF : Hid (Frm [] w (w.alloc (.cells #[.int .u64 0, .bool false, .int .u64 0] 69))) := (Frm.refl _ _).alloc _
  rcases Nat.eq_zero_or_pos n with h0 | h0
  · have hX : X = [] := List.eq_nil_of_length_eq_zero (by omega)
    subst hX
    subst h0
    clear h hn
    go_enter Try.func81, Try.ntmps81
    go_wp2
    refine bodyPost_ret (results_cell_row (P := Try.prog) rfl _ _ w.heap.size _ _ _ _ rfl (heap_alloc_new w _) Try.underlying69 rfl (by kernel_rfl)) rfl ?_
    exact ⟨rfl, (Frm.refl _ _).alloc _⟩
  · obtain ⟨k, rfl⟩ : ∃ k, n = k + 1 := ⟨n - 1, by omega⟩
    have hh := h.sub HF.out
    obtain ⟨b, off, rfl, d0, d1, d2, _⟩ := hh.at (i := k) (by omega)
    have e : X.getD k default = lastL X := by unfold lastL; rw [← hn, Nat.add_sub_cancel]
    rw [e] at d0 d1 d2
    generalize lastL X = x at d0 d1 d2 ⊢
    obtain ⟨i, c, m⟩ := x
    unfold Ld.val LRet
    simp only at d0 d1 d2 ⊢
    have e1 : ((k + 1 : Nat) : Int) - 1 = (k : Nat) := by omega
    have e2 : (((k + 1 : Nat) : Int) == 0) = false := by rw [beq_eq_false_iff_ne]; omega
    clear h hn hh e h0
    go_enter Try.func81, Try.ntmps81
    go_wp2
    refine bodyPost_ret (results_cell_row (P := Try.prog) rfl _ _ w.heap.size _ _ _ _ rfl (heap_alloc_new w _) Try.underlying69 rfl (by kernel_rfl)) rfl ?_
    exact ⟨rfl, (Frm.refl _ _).alloc _⟩
theorem ldfld0 (a b c : Value) (w : World) : (Instr.field 69 (.agg #[a, b, c]) 0).run Try.prog w = .ok a w := by kernel_rfl
theorem ldnan_any {w : World} (a : Nat) : Calls Try.prog 78 #[.int .u64 (a : Nat)] w fun e w' => e = .returned (.bool false) ∧ w = w' := by
  go_enter Try.func78, Try.ntmps78
  go_wp2
  go_ret
  exact ⟨rfl, rfl⟩
def ldcmp (a b : Nat) : Int := if a < b then -1 else if b < a then 1 else 0
set_option maxHeartbeats 1000000 in
theorem ldcmp_any {w : World} (a b : Nat) : Calls Try.prog 54 #[.int .u64 (a : Nat), .int .u64 (b : Nat)] w fun e w' => e = .returned (.int .i64 (ldcmp a b)) ∧ w = w' := by
  have h1 := Lib.hid (fun w => ldnan_any (w := w) a)
  have h2 := Lib.hid (fun w => ldnan_any (w := w) b)
  unfold ldcmp
  by_cases ha : a < b
  · rw [if_pos ha]
    go_enter Try.func54, Try.ntmps54
    go_wp2_with ((first | (with_reducible refine (h1.out _).mono ?_) | (with_reducible refine (h2.out _).mono ?_)); rintro e w' ⟨rfl, rfl⟩)
    go_ret
    exact ⟨rfl, rfl⟩
  · rw [if_neg ha]
    by_cases hb : b < a
    · rw [if_pos hb]
      go_enter Try.func54, Try.ntmps54
      go_wp2_with ((first | (with_reducible refine (h1.out _).mono ?_) | (with_reducible refine (h2.out _).mono ?_)); rintro e w' ⟨rfl, rfl⟩)
      go_ret
      exact ⟨rfl, rfl⟩
    · rw [if_neg hb]
      go_enter Try.func54, Try.ntmps54
      go_wp2_with ((first | (with_reducible refine (h1.out _).mono ?_) | (with_reducible refine (h2.out _).mono ?_)); rintro e w' ⟨rfl, rfl⟩)
      go_ret
      exact ⟨rfl, rfl⟩
/-- The first of two that is not zero. -/
theorem ldor_any (g : Nat) (a b : Int) (w : World) (h0 : w.cell? ⟨g, 0, none⟩ = some (.int .i64 a)) (h1 : w.cell? ⟨g, 1, none⟩ = some (.int .i64 b)) :
    Calls Try.prog 53 #[.slice (some ⟨g, 0, none⟩) 2 2] w fun e w' => e = .returned (.int .i64 (if a = 0 then b else a)) ∧ w = w' := by
  by_cases ha : a = 0
  · subst ha
    rw [if_pos rfl]
    by_cases hb : b = 0
    · subst hb
      go_enter Try.func53, Try.ntmps53
      go_wp2
      refine wp_loop_rounds 3 ?_
      iterate 3 (rw [rounds_succ]; go_wp2)
      go_ret
      exact ⟨rfl, rfl⟩
    · have hb' : (b != 0) = true := by simpa using hb
      go_enter Try.func53, Try.ntmps53
      go_wp2
      refine wp_loop_rounds 2 ?_
      iterate 2 (rw [rounds_succ]; go_wp2)
      go_ret
      exact ⟨rfl, rfl⟩
  · rw [if_neg ha]
    have ha' : (a != 0) = true := by simpa using ha
    go_enter Try.func53, Try.ntmps53
    go_wp2
    refine wp_loop_rounds 1 ?_
    iterate 1 (rw [rounds_succ]; go_wp2)
    go_ret
    exact ⟨rfl, rfl⟩
end Go.Proofs.Ytghadpihmhaepaa
/- Package ledgers: contract of Check; of the document's Right. -/
namespace Go.Proofs.Ytghadpihmhaepaa
open Go.RowKit
set_option maxRecDepth 100000

/-- A call that answers whether P. -/
def LBool (P : Prop) (w : World) (e : Ending) (w' : World) : Prop := ∃ b : Bool, e = .returned (.bool b) ∧ (b = true ↔ P) ∧ Frm [] w w'
theorem LBool.t {P : Prop} {w w' : World} (hp : P) (hf : Frm [] w w') : LBool P w (.returned (.bool true)) w' := ⟨true, rfl, by simp [hp], hf⟩
theorem LBool.f {P : Prop} {w w' : World} (hp : ¬ P) (hf : Frm [] w w') : LBool P w (.returned (.bool false)) w' := ⟨false, rfl, by simp [hp], hf⟩
theorem LBool.yes {P : Prop} {w w' : World} {e : Ending} (h : LBool P w e w') (hp : P) : e = .returned (.bool true) ∧ Frm [] w w' := by
  obtain ⟨b, rfl, hb, hf⟩ := h
  exact ⟨by rw [hb.2 hp], hf⟩
theorem LBool.no {P : Prop} {w w' : World} {e : Ending} (h : LBool P w e w') (hp : ¬ P) : e = .returned (.bool false) ∧ Frm [] w w' := by
  obtain ⟨b, rfl, hb, hf⟩ := h
  exact ⟨by cases b with | false => rfl | true => exact absurd (hb.1 rfl) hp, hf⟩
/-- The number ahead of one. -/
def lowL (X : List Ld) (k : Nat) : Nat := if k = 0 then 0 else (X.getD (k - 1) default).id
/-- What a round asks. -/
theorem RtTo9.step {X : List Ld} {k : Nat} (h : RtTo9 X k) (h1 : lowL X k < (X.getD k default).id) (h2 : (X.getD k default).n ≤ 1048576) (h4 : (X.getD k default).cl = false → k + 1 = X.length ∧ (X.getD k default).n = 0) : RtTo9 X (k + 1) := by
  refine h.next (by omega) h2 (fun h0 => ?_) h4
  unfold lowL at h1
  rwa [if_neg (by omega)] at h1
theorem RtLd.asks {X : List Ld} (h : RtLd X) {k : Nat} (hk : k < X.length) : lowL X k < (X.getD k default).id ∧ (X.getD k default).n ≤ 1048576 ∧ ((X.getD k default).cl = false → k + 1 = X.length ∧ (X.getD k default).n = 0) := by
  obtain ⟨h1, h2, h3, h4⟩ := h.2 k hk
  refine ⟨?_, h2, h4⟩
  unfold lowL
  split
  · omega
  · exact h3 (by omega)
end Go.Proofs.Ytghadpihmhaepaa
/- '==' and '!=' of two api.Ledger. -/
namespace Go.Proofs.Ytghadpihmhaepaa
open Go.RowKit
set_option maxRecDepth 100000
end Go.Proofs.Ytghadpihmhaepaa
/- Contracts of the document's Size, SameLedgers. -/
namespace Go.Proofs.Ytghadpihmhaepaa
open Go.RowKit
set_option maxRecDepth 100000

end Go.Proofs.Ytghadpihmhaepaa
/- Package ledgers: contracts of Order, ahead, Behind. -/
namespace Go.Proofs.Ytghadpihmhaepaa
open Go.RowKit
set_option maxRecDepth 100000

theorem ldcmp_or (a b : Ps) : (if ldcmp a.l b.l = 0 then ldcmp a.e b.e else ldcmp a.l b.l) = ordP a b := by
  unfold ldcmp ordP Ps.lt
  split <;> (repeat' split) <;> (try rfl) <;> (try omega) <;> simp_all <;> omega
set_option maxHeartbeats 1000000 in
theorem ldorder_any (a b : Ps) (w : World) : Calls Try.prog 26 #[a.val, b.val] w (LRet w (.int .i64 (ordP a b))) := by
  rw [← ldcmp_or]
  obtain ⟨al, ae⟩ := a
  obtain ⟨bl, be⟩ := b
  unfold Ps.val LRet
  simp only
  have H1 := Lib.hid (fun w => ldcmp_any (w := w) al bl)
  have H2 := Lib.hid (fun w => ldcmp_any (w := w) ae be)
  generalize ldcmp al bl = c1 at H1 ⊢
  generalize ldcmp ae be = c2 at H2 ⊢
  have OR := Lib.hid (fun g w h0 h1 => ldor_any g c1 c2 w h0 h1)
  generalize (if c1 = 0 then c2 else c1) = c at OR ⊢
  obtain ⟨w1, hw1⟩ : ∃ w1, w1 = (w.alloc (.cells #[.int .u64 (al : Nat), .int .u64 (ae : Nat)] 25)).alloc (.cells #[.int .u64 (bl : Nat), .int .u64 (be : Nat)] 25) := ⟨_, rfl⟩
  have F1 : Hid (Frm [] w w1) := Lib.hid (by rw [hw1]; exact ((Frm.refl _ _).alloc _).alloc _)
  have B1 : Whole w1 w.heap.size 25 #[.int .u64 (al : Nat), .int .u64 (ae : Nat)] := by rw [hw1]; exact (Whole.made _ _ _).alloc _
  have B2 : Whole w1 (w.heap.size + 1) 25 #[.int .u64 (bl : Nat), .int .u64 (be : Nat)] := by
    rw [hw1]
    have := Whole.made (w.alloc (.cells #[.int .u64 (al : Nat), .int .u64 (ae : Nat)] 25)) 25 #[.int .u64 (bl : Nat), .int .u64 (be : Nat)]
    rwa [World.size_alloc] at this
  have k1 : ∀ y, Frm [] w1 y → y.cell? ⟨w.heap.size, 0, none⟩ = some (.int .u64 (al : Nat)) := fun y hy => (hy.whole B1 (by simp)).cell 0
  have k2 : ∀ y, Frm [] w1 y → y.cell? ⟨w.heap.size, 1, none⟩ = some (.int .u64 (ae : Nat)) := fun y hy => (hy.whole B1 (by simp)).cell 1
  have k3 : ∀ y, Frm [] w1 y → y.cell? ⟨w.heap.size + 1, 0, none⟩ = some (.int .u64 (bl : Nat)) := fun y hy => (hy.whole B2 (by simp)).cell 0
  have k4 : ∀ y, Frm [] w1 y → y.cell? ⟨w.heap.size + 1, 1, none⟩ = some (.int .u64 (be : Nat)) := fun y hy => (hy.whole B2 (by simp)).cell 1
  clear B1 B2
  have HW1 := Lib.hid hw1
  clear hw1
  go_enter Try.func26, Try.ntmps26
  go_wp2
  rw [← HW1.out]
  refine wp_region_held_drew (S := fun w' => Frm [] w1 w') (by kernel_rfl) (Frm.drew (Frm.refl _ _)) (fun hHeld => ?_)
  refine wpAnyH_take (i := 0) (oi := ⟨some 5, _, _, _, _, _⟩) (v := ?_) rfl (by kernel_rfl) (by kernel_rfl) (by kernel_rfl) (fun _ _ _ h => h) (Or.inl ⟨by rfl, ?_⟩) (by assumption) ?_
  rotate_left 1
  · (intro w hSw; (try dsimp only at hSw); go_simp; all_goals with_reducible rfl)
  try simp only [Act.put, List.setIfInBounds_toArray, List.set_cons_zero, List.set_cons_succ]
  refine wpAnyH_take (i := 1) (oi := ⟨some 6, _, _, _, _, _⟩) (v := ?_) rfl (by kernel_rfl) (by kernel_rfl) (by kernel_rfl) (fun _ _ _ h => h) (Or.inl ⟨by rfl, ?_⟩) (by assumption) ?_
  rotate_left 1
  · (intro w hSw; (try dsimp only at hSw); go_simp; all_goals with_reducible rfl)
  try simp only [Act.put, List.setIfInBounds_toArray, List.set_cons_zero, List.set_cons_succ]
  refine wpAnyH_take (i := 2) (oi := ⟨some 7, _, _, _, _, _⟩) (v := ?_) rfl (by kernel_rfl) (by kernel_rfl) (by kernel_rfl) (fun _ _ _ h => h) (Or.inl ⟨by rfl, ?_⟩) (by assumption) ?_
  rotate_left 1
  · (intro w hSw; (try dsimp only at hSw); go_simp; all_goals with_reducible rfl)
  try simp only [Act.put, List.setIfInBounds_toArray, List.set_cons_zero, List.set_cons_succ]
  refine wpAnyH_take (i := 3) (oi := ⟨some 8, _, _, _, _, _⟩) (v := ?_) rfl (by kernel_rfl) (by kernel_rfl) (by kernel_rfl) (fun _ _ _ h => h) (Or.inl ⟨by rfl, ?_⟩) (by assumption) ?_
  rotate_left 1
  · (intro w hSw; (try dsimp only at hSw); go_simp; all_goals with_reducible rfl)
  try simp only [Act.put, List.setIfInBounds_toArray, List.set_cons_zero, List.set_cons_succ]
  refine wpAnyH_take (i := 5) (oi := ⟨some 10, _, _, _, _, _⟩) (v := ?_) rfl (by kernel_rfl) (by kernel_rfl) (by kernel_rfl) (fun _ _ _ h => h) (Or.inl ⟨by rfl, ?_⟩) (by assumption) ?_
  rotate_left 1
  · (intro w hSw; (try dsimp only at hSw); go_simp; all_goals with_reducible rfl)
  try simp only [Act.put, List.setIfInBounds_toArray, List.set_cons_zero, List.set_cons_succ]
  refine wpAnyH_take (i := 6) (oi := ⟨some 11, _, _, _, _, _⟩) (v := ?_) rfl (by kernel_rfl) (by kernel_rfl) (by kernel_rfl) (fun _ _ _ h => h) (Or.inl ⟨by rfl, ?_⟩) (by assumption) ?_
  rotate_left 1
  · (intro w hSw; (try dsimp only at hSw); go_simp; all_goals with_reducible rfl)
  try simp only [Act.put, List.setIfInBounds_toArray, List.set_cons_zero, List.set_cons_succ]
  refine wpAnyH_take (i := 7) (oi := ⟨some 12, _, _, _, _, _⟩) (v := ?_) rfl (by kernel_rfl) (by kernel_rfl) (by kernel_rfl) (fun _ _ _ h => h) (Or.inl ⟨by rfl, ?_⟩) (by assumption) ?_
  rotate_left 1
  · (intro w hSw; (try dsimp only at hSw); go_simp; all_goals with_reducible rfl)
  try simp only [Act.put, List.setIfInBounds_toArray, List.set_cons_zero, List.set_cons_succ]
  refine wpAnyH_take (i := 8) (oi := ⟨some 13, _, _, _, _, _⟩) (v := ?_) rfl (by kernel_rfl) (by kernel_rfl) (by kernel_rfl) (fun _ _ _ h => h) (Or.inl ⟨by rfl, ?_⟩) (by assumption) ?_
  rotate_left 1
  · (intro w hSw; (try dsimp only at hSw); go_simp; all_goals with_reducible rfl)
  try simp only [Act.put, List.setIfInBounds_toArray, List.set_cons_zero, List.set_cons_succ]
  refine wpAnyH_ready (rs := [4]) (by kernel_rfl) (by simp) ?_
  refine AllReadyH.cons (o := ⟨some 9, _, _, _, _, _⟩) rfl (fun K hK => ?_) AllReadyH.nil
  go_simp
  go_at_call 54; (with_reducible refine (H1.out _).mono ?_); rintro e w' ⟨rfl, rfl⟩
  go_wp2_with fail
  refine hK.out _ _ (by assumption) (fun hHeld => ?_)
  clear hK K
  try simp only [Act.put, List.setIfInBounds_toArray, List.set_cons_zero, List.set_cons_succ]
  refine wpAnyH_ready (rs := [9]) (by kernel_rfl) (by simp) ?_
  refine AllReadyH.cons (o := ⟨some 14, _, _, _, _, _⟩) rfl (fun K hK => ?_) AllReadyH.nil
  go_simp
  go_at_call 54; (with_reducible refine (H2.out _).mono ?_); rintro e w' ⟨rfl, rfl⟩
  go_wp2_with fail
  refine hK.out _ _ (by assumption) (fun hHeld => ?_)
  clear hK K
  try simp only [Act.put, List.setIfInBounds_toArray, List.set_cons_zero, List.set_cons_succ]
  refine wpAnyH_ready (rs := [10]) (by kernel_rfl) (by simp) ?_
  refine AllReadyH.cons (o := ⟨some 15, _, _, _, _, _⟩) rfl (fun K hK => ?_) AllReadyH.nil
  go_simp
  refine hK.out _ _ (by repeat (first | assumption | apply Frm.alloc | apply Frm.drew | exact Frm.refl _ _)) (fun hHeld => ?_)
  clear hK K
  try simp only [Act.put, List.setIfInBounds_toArray, List.set_cons_zero, List.set_cons_succ]
  refine wpAnyH_ready (rs := [11]) (by kernel_rfl) (by simp) ?_
  refine AllReadyH.cons (o := ⟨some 16, _, _, _, _, _⟩) rfl (fun K hK => ?_) AllReadyH.nil
  go_simp
  go_at_call 53; (with_reducible refine (OR.out _ _ (by simp) (by simp)).mono ?_); rintro e w' ⟨rfl, rfl⟩
  go_wp2_with fail
  refine hK.out _ _ (by assumption) (fun hHeld => ?_)
  clear hK K
  try simp only [Act.put, List.setIfInBounds_toArray, List.set_cons_zero, List.set_cons_succ]
  refine wpAnyH_take (i := 12) (oi := ⟨some 4, _, _, _, _, _⟩) (v := ?_) rfl (by kernel_rfl) (by kernel_rfl) (by kernel_rfl) (fun _ _ _ h => h) (Or.inl ⟨by rfl, ?_⟩) (by assumption) ?_
  rotate_left 1
  · (intro w hSw; (try dsimp only at hSw); go_simp; all_goals with_reducible rfl)
  try simp only [Act.put, List.setIfInBounds_toArray, List.set_cons_zero, List.set_cons_succ]
  refine wpAnyH_done (by kernel_rfl) ?_ _
  go_wp2
  go_ret
  exact ⟨rfl, F1.out.trans hHeld (by simp) (by simp)⟩
set_option maxHeartbeats 1000000 in
theorem ldahead_any (x : Ld) (o : Nat) (p : Ps) (w : World) : Calls Try.prog 75 #[x.val, .int .u64 (o : Nat), p.val] w (LRet w (.int .u64 (x.ahead o p : Nat))) := by
  have HS := Lib.hid (fun z => ldsize_any x o z)
  unfold Ld.ahead
  generalize x.size o = sz at HS ⊢
  obtain ⟨i, c, n⟩ := x
  obtain ⟨pl, pe⟩ := p
  unfold Ps.val Ld.val LRet
  unfold Ld.val LRet at HS
  simp only at HS ⊢
  obtain ⟨w1, hw1⟩ : ∃ w1, w1 = (w.alloc (.cells #[.int .u64 (i : Nat), .bool c, .int .u64 (n : Nat)] 69)).alloc (.cells #[.int .u64 (pl : Nat), .int .u64 (pe : Nat)] 25) := ⟨_, rfl⟩
  have F1 : Hid (Frm [] w w1) := Lib.hid (by rw [hw1]; exact ((Frm.refl _ _).alloc _).alloc _)
  have B1 : Whole w1 w.heap.size 69 #[.int .u64 (i : Nat), .bool c, .int .u64 (n : Nat)] := by rw [hw1]; exact (Whole.made _ _ _).alloc _
  have B2 : Whole w1 (w.heap.size + 1) 25 #[.int .u64 (pl : Nat), .int .u64 (pe : Nat)] := by
    rw [hw1]
    have := Whole.made (w.alloc (.cells #[.int .u64 (i : Nat), .bool c, .int .u64 (n : Nat)] 69)) 25 #[.int .u64 (pl : Nat), .int .u64 (pe : Nat)]
    rwa [World.size_alloc] at this
  by_cases h1 : i < pl
  · rw [if_pos h1]
    have d1 : decide (i < pl) = true := decide_eq_true h1
    go_enter Try.func75, Try.ntmps75
    go_wp2_with fail
    rw [← hw1]
    (with_reducible refine (HS.out _).mono ?_)
    rintro e w' ⟨rfl, hf⟩
    have FF : Hid (Frm [] w w') := Lib.hid (F1.out.trans hf (by simp) (by simp))
    clear hf
    go_wp2
    go_ret
    exact ⟨rfl, FF.out⟩
  · rw [if_neg h1]
    have d1 : decide (i < pl) = false := decide_eq_false h1
    by_cases h2 : i = pl
    · rw [if_pos h2]
      obtain ⟨m, hm⟩ : ∃ m, m = min sz pe := ⟨_, rfl⟩
      rw [← hm]
      have hmin : ∀ (w : World), (Builtin.min_ #[23, 23] 23 #[.int .u64 (sz : Int), .int .u64 (pe : Int)]).run Try.prog w = .ok (.int .u64 (m : Nat)) w := by
        intro w
        simp [go_sem]
        (first | omega | (split <;> (first | (simp; omega) | omega)))
      have d2 : ((i : Int) == (pl : Int)) = true := by rw [beq_iff_eq]; omega
      have k1 : ∀ y, Frm [] w1 y → y.cell? ⟨w.heap.size, 0, none⟩ = some (.int .u64 (i : Nat)) := fun y hy => (hy.whole B1 (by simp)).cell 0
      have k2 : ∀ y, Frm [] w1 y → y.cell? ⟨w.heap.size, 1, none⟩ = some (.bool c) := fun y hy => (hy.whole B1 (by simp)).cell 1
      have k3 : ∀ y, Frm [] w1 y → y.cell? ⟨w.heap.size, 2, none⟩ = some (.int .u64 (n : Nat)) := fun y hy => (hy.whole B1 (by simp)).cell 2
      have k4 : ∀ y, Frm [] w1 y → y.cell? ⟨w.heap.size + 1, 1, none⟩ = some (.int .u64 (pe : Nat)) := fun y hy => (hy.whole B2 (by simp)).cell 1
      have HW1 := Lib.hid hw1
      clear hw1 h1 h2 hm B1 B2
      go_enter Try.func75, Try.ntmps75
      go_wp2
      rw [← HW1.out]
      refine wp_region_held_drew (S := fun w' => Frm [] w1 w') (by kernel_rfl) (Frm.drew (Frm.refl _ _)) (fun hHeld => ?_)
      refine wpAnyH_take (i := 0) (oi := ⟨some 22, _, _, _, _, _⟩) (v := ?_) rfl (by kernel_rfl) (by kernel_rfl) (by kernel_rfl) (fun _ _ _ h => h) (Or.inl ⟨by rfl, ?_⟩) (by assumption) ?_
      rotate_left 1
      · (intro w hSw; (try dsimp only at hSw); go_simp; all_goals with_reducible rfl)
      try simp only [Act.put, List.setIfInBounds_toArray, List.set_cons_zero, List.set_cons_succ]
      refine wpAnyH_take (i := 1) (oi := ⟨some 23, _, _, _, _, _⟩) (v := ?_) rfl (by kernel_rfl) (by kernel_rfl) (by kernel_rfl) (fun _ _ _ h => h) (Or.inl ⟨by rfl, ?_⟩) (by assumption) ?_
      rotate_left 1
      · (intro w hSw; (try dsimp only at hSw); go_simp; all_goals with_reducible rfl)
      try simp only [Act.put, List.setIfInBounds_toArray, List.set_cons_zero, List.set_cons_succ]
      refine wpAnyH_take (i := 3) (oi := ⟨some 25, _, _, _, _, _⟩) (v := ?_) rfl (by kernel_rfl) (by kernel_rfl) (by kernel_rfl) (fun _ _ _ h => h) (Or.inl ⟨by rfl, ?_⟩) (by assumption) ?_
      rotate_left 1
      · (intro w hSw; (try dsimp only at hSw); go_simp; all_goals with_reducible rfl)
      try simp only [Act.put, List.setIfInBounds_toArray, List.set_cons_zero, List.set_cons_succ]
      refine wpAnyH_take (i := 4) (oi := ⟨some 26, _, _, _, _, _⟩) (v := ?_) rfl (by kernel_rfl) (by kernel_rfl) (by kernel_rfl) (fun _ _ _ h => h) (Or.inl ⟨by rfl, ?_⟩) (by assumption) ?_
      rotate_left 1
      · (intro w hSw; (try dsimp only at hSw); go_simp; all_goals with_reducible rfl)
      try simp only [Act.put, List.setIfInBounds_toArray, List.set_cons_zero, List.set_cons_succ]
      refine wpAnyH_ready (rs := [2]) (by kernel_rfl) (by simp) ?_
      refine AllReadyH.cons (o := ⟨some 24, _, _, _, _, _⟩) rfl (fun K hK => ?_) AllReadyH.nil
      go_simp
      go_at_call 80; (with_reducible refine (HS.out _).mono ?_); rintro e w' ⟨rfl, hf⟩; have hHeld2 : Frm [] w1 w' := hHeld.trans hf (by simp) (by simp)
      go_wp2_with fail
      refine hK.out _ _ (by assumption) (fun hHeld => ?_)
      clear hK K
      try simp only [Act.put, List.setIfInBounds_toArray, List.set_cons_zero, List.set_cons_succ]
      refine wpAnyH_take (i := 5) (oi := ⟨some 27, _, _, _, _, _⟩) (v := ?_) rfl (by kernel_rfl) (by kernel_rfl) (by kernel_rfl) (fun _ _ _ h => h) (Or.inl ⟨by rfl, ?_⟩) (by assumption) ?_
      rotate_left 1
      · (intro w hSw; (try dsimp only at hSw); go_simp; all_goals with_reducible rfl)
      try simp only [Act.put, List.setIfInBounds_toArray, List.set_cons_zero, List.set_cons_succ]
      refine wpAnyH_take (i := 6) (oi := ⟨some 6, _, _, _, _, _⟩) (v := ?_) rfl (by kernel_rfl) (by kernel_rfl) (by kernel_rfl) (fun _ _ _ h => h) (Or.inl ⟨by rfl, ?_⟩) (by assumption) ?_
      rotate_left 1
      · (intro w hSw; (try dsimp only at hSw); go_simp; all_goals with_reducible rfl)
      try simp only [Act.put, List.setIfInBounds_toArray, List.set_cons_zero, List.set_cons_succ]
      refine wpAnyH_done (by kernel_rfl) ?_ _
      go_wp2
      go_ret
      exact ⟨rfl, F1.out.trans hHeld (by simp) (by simp)⟩
    · rw [if_neg h2]
      have d2 : ((i : Int) == (pl : Int)) = false := by rw [beq_eq_false_iff_ne]; omega
      go_enter Try.func75, Try.ntmps75
      go_wp2
      go_ret
      exact ⟨rfl, by rw [← hw1]; exact F1.out⟩
end Go.Proofs.Ytghadpihmhaepaa
/- Package ledgers: contracts of slices.Clone, slices.IndexFunc over ledgers, of what Trim hands it, of Trim. -/
namespace Go.Proofs.Ytghadpihmhaepaa
open Go.RowKit
set_option maxRecDepth 100000

/-- What a call hands back that makes ledgers of its own. -/
def RetLd (w : World) (Y : List Ld) (e : Ending) (w' : World) : Prop := ∃ a' cap', e = .returned (.slice a' Y.length cap') ∧ LdOwn w' w.heap.size 69 [] a' cap' Y ∧ Frm [] w w'
/-- How far IndexFunc comes. -/
def stayI (X : List Ld) (p : Ps) : Int := if goesN X p < X.length then (goesN X p : Nat) else -1
end Go.Proofs.Ytghadpihmhaepaa
/- '==' and '!=' of two api.Pos. -/
namespace Go.Proofs.Ytghadpihmhaepaa
open Go.RowKit
set_option maxRecDepth 100000
theorem stood_ps : Try.prog.stoodInHeld 25 = false := by kernel_rfl
theorem fields_ps : Try.prog.underlying 25 = some (.struct (Try.prog.fieldsOf 25)) := by kernel_rfl
theorem part_ps0 (p0 : Nat) (p1 : Nat) (w : World) : (part 23 #[.int .u64 (p0 : Nat), .int .u64 (p1 : Nat)] 0).run Try.prog w = .ok (.int .u64 (p0 : Nat)) w := by kernel_rfl
theorem part_ps1 (p0 : Nat) (p1 : Nat) (w : World) : (part 23 #[.int .u64 (p0 : Nat), .int .u64 (p1 : Nat)] 1).run Try.prog w = .ok (.int .u64 (p1 : Nat)) w := by kernel_rfl
theorem fl_ps : ((Try.prog.fieldsOf 25).toList.map fun f => (f.name, f.type, f.offset)) = [("Ledger", 23, 0), ("Entry", 23, 1)] := by kernel_rfl
theorem equal_ps (p0 : Nat) (p1 : Nat) (q0 : Nat) (q1 : Nat) (w : World) : (Op.equalIn 10000 25 (.agg #[.int .u64 (p0 : Nat), .int .u64 (p1 : Nat)]) (.agg #[.int .u64 (q0 : Nat), .int .u64 (q1 : Nat)])).run Try.prog w = .ok (decide ((⟨p0, p1⟩ : Ps) = ⟨q0, q1⟩)) w := by
  rw [run_equalIn_struct w 9999 _ _ _ fields_ps stood_ps]
  have hl := fl_ps
  generalize (Try.prog.fieldsOf 25).toList = fs at hl
  have e0 := fun d (x y : Nat) W => run_equalIn_int (P := Try.prog) W d 23 .u64 .u64 (x : Int) (y : Int) Try.underlying23
  rcases fs with _ | ⟨f0, _ | ⟨f1, _ | ⟨x, fs⟩⟩⟩
  · simp at hl
  · simp at hl
  · simp only [List.map_cons, List.map_nil, List.cons.injEq, Prod.mk.injEq, and_true] at hl
    obtain ⟨⟨n0, t0, o0⟩, n1, t1, o1⟩ := hl
    simp only [Op.eqFields, n0, n1, t0, t1, o0, o1]
    simp only [Sem.run_bind, ne_eq, String.reduceEq, not_false_eq_true, if_true, part_ps0, Result.andThen_ok, e0 9998]
    by_cases h0 : p0 = q0
    · by_cases h1 : p1 = q1
      · simp [h0, h1, part_ps1, e0]
      · have g1 : ((p1 : Int) == (q1 : Int)) = false := by simp; omega
        simp [h0, h1, g1, part_ps1, e0]
    · have g0 : ((p0 : Int) == (q0 : Int)) = false := by simp; omega
      simp [h0, g0]
  · simp at hl
theorem eql_ps (p0 : Nat) (p1 : Nat) (q0 : Nat) (q1 : Nat) (w : World) : (binOp .eql 25 (.agg #[.int .u64 (p0 : Nat), .int .u64 (p1 : Nat)]) (.agg #[.int .u64 (q0 : Nat), .int .u64 (q1 : Nat)])).run Try.prog w = .ok (.bool (decide ((⟨p0, p1⟩ : Ps) = ⟨q0, q1⟩))) w := by
  rw [run_eql_struct, equal_ps]; rfl
theorem neq_ps (p0 : Nat) (p1 : Nat) (q0 : Nat) (q1 : Nat) (w : World) : (binOp .neq 25 (.agg #[.int .u64 (p0 : Nat), .int .u64 (p1 : Nat)]) (.agg #[.int .u64 (q0 : Nat), .int .u64 (q1 : Nat)])).run Try.prog w = .ok (.bool (!decide ((⟨p0, p1⟩ : Ps) = ⟨q0, q1⟩))) w := by
  rw [run_neq_struct, equal_ps]; rfl
end Go.Proofs.Ytghadpihmhaepaa
/- Contracts of the document's Order, Behind, Trim; of the law's Place. -/
namespace Go.Proofs.Ytghadpihmhaepaa
open Go.RowKit
set_option maxRecDepth 100000

set_option maxHeartbeats 2000000 in
theorem rlorder_any (a b : Ps) (w : World) : Calls Try.prog 43 #[a.val, b.val] w (LRet w (.int .i64 (ordP a b))) := by
  obtain ⟨al, ae⟩ := a
  obtain ⟨bl, be⟩ := b
  unfold Ps.val LRet
  simp only
  obtain ⟨w1, hw1⟩ : ∃ w1, w1 = (w.alloc (.cells #[.int .u64 (al : Nat), .int .u64 (ae : Nat)] 25)).alloc (.cells #[.int .u64 (bl : Nat), .int .u64 (be : Nat)] 25) := ⟨_, rfl⟩
  have F1 : Hid (Frm [] w w1) := Lib.hid (by rw [hw1]; exact ((Frm.refl _ _).alloc _).alloc _)
  obtain ⟨g, hg⟩ : ∃ g, g = w.heap.size := ⟨_, rfl⟩
  have B1 : Whole w1 g 25 #[.int .u64 (al : Nat), .int .u64 (ae : Nat)] := by rw [hw1, hg]; exact (Whole.made _ _ _).alloc _
  have B2 : Whole w1 (g + 1) 25 #[.int .u64 (bl : Nat), .int .u64 (be : Nat)] := by
    rw [hw1, hg]
    have := Whole.made (w.alloc (.cells #[.int .u64 (al : Nat), .int .u64 (ae : Nat)] 25)) 25 #[.int .u64 (bl : Nat), .int .u64 (be : Nat)]
    rwa [World.size_alloc] at this
  have k1 := B1.cell 0
  have k2 := B1.cell 1
  have k3 := B2.cell 0
  have k4 := B2.cell 1
  simp only [List.getElem?_toArray, List.getElem?_cons_zero, List.getElem?_cons_succ] at k1 k2 k3 k4
  have ee := fun w => eql_ps al ae bl be w
  clear B1 B2
  have HW1 := Lib.hid hw1
  have HG := Lib.hid hg
  by_cases h1 : al < bl
  · have d1 : decide (al < bl) = true := decide_eq_true h1
    have d1' : decide ((al : Int) < (bl : Int)) = true := decide_eq_true (by omega)
    have E : Hid (ordP ⟨al, ae⟩ ⟨bl, be⟩ = -1) := Lib.hid (by unfold ordP Ps.lt; exact if_pos (Or.inl h1))
    rw [E.out]
    clear h1
    go_enter Try.func43, Try.ntmps43
    go_upto_region 1 with (fail)
    rw [← hw1, ← hg]
    clear hw1 hg
    go_wp2
    go_ret
    exact ⟨rfl, F1.out⟩
  have d1 : decide (al < bl) = false := decide_eq_false h1
  have d1' : decide ((al : Int) < (bl : Int)) = false := decide_eq_false (by omega)
  by_cases h2 : al = bl
  · have d2 : ((al : Int) == (bl : Int)) = true := by rw [beq_iff_eq]; omega
    by_cases h3 : ae < be
    · have d3 : decide (ae < be) = true := decide_eq_true h3
      have d3' : decide ((ae : Int) < (be : Int)) = true := decide_eq_true (by omega)
      have E : Hid (ordP ⟨al, ae⟩ ⟨bl, be⟩ = -1) := Lib.hid (by unfold ordP Ps.lt; exact if_pos (Or.inr ⟨h2, h3⟩))
      rw [E.out]
      clear h1 h2 h3
      go_enter Try.func43, Try.ntmps43
      go_upto_region 1 with (fail)
      rw [← hw1, ← hg]
      clear hw1 hg
      go_wp2
      go_ret
      exact ⟨rfl, F1.out⟩
    · have d3 : decide (ae < be) = false := decide_eq_false h3
      have d3' : decide ((ae : Int) < (be : Int)) = false := decide_eq_false (by omega)
      by_cases h4 : ae = be
      · have E : Hid (ordP ⟨al, ae⟩ ⟨bl, be⟩ = 0) := Lib.hid (by subst h2; subst h4; unfold ordP; rw [if_neg (Ps.lt_irrefl _), if_neg (Ps.lt_irrefl _)])
        have ee2 : ∀ w : World, (binOp .eql 25 (.agg #[.int .u64 (al : Nat), .int .u64 (ae : Nat)]) (.agg #[.int .u64 (bl : Nat), .int .u64 (be : Nat)])).run Try.prog w = .ok (.bool true) w := fun w => by rw [ee, decide_eq_true (by rw [h2, h4])]
        rw [E.out]
        clear h1 h2 h3 h4 ee
        go_enter Try.func43, Try.ntmps43
        go_upto_region 1 with (fail)
        rw [← hw1, ← hg]
        clear hw1 hg
        go_wp2
        go_ret
        exact ⟨rfl, F1.out⟩
      · have E : Hid (ordP ⟨al, ae⟩ ⟨bl, be⟩ = 1) := Lib.hid (by unfold ordP Ps.lt; exact (if_neg (by simp only; omega)).trans (if_pos (by simp only; omega)))
        have ee2 : ∀ w : World, (binOp .eql 25 (.agg #[.int .u64 (al : Nat), .int .u64 (ae : Nat)]) (.agg #[.int .u64 (bl : Nat), .int .u64 (be : Nat)])).run Try.prog w = .ok (.bool false) w := fun w => by rw [ee, decide_eq_false (by simp [h4])]
        rw [E.out]
        clear h1 h2 h3 h4 ee
        go_enter Try.func43, Try.ntmps43
        go_upto_region 1 with (fail)
        rw [← hw1, ← hg]
        clear hw1 hg
        go_wp2
        go_ret
        exact ⟨rfl, F1.out⟩
  · have d2 : ((al : Int) == (bl : Int)) = false := by rw [beq_eq_false_iff_ne]; omega
    have E : Hid (ordP ⟨al, ae⟩ ⟨bl, be⟩ = 1) := Lib.hid (by unfold ordP Ps.lt; exact (if_neg (by simp only; omega)).trans (if_pos (by simp only; omega)))
    have ee2 : ∀ w : World, (binOp .eql 25 (.agg #[.int .u64 (al : Nat), .int .u64 (ae : Nat)]) (.agg #[.int .u64 (bl : Nat), .int .u64 (be : Nat)])).run Try.prog w = .ok (.bool false) w := fun w => by rw [ee, decide_eq_false (by simp [h2])]
    rw [E.out]
    clear h1 h2 ee
    go_enter Try.func43, Try.ntmps43
    go_upto_region 1 with (fail)
    rw [← hw1, ← hg]
    clear hw1 hg
    go_wp2
    go_ret
    exact ⟨rfl, F1.out⟩
/-- What Place answers. -/
def placeP (p : Ps) (raw : Bool) : Ps := if raw then p else ⟨p.l % 16, p.e % 8⟩
theorem placeP_fits (p : Ps) (raw : Bool) (h : p.fits) : (placeP p raw).fits := by
  unfold placeP
  cases raw
  · have h1 := Nat.mod_le p.l 16
    have h2 := Nat.mod_le p.e 8
    exact ⟨Nat.lt_of_le_of_lt h1 h.1, Nat.lt_of_le_of_lt h2 h.2⟩
  · exact h
theorem ldplace_any (p : Ps) (raw : Bool) (w : World) : Calls Try.prog 12 #[p.val, .bool raw] w (LRet w (placeP p raw).val) := by
  obtain ⟨pl, pe⟩ := p
  unfold placeP Ps.val LRet
  simp only
  cases raw
  · obtain ⟨q, hq⟩ : ∃ q, q = pl % 16 := ⟨_, rfl⟩
    obtain ⟨r, hr⟩ : ∃ r, r = pe % 8 := ⟨_, rfl⟩
    rw [if_neg (by simp), ← hq, ← hr]
    have h1 : (pl : Int) % 16 = (q : Int) := by omega
    have h2 : (pl : Int).tmod 16 = (q : Int) := by rw [hq]; rfl
    have h3 : (pe : Int) % 8 = (r : Int) := by omega
    have h4 : (pe : Int).tmod 8 = (r : Int) := by rw [hr]; rfl
    have h5 : IntKind.u64.wrap (q : Int) = (q : Int) := by simp [IntKind.wrap, IntKind.bits, IntKind.signed]; omega
    have h6 : IntKind.u64.wrap (r : Int) = (r : Int) := by simp [IntKind.wrap, IntKind.bits, IntKind.signed]; omega
    clear hq hr
    go_enter Try.func12, Try.ntmps12
    go_wp2
    refine bodyPost_ret (results_cell_row (P := Try.prog) rfl _ _ (w.heap.size + 1) _ _ _ _ rfl (heap_alloc2_new w _ _) Try.underlying25 rfl (by kernel_rfl)) rfl ?_
    exact ⟨rfl, ((Frm.refl _ _).alloc _).alloc _⟩
  · rw [if_pos rfl]
    go_enter Try.func12, Try.ntmps12
    go_wp2
    refine bodyPost_ret (results_cell_row (P := Try.prog) rfl _ _ (w.heap.size + 1) _ _ _ _ rfl (heap_alloc2_new w _ _) Try.underlying25 rfl (by kernel_rfl)) rfl ?_
    exact ⟨rfl, ((Frm.refl _ _).alloc _).alloc _⟩
end Go.Proofs.Ytghadpihmhaepaa
/- Contracts of the document's Of, Acked. -/
namespace Go.Proofs.Ytghadpihmhaepaa
open Go.RowKit
set_option maxRecDepth 100000

/-- A cursor's value: its mark; what is held lies at a. -/
def crsV (m : Ps) (a : Option Addr) (n cap : Nat) : Value := .agg #[.int .u64 (m.l : Nat), .int .u64 (m.e : Nat), .slice a n cap]
/-- Ranges as a call answers them. -/
def RsEnd (w : World) (F : List Nat) (l : List Rg) (e : Ending) (w' : World) : Prop := ∃ (a : Option Addr) (c : Nat), e = .returned (.slice a l.length c) ∧ Rr w' a l ∧ (a = none → c = 0) ∧ l.length ≤ c ∧ c ≤ 9223372036854775807 ∧ (l ≠ [] → ∀ q, a = some q → q.block ∉ F) ∧ Frm [] w w'
theorem HxL.sub {w w' : World} {F : List Nat} {a : Option Addr} {X : List Hx} (h : HxL w F a X) (hf : Frm [] w w') : HxL w' F a X := h.keep hf (by simp) (fun x hx => .inl hx)
end Go.Proofs.Ytghadpihmhaepaa
/- Contract of the document's All. -/
namespace Go.Proofs.Ytghadpihmhaepaa
open Go.RowKit
set_option maxRecDepth 100000

/-- While places are listed: of the first k ledgers all, of the next one j. -/
structure Al13 (w wr : World) (X : List Ld) (o k j m : Nat) (a : Option Addr) (cap : Nat) : Prop where
  own : PsOwn wr w.heap.size 25 [] a cap (allP (X.take k) o ++ (List.range j).map fun i => ⟨(X.getD k default).id, i⟩)
  len : m = tot (X.take k) o + j
  frm : Frm [] w wr
theorem Al13.next {w wr : World} {X : List Ld} {o k m : Nat} {a : Option Addr} {cap : Nat} (h : Al13 w wr X o k ((X.getD k default).size o) m a cap) (hk : k < X.length) : Al13 w wr X o (k + 1) 0 m a cap := by
  refine ⟨?_, by rw [h.len, tot_take o hk, Nat.add_zero], h.frm⟩
  have e : allP (X.take (k + 1)) o ++ (List.range 0).map (fun i => (⟨(X.getD (k + 1) default).id, i⟩ : Ps)) = allP (X.take k) o ++ (List.range ((X.getD k default).size o)).map fun i => ⟨(X.getD k default).id, i⟩ := by
    rw [allP_take o hk]; simp
  rw [e]
  exact h.own
theorem Al13.length {w wr : World} {X : List Ld} {o k j m : Nat} {a : Option Addr} {cap : Nat} (h : Al13 w wr X o k j m a cap) : (allP (X.take k) o ++ (List.range j).map fun i => (⟨(X.getD k default).id, i⟩ : Ps)).length = m := by
  rw [List.length_append, allP_length, List.length_map, List.length_range, h.len]
end Go.Proofs.Ytghadpihmhaepaa
/- Contract of the document's hold. -/
namespace Go.Proofs.Ytghadpihmhaepaa
open Go.RowKit
set_option maxRecDepth 100000

theorem infoHe : (Try.prog.info? 55).map (fun i => (i.zero, i.size, i.bytes)) = some (some (.agg #[.int .u64 0, .slice none 0 0]), 2, 32) := by kernel_rfl
theorem hxvals_one (w : World) (x : Hx) (t : TypeId) : ValsAt (w.alloc (.cells #[.int .u64 (x.t.1 : Nat), .slice x.a x.t.2.length x.c] t)) (some ⟨w.heap.size, 0, none⟩) (hxc [x]) := by
  refine .inr ⟨_, _, rfl, fun i u hu => ?_⟩
  rw [(Whole.made w t _).cell, Nat.zero_add]
  simp only [hxc, List.flatMap_cons, List.flatMap_nil, List.append_nil, Hx.cells] at hu
  rw [← hu]
  simp
/-- One step of hold. -/
def hoS (led : Nat) (nw : Hx) (s : List Hx × Bool) (x : Hx) : List Hx × Bool :=
  ((if s.2 = false ∧ led ≤ x.t.1 then s.1 ++ [nw] else s.1) ++ (if x.t.1 = led then [] else [x]), s.2 || decide (led ≤ x.t.1))
def hoR (led : Nat) (nw : Hx) (d : Bool) (X : List Hx) : List Hx × Bool := X.foldl (hoS led nw) ([], d)
def hoX (led : Nat) (nw : Hx) (d : Bool) (X : List Hx) : List Hx := if (hoR led nw d X).2 = true then (hoR led nw d X).1 else (hoR led nw d X).1 ++ [nw]
/-- A cursor as a call answers it. -/
def CsEnd (w : World) (F : List Nat) (m : Ps) (X : List Hx) (e : Ending) (w' : World) : Prop := ∃ (a : Option Addr) (c : Nat), e = .returned (crsV m a X.length c) ∧ HxL w' F a X ∧ (X ≠ [] → ∀ q, a = some q → w.heap.size ≤ q.block) ∧ Frm [] w w'

structure Ho13 (w w1 wr : World) (F : List Nat) (g : Nat) (m : Ps) (S : List Hx) (a : Option Addr) (c : Nat) : Prop where
  own : HxOwn wr w1.heap.size 55 ((g + 1) :: (g + 1 + 1) :: F) a c S
  out : Whole wr (g + 1 + 1) 28 #[.int .u64 (m.l : Nat), .int .u64 (m.e : Nat), .slice a S.length c]
  frm : Frm [g + 1 + 1] w1 wr
theorem Ho13.alloc {w w1 wr : World} {F : List Nat} {g : Nat} {m : Ps} {S : List Hx} {a : Option Addr} {c : Nat} (h : Ho13 w w1 wr F g m S a c) (o : Obj) : Ho13 w w1 (wr.alloc o) F g m S a c :=
  ⟨h.own.keep (S := []) ((Frm.refl _ _).alloc _) (by simp) (fun x hx => .inl hx), h.out.alloc _, h.frm.alloc _⟩
/-- What holds all the way. -/
structure Ho13P (w w1 : World) (F : List Nat) (g : Nat) : Prop where
  frm : Frm [] w w1
  low : w.heap.size ≤ g
  lt : g + 1 + 1 < w1.heap.size
  fl : ∀ x ∈ F, x < w.heap.size
theorem Ho13.frw {w w1 W : World} {F : List Nat} {g : Nat} {m : Ps} {S : List Hx} {a : Option Addr} {c : Nat} (h : Ho13 w w1 W F g m S a c) (p : Ho13P w w1 F g) : Frm [] w W :=
  p.frm.trans h.frm (by simp) (fun x hx => by simp at hx; have := p.low; exact .inr (by omega))
theorem Ho13.app {w w1 W w3 : World} {F : List Nat} {g sl : Nat} {m : Ps} {S : List Hx} {z : Hx} {a a3 : Option Addr} {c c3 : Nat} (h : Ho13 w w1 W F g m S a c) (p : Ho13P w w1 F g) (hz : HxOk w F z) (hsl : S.length = sl)
    (ha : AppS W w3 w1.heap.size 55 2 (.slice a sl c) sl 1 (hxc S) (hxc [z]) a3 c3) :
    Ho13 w w1 (w3.setCell ⟨g + 1 + 1, 2, none⟩ (.slice a3 (sl + 1 : Nat) c3)) F g m (S ++ [z]) a3 c3 ∧ w3.frozen? ⟨g + 1 + 1, 2, none⟩ = false ∧ w3.cell? ⟨g + 1 + 1, 2, none⟩ = some (.slice a sl c) := by
  have hb := h.own.blk_lt
  have hW := h.frw p
  have hsz := h.frm.size
  have hsz1 := p.frm.size
  have hlt := p.lt
  have hlow := p.low
  have k : HxsOk W (blk a ++ ((g + 1) :: (g + 1 + 1) :: F)) [z] := by
    intro y hy
    simp only [List.mem_singleton] at hy
    subst hy
    refine hz.keep hW (by simp) (fun x hx => ?_)
    rcases List.mem_append.1 hx with h1 | h1
    · have := (hb x h1).1; exact .inr (by omega)
    · rcases List.mem_cons.1 h1 with h2 | h2
      · exact .inr (by omega)
      · rcases List.mem_cons.1 h2 with h3 | h3
        · exact .inr (by omega)
        · exact .inl h3
  have r := h.own.app (n := sl) (m := 1) (Y := [z]) hsl.symm k rfl (fun x hx => by
    rcases List.mem_cons.1 hx with h2 | h2
    · omega
    · rcases List.mem_cons.1 h2 with h3 | h3
      · omega
      · have := p.fl x h3; omega) ha
  obtain ⟨r1, r2, r3, r4⟩ := r
  have hn : g + 1 + 1 ∉ blk a := fun hm => by have := (hb _ hm).1; omega
  have o3 := r2.whole h.out hn
  refine ⟨⟨?_, ?_, ?_⟩, o3.free 2, ?_⟩
  · exact r1.keep (S := [g + 1 + 1]) ((Frm.refl [g + 1 + 1] w3).setCell (.inl (by simp)) _) (fun x hx => .inl (by simp at hx; simp [hx])) (fun x hx => .inl hx)
  · have := o3.put 2 (.slice a3 (sl + 1 : Nat) c3)
    simpa [hsl] using this
  · exact (h.frm.trans r2 (U := [g + 1 + 1]) (by simp) (fun x hx => .inr (hb x hx).1)).setCell (.inl (by simp)) _
  · have := o3.cell 2
    simpa [hsl] using this
end Go.Proofs.Ytghadpihmhaepaa
/- What hold comes to: of rising ledgers. -/
namespace Go.Proofs.Ytghadpihmhaepaa
open Go.RowKit

/-- Rising. -/
def Srt (H : List Hel) : Prop := H.Pairwise (fun a b => a.1 < b.1)
def holdH (led : Nat) (l : List Rg) (H : List Hel) : List Hel := H.filter (fun h => decide (h.1 < led)) ++ (if l = [] then [] else [(led, l)]) ++ H.filter (fun h => decide (led < h.1))
theorem hels_append (X Y : List Hx) : hels (X ++ Y) = hels X ++ hels Y := by simp [hels]
theorem hels_filter (X : List Hx) (p : Hel → Bool) : hels (X.filter (fun x => p x.t)) = (hels X).filter p := by
  unfold hels
  rw [List.filter_map]
  rfl
theorem srt_cons {h : Hel} {H : List Hel} : Srt (h :: H) ↔ (∀ x ∈ H, h.1 < x.1) ∧ Srt H := List.pairwise_cons
theorem srt_filter {H : List Hel} (h : Srt H) (p : Hel → Bool) : Srt (H.filter p) := List.Pairwise.sublist List.filter_sublist h
theorem filter_all {α : Type} {p : α → Bool} {L : List α} (h : ∀ x ∈ L, p x = true) : L.filter p = L := List.filter_eq_self.2 h
theorem filter_nil {α : Type} {p : α → Bool} {L : List α} (h : ∀ x ∈ L, p x = false) : L.filter p = [] := List.filter_eq_nil_iff.2 (fun x hx => by rw [h x hx]; decide)
theorem srt_holdH {led : Nat} {l : List Rg} {H : List Hel} (hs : Srt H) : Srt (holdH led l H) := by
  unfold holdH
  refine List.pairwise_append.2 ⟨List.pairwise_append.2 ⟨srt_filter hs _, ?_, ?_⟩, srt_filter hs _, ?_⟩
  · split <;> simp
  · intro a ha b hb
    have := (List.mem_filter.1 ha).2
    split at hb
    · cases hb
    · simp at hb this
      rw [hb]; exact this
  · intro a ha b hb
    have h2 := (List.mem_filter.1 hb).2
    rcases List.mem_append.1 ha with h | h
    · have := (List.mem_filter.1 h).2
      simp at this h2
      omega
    · split at h
      · cases h
      · simp at h h2
        rw [h]; exact h2
theorem ofH_eq (H : List Hel) (q : Nat) : ofH H q = ((H.find? (fun h => decide (h.1 = q))).map (·.2)).getD [] := by
  unfold ofH
  cases H.find? (fun h => decide (h.1 = q)) <;> rfl
theorem ofH_holdH {led : Nat} {l : List Rg} {H : List Hel} (q : Nat) : ofH (holdH led l H) q = if q = led then l else ofH H q := by
  unfold holdH
  rw [ofH_eq, List.find?_append, List.find?_append, List.find?_filter, List.find?_filter]
  by_cases h : q = led
  · subst h
    rw [if_pos rfl]
    have e1 : H.find? (fun a => decide (decide (a.1 < q) = true ∧ decide (a.1 = q) = true)) = none := by
      rw [List.find?_eq_none]; intro a _; simp; omega
    have e2 : H.find? (fun a => decide (decide (q < a.1) = true ∧ decide (a.1 = q) = true)) = none := by
      rw [List.find?_eq_none]; intro a _; simp; omega
    rw [e1, e2]
    by_cases h2 : l = []
    · simp [h2]
    · simp [h2]
  · rw [if_neg h, ofH_eq]
    have e0 : (if l = [] then ([] : List Hel) else [(led, l)]).find? (fun h => decide (h.1 = q)) = none := by
      split
      · rfl
      · simp; omega
    rw [e0]
    rcases Nat.lt_or_gt_of_ne h with h2 | h2
    · have e1 : (fun a : Hel => decide (decide (a.1 < led) = true ∧ decide (a.1 = q) = true)) = fun a => decide (a.1 = q) := by
        funext a; simp; omega
      have e2 : H.find? (fun a => decide (decide (led < a.1) = true ∧ decide (a.1 = q) = true)) = none := by
        rw [List.find?_eq_none]; intro a _; simp; omega
      rw [e1, e2]
      simp
    · have e1 : (fun a : Hel => decide (decide (led < a.1) = true ∧ decide (a.1 = q) = true)) = fun a => decide (a.1 = q) := by
        funext a; simp; omega
      have e2 : H.find? (fun a => decide (decide (a.1 < led) = true ∧ decide (a.1 = q) = true)) = none := by
        rw [List.find?_eq_none]; intro a _; simp; omega
      rw [e1, e2]
      simp
end Go.Proofs.Ytghadpihmhaepaa
/- Contracts of the program's find, of, Acked (cursors). -/
namespace Go.Proofs.Ytghadpihmhaepaa
open Go.RowKit
set_option maxRecDepth 100000

theorem ldcmp_lt (a b : Nat) : decide (ldcmp a b < 0) = decide (a < b) := by
  unfold ldcmp
  by_cases h : a < b
  · simp [h]
  · rw [if_neg h]; split <;> simp [h]
theorem ldcmp_eq (a b : Nat) : (ldcmp a b == 0) = decide (a = b) := by
  unfold ldcmp
  by_cases h : a < b
  · rw [if_pos h, decide_eq_false (by omega)]; rfl
  · rw [if_neg h]
    by_cases h2 : b < a
    · rw [if_pos h2, decide_eq_false (by omega)]; rfl
    · rw [if_neg h2, decide_eq_true (by omega)]; rfl
set_option maxHeartbeats 1000000 in
theorem cqcmp_any (led : Nat) (ra : Option Addr) (rn rc id : Nat) (w : World) : Calls Try.prog 93 #[.agg #[.int .u64 (led : Nat), .slice ra rn rc], .int .u64 (id : Nat)] w fun e w' => e = .returned (.int .i64 (ldcmp led id)) ∧ Frm [] w w' := by
  have h1 := Lib.hid (fun w => ldcmp_any (w := w) led id)
  generalize ldcmp led id = c at h1 ⊢
  go_enter Try.func93, Try.ntmps93
  go_wp2_with ((with_reducible refine (h1.out _).mono ?_); rintro e w' ⟨rfl, rfl⟩)
  go_ret
  exact ⟨rfl, (Frm.refl [] w).alloc _⟩
def keyX (X : List Hx) (i : Nat) : Nat := (X.getD i default).t.1
theorem srt_lt {X : List Hx} (h : Srt (hels X)) {i j : Nat} (hij : i < j) (hj : j < X.length) : keyX X i < keyX X j := by
  have h1 := List.pairwise_iff_getElem.1 h i j (by rw [hels_length]; omega) (by rw [hels_length]; omega) hij
  unfold keyX
  have hi : i < X.length := by omega
  simpa [hels, hi, hj] using h1
/-- Where a ledger is, or would be. -/
structure AtH (X : List Hx) (led i : Nat) (b : Bool) : Prop where
  le : i ≤ X.length
  low : ∀ t, t < i → keyX X t < led
  high : ∀ t, i ≤ t → t < X.length → led ≤ keyX X t
  is : b = true ↔ i < X.length ∧ keyX X i = led
def FindsH (w : World) (X : List Hx) (led : Nat) (e : Ending) (w' : World) : Prop := ∃ (i : Nat) (b : Bool), e = .returned (.tuple #[.int .i64 (i : Nat), .bool b]) ∧ AtH X led i b ∧ Frm [] w w'
set_option maxHeartbeats 4000000 in
theorem cqsearch_any {w : World} {n cap : Nat} {a : Option Addr} {F : List Nat} {X : List Hx} (id : Nat) (h : HxL w F a X) (hs : Srt (hels X)) (hn : n = X.length) (hsz : n < 4611686018427387904) :
    Calls Try.prog 92 #[.slice a n cap, .int .u64 (id : Nat), .func (.func 93) #[] #[]] w (FindsH w X id) := by
  have HH := Lib.hid h; clear h
  have HS := Lib.hid (fun i j (hij : i < j) (hj : j < X.length) => srt_lt hs hij hj); clear hs
  have HN := Lib.hid hn; clear hn
  go_enter Try.func92, Try.ntmps92
  go_wp2
  go_loopw [9, 10] (fun s5 s6 wr => ∃ lo hi : Nat, s5 = .int .i64 lo ∧ s6 = .int .i64 hi ∧ lo ≤ hi ∧ hi ≤ n ∧ Hid (∀ t, t < lo → keyX X t < id) ∧ Hid (∀ t, hi ≤ t → t < n → id ≤ keyX X t) ∧ Hid (Frm [] w wr)) (fun s5 s6 _ => ((intOf s6).toNat - (intOf s5).toNat))
  case atStart => exact ⟨0, n, rfl, rfl, Nat.zero_le _, Nat.le_refl _, Lib.hid (fun t ht => absurd ht (Nat.not_lt_zero _)), Lib.hid (fun t h1 h2 => by omega), Lib.hid (Frm.refl _ _)⟩
  case round =>
    obtain ⟨lo, hi, rfl, rfl, hlh, hin, HA, HB, HF⟩ := hrel
    by_cases hlt : lo < hi
    · obtain ⟨m, hm⟩ : ∃ m, m = (lo + hi) / 2 := ⟨_, rfl⟩
      have hm1 : lo ≤ m := by omega
      have hm2 : m < hi := by omega
      have hmi : ((lo : Int) + (hi : Int)) / 2 = (m : Int) := by omega
      have hmi2 : (IntKind.u64.wrap ((lo : Int) + (hi : Int))) = (lo : Int) + (hi : Int) := by simp [IntKind.wrap, IntKind.bits, IntKind.signed]; omega
      have hsl := HH.out.sub HF.out
      obtain ⟨b, off, rfl, p0, p1, _⟩ := hsl.at (i := m) (by have := HN.out; omega)
      have HX : Hid (keyX X m = (X.getD m default).t.1) := Lib.hid rfl
      obtain ⟨xl, hxl⟩ : ∃ xl, xl = (X.getD m default).t.1 := ⟨_, rfl⟩
      obtain ⟨xa, hxa⟩ : ∃ xa, xa = (X.getD m default).a := ⟨_, rfl⟩
      obtain ⟨xn, hxn⟩ : ∃ xn, xn = (X.getD m default).t.2.length := ⟨_, rfl⟩
      obtain ⟨xc, hxc⟩ : ∃ xc, xc = (X.getD m default).c := ⟨_, rfl⟩
      rw [← hxl] at p0 HX
      rw [← hxa, ← hxn, ← hxc] at p1
      clear hxl hxa hxn hxc hsl
      have hC := Lib.hid (fun w => cqcmp_any xl xa xn xc id w)
      have hc2 : decide (ldcmp xl id < 0) = decide (xl < id) := ldcmp_lt _ _
      obtain ⟨c, hc⟩ : ∃ c, c = ldcmp xl id := ⟨_, rfl⟩
      rw [← hc] at hC hc2
      clear hc
      by_cases hkl : xl < id
      · rw [decide_eq_true hkl] at hc2
        have HKL := Lib.hid hkl
        clear hkl hm
        go_wp2_with ((with_reducible refine (hC.out _).mono ?_); rintro e w' ⟨rfl, hf'⟩; have HF2 := Lib.hid (HF.out.trans hf' (U := []) (by simp) (by simp)); clear hf')
        go_roundw
        case rel => exact ⟨m + 1, hi, by go_num, rfl, by omega, hin, Lib.hid (fun t h1 => by
            have h4 := HKL.out
            rw [← HX.out] at h4
            rcases Nat.lt_or_ge t m with h3 | h3
            · have := HS.out t m h3 (by rw [← HN.out]; omega)
              omega
            · have : t = m := by omega
              subst this; exact h4), HB, HF2⟩
        case measure => simp [intOf]; omega
      · rw [decide_eq_false hkl] at hc2
        have HKL := Lib.hid hkl
        clear hkl hm
        go_wp2_with ((with_reducible refine (hC.out _).mono ?_); rintro e w' ⟨rfl, hf'⟩; have HF2 := Lib.hid (HF.out.trans hf' (U := []) (by simp) (by simp)); clear hf')
        go_roundw
        case rel => exact ⟨lo, m, rfl, rfl, by omega, by omega, HA, Lib.hid (fun t h1 h2 => by
            have h4 := HKL.out
            rw [← HX.out] at h4
            rcases Nat.lt_or_ge m t with h3 | h3
            · have := HS.out m t h3 (by rw [← HN.out]; exact h2)
              omega
            · have : t = m := by omega
              subst this; omega), HF2⟩
        case measure => simp [intOf]; omega
    · obtain rfl : hi = lo := by omega
      by_cases hlt2 : hi < n
      · have hsl := HH.out.sub HF.out
        obtain ⟨b, off, rfl, p0, p1, _⟩ := hsl.at (i := hi) (by have := HN.out; omega)
        have HX : Hid (keyX X hi = (X.getD hi default).t.1) := Lib.hid rfl
        obtain ⟨xl, hxl⟩ : ∃ xl, xl = (X.getD hi default).t.1 := ⟨_, rfl⟩
        obtain ⟨xa, hxa⟩ : ∃ xa, xa = (X.getD hi default).a := ⟨_, rfl⟩
        obtain ⟨xn, hxn⟩ : ∃ xn, xn = (X.getD hi default).t.2.length := ⟨_, rfl⟩
        obtain ⟨xc, hxc⟩ : ∃ xc, xc = (X.getD hi default).c := ⟨_, rfl⟩
        rw [← hxl] at p0 HX
        rw [← hxa, ← hxn, ← hxc] at p1
        clear hxl hxa hxn hxc hsl
        have HFIN : Hid (AtH X id hi (decide (xl = id))) := Lib.hid ⟨by rw [← HN.out]; omega, HA.out, fun t h1 h2 => HB.out t h1 (by rw [HN.out]; exact h2), by
          rw [decide_eq_true_iff, HX.out, ← HN.out]; exact ⟨fun h => ⟨hlt2, h⟩, fun h => h.2⟩⟩
        have hC := Lib.hid (fun w => cqcmp_any xl xa xn xc id w)
        have hc2 : (ldcmp xl id == 0) = decide (xl = id) := ldcmp_eq _ _
        obtain ⟨c, hc⟩ : ∃ c, c = ldcmp xl id := ⟨_, rfl⟩
        obtain ⟨d, hd⟩ : ∃ d, d = decide (xl = id) := ⟨_, rfl⟩
        rw [← hc] at hC hc2
        rw [← hd] at hc2 HFIN
        clear hc hd HA HB
        have hlt3 : (hi : Int) < (n : Int) := by omega
        go_wp2_with ((with_reducible refine (hC.out _).mono ?_); rintro e w' ⟨rfl, hf'⟩; have HF2 := Lib.hid (HF.out.trans hf' (U := []) (by simp) (by simp)); clear hf')
        go_ret2
        exact ⟨_, _, rfl, HFIN.out, HF2.out⟩
      · have HFIN : Hid (AtH X id hi false) := Lib.hid ⟨by rw [← HN.out]; omega, HA.out, fun t h1 h2 => HB.out t h1 (by rw [HN.out]; exact h2), by
          have := HN.out
          simp; intro h; omega⟩
        clear HA HB
        go_wp2
        go_ret2
        exact ⟨_, _, rfl, HFIN.out, HF.out⟩
set_option maxHeartbeats 1000000 in
theorem cqfind_any {w : World} {n cap : Nat} {a : Option Addr} {F : List Nat} {X : List Hx} (id : Nat) (h : HxL w F a X) (hs : Srt (hels X)) (hn : n = X.length) (hsz : n < 4611686018427387904) :
    Calls Try.prog 68 #[.slice a n cap, .int .u64 (id : Nat)] w (FindsH w X id) := by
  have HB := Lib.hid (cqsearch_any (cap := cap) id h hs hn hsz)
  clear h hs hn
  go_enter Try.func68, Try.ntmps68
  go_wp2_with fail
  (with_reducible refine HB.out.mono ?_)
  rintro e w2 ⟨i, b, rfl, hv, hf2⟩
  have HV := Lib.hid hv
  have HF2 := Lib.hid hf2
  clear hv hf2
  go_wp2
  go_ret2
  exact ⟨_, _, rfl, HV.out, HF2.out⟩
theorem atH_some {X : List Hx} {led i : Nat} (h : AtH X led i true) : i < X.length ∧ ofH (hels X) led = (X.getD i default).t.2 := by
  obtain ⟨h1, h2⟩ := h.is.1 rfl
  refine ⟨h1, ?_⟩
  rw [ofH_at (k := i) (by rw [hels_length]; exact h1) (fun j hj => by have := h.low j hj; unfold keyX at this; rw [hels_getD]; omega) (by rw [hels_getD]; exact h2), hels_getD]
theorem atH_none {X : List Hx} {led i : Nat} (h : AtH X led i false) (hs : Srt (hels X)) : ofH (hels X) led = [] := ofH_none (fun j hj => by
  rw [hels_length] at hj
  rw [hels_getD]
  rcases Nat.lt_or_ge j i with h1 | h1
  · have := h.low j h1; unfold keyX at this; omega
  · rcases Nat.lt_or_eq_of_le h1 with h2 | rfl
    · have h3 := srt_lt hs h2 hj
      have h4 := h.high i (Nat.le_refl _) (by omega)
      unfold keyX at h3 h4
      omega
    · intro h3
      exact absurd (h.is.2 ⟨hj, h3⟩) (by simp))
set_option maxHeartbeats 2000000 in
theorem cqof_any {w : World} {n cap : Nat} {a : Option Addr} {F : List Nat} {X : List Hx} (led : Nat) (h : HxL w F a X) (hs : Srt (hels X)) (hn : n = X.length) (hsz : n < 4611686018427387904) :
    Calls Try.prog 46 #[.slice a n cap, .int .u64 (led : Nat)] w (RsEnd w F (ofH (hels X) led)) := by
  have HB := Lib.hid (cqfind_any (cap := cap) led h hs hn hsz)
  have H := Lib.hid h; clear h
  have HN := Lib.hid hn; clear hn
  have HS := Lib.hid hs; clear hs
  obtain ⟨Q, hQ⟩ : ∃ Q, Q = RsEnd w F (ofH (hels X) led) := ⟨_, rfl⟩
  rw [← hQ]
  have HQ := Lib.hid hQ; clear hQ
  go_enter Try.func46, Try.ntmps46
  go_wp2_with fail
  (with_reducible refine HB.out.mono ?_)
  rintro e w2 ⟨i, b, rfl, hv, hf2⟩
  have HF2 := Lib.hid hf2
  cases b
  · have FIN : Hid (Q (.returned (.slice none 0 0)) w2) := Lib.hid (by
      rw [HQ.out, atH_none hv HS.out]
      exact ⟨none, 0, rfl, Rr.nil _ _, fun _ => rfl, Nat.le_refl _, Nat.zero_le _, fun h => absurd rfl h, HF2.out⟩)
    clear hv hf2
    go_wp2
    exact FIN.out
  · obtain ⟨hi, he⟩ := atH_some hv
    obtain ⟨b, off, rfl, d0, d1, hok⟩ := (H.out.sub hf2).at hi
    have OK := Lib.hid hok
    obtain ⟨x, hx⟩ : ∃ x, x = X.getD i default := ⟨_, rfl⟩
    rw [← hx] at d0 d1 OK he
    have FIN : Hid (Q (.returned (.slice x.a x.t.2.length x.c)) w2) := Lib.hid (by
      rw [HQ.out, he]
      exact ⟨x.a, x.c, rfl, OK.out.rs, OK.out.nil, OK.out.room.1, OK.out.room.2, OK.out.away, HF2.out⟩)
    have hin : i < n := by rw [HN.out]; exact hi
    have hin' : (i : Int) < (n : Int) := by omega
    clear hv hf2 hi he hx hok
    go_wp2
    exact FIN.out
end Go.Proofs.Ytghadpihmhaepaa
/- Contracts of slices.Grow (of nil) and slices.Concat over what is held. Written by a program out of XLdConcat. -/
namespace Go.Proofs.Ytghadpihmhaepaa
open Go.RowKit
set_option maxRecDepth 100000

set_option maxHeartbeats 1000000 in
theorem cqgrow_any (F : List Nat) (n : Nat) (w : World) (hF : ∀ x ∈ F, x < w.heap.size) (hn : n ≤ 100000) : Calls Try.prog 99 #[.slice none 0 0, .int .i64 n] w fun e w' => ∃ a' cap', e = .returned (.slice a' 0 cap') ∧ HxOwn w' w.heap.size 55 F a' cap' [] ∧ Frm [] w w' := by
  by_cases h0 : n = 0
  · subst h0
    go_enter Try.func99, Try.ntmps99
    go_wp2
    go_ret
    exact ⟨none, 0, rfl, HxOwn.nil _ _ _ _, Frm.refl _ _⟩
  · obtain ⟨i0, hi, hz0, hz1, hz2⟩ := info_parts infoHe
    have h1 : ¬ ((n : Int) < 0) := by omega
    have h4 : 0 < (n : Int) := by omega
    have hold : (Builtin.firstCells i0.size 0 (.slice none 0 0)).run Try.prog w.drew = .ok ([] : List Value).toArray w.drew := run_firstCells_none w.drew i0.size 0 0 0
    have hrz : ∀ ty, (Builtin.append_ #[26, 3] ty #[.slice none 0 0, .int .i64 (n : Int)]).run Try.prog w =
        .ok (.slice (some ⟨w.heap.size, 0, none⟩) n (grownCap w n 0 55)) (w.drew.alloc (.cells (#[] ++ Builtin.zeroCells #[.int .u64 0, .slice none 0 0] n ++ Builtin.zeroCells #[.int .u64 0, .slice none 0 0] (grownCap w n 0 55 - n)) 55)) := fun ty => by
      have h := Lib.run_append_grow_zeros w 26 3 ty 55 i0 (.agg #[.int .u64 0, .slice none 0 0]) .i64 .i64 Try.underlying26 Try.underlying3 hi hz0 none 0 0 [] hold n (by omega) (by omega) (by omega) (by omega)
        (by rw [hz2]; omega)
        (by rw [hz2, Nat.zero_add]; exact growslice_fits (by omega) (by omega))
      rw [Nat.zero_add] at h
      exact h
    have hGn : n ≤ grownCap w n 0 55 := grownCap_ge w _ _ _
    have hGm := grownCap_le_maxLen w n 0 55 (by unfold maxLen; omega)
    obtain ⟨G, hG⟩ : ∃ G, G = grownCap w n 0 55 := ⟨_, rfl⟩
    rw [← hG] at hrz hGn hGm
    have hG63 : G ≤ 9223372036854775807 := by unfold maxLen at hGm; omega
    have hsz : (Builtin.zeroCells #[.int .u64 0, .slice none 0 0] n ++ Builtin.zeroCells #[.int .u64 0, .slice none 0 0] (G - n)).size = G * 2 := by
      rw [Array.size_append, size_zeroCells, size_zeroCells]
      show n * 2 + (G - n) * 2 = G * 2
      omega
    have HO : Hid (HxOwn (w.alloc (.cells (Builtin.zeroCells #[.int .u64 0, .slice none 0 0] n ++ Builtin.zeroCells #[.int .u64 0, .slice none 0 0] (G - n)) 55)).drew w.heap.size 55 F (some ⟨w.heap.size, 0, none⟩) G []) := Lib.hid ⟨by
      have := World.ownsRow_made (base := w.heap.size) (e := 55) (size := 2) w.drew (Builtin.zeroCells #[.int .u64 0, .slice none 0 0] n ++ Builtin.zeroCells #[.int .u64 0, .slice none 0 0] (G - n)) G (Nat.le_refl _) hGm hsz
      exact this, HxsOk.nil _ _, fun x hx hm => by simp at hx; have := hF x hm; omega⟩
    have HF : Hid (Frm [] w (w.alloc (.cells (Builtin.zeroCells #[.int .u64 0, .slice none 0 0] n ++ Builtin.zeroCells #[.int .u64 0, .slice none 0 0] (G - n)) 55)).drew) := ((Frm.refl _ _).alloc _).drew
    simp only [Array.empty_append] at hrz
    clear hold hG hsz hi hz0 hz1 hz2 h0 hGm
    go_enter Try.func99, Try.ntmps99
    go_wp2_with (at_builtin; refine Lib.wpList_append_run _ rfl _ _ _ _ rfl _ _ rfl rfl _ _ (hrz _) ?_)
    all_goals
      go_ret
      exact ⟨_, _, rfl, HO.out, HF.out⟩

/-- One of the slices that are joined. -/
structure HxSl where
  a : Option Addr
  cap : Nat
  l : List Hx
instance : Inhabited HxSl := ⟨⟨none, 0, []⟩⟩
def HxSlIn (w : World) (F : List Nat) (s : HxSl) : Prop := HxL w F s.a s.l ∧ (s.a = none → s.cap = 0) ∧ s.l.length ≤ s.cap ∧ s.cap ≤ 9223372036854775807
theorem HxSlIn.keep {w w' : World} {F : List Nat} {s : HxSl} (h : HxSlIn w F s) (hf : Frm [] w w') : HxSlIn w' F s := ⟨h.1.sub hf, h.2⟩
def hxall (ss : List HxSl) : List Hx := ss.flatMap HxSl.l
theorem hxall_take {ss : List HxSl} {k : Nat} (h : k < ss.length) : hxall (ss.take (k + 1)) = hxall (ss.take k) ++ (ss.getD k default).l := by
  have e : ss.getD k default = ss[k] := by simp [h]
  unfold hxall
  rw [e, List.take_succ_eq_append_getElem h, List.flatMap_append, List.flatMap_singleton]
theorem hxall_take_le (ss : List HxSl) (k : Nat) : (hxall (ss.take k)).length ≤ (hxall ss).length := by
  have h : hxall (ss.take k) ++ hxall (ss.drop k) = hxall ss := by unfold hxall; rw [← List.flatMap_append, List.take_append_drop]
  have := congrArg List.length h
  rw [List.length_append] at this
  omega
/-- Slices that lie side by side. -/
def HxSlsIn (w : World) (F : List Nat) (g : Nat) (ss : List HxSl) : Prop := ∀ k, k < ss.length → w.cell? ⟨g, k, none⟩ = some (.slice (ss.getD k default).a (ss.getD k default).l.length (ss.getD k default).cap) ∧ HxSlIn w F (ss.getD k default)
theorem HxSlsIn.keep {w w' : World} {F : List Nat} {g : Nat} {ss : List HxSl} (h : HxSlsIn w F g ss) (hf : Frm [] w w') : HxSlsIn w' F g ss := fun k hk =>
  ⟨(hf.cell (p := ⟨g, k, none⟩) (block_lt_of_cell (h k hk).1) (by simp)).trans (h k hk).1, (h k hk).2.keep hf⟩
theorem cqint_eq {k : IntKind} {a b : Int} (h : a = b) : Value.int k a = Value.int k b := by rw [h]
def CatHx (w0 : World) (F : List Nat) (base : Nat) (ss : List HxSl) (n : Nat) (v i : Value) (wr : World) : Prop :=
  ∃ (k : Nat) (a : Option Addr) (cap : Nat), k ≤ n ∧ i = .int .i64 k ∧ v = .slice a (hxall (ss.take k)).length cap ∧ HxOwn wr base 55 F a cap (hxall (ss.take k)) ∧ Frm [] w0 wr

/-- A row of the call's own. -/
def RetHx (w : World) (F : List Nat) (l : List Hx) (e : Ending) (w' : World) : Prop := ∃ a' cap', e = .returned (.slice a' l.length cap') ∧ HxOwn w' w.heap.size 55 F a' cap' l ∧ Frm [] w w'
set_option maxHeartbeats 2000000 in
theorem cqconcat_any {w : World} {F : List Nat} {g : Nat} {ss : List HxSl} (h : HxSlsIn w F g ss) (hF : ∀ x ∈ F, x < w.heap.size) {n : Nat} (hn : n = ss.length) (hn3 : n ≤ 10) (hsz : (hxall ss).length ≤ 100000) :
    Calls Try.prog 70 #[.slice (some ⟨g, 0, none⟩) n n] w (RetHx w F (hxall ss)) := by
  have H := Lib.hid h; clear h
  have HN := Lib.hid hn; clear hn
  have HS := Lib.hid hsz; clear hsz
  have HF0 := Lib.hid hF; clear hF
  go_enter Try.func70, Try.ntmps70
  go_wp2
  go_loop [3, 11] (fun s i => ∃ k : Nat, k ≤ n ∧ i = .int .i64 k ∧ s = .int .i64 ((hxall (ss.take k)).length : Nat)) (fun _ i => n - (intOf i).toNat)
  case atStart => exact ⟨0, Nat.zero_le _, rfl, rfl⟩
  case round =>
    obtain ⟨k, hk, rfl, rfl⟩ := hrel
    by_cases hlt : k < n
    · obtain ⟨c0, s1, s2, s3, s4⟩ := H.out k (by have := HN.out; omega)
      have st := hxall_take (ss := ss) (k := k) (by have := HN.out; omega)
      have le1 := hxall_take_le ss (k + 1)
      have le2 := HS.out
      rw [st, List.length_append] at le1
      have st2 : (hxall (ss.take (k + 1))).length = (hxall (ss.take k)).length + (ss.getD k default).l.length := by rw [st, List.length_append]
      obtain ⟨m, hm⟩ : ∃ m, m = (hxall (ss.take k)).length := ⟨_, rfl⟩
      obtain ⟨s, hs⟩ : ∃ s, s = ss.getD k default := ⟨_, rfl⟩
      rw [← hs] at c0 s1 s2 s3 s4 le1 st2
      rw [← hm] at le1 st2 ⊢
      have ST := Lib.hid st2
      have hmb : m + s.l.length ≤ 100000 := by omega
      clear s1 s2 st st2 hm hs le1 le2
      obtain ⟨sa, sc, sl⟩ := s
      simp only at c0 s3 s4 ST hmb
      have hlt' : (k : Int) < (n : Int) := by omega
      have hneg : ¬ ((m : Int) + (sl.length : Int) < 0) := by omega
      go_wp2
      go_round
      case rel => exact ⟨k + 1, by omega, by go_num, cqint_eq (by rw [ST.out]; omega)⟩
      case measure => simp [intOf]; omega
    · obtain rfl : k = n := by omega
      have eall : hxall (ss.take k) = hxall ss := by rw [List.take_of_length_le (by have := HN.out; omega)]
      rw [eall]
      obtain ⟨m, hm⟩ : ∃ m, m = (hxall ss).length := ⟨_, rfl⟩
      rw [← hm]
      have hm1 : m ≤ 100000 := by have := HS.out; omega
      have HM := Lib.hid hm; clear hm eall
      go_wp2_with fail
      refine (cqgrow_any F m w HF0.out hm1).mono ?_
      rintro e w1 ⟨a1, c1, rfl, ho, hf⟩
      have HO := Lib.hid ho; clear ho
      have HF := Lib.hid hf; clear hf
      clear hlt hk
      go_wp2
      go_loopw [6, 27] (fun v i wr => CatHx w F w.heap.size ss k v i wr) (fun _ i _ => k - (intOf i).toNat)
      case atStart => exact ⟨0, a1, c1, Nat.zero_le _, rfl, rfl, HO.out, HF.out⟩
      case round =>
        obtain ⟨j, aj, cj, hj, rfl, rfl, hown, hf⟩ := hrel
        have HFJ := Lib.hid hf; clear hf
        have HOJ := Lib.hid hown; clear hown
        by_cases hlt : j < k
        · obtain ⟨c0, s1, s2, s3, s4⟩ := (H.out.keep HFJ.out) j (by have := HN.out; omega)
          have st := hxall_take (ss := ss) (k := j) (by have := HN.out; omega)
          have le1 := hxall_take_le ss (j + 1)
          have le2 := HS.out
          rw [st, List.length_append] at le1
          obtain ⟨s, hs⟩ : ∃ s, s = ss.getD j default := ⟨_, rfl⟩
          rw [← hs] at c0 s1 s2 s3 s4 le1 st
          have OKS : Hid (HxsOk w F s.l) := Lib.hid (by rw [hs]; exact (H.out j (by have := HN.out; omega)).2.1.ok)
          obtain ⟨lj, hlj⟩ : ∃ lj, lj = hxall (ss.take j) := ⟨_, rfl⟩
          rw [← hlj] at le1 st HOJ ⊢
          obtain ⟨sa, sc, sl⟩ := s
          simp only at c0 s1 s2 s3 s4 le1 st OKS
          have ST := Lib.hid st
          have S1 := Lib.hid s1
          have S2 := Lib.hid s2
          clear st hlj hs s1 s2
          have hlt' : (j : Int) < (k : Int) := by omega
          obtain ⟨i0, hi, hz0, hz1, hz2⟩ := info_parts infoHe
          have HI := Lib.hid hi; clear hi
          have HZ0 := Lib.hid hz0; clear hz0
          have HZ1 := Lib.hid hz1; clear hz1
          have HZ2 := Lib.hid hz2; clear hz2
          have hbz : w.heap.size ≤ wr.heap.size := HFJ.out.size
          obtain ⟨nj, hnj⟩ : ∃ nj, nj = lj.length := ⟨_, rfl⟩
          obtain ⟨ns, hns⟩ : ∃ ns, ns = sl.length := ⟨_, rfl⟩
          rw [← hns] at c0 s3 le1
          rw [← hnj] at le1 ⊢
          have HLX : Hid ((hxc sl).length = ns * 2) := Lib.hid (by rw [hxc_length, hns])
          have HNJ := Lib.hid hnj; clear hnj
          have HNS := Lib.hid hns; clear hns
          have hfit : nj + ns ≤ 1000000000 := by omega
          have OWN : Hid (wr.ownsRow w.heap.size 55 2 (.slice aj nj cj) nj (hxc lj)) := Lib.hid (by rw [HNJ.out]; exact HOJ.out.own)
          go_wp2_with (at_builtin; refine wpList_appS (by rfl) (.tmp 31) (.tmp 32) 26 rfl w.heap.size 55 i0 (.agg #[.int .u64 0, .slice none 0 0]) 2 32 Try.underlying26 HI.out HZ0.out rfl (by decide) HZ1.out HZ2.out (by decide) (.slice aj nj cj) nj _ rfl OWN.out _ ns sc _ rfl S1.out.vals HLX.out (hxc_one _) S2.out hfit hbz ?_)
          intro a2 c2 w2 happ
          have g3 := HOJ.out.app HNJ.out (OKS.out.keep HFJ.out (by simp) (fun x hx => (List.mem_append.1 hx).elim (fun h1 => .inr (HOJ.out.blk_lt x h1).1) .inl)) HNS.out (fun x hx => Nat.lt_of_lt_of_le (HF0.out x hx) HFJ.out.size) happ
          have HF2 : Hid (Frm [] w w2) := Lib.hid (HFJ.out.trans g3.2.1 (by simp) (fun x hx => .inr (HOJ.out.blk_lt x hx).1))
          have HO2 := Lib.hid g3.1
          have E2 := Lib.hid g3.2.2.2
          clear happ g3 hbz OWN
          go_wp2
          go_roundw
          case rel => exact ⟨j + 1, a2, c2, by omega, by go_num, by rw [ST.out, ← E2.out], by rw [ST.out]; exact HO2.out, HF2.out⟩
          case measure => simp [intOf]; omega
        · obtain rfl : j = k := by omega
          have eall : hxall (ss.take j) = hxall ss := by rw [List.take_of_length_le (by have := HN.out; omega)]
          rw [eall] at HOJ ⊢
          have FIN : Hid (RetHx w F (hxall ss) (.returned (.slice aj (hxall ss).length cj)) wr) := ⟨aj, cj, rfl, HOJ.out, HFJ.out⟩
          clear eall
          go_wp2
          go_ret
          exact FIN.out
end Go.Proofs.Ytghadpihmhaepaa
/- Contract of the program's Acked. -/
namespace Go.Proofs.Ytghadpihmhaepaa
open Go.RowKit
set_option maxRecDepth 100000

/-- Ranges of a right cursor's. -/
def RgsOk (X : List Hx) : Prop := ∀ x ∈ X, x.t.2.length ≤ 400 ∧ Rt x.t.2
theorem ofH_ok {X : List Hx} (h : RgsOk X) (q : Nat) : (ofH (hels X) q).length ≤ 400 ∧ Rt (ofH (hels X) q) := by
  unfold ofH
  split
  · rename_i hh hf
    have := List.mem_of_find?_eq_some hf
    unfold hels at this
    obtain ⟨x, hx, rfl⟩ := List.mem_map.1 this
    exact h x hx
  · exact ⟨by decide, Rt.nil⟩
set_option maxHeartbeats 4000000 in
theorem cqacked_any (m : Ps) (a : Option Addr) (n cap : Nat) (F : List Nat) (X : List Hx) (p : Ps) (w : World) (h : HxL w F a X) (hs : Srt (hels X)) (hn : n = X.length) (hsz : n < 4611686018427387904) (hr : RgsOk X) :
    Calls Try.prog 18 #[crsV m a n cap, p.val] w (BoolOf (ackedC ⟨m, hels X⟩ p) w) := by
  have OF := Lib.hid (fun z (hz : Frm [] w z) => cqof_any (cap := cap) p.l (h.sub hz) hs hn hsz)
  have IN : Hid (∀ (z : World) (ar : Option Addr) (cr : Nat), Rr z ar (ofH (hels X) p.l) → Calls Try.prog 45 #[.slice ar (ofH (hels X) p.l).length cr, .int .u64 (p.e : Nat)] z (BoolOf (Mem (ofH (hels X) p.l) p.e) z)) := Lib.hid (fun z ar cr hz => has_any hz (ofH_ok hr _).2 rfl (by have := (ofH_ok hr p.l).1; omega))
  have ORD := Lib.hid (fun z => ldorder_any p m z)
  obtain ⟨c, hc⟩ : ∃ c, c = ordP p m := ⟨_, rfl⟩
  rw [← hc] at ORD
  have I1 : (c < 0 ↔ p.lt m) := by rw [hc]; exact ordP_neg
  have II := Lib.hid I1
  unfold ackedC
  simp only
  generalize ofH (hels X) p.l = R at OF IN ⊢
  obtain ⟨w1, hw1⟩ : ∃ w1, w1 = (w.alloc (.cells #[.int .u64 (m.l : Nat), .int .u64 (m.e : Nat), .slice a n cap] 28)).alloc (.cells #[.int .u64 (p.l : Nat), .int .u64 (p.e : Nat)] 25) := ⟨_, rfl⟩
  have F1 : Hid (Frm [] w w1) := Lib.hid (by rw [hw1]; exact ((Frm.refl _ _).alloc _).alloc _)
  obtain ⟨g, hg⟩ : ∃ g, g = w.heap.size := ⟨_, rfl⟩
  have B1 : Hid (Whole w1 g 28 #[.int .u64 (m.l : Nat), .int .u64 (m.e : Nat), .slice a n cap]) := Lib.hid (by rw [hw1, hg]; exact (Whole.made _ _ _).alloc _)
  have B2 : Hid (Whole w1 (g + 1) 25 #[.int .u64 (p.l : Nat), .int .u64 (p.e : Nat)]) := Lib.hid (by
    rw [hw1, hg]
    have := Whole.made (w.alloc (.cells #[.int .u64 (m.l : Nat), .int .u64 (m.e : Nat), .slice a n cap] 28)) 25 #[.int .u64 (p.l : Nat), .int .u64 (p.e : Nat)]
    rwa [World.size_alloc] at this)
  have r0 : ∀ z, Frm [] w1 z → z.cell? ⟨g, 0, none⟩ = some (.int .u64 (m.l : Nat)) := fun z hz => (hz.whole B1.out (by simp)).cell 0
  have r1 : ∀ z, Frm [] w1 z → z.cell? ⟨g, 1, none⟩ = some (.int .u64 (m.e : Nat)) := fun z hz => (hz.whole B1.out (by simp)).cell 1
  have r2 : ∀ z, Frm [] w1 z → z.cell? ⟨g, 2, none⟩ = some (.slice a n cap) := fun z hz => (hz.whole B1.out (by simp)).cell 2
  have r3 : ∀ z, Frm [] w1 z → z.cell? ⟨g + 1, 0, none⟩ = some (.int .u64 (p.l : Nat)) := fun z hz => (hz.whole B2.out (by simp)).cell 0
  have r4 : ∀ z, Frm [] w1 z → z.cell? ⟨g + 1, 1, none⟩ = some (.int .u64 (p.e : Nat)) := fun z hz => (hz.whole B2.out (by simp)).cell 1
  clear h hn hr hc I1 hs
  obtain ⟨pl, pe⟩ := p
  obtain ⟨ml, me⟩ := m
  unfold LRet Ps.val at ORD
  unfold RsEnd at OF
  unfold crsV Ps.val
  simp only at ORD OF IN r0 r1 r2 r3 r4 hw1 II ⊢
  by_cases h1 : c < 0
  · have d1 : decide (c < 0) = true := decide_eq_true h1
    have YES : Hid (Ps.lt ⟨pl, pe⟩ ⟨ml, me⟩ ∨ Mem R pe) := Lib.hid (.inl (II.out.1 h1))
    clear h1
    go_enter Try.func18, Try.ntmps18
    go_wp2
    rw [← hw1, ← hg]
    clear hw1 hg
    refine wp_region_held_drew (S := fun w' => Frm [] w1 w') (by kernel_rfl) (Frm.drew (Frm.refl _ _)) (fun hHeld => ?_)
    refine wpAnyH_take (i := 0) (oi := ⟨some 5, _, _, _, _, _⟩) (v := ?_) rfl (by kernel_rfl) (by kernel_rfl) (by kernel_rfl) (fun _ _ _ h => h) (Or.inl ⟨by rfl, ?_⟩) (by assumption) ?_
    rotate_left 1
    · (intro w hSw; (try dsimp only at hSw); go_simp; all_goals with_reducible rfl)
    try simp only [Act.put, List.setIfInBounds_toArray, List.set_cons_zero, List.set_cons_succ]
    refine wpAnyH_take (i := 1) (oi := ⟨some 6, _, _, _, _, _⟩) (v := ?_) rfl (by kernel_rfl) (by kernel_rfl) (by kernel_rfl) (fun _ _ _ h => h) (Or.inl ⟨by rfl, ?_⟩) (by assumption) ?_
    rotate_left 1
    · (intro w hSw; (try dsimp only at hSw); go_simp; all_goals with_reducible rfl)
    try simp only [Act.put, List.setIfInBounds_toArray, List.set_cons_zero, List.set_cons_succ]
    refine wpAnyH_take (i := 2) (oi := ⟨some 7, _, _, _, _, _⟩) (v := ?_) rfl (by kernel_rfl) (by kernel_rfl) (by kernel_rfl) (fun _ _ _ h => h) (Or.inl ⟨by rfl, ?_⟩) (by assumption) ?_
    rotate_left 1
    · (intro w hSw; (try dsimp only at hSw); go_simp; all_goals with_reducible rfl)
    try simp only [Act.put, List.setIfInBounds_toArray, List.set_cons_zero, List.set_cons_succ]
    refine wpAnyH_ready (rs := [3]) (by kernel_rfl) (by simp) ?_
    refine AllReadyH.cons (o := ⟨some 8, _, _, _, _, _⟩) rfl (fun K hK => ?_) AllReadyH.nil
    go_simp
    go_at_call 26; (with_reducible refine (ORD.out _).mono ?_); rintro e v1 ⟨rfl, hv1⟩; have hHeld1 : Frm [] w1 v1 := hHeld.trans hv1 (by simp) (by simp)
    go_wp2_with fail
    refine hK.out _ _ (by assumption) (fun hHeld => ?_)
    clear hK K
    try simp only [Act.put, List.setIfInBounds_toArray, List.set_cons_zero, List.set_cons_succ]
    refine wpAnyH_take (i := 4) (oi := ⟨some 9, _, _, _, _, _⟩) (v := ?_) rfl (by kernel_rfl) (by kernel_rfl) (by kernel_rfl) (fun _ _ _ h => h) (Or.inl ⟨by rfl, ?_⟩) (by assumption) ?_
    rotate_left 1
    · (intro w hSw; (try dsimp only at hSw); go_simp; all_goals with_reducible rfl)
    try simp only [Act.put, List.setIfInBounds_toArray, List.set_cons_zero, List.set_cons_succ]
    refine wpAnyH_take (i := 5) (oi := ⟨some 10, _, _, _, _, _⟩) (v := ?_) rfl (by kernel_rfl) (by kernel_rfl) (by kernel_rfl) (fun _ _ _ h => h) (Or.inl ⟨by rfl, ?_⟩) (by assumption) ?_
    rotate_left 1
    · (intro w hSw; (try dsimp only at hSw); go_simp; all_goals with_reducible rfl)
    try simp only [Act.put, List.setIfInBounds_toArray, List.set_cons_zero, List.set_cons_succ]
    refine wpAnyH_take (i := 6) (oi := ⟨some 11, _, _, _, _, _⟩) (v := undef) rfl (by kernel_rfl) (by kernel_rfl) (by kernel_rfl) (fun _ _ _ h => h) (Or.inr ⟨by rfl, rfl⟩) (by assumption) ?_
    try simp only [Act.put, List.setIfInBounds_toArray, List.set_cons_zero, List.set_cons_succ]
    refine wpAnyH_take (i := 7) (oi := ⟨some 12, _, _, _, _, _⟩) (v := undef) rfl (by kernel_rfl) (by kernel_rfl) (by kernel_rfl) (fun _ _ _ h => h) (Or.inr ⟨by rfl, rfl⟩) (by assumption) ?_
    try simp only [Act.put, List.setIfInBounds_toArray, List.set_cons_zero, List.set_cons_succ]
    refine wpAnyH_take (i := 8) (oi := ⟨some 13, _, _, _, _, _⟩) (v := undef) rfl (by kernel_rfl) (by kernel_rfl) (by kernel_rfl) (fun _ _ _ h => h) (Or.inr ⟨by rfl, rfl⟩) (by assumption) ?_
    try simp only [Act.put, List.setIfInBounds_toArray, List.set_cons_zero, List.set_cons_succ]
    refine wpAnyH_take (i := 9) (oi := ⟨some 14, _, _, _, _, _⟩) (v := undef) rfl (by kernel_rfl) (by kernel_rfl) (by kernel_rfl) (fun _ _ _ h => h) (Or.inr ⟨by rfl, rfl⟩) (by assumption) ?_
    try simp only [Act.put, List.setIfInBounds_toArray, List.set_cons_zero, List.set_cons_succ]
    refine wpAnyH_take (i := 10) (oi := ⟨some 15, _, _, _, _, _⟩) (v := undef) rfl (by kernel_rfl) (by kernel_rfl) (by kernel_rfl) (fun _ _ _ h => h) (Or.inr ⟨by rfl, rfl⟩) (by assumption) ?_
    try simp only [Act.put, List.setIfInBounds_toArray, List.set_cons_zero, List.set_cons_succ]
    refine wpAnyH_take (i := 11) (oi := ⟨some 16, _, _, _, _, _⟩) (v := undef) rfl (by kernel_rfl) (by kernel_rfl) (by kernel_rfl) (fun _ _ _ h => h) (Or.inr ⟨by rfl, rfl⟩) (by assumption) ?_
    try simp only [Act.put, List.setIfInBounds_toArray, List.set_cons_zero, List.set_cons_succ]
    refine wpAnyH_take (i := 12) (oi := ⟨some 17, _, _, _, _, _⟩) (v := undef) rfl (by kernel_rfl) (by kernel_rfl) (by kernel_rfl) (fun _ _ _ h => h) (Or.inr ⟨by rfl, rfl⟩) (by assumption) ?_
    try simp only [Act.put, List.setIfInBounds_toArray, List.set_cons_zero, List.set_cons_succ]
    refine wpAnyH_take (i := 13) (oi := ⟨some 18, _, _, _, _, _⟩) (v := undef) rfl (by kernel_rfl) (by kernel_rfl) (by kernel_rfl) (fun _ _ _ h => h) (Or.inr ⟨by rfl, rfl⟩) (by assumption) ?_
    try simp only [Act.put, List.setIfInBounds_toArray, List.set_cons_zero, List.set_cons_succ]
    refine wpAnyH_take (i := 14) (oi := ⟨some 19, _, _, _, _, _⟩) (v := ?_) rfl (by kernel_rfl) (by kernel_rfl) (by kernel_rfl) (fun _ _ _ h => h) (Or.inl ⟨by rfl, ?_⟩) (by assumption) ?_
    rotate_left 1
    · (intro w hSw; (try dsimp only at hSw); go_simp; all_goals with_reducible rfl)
    try simp only [Act.put, List.setIfInBounds_toArray, List.set_cons_zero, List.set_cons_succ]
    refine wpAnyH_take (i := 15) (oi := ⟨some 4, _, _, _, _, _⟩) (v := ?_) rfl (by kernel_rfl) (by kernel_rfl) (by kernel_rfl) (fun _ _ _ h => h) (Or.inl ⟨by rfl, ?_⟩) (by assumption) ?_
    rotate_left 1
    · (intro w hSw; (try dsimp only at hSw); go_simp; all_goals with_reducible rfl)
    try simp only [Act.put, List.setIfInBounds_toArray, List.set_cons_zero, List.set_cons_succ]
    refine wpAnyH_done (by kernel_rfl) ?_ _
    have FX : Hid (Frm [] w _) := Lib.hid (F1.out.trans hHeld (by simp) (by simp))
    clear r0 r1 r2 r3 r4
    go_wp2
    go_ret
    exact boolOf_t YES.out FX.out
  · have d1 : decide (c < 0) = false := decide_eq_false h1
    have NL : Hid (¬ Ps.lt ⟨pl, pe⟩ ⟨ml, me⟩) := Lib.hid (fun h => h1 (II.out.2 h))
    clear h1
    go_enter Try.func18, Try.ntmps18
    go_wp2
    rw [← hw1, ← hg]
    clear hw1 hg
    refine wp_region_held_drew (S := fun w' => Frm [] w1 w') (by kernel_rfl) (Frm.drew (Frm.refl _ _)) (fun hHeld => ?_)
    refine wpAnyH_take (i := 0) (oi := ⟨some 5, _, _, _, _, _⟩) (v := ?_) rfl (by kernel_rfl) (by kernel_rfl) (by kernel_rfl) (fun _ _ _ h => h) (Or.inl ⟨by rfl, ?_⟩) (by assumption) ?_
    rotate_left 1
    · (intro w hSw; (try dsimp only at hSw); go_simp; all_goals with_reducible rfl)
    try simp only [Act.put, List.setIfInBounds_toArray, List.set_cons_zero, List.set_cons_succ]
    refine wpAnyH_take (i := 1) (oi := ⟨some 6, _, _, _, _, _⟩) (v := ?_) rfl (by kernel_rfl) (by kernel_rfl) (by kernel_rfl) (fun _ _ _ h => h) (Or.inl ⟨by rfl, ?_⟩) (by assumption) ?_
    rotate_left 1
    · (intro w hSw; (try dsimp only at hSw); go_simp; all_goals with_reducible rfl)
    try simp only [Act.put, List.setIfInBounds_toArray, List.set_cons_zero, List.set_cons_succ]
    refine wpAnyH_take (i := 2) (oi := ⟨some 7, _, _, _, _, _⟩) (v := ?_) rfl (by kernel_rfl) (by kernel_rfl) (by kernel_rfl) (fun _ _ _ h => h) (Or.inl ⟨by rfl, ?_⟩) (by assumption) ?_
    rotate_left 1
    · (intro w hSw; (try dsimp only at hSw); go_simp; all_goals with_reducible rfl)
    try simp only [Act.put, List.setIfInBounds_toArray, List.set_cons_zero, List.set_cons_succ]
    refine wpAnyH_ready (rs := [3]) (by kernel_rfl) (by simp) ?_
    refine AllReadyH.cons (o := ⟨some 8, _, _, _, _, _⟩) rfl (fun K hK => ?_) AllReadyH.nil
    go_simp
    go_at_call 26; (with_reducible refine (ORD.out _).mono ?_); rintro e v1 ⟨rfl, hv1⟩; have hHeld1 : Frm [] w1 v1 := hHeld.trans hv1 (by simp) (by simp)
    go_wp2_with fail
    refine hK.out _ _ (by assumption) (fun hHeld => ?_)
    clear hK K
    try simp only [Act.put, List.setIfInBounds_toArray, List.set_cons_zero, List.set_cons_succ]
    refine wpAnyH_take (i := 4) (oi := ⟨some 9, _, _, _, _, _⟩) (v := ?_) rfl (by kernel_rfl) (by kernel_rfl) (by kernel_rfl) (fun _ _ _ h => h) (Or.inl ⟨by rfl, ?_⟩) (by assumption) ?_
    rotate_left 1
    · (intro w hSw; (try dsimp only at hSw); go_simp; all_goals with_reducible rfl)
    try simp only [Act.put, List.setIfInBounds_toArray, List.set_cons_zero, List.set_cons_succ]
    refine wpAnyH_take (i := 5) (oi := ⟨some 10, _, _, _, _, _⟩) (v := ?_) rfl (by kernel_rfl) (by kernel_rfl) (by kernel_rfl) (fun _ _ _ h => h) (Or.inl ⟨by rfl, ?_⟩) (by assumption) ?_
    rotate_left 1
    · (intro w hSw; (try dsimp only at hSw); go_simp; all_goals with_reducible rfl)
    try simp only [Act.put, List.setIfInBounds_toArray, List.set_cons_zero, List.set_cons_succ]
    refine wpAnyH_take (i := 6) (oi := ⟨some 11, _, _, _, _, _⟩) (v := ?_) rfl (by kernel_rfl) (by kernel_rfl) (by kernel_rfl) (fun _ _ _ h => h) (Or.inl ⟨by rfl, ?_⟩) (by assumption) ?_
    rotate_left 1
    · (intro w hSw; (try dsimp only at hSw); go_simp; all_goals with_reducible rfl)
    try simp only [Act.put, List.setIfInBounds_toArray, List.set_cons_zero, List.set_cons_succ]
    refine wpAnyH_take (i := 7) (oi := ⟨some 12, _, _, _, _, _⟩) (v := ?_) rfl (by kernel_rfl) (by kernel_rfl) (by kernel_rfl) (fun _ _ _ h => h) (Or.inl ⟨by rfl, ?_⟩) (by assumption) ?_
    rotate_left 1
    · (intro w hSw; (try dsimp only at hSw); go_simp; all_goals with_reducible rfl)
    try simp only [Act.put, List.setIfInBounds_toArray, List.set_cons_zero, List.set_cons_succ]
    refine wpAnyH_take (i := 8) (oi := ⟨some 13, _, _, _, _, _⟩) (v := ?_) rfl (by kernel_rfl) (by kernel_rfl) (by kernel_rfl) (fun _ _ _ h => h) (Or.inl ⟨by rfl, ?_⟩) (by assumption) ?_
    rotate_left 1
    · (intro w hSw; (try dsimp only at hSw); go_simp; all_goals with_reducible rfl)
    try simp only [Act.put, List.setIfInBounds_toArray, List.set_cons_zero, List.set_cons_succ]
    refine wpAnyH_take (i := 9) (oi := ⟨some 14, _, _, _, _, _⟩) (v := ?_) rfl (by kernel_rfl) (by kernel_rfl) (by kernel_rfl) (fun _ _ _ h => h) (Or.inl ⟨by rfl, ?_⟩) (by assumption) ?_
    rotate_left 1
    · (intro w hSw; (try dsimp only at hSw); go_simp; all_goals with_reducible rfl)
    try simp only [Act.put, List.setIfInBounds_toArray, List.set_cons_zero, List.set_cons_succ]
    refine wpAnyH_take (i := 11) (oi := ⟨some 16, _, _, _, _, _⟩) (v := ?_) rfl (by kernel_rfl) (by kernel_rfl) (by kernel_rfl) (fun _ _ _ h => h) (Or.inl ⟨by rfl, ?_⟩) (by assumption) ?_
    rotate_left 1
    · (intro w hSw; (try dsimp only at hSw); go_simp; all_goals with_reducible rfl)
    try simp only [Act.put, List.setIfInBounds_toArray, List.set_cons_zero, List.set_cons_succ]
    refine wpAnyH_take (i := 12) (oi := ⟨some 17, _, _, _, _, _⟩) (v := ?_) rfl (by kernel_rfl) (by kernel_rfl) (by kernel_rfl) (fun _ _ _ h => h) (Or.inl ⟨by rfl, ?_⟩) (by assumption) ?_
    rotate_left 1
    · (intro w hSw; (try dsimp only at hSw); go_simp; all_goals with_reducible rfl)
    try simp only [Act.put, List.setIfInBounds_toArray, List.set_cons_zero, List.set_cons_succ]
    refine wpAnyH_ready (rs := [10]) (by kernel_rfl) (by simp) ?_
    refine AllReadyH.cons (o := ⟨some 15, _, _, _, _, _⟩) rfl (fun K hK => ?_) AllReadyH.nil
    go_simp
    go_at_call 46; (with_reducible refine (OF.out _ (F1.out.trans hHeld (by simp) (by simp))).mono ?_); rintro e v2 ⟨ar, cr, rfl, hrr, _, _, _, _, hv2⟩; have RR := Lib.hid hrr; clear hrr; have hHeld2 : Frm [] w1 v2 := hHeld.trans hv2 (by simp) (by simp)
    go_wp2_with fail
    refine hK.out _ _ (by assumption) (fun hHeld => ?_)
    clear hK K
    try simp only [Act.put, List.setIfInBounds_toArray, List.set_cons_zero, List.set_cons_succ]
    refine wpAnyH_ready (rs := [13]) (by kernel_rfl) (by simp) ?_
    refine AllReadyH.cons (o := ⟨some 18, _, _, _, _, _⟩) rfl (fun K hK => ?_) AllReadyH.nil
    go_simp
    go_at_call 45; (with_reducible refine (IN.out _ _ _ RR.out).mono ?_); rintro e v3 ⟨bb, rfl, hbb, hv3⟩; have HBB := Lib.hid hbb; clear hbb; have hHeld3 : Frm [] w1 v3 := hHeld.trans hv3 (by simp) (by simp)
    go_wp2_with fail
    refine hK.out _ _ (by assumption) (fun hHeld => ?_)
    clear hK K
    try simp only [Act.put, List.setIfInBounds_toArray, List.set_cons_zero, List.set_cons_succ]
    refine wpAnyH_take (i := 14) (oi := ⟨some 19, _, _, _, _, _⟩) (v := ?_) rfl (by kernel_rfl) (by kernel_rfl) (by kernel_rfl) (fun _ _ _ h => h) (Or.inl ⟨by rfl, ?_⟩) (by assumption) ?_
    rotate_left 1
    · (intro w hSw; (try dsimp only at hSw); go_simp; all_goals with_reducible rfl)
    try simp only [Act.put, List.setIfInBounds_toArray, List.set_cons_zero, List.set_cons_succ]
    refine wpAnyH_take (i := 15) (oi := ⟨some 4, _, _, _, _, _⟩) (v := ?_) rfl (by kernel_rfl) (by kernel_rfl) (by kernel_rfl) (fun _ _ _ h => h) (Or.inl ⟨by rfl, ?_⟩) (by assumption) ?_
    rotate_left 1
    · (intro w hSw; (try dsimp only at hSw); go_simp; all_goals with_reducible rfl)
    try simp only [Act.put, List.setIfInBounds_toArray, List.set_cons_zero, List.set_cons_succ]
    refine wpAnyH_done (by kernel_rfl) ?_ _
    have FX : Hid (Frm [] w _) := Lib.hid (F1.out.trans hHeld (by simp) (by simp))
    clear r0 r1 r2 r3 r4
    go_wp2
    go_ret
    exact ⟨bb, rfl, HBB.out.trans ⟨fun h => .inr h, fun h => h.elim (fun h2 => absurd h2 NL.out) id⟩, FX.out⟩
end Go.Proofs.Ytghadpihmhaepaa
/- Package ledgers: contracts of Next, Has. -/
namespace Go.Proofs.Ytghadpihmhaepaa
open Go.RowKit
set_option maxRecDepth 100000

/-- What Next answers, as a value. -/
def nextR (X : List Ld) (o : Nat) (p : Ps) : Value := .tuple #[(nextV X o p).1.val, .bool (nextV X o p).2]
theorem endP_last {X : List Ld} (o : Nat) (h : X ≠ []) : endP X o = ⟨(lastL X).id, (lastL X).size o⟩ := by
  unfold endP lastL
  have e : X.getLast? = some (X.getLast h) := List.getLast?_eq_some_getLast h
  have e2 : X.getD (X.length - 1) default = X.getLast h := by
    have : X.length - 1 < X.length := by have := List.length_pos_iff.2 h; omega
    rw [List.getLast_eq_getElem]
    simp [this]
  rw [e, e2]
theorem nextR_some {X : List Ld} {o : Nat} {p q : Ps} (h : nextP X o p = some q) : nextR X o p = .tuple #[q.val, .bool true] := by unfold nextR nextV; rw [h]
theorem nextR_none {X : List Ld} {o : Nat} {p : Ps} (h : nextP X o p = none) : nextR X o p = .tuple #[(endP X o).val, .bool false] := by unfold nextR nextV; rw [h]
set_option maxHeartbeats 4000000 in
theorem ldnext_any (a : Option Addr) (n cap : Nat) (X : List Ld) (o : Nat) (p : Ps) (w : World) (h : LdL w [] a X) (hn : n = X.length) (hsz : n < 4611686018427387904) :
    Calls Try.prog 56 #[.slice a n cap, .int .u64 (o : Nat), p.val] w (LRet w (nextR X o p)) := by
  have HLS := Lib.hid (fun z (hz : Frm [] w z) => ldlast_any a n cap X z (h.sub hz) hn hsz)
  have HAH := Lib.hid (fun (x : Ld) z => ldahead_any x o p z)
  have HSZ := Lib.hid (fun (x : Ld) z => ldsize_any x o z)
  obtain ⟨w1, hw1⟩ : ∃ w1, w1 = (w.alloc (.cells #[.int .u64 (p.l : Nat), .int .u64 (p.e : Nat)] 25)).alloc (.cells #[.int .u64 0, .int .u64 0] 25) := ⟨_, rfl⟩
  have F1 : Hid (Frm [] w w1) := Lib.hid (by rw [hw1]; exact ((Frm.refl _ _).alloc _).alloc _)
  obtain ⟨g, hg⟩ : ∃ g, g = w.heap.size := ⟨_, rfl⟩
  have B1 : Hid (Whole w1 g 25 #[.int .u64 (p.l : Nat), .int .u64 (p.e : Nat)]) := Lib.hid (by rw [hw1, hg]; exact (Whole.made _ _ _).alloc _)
  have B2 : Hid (Whole w1 (g + 1) 25 #[.int .u64 0, .int .u64 0]) := Lib.hid (by
    rw [hw1, hg]
    have := Whole.made (w.alloc (.cells #[.int .u64 (p.l : Nat), .int .u64 (p.e : Nat)] 25)) 25 #[.int .u64 0, .int .u64 0]
    rwa [World.size_alloc] at this)
  have GS : Hid (w.heap.size ≤ g) := Lib.hid (by omega)
  have H := Lib.hid h; clear h
  have HN := Lib.hid hn; clear hn
  obtain ⟨R, hR⟩ : ∃ R, R = LRet w (nextR X o p) := ⟨_, rfl⟩
  rw [← hR]
  have HR := Lib.hid hR; clear hR
  -- what a store to the result leaves
  have FIN : Hid (∀ (z : World) (q : Ps), Frm [] w1 z → Whole ((z.setCell ⟨g + 1, 0, none⟩ (.int .u64 (q.l : Nat))).setCell ⟨g + 1, 1, none⟩ (.int .u64 (q.e : Nat))) (g + 1) 25 #[.int .u64 (q.l : Nat), .int .u64 (q.e : Nat)] ∧ Frm [] w ((z.setCell ⟨g + 1, 0, none⟩ (.int .u64 (q.l : Nat))).setCell ⟨g + 1, 1, none⟩ (.int .u64 (q.e : Nat)))) := Lib.hid (fun z q hz => by
    have hw := hz.whole B2.out (by simp)
    refine ⟨?_, ?_⟩
    · have := (hw.put 0 (.int .u64 (q.l : Nat))).put 1 (.int .u64 (q.e : Nat))
      simpa using this
    · have h1 := F1.out.trans hz (U := []) (by simp) (by simp)
      exact (h1.setCell (.inr (by have := GS.out; simp; omega)) _).setCell (.inr (by have := GS.out; simp; omega)) _)
  have V0 : Hid (∀ (z : World) (q : Ps) (b : Bool) (tm : Array Value), tm.getD 6 undef = .pointer (some ⟨g + 1, 0, none⟩) → tm.getD 7 undef = .bool b → Whole z (g + 1) 25 #[.int .u64 (q.l : Nat), .int .u64 (q.e : Nat)] → (results Try.f56 tm).run Try.prog z = .ok (.tuple #[q.val, .bool b]) z) := Lib.hid (fun z q b tm h6 h7 hw => by
    have c0 := hw.cell 0
    have c1 := hw.cell 1
    simp at c0 c1
    have h6' : tm[6]?.getD undef = .pointer (some ⟨g + 1, 0, none⟩) := by simpa using h6
    have h7' : tm[7]?.getD undef = .bool b := by simpa using h7
    unfold Ps.val
    simp [results, Try.results56, go_sem, c0, c1, h6', h7'])
  obtain ⟨pl, pe⟩ := p
  unfold Ps.val at HAH
  unfold Ps.val
  simp only at hw1 B1 HAH ⊢
  have HW1 := Lib.hid hw1; clear hw1
  go_enter Try.func56, Try.ntmps56
  go_wp2
  rw [← HW1.out, ← hg]
  have HG := Lib.hid hg; clear hg
  go_loopw [13] (fun s13 wr => ∃ k : Nat, k ≤ n ∧ s13 = .int .i64 k ∧ Hid (∀ i, i < k → ¬ (X.getD i default).ahead o ⟨pl, pe⟩ < (X.getD i default).size o) ∧ Hid (Frm [] w1 wr)) (fun s13 _ => n - (intOf s13).toNat)
  case atStart => exact ⟨0, Nat.zero_le _, rfl, Lib.hid (fun i hi => by omega), Lib.hid (Frm.refl _ _)⟩
  case round =>
    obtain ⟨k, hk, rfl, HI, HF⟩ := hrel
    by_cases hlt : k < n
    · have hlt' : (k : Int) < (n : Int) := by omega
      have hll := H.out.sub (F1.out.trans HF.out (U := []) (by simp) (by simp))
      obtain ⟨b, off, rfl, d0, d1, d2, _⟩ := hll.at (i := k) (by have := HN.out; omega)
      obtain ⟨x, hx⟩ : ∃ x, x = X.getD k default := ⟨_, rfl⟩
      rw [← hx] at d0 d1 d2
      have AH := Lib.hid (HAH.out x)
      have SZ := Lib.hid (HSZ.out x)
      have NXT : Hid (x.ahead o ⟨pl, pe⟩ < x.size o → nextP X o ⟨pl, pe⟩ = some ⟨x.id, x.ahead o ⟨pl, pe⟩⟩) := Lib.hid (fun hc => by
        rw [hx] at hc ⊢
        exact nextP_at (by have := HN.out; omega) HI.out hc)
      have STEP : Hid (¬ x.ahead o ⟨pl, pe⟩ < x.size o → ∀ i, i < k + 1 → ¬ (X.getD i default).ahead o ⟨pl, pe⟩ < (X.getD i default).size o) := Lib.hid (fun hc i hi => by
        rcases Nat.lt_or_eq_of_le (Nat.le_of_lt_succ hi) with h1 | rfl
        · exact HI.out i h1
        · rw [← hx]; exact hc)
      clear hx hll
      generalize x.ahead o ⟨pl, pe⟩ = ah at AH NXT STEP
      generalize x.size o = sz at SZ NXT STEP
      obtain ⟨xi, xc, xn⟩ := x
      unfold Ld.val at AH SZ
      unfold LRet at AH SZ
      simp only at d0 d1 d2 AH SZ NXT
      obtain ⟨W, hW⟩ : ∃ W, W = wr.alloc (.cells #[.int .u64 (xi : Nat), .bool xc, .int .u64 (xn : Nat)] 69) := ⟨_, rfl⟩
      have FW : Hid (Frm [] w1 W) := Lib.hid (by rw [hW]; exact HF.out.alloc _)
      obtain ⟨q, hq⟩ : ∃ q, q = wr.heap.size := ⟨_, rfl⟩
      have BW : Hid (Whole W q 69 #[.int .u64 (xi : Nat), .bool xc, .int .u64 (xn : Nat)]) := Lib.hid (by rw [hW, hq]; exact Whole.made _ _ _)
      have p0 := (FW.out.whole B1.out (by simp)).cell 0
      have p1 := (FW.out.whole B1.out (by simp)).cell 1
      have y0 := BW.out.cell 0
      have y1 := BW.out.cell 1
      have y2 := BW.out.cell 2
      simp at p0 p1 y0 y1 y2
      have HWW := Lib.hid hW; clear hW
      have HQ := Lib.hid hq; clear hq
      go_upto_region 4 with (fail)
      rw [← HWW.out, ← HQ.out]
      go_wp2_with fail
      (with_reducible refine (AH.out _).mono ?_)
      rintro e w2 ⟨rfl, hf2⟩
      have F2 : Hid (Frm [] w1 w2) := Lib.hid (FW.out.trans hf2 (by simp) (by simp))
      have BW2 := Lib.hid (hf2.whole BW.out (by simp))
      have z0 := BW2.out.cell 0
      have z1 := BW2.out.cell 1
      have z2 := BW2.out.cell 2
      simp at z0 z1 z2
      clear p0 p1 y0 y1 y2 d0 d1 d2 hf2
      go_wp2_with fail
      (with_reducible refine (SZ.out _).mono ?_)
      rintro e w3 ⟨rfl, hf3⟩
      have F3 : Hid (Frm [] w1 w3) := Lib.hid (F2.out.trans hf3 (by simp) (by simp))
      have BW3 := Lib.hid (hf3.whole BW2.out (by simp))
      clear hf3 z0 z1 z2
      by_cases hc : ah < sz
      · have e1 : (ah : Int) < (sz : Int) := by omega
        have e2 : decide (ah < sz) = true := decide_eq_true hc
        have NX := Lib.hid (NXT.out hc)
        have z0 := BW3.out.cell 0
        have r0 := (F3.out.whole B2.out (by simp)).cell 0
        have r1 := (F3.out.whole B2.out (by simp)).cell 1
        have k0 := (F3.out.whole B2.out (by simp)).free 0
        have k1 := (F3.out.whole B2.out (by simp)).free 1
        simp at z0 r0 r1
        obtain ⟨FW1, FW2⟩ := FIN.out w3 ⟨xi, ah⟩ F3.out
        have FW1 := Lib.hid FW1
        have FW2 := Lib.hid FW2
        clear hc
        go_wp2
        refine bodyPost_ret (V0.out _ ⟨xi, ah⟩ true _ rfl rfl FW1.out) rfl ?_
        rw [HR.out, nextR_some NX.out]
        exact ⟨rfl, FW2.out⟩
      · have e1 : ¬ (ah : Int) < (sz : Int) := by omega
        have e2 : decide (ah < sz) = false := decide_eq_false hc
        have ST := Lib.hid (STEP.out hc)
        clear hc
        go_wp2
        go_roundw
        case rel => exact ⟨k + 1, by omega, by go_num, ST, F3⟩
        case measure => simp [intOf]; omega
    · obtain rfl : k = n := by omega
      have NO : Hid (nextP X o ⟨pl, pe⟩ = none) := Lib.hid (nextP_none (by rw [← HN.out]; exact HI.out))
      have FWR : Hid (Frm [] w wr) := Lib.hid (F1.out.trans HF.out (by simp) (by simp))
      rcases Nat.eq_zero_or_pos k with h0 | h0
      · subst h0
        have hX : X = [] := List.eq_nil_of_length_eq_zero (by have := HN.out; omega)
        subst hX
        have r0 := (HF.out.whole B2.out (by simp)).cell 0
        have r1 := (HF.out.whole B2.out (by simp)).cell 1
        have k0 := (HF.out.whole B2.out (by simp)).free 0
        have k1 := (HF.out.whole B2.out (by simp)).free 1
        simp at r0 r1
        obtain ⟨FW1, FW2⟩ := FIN.out wr ⟨0, 0⟩ HF.out
        have FW1 := Lib.hid FW1
        have FW2 := Lib.hid FW2
        go_wp2
        refine bodyPost_ret (V0.out _ ⟨0, 0⟩ false _ rfl rfl FW1.out) rfl ?_
        rw [HR.out, nextR_none NO.out]
        exact ⟨rfl, FW2.out⟩
      · have d1 : ((k : Int) == 0) = false := by rw [beq_eq_false_iff_ne]; omega
        have hX : X ≠ [] := by rintro rfl; have := HN.out; simp at this; omega
        have EN := Lib.hid (endP_last o hX)
        clear hX h0
        have SL := Lib.hid (HSZ.out (lastL X))
        generalize lastL X = x at HLS EN SL
        obtain ⟨xi, xc, xn⟩ := x
        unfold Ld.val at SL
        unfold LRet at SL HLS
        simp only at EN SL
        generalize Ld.size ⟨xi, xc, xn⟩ o = sz at EN SL
        unfold Ld.val at HLS
        simp only at HLS
        have LL := Lib.hid (fun z (hz : Frm [] w z) => HLS.out z hz)
        have fl0 := fun a b c w => ldfld0 a b c w
        go_wp2_with fail
        (with_reducible refine (LL.out _ FWR.out).mono ?_)
        rintro e w2 ⟨rfl, hf2⟩
        have F2 : Hid (Frm [] w1 w2) := Lib.hid (HF.out.trans hf2 (by simp) (by simp))
        have G2 : Hid (Frm [] w w2) := Lib.hid (FWR.out.trans hf2 (by simp) (by simp))
        clear hf2
        go_wp2_with fail
        (with_reducible refine (LL.out _ G2.out).mono ?_)
        rintro e w3 ⟨rfl, hf3⟩
        have F3 : Hid (Frm [] w1 w3) := Lib.hid (F2.out.trans hf3 (by simp) (by simp))
        clear hf3
        go_wp2_with fail
        (with_reducible refine (SL.out _).mono ?_)
        rintro e w4 ⟨rfl, hf4⟩
        have F4 : Hid (Frm [] w1 w4) := Lib.hid (F3.out.trans hf4 (by simp) (by simp))
        clear hf4
        have r0 := (F4.out.whole B2.out (by simp)).cell 0
        have r1 := (F4.out.whole B2.out (by simp)).cell 1
        have k0 := (F4.out.whole B2.out (by simp)).free 0
        have k1 := (F4.out.whole B2.out (by simp)).free 1
        simp at r0 r1
        obtain ⟨FW1, FW2⟩ := FIN.out w4 ⟨xi, sz⟩ F4.out
        have FW1 := Lib.hid FW1
        have FW2 := Lib.hid FW2
        go_wp2
        refine bodyPost_ret (V0.out _ ⟨xi, sz⟩ false _ rfl rfl FW1.out) rfl ?_
        rw [HR.out, nextR_none NO.out, EN.out]
        exact ⟨rfl, FW2.out⟩
end Go.Proofs.Ytghadpihmhaepaa
/- Package ledgers: contracts of Has, Between. -/
namespace Go.Proofs.Ytghadpihmhaepaa
open Go.RowKit
set_option maxRecDepth 100000

/-- Is there an entry at a place? -/
def hasP (X : List Ld) (o : Nat) (p : Ps) : Bool := decide (nextP X o p = some p)
theorem nextV_has (X : List Ld) (o : Nat) (p : Ps) : ((nextV X o p).2 && decide ((nextV X o p).1 = p)) = hasP X o p := by
  unfold nextV hasP
  cases nextP X o p <;> simp
set_option maxHeartbeats 1000000 in
theorem ldhas_any (a : Option Addr) (n cap : Nat) (X : List Ld) (o : Nat) (p : Ps) (w : World) (h : LdL w [] a X) (hn : n = X.length) (hsz : n < 4611686018427387904) :
    Calls Try.prog 28 #[.slice a n cap, .int .u64 (o : Nat), p.val] w (LRet w (.bool (hasP X o p))) := by
  have HNX := Lib.hid (fun z (hz : Frm [] w z) => ldnext_any a n cap X o p z (h.sub hz) hn hsz)
  rw [← nextV_has]
  unfold nextR at HNX
  generalize nextV X o p = v at HNX ⊢
  obtain ⟨d, hd⟩ : ∃ d, d = decide (v.1 = p) := ⟨_, rfl⟩
  rw [← hd]
  have HD := Lib.hid hd; clear hd
  obtain ⟨⟨ql, qe⟩, b⟩ := v
  obtain ⟨pl, pe⟩ := p
  clear h hn
  unfold LRet at HNX
  unfold Ps.val at HNX
  unfold Ps.val LRet
  simp only at HNX ⊢
  obtain ⟨g, hg⟩ : ∃ g, g = w.heap.size := ⟨_, rfl⟩
  obtain ⟨w1, hw1⟩ : ∃ w1, w1 = w.alloc (.cells #[.int .u64 (pl : Nat), .int .u64 (pe : Nat)] 25) := ⟨_, rfl⟩
  have F1 : Hid (Frm [] w w1) := Lib.hid (by rw [hw1]; exact (Frm.refl _ _).alloc _)
  have B1 : Hid (Whole w1 g 25 #[.int .u64 (pl : Nat), .int .u64 (pe : Nat)]) := Lib.hid (by rw [hw1, hg]; exact Whole.made _ _ _)
  have p0 := B1.out.cell 0
  have p1 := B1.out.cell 1
  simp at p0 p1
  have HG := Lib.hid hg
  have HW1 := Lib.hid hw1
  go_enter Try.func28, Try.ntmps28
  go_upto_region 1 with (fail)
  rw [← hw1, ← hg]
  clear hg hw1
  go_wp2_with fail
  (with_reducible refine (HNX.out _ F1.out).mono ?_)
  rintro e w2 ⟨rfl, hf2⟩
  have G2 : Hid (Frm [] w w2) := Lib.hid (F1.out.trans hf2 (by simp) (by simp))
  have bb := hf2.whole B1.out (by simp)
  have BB : Hid (Whole (w2.alloc (.cells #[.int .u64 (ql : Nat), .int .u64 (qe : Nat)] 25)) g 25 #[.int .u64 (pl : Nat), .int .u64 (pe : Nat)]) := Lib.hid (bb.alloc _)
  have FF : Hid (Frm [] w (w2.alloc (.cells #[.int .u64 (ql : Nat), .int .u64 (qe : Nat)] 25))) := Lib.hid (G2.out.alloc _)
  have q0 := BB.out.cell 0
  have q1 := BB.out.cell 1
  simp only [List.getElem?_toArray, List.getElem?_cons_zero, List.getElem?_cons_succ] at q0 q1
  have ee : ∀ w : World, (binOp .eql 25 (.agg #[.int .u64 (ql : Nat), .int .u64 (qe : Nat)]) (.agg #[.int .u64 (pl : Nat), .int .u64 (pe : Nat)])).run Try.prog w = .ok (.bool d) w := fun w => by rw [HD.out]; exact eql_ps ql qe pl pe w
  clear p0 p1 bb hf2 HNX
  cases b
  all_goals
    go_wp2
    go_ret
    exact ⟨by simp, FF.out⟩
end Go.Proofs.Ytghadpihmhaepaa
/- Contracts of the document's Next, Has, Between. -/
namespace Go.Proofs.Ytghadpihmhaepaa
open Go.RowKit
set_option maxRecDepth 100000

end Go.Proofs.Ytghadpihmhaepaa
/- Contracts of the document's NextFree, Backlog. -/
namespace Go.Proofs.Ytghadpihmhaepaa
open Go.RowKit
set_option maxRecDepth 100000

instance (c : Crs) (p : Ps) : Decidable (ackedC c p) := inferInstanceAs (Decidable (p.lt c.mark ∨ Mem (ofH c.held p.l) p.e))
/-- How many aren't acked. -/
def backC (X : List Ld) (o : Nat) (c : Crs) : Nat := (allP X o).countP (fun r => decide (¬ ackedC c r))
/-- The first one from a place on that isn't acked. -/
def nextC (X : List Ld) (o : Nat) (c : Crs) (p : Ps) : Option Ps := (allP X o).find? (fun q => decide (¬ q.lt p ∧ ¬ ackedC c q))
def nextCV : Option Ps → Value
  | some q => .tuple #[q.val, .bool true]
  | none => .tuple #[(⟨0, 0⟩ : Ps).val, .bool false]
end Go.Proofs.Ytghadpihmhaepaa
/- Contract of Add. -/
namespace Go.Proofs.Ytghadpihmhaepaa
open Go.RowKit

/-- The address of a piece from place lo on. -/
def cutR (a : Option Addr) (cap lo : Nat) : Option Addr := if cap = lo then a else a.map (·.add (lo * 2))
theorem size_rg (w : World) : (Go.sizeOf 71).run Try.prog w = .ok 2 w := by kernel_rfl
theorem run_cutR_h (w : World) (a : Option Addr) (n cap hi : Nat) (h : Int) (hh : h = (hi : Nat)) (h2 : hi ≤ cap) :
    (Instr.slice 53 (.slice a n cap) none (some (.int .i64 h)) none).run Try.prog w = .ok (.slice (cutR a cap 0) hi cap) w := by
  subst hh
  have ht' : Try.prog.underlying 53 = some (.slice (Try.prog.elem 53)) := by simp [Program.elem, Try.underlying53]
  have he : Try.prog.elem 53 = 71 := by simp [Program.elem, Try.underlying53]
  rw [run_slice_h w _ _ _ _ ht' _ _ (by omega) (by omega), he, size_rg]
  simp [Result.andThen, sliced, cutR]
theorem run_cutR_l (w : World) (a : Option Addr) (n cap lo : Nat) (l : Int) (hl : l = (lo : Nat)) (h1 : lo ≤ n) :
    (Instr.slice 53 (.slice a n cap) (some (.int .i64 l)) none none).run Try.prog w = .ok (.slice (cutR a cap lo) (n - lo) (cap - lo)) w := by
  subst hl
  have ht' : Try.prog.underlying 53 = some (.slice (Try.prog.elem 53)) := by simp [Program.elem, Try.underlying53]
  have he : Try.prog.elem 53 = 71 := by simp [Program.elem, Try.underlying53]
  rw [run_slice_l w _ _ _ _ ht' _ _ (by omega) (by omega), he, size_rg]
  simp [Result.andThen, sliced, cutR]
theorem Rr.take {w : World} {a : Option Addr} {l : List Rg} (h : Rr w a l) (k : Nat) : Rr w a (l.take k) := by
  refine ⟨fun p hp => h.1 p (List.mem_of_mem_take hp), fun h0 => ?_⟩
  have hl : (l.take k).length ≤ l.length := List.length_take_le' k l
  obtain ⟨b, off, ha, hc⟩ := h.2 (by omega)
  refine ⟨b, off, ha, fun i hi => ?_⟩
  rw [List.length_take] at hi
  rw [getD_take (by omega)]
  exact hc i (by omega)
theorem Rr.cut {w : World} {a : Option Addr} {l : List Rg} {cap : Nat} (h : Rr w a l) (hc : l.length ≤ cap) (lo : Nat) : Rr w (cutR a cap lo) (l.drop lo) := by
  refine ⟨fun p hp => h.1 p (List.mem_of_mem_drop hp), fun h0 => ?_⟩
  rw [List.length_drop] at h0
  obtain ⟨b, off, rfl, hcl⟩ := h.2 (by omega)
  refine ⟨b, off + lo * 2, ?_, fun i hi => ?_⟩
  · unfold cutR
    rw [if_neg (by omega)]
    simp [addr_add]
  · rw [List.length_drop] at hi
    rw [getD_drop]
    have := hcl (lo + i) (by omega)
    have e : off + (lo + i) * 2 = off + lo * 2 + i * 2 := by omega
    rw [e] at this
    exact this
theorem cutR_none {a : Option Addr} {cap lo : Nat} (h : a = none → cap = 0) (hc : cutR a cap lo = none) : cap - lo = 0 := by
  unfold cutR at hc
  by_cases hlo : cap = lo
  · omega
  · rw [if_neg hlo] at hc
    have := h (by simpa using hc)
    omega

/-- A call hands back right ranges of its own: those of the numbers S, so many at most. -/
def Got (w : World) (S : Nat → Prop) (m : Nat) (e : Ending) (w' : World) : Prop := ∃ out, RetR w out e w' ∧ Rt out ∧ Bd out ∧ (∀ x, Mem out x ↔ S x) ∧ out.length ≤ m

theorem retR_from {w w1 w' : World} {l : List Rg} {e : Ending} (hf : Frm [] w w1) (h : RetR w1 l e w') : RetR w l e w' := by
  obtain ⟨a, c, rfl, ho, hf2⟩ := h
  refine ⟨a, c, rfl, ?_, hf.trans hf2 (by simp) (by simp)⟩
  have hs := hf.size
  obtain ⟨o1, o2⟩ := ho
  refine ⟨o1, ?_⟩
  rcases o2 with o2 | ⟨g, cap, cur, hv, hb, r⟩
  · exact .inl o2
  · exact .inr ⟨g, cap, cur, hv, by omega, r⟩

end Go.Proofs.Ytghadpihmhaepaa
/- Contract of Add, of a range that has a number. -/
namespace Go.Proofs.Ytghadpihmhaepaa
open Go.RowKit

/-- A range that stands in a block of its own. -/
theorem Whole.made2 {w : World} (o : Obj) (t : TypeId) (cs : Array Value) {g : Nat} (hg : g = w.heap.size + 1) : Whole ((w.alloc o).alloc (.cells cs t)) g t cs := by
  subst hg
  have := Whole.made (w.alloc o) t cs
  simpa using this

theorem Frm.drew1 (w : World) : Frm [] w w.drew := (Frm.refl _ _).drew
/-- Concat of three slices that were just laid side by side. -/
theorem cat_lit {W : World} {sA sK sB : Sl} (hA : SlIn W sA) (hK : SlIn W sK) (hB : SlIn W sB) (hfit : sA.l.length + sK.l.length + sB.l.length ≤ 100000) :
    Calls Try.prog 98 #[.slice (some ⟨W.heap.size, 0, none⟩) 3 3] (W.alloc (.cells #[.slice sA.a sA.l.length sA.cap, .slice sK.a sK.l.length sK.cap, .slice sB.a sB.l.length sB.cap] 53)).drew (RetR W (sA.l ++ (sK.l ++ sB.l))) := by
  have hf : Frm [] W (W.alloc (.cells #[.slice sA.a sA.l.length sA.cap, .slice sK.a sK.l.length sK.cap, .slice sB.a sB.l.length sB.cap] 53)).drew := ((Frm.refl _ _).alloc _).drew
  have hw : Whole (W.alloc (.cells #[.slice sA.a sA.l.length sA.cap, .slice sK.a sK.l.length sK.cap, .slice sB.a sB.l.length sB.cap] 53)).drew W.heap.size 53 #[.slice sA.a sA.l.length sA.cap, .slice sK.a sK.l.length sK.cap, .slice sB.a sB.l.length sB.cap] := (Whole.made W _ _).drew
  have hin : SlsIn (W.alloc (.cells #[.slice sA.a sA.l.length sA.cap, .slice sK.a sK.l.length sK.cap, .slice sB.a sB.l.length sB.cap] 53)).drew W.heap.size [sA, sK, sB] := by
    intro k hk
    simp at hk
    have hc := hw.cell k
    rcases k with _ | _ | _ | k
    · exact ⟨hc, hA.keep hf⟩
    · exact ⟨hc, hK.keep hf⟩
    · exact ⟨hc, hB.keep hf⟩
    · omega
  have e : all [sA, sK, sB] = sA.l ++ (sK.l ++ sB.l) := by simp [all]
  refine (concatR_any (n := 3) hin rfl (by decide) (by rw [e]; simp; omega)).mono fun x w' h => ?_
  rw [e] at h
  exact retR_from hf h
theorem cat_one {W : World} {sA sB : Sl} {s : Rg} (hA : SlIn W sA) (hB : SlIn W sB) (hs : s.1 < 18446744073709551616 ∧ s.2 < 18446744073709551616) {nA nB : Nat} (hnA : nA = sA.l.length) (hnB : nB = sB.l.length) (hfit : sA.l.length + 1 + sB.l.length ≤ 100000) :
    Calls Try.prog 98 #[.slice (some ⟨W.heap.size + 1, 0, none⟩) 3 3] ((W.alloc (.cells #[.int .u64 (s.1 : Nat), .int .u64 (s.2 : Nat)] 71)).alloc (.cells #[.slice sA.a nA sA.cap, .slice (some ⟨W.heap.size, 0, none⟩) 1 1, .slice sB.a nB sB.cap] 53)).drew (RetR W (sA.l ++ ([s] ++ sB.l))) := by
  subst hnA hnB
  have hf : Frm [] W (W.alloc (.cells #[.int .u64 (s.1 : Nat), .int .u64 (s.2 : Nat)] 71)) := (Frm.refl _ _).alloc _
  have hw := Whole.made W 71 #[.int .u64 (s.1 : Nat), .int .u64 (s.2 : Nat)]
  have hr : Rr (W.alloc (.cells #[.int .u64 (s.1 : Nat), .int .u64 (s.2 : Nat)] 71)) (some ⟨W.heap.size, 0, none⟩) [s] := by
    refine ⟨by simp; exact hs, fun _ => ⟨W.heap.size, 0, rfl, fun i hi => ?_⟩⟩
    simp at hi
    subst hi
    exact ⟨hw.cell 0, hw.cell 1⟩
  have h := cat_lit (sK := ⟨some ⟨W.heap.size, 0, none⟩, 1, [s]⟩) (hA.keep hf) ⟨hr, fun h => by simp at h, by simp, by simp⟩ (hB.keep hf) (by simpa using hfit)
  have e : (W.alloc (.cells #[.int .u64 (s.1 : Nat), .int .u64 (s.2 : Nat)] 71)).heap.size = W.heap.size + 1 := by simp
  rw [e] at h
  exact h.mono fun x w' h => retR_from hf h

/-- The same as RetR, its length by a name. -/
def RetN (w : World) (l : List Rg) (e : Ending) (w' : World) : Prop := ∃ a' m cap', e = .returned (.slice a' m cap') ∧ Hid (m = l.length) ∧ Hid (OwnR w' w.heap.size a' cap' l) ∧ Frm [] w w'
theorem RetR.n {w w' : World} {l : List Rg} {e : Ending} (h : RetR w l e w') : RetN w l e w' := by
  obtain ⟨a, c, rfl, ho, hf⟩ := h
  exact ⟨a, _, c, rfl, rfl, ho, hf⟩
theorem RetR.of {w w' : World} {l : List Rg} {a : Option Addr} {m c : Nat} (hm : m = l.length) (ho : OwnR w' w.heap.size a c l) (hf : Frm [] w w') : RetR w l (.returned (.slice a m c)) w' := by subst hm; exact ⟨a, c, rfl, ho, hf⟩

set_option maxRecDepth 100000 in
set_option maxHeartbeats 4000000 in
theorem add_some {w : World} {a : Option Addr} {l : List Rg} (h : Rr w a l) (hr : Rt l) {n cap : Nat} (hn : n = l.length) (hnc : n ≤ cap) (hcm : cap ≤ 9223372036854775807) (hnil : a = none → cap = 0) (hsz : n ≤ 1000) {r1 r2 : Nat} (he : r1 < r2) (hb2 : r2 < 18446744073709551616) :
    Calls Try.prog 69 #[.slice a n cap, .agg #[.int .u64 r1, .int .u64 r2]] w (Got w (fun x => Mem l x ∨ (r1 ≤ x ∧ x < r2)) (n + 1)) := by
  have hmf : ∀ (fn : Fn) (first cap : Array Value) (w : World), (Instr.makeFunc fn first cap).run Try.prog w = .ok (.func fn first cap) w := fun _ _ _ _ => rfl
  obtain ⟨W0, hW0⟩ : ∃ W0, W0 = (w.alloc (.cells #[.slice a n cap] 53)).alloc (.cells #[.int .u64 r1, .int .u64 r2] 71) := ⟨_, rfl⟩
  obtain ⟨g2, hg2⟩ : ∃ g2, g2 = w.heap.size := ⟨_, rfl⟩
  obtain ⟨g3, hg3⟩ : ∃ g3, g3 = w.heap.size + 1 := ⟨_, rfl⟩
  have h2 : Whole W0 g2 53 #[.slice a n cap] := by rw [hW0, hg2]; exact (Whole.made w _ _).alloc _
  have h3 : Whole W0 g3 71 #[.int .u64 r1, .int .u64 r2] := by rw [hW0]; exact Whole.made2 _ _ _ hg3
  have hF : Frm [] w W0 := by rw [hW0]; exact ((Frm.refl _ _).alloc _).alloc _
  have hg23 : g2 < g3 := by omega
  have hgw : w.heap.size ≤ g2 := by omega
  have HF := Lib.hid hF; clear hF
  have H := Lib.hid h; clear h
  have HR := Lib.hid hr; clear hr
  have HN := Lib.hid hn; clear hn
  have HNIL := Lib.hid hnil; clear hnil
  have HW0 := Lib.hid hW0; clear hW0
  have HG2 := Lib.hid hg2; clear hg2
  have HG3 := Lib.hid hg3; clear hg3
  have H2 := Lib.hid h2
  have H3 := Lib.hid h3
  have c0 := h3.cell 0
  have c1 := h3.cell 1
  simp only [List.getElem?_toArray] at c0 c1
  clear h2 h3
  go_enter Try.func69, Try.ntmps69
  go_wp2_with fail
  rw [← HW0.out, ← HG3.out, ← HG2.out]
  refine (empty_any r1 r2 _).mono ?_
  rintro e w1 hbo
  obtain ⟨rfl, hf⟩ := hbo.no (by omega)
  have k2 := (hf.whole H2.out (by simp)).cell 0
  simp only [List.getElem?_toArray] at k2
  have HF1 := Lib.hid hf
  clear hf hbo c0 c1
  go_wp2_with fail
  have hrr1 := H.out.keep0 (HF.out.trans HF1.out (U := []) (by simp) (by simp))
  have HH2 := Lib.hid (HF1.out.whole H2.out (by simp))
  have HH3 := Lib.hid (HF1.out.whole H3.out (by simp))
  refine (search_any 96 #[.pointer (some ⟨g2, 0, none⟩), .pointer (some ⟨g3, 0, none⟩)] n (fun i => decide (r1 ≤ (l.getD i (0, 0)).2)) w1 enters_add1 (by omega)
    (fun wr i hf hi => add1_any (r := (r1, r2)) (hrr1.keep0 hf) (by have := HN.out; omega) HN.out ((hf.whole HH2.out (by simp)).cell 0) ((hf.whole HH3.out (by simp)).cell 0) ((hf.whole HH3.out (by simp)).cell 1))
    (fun i j hij hj hd => by
      have h1 := rt_le HR.out hij (by have := HN.out; omega)
      have h2 : r1 ≤ (l.getD i (0, 0)).2 := of_decide_eq_true hd
      exact decide_eq_true (show r1 ≤ (l.getD j (0, 0)).2 by omega))).mono ?_
  rintro e w2 ⟨fr, rfl, hfr, f1, f2, hf⟩
  have F1 := Lib.hid f1; clear f1
  have F2 := Lib.hid f2; clear f2
  have HF2 := Lib.hid (HF1.out.trans hf (U := []) (by simp) (by simp))
  clear hf k2 hrr1 HH2 HH3
  have k2 := (HF2.out.whole H2.out (by simp)).cell 0
  simp only [List.getElem?_toArray] at k2
  go_wp2_with fail
  have hrr2 := H.out.keep0 (HF.out.trans HF2.out (U := []) (by simp) (by simp))
  have HH2 := Lib.hid (HF2.out.whole H2.out (by simp))
  have HH3 := Lib.hid (HF2.out.whole H3.out (by simp))
  refine (search_any 97 #[.pointer (some ⟨g2, 0, none⟩), .pointer (some ⟨g3, 0, none⟩)] n (fun i => decide (r2 < (l.getD i (0, 0)).1)) w2 enters_add2 (by omega)
    (fun wr i hf hi => add2_any (r := (r1, r2)) (hrr2.keep0 hf) (by have := HN.out; omega) HN.out ((hf.whole HH2.out (by simp)).cell 0) ((hf.whole HH3.out (by simp)).cell 0) ((hf.whole HH3.out (by simp)).cell 1))
    (fun i j hij hj hd => by
      have h1 := rt_le HR.out hij (by have := HN.out; omega)
      have h2 : r2 < (l.getD i (0, 0)).1 := of_decide_eq_true hd
      exact decide_eq_true (show r2 < (l.getD j (0, 0)).1 by omega))).mono ?_
  rintro e w3 ⟨tt, rfl, hto, t1, t2, hf⟩
  have HF3 := Lib.hid (HF2.out.trans hf (U := []) (by simp) (by simp))
  clear hf k2 hrr2 HH2 HH3
  -- what the two places mean
  have hft : fr ≤ tt := by
    rcases Nat.lt_or_ge tt fr with hlt | hge
    · have e1 : ¬ r1 ≤ (l.getD tt (0, 0)).2 := of_decide_eq_false (F1.out tt hlt)
      have e2 : r2 < (l.getD tt (0, 0)).1 := of_decide_eq_true (t2 tt (Nat.le_refl _) (by omega))
      have e3 := rt_lt HR.out (i := tt) (by have := HN.out; omega)
      omega
    · exact hge
  obtain ⟨s, hs⟩ : ∃ s : Rg, s = if fr < tt then (min r1 (l.getD fr (0, 0)).1, max r2 (l.getD (tt - 1) (0, 0)).2) else (r1, r2) := ⟨_, rfl⟩
  have SPEC := Lib.hid (add_spec HR.out (r := (r1, r2)) he hft (by have := HN.out; omega)
    (fun i hi => by have e1 : ¬ r1 ≤ (l.getD i (0, 0)).2 := of_decide_eq_false (F1.out i hi); omega)
    (fun i hi hil => of_decide_eq_true (F2.out i hi (by have := HN.out; omega)))
    (fun i hi => by have e1 : ¬ r2 < (l.getD i (0, 0)).1 := of_decide_eq_false (t1 i hi); omega)
    (fun i hi hil => of_decide_eq_true (t2 i hi (by have := HN.out; omega))) hs)
  have bfr := getD_bd H.out.1 fr
  have bto := getD_bd H.out.1 (tt - 1)
  have hsb : s.1 < 18446744073709551616 ∧ s.2 < 18446744073709551616 := by
    rw [hs]; split <;> simp only <;> omega
  have BOUT : Hid (Bd (l.take fr ++ ([s] ++ l.drop tt))) := by
    intro p hp
    rcases List.mem_append.1 hp with hp | hp
    · exact H.out.1 p (List.mem_of_mem_take hp)
    · rcases List.mem_append.1 hp with hp | hp
      · simp only [List.mem_singleton] at hp; subst hp; exact hsb
      · exact H.out.1 p (List.mem_of_mem_drop hp)
  have LOUT : Hid ((l.take fr ++ ([s] ++ l.drop tt)).length ≤ n + 1) := by
    have := HN.out
    show (l.take fr ++ ([s] ++ l.drop tt)).length ≤ n + 1
    simp only [List.length_append, List.length_take, List.length_drop, List.length_cons, List.length_nil]; omega
  clear t1 t2 F1 F2
  have cA := fun w => run_cutR_h w a n cap fr (fr : Int) rfl (by omega)
  have cB := fun w => run_cutR_l w a n cap tt (tt : Int) rfl (by omega)
  obtain ⟨aA, haA⟩ : ∃ aA, aA = cutR a cap 0 := ⟨_, rfl⟩
  obtain ⟨aB, haB⟩ : ∃ aB, aB = cutR a cap tt := ⟨_, rfl⟩
  obtain ⟨nB, hnB⟩ : ∃ nB, nB = n - tt := ⟨_, rfl⟩
  obtain ⟨cB', hcB'⟩ : ∃ cB', cB' = cap - tt := ⟨_, rfl⟩
  rw [← haA] at cA
  rw [← haB, ← hnB, ← hcB'] at cB
  have SA : Hid (∀ w', Frm [] w w' → SlIn w' ⟨aA, cap, l.take fr⟩) := fun w' hf => by
    have hk := H.out.keep0 hf
    refine ⟨?_, fun h => ?_, ?_, hcm⟩
    · show Rr w' aA (l.take fr)
      rw [haA]
      have := (hk.cut (cap := cap) (by have := HN.out; omega) 0).take fr
      rwa [List.drop_zero] at this
    · have h' : cutR a cap 0 = none := by rw [← haA]; exact h
      have := cutR_none HNIL.out h'; show cap = 0; omega
    · show (l.take fr).length ≤ cap
      rw [List.length_take]; omega
  have SB : Hid (∀ w', Frm [] w w' → SlIn w' ⟨aB, cB', l.drop tt⟩) := fun w' hf => by
    have hk := H.out.keep0 hf
    refine ⟨?_, fun h => ?_, ?_, by show cB' ≤ _; omega⟩
    · show Rr w' aB (l.drop tt)
      rw [haB]
      exact hk.cut (cap := cap) (by have := HN.out; omega) tt
    · have h' : cutR a cap tt = none := by rw [← haB]; exact h
      have := cutR_none HNIL.out h'; show cB' = 0; omega
    · show (l.drop tt).length ≤ cB'
      rw [List.length_drop]; have := HN.out; omega
  have NA : Hid (fr = (l.take fr).length) := by show fr = _; rw [List.length_take]; have := HN.out; omega
  have NB : Hid (nB = (l.drop tt).length) := by show nB = _; rw [List.length_drop]; have := HN.out; omega
  have HS := Lib.hid hs
  clear haA haB hnB hcB' hs
  have k2 := (HF3.out.whole H2.out (by simp)).cell 0
  have k30 := (HF3.out.whole H3.out (by simp)).cell 0
  have k31 := (HF3.out.whole H3.out (by simp)).cell 1
  have f30 := (HF3.out.whole H3.out (by simp)).free 0
  have f31 := (HF3.out.whole H3.out (by simp)).free 1
  simp only [List.getElem?_toArray] at k2 k30 k31
  -- what stands in r behind the test
  have TAIL : ∀ (W : World), Frm [] w W → W.cell? ⟨g2, 0, none⟩ = some (.slice a n cap) → Whole W g3 71 #[.int .u64 s.1, .int .u64 s.2] → True := fun _ _ _ _ => trivial
  by_cases hlt : fr < tt
  · have hlt' : (fr : Int) < (tt : Int) := by omega
    have hs1 : s = (min r1 (l.getD fr (0, 0)).1, max r2 (l.getD (tt - 1) (0, 0)).2) := by rw [HS.out, if_pos hlt]
    obtain ⟨b, off, rfl, hc⟩ := (H.out.keep0 (HF.out.trans HF3.out (U := []) (by simp) (by simp))).2 (by have := HN.out; omega)
    obtain ⟨d0, _⟩ := hc fr (by have := HN.out; omega)
    obtain ⟨j, hj⟩ : ∃ j, j = tt - 1 := ⟨_, rfl⟩
    obtain ⟨_, d1⟩ := hc j (by have := HN.out; omega)
    rw [← hj] at hs1
    obtain ⟨x, hx⟩ : ∃ y, y = (l.getD fr (0, 0)).1 := ⟨_, rfl⟩
    obtain ⟨y, hy⟩ : ∃ y, y = (l.getD j (0, 0)).2 := ⟨_, rfl⟩
    rw [← hx] at d0 hs1
    rw [← hy] at d1 hs1
    have HS1 := Lib.hid hs1
    clear hc hx hy hs1 TAIL
    have hfn : (fr : Int) < (n : Int) := by omega
    have hjn : (j : Int) < (n : Int) := by omega
    obtain ⟨m1, hm1⟩ : ∃ m1, m1 = min r1 x := ⟨_, rfl⟩
    obtain ⟨m2, hm2⟩ : ∃ m2, m2 = max r2 y := ⟨_, rfl⟩
    have i1 : min (r1 : Int) (x : Int) = (m1 : Int) := by omega
    have i2 : max (r2 : Int) (y : Int) = (m2 : Int) := by omega
    have hwj : IntKind.i64.wrap ((tt : Int) - 1) = (j : Int) := by rw [IntWalk.i64_in _ (by omega)]; omega
    have HJ := Lib.hid hj; clear hj
    rw [← hm1, ← hm2] at HS1
    clear hm1 hm2
    go_wp2
    trace "A"
    go_still_tail 18, (by kernel_rfl)
    change wpList _ _ _ _ _ w3.drew
    trace "B"
    go_wp2
    have hf4 : Frm [] w ((w3.setCell ⟨g3, 0, none⟩ (.int .u64 (m1 : Int))).setCell ⟨g3, 1, none⟩ (.int .u64 (m2 : Int))).drew := (((HF.out.trans HF3.out (U := []) (by simp) (by simp)).setCell (.inr (by show _ ≤ g3; omega)) _).setCell (.inr (by show _ ≤ g3; omega)) _).drew
    have hw4 : Whole ((w3.setCell ⟨g3, 0, none⟩ (.int .u64 (m1 : Int))).setCell ⟨g3, 1, none⟩ (.int .u64 (m2 : Int))).drew g3 71 #[.int .u64 (m1 : Int), .int .u64 (m2 : Int)] := by
      have := ((HF3.out.whole H3.out (by simp)).put 0 (.int .u64 (m1 : Int))).put 1 (.int .u64 (m2 : Int))
      exact Whole.drew (by simpa using this)
    have hw2 : Whole ((w3.setCell ⟨g3, 0, none⟩ (.int .u64 (m1 : Int))).setCell ⟨g3, 1, none⟩ (.int .u64 (m2 : Int))).drew g2 53 #[.slice (some ⟨b, off, none⟩) n cap] := ((HF3.out.whole H2.out (by simp)).other (p := ⟨g3, 0, none⟩) (by show g2 ≠ g3; omega) _).other (p := ⟨g3, 1, none⟩) (by show g2 ≠ g3; omega) _
    obtain ⟨W4, hW4⟩ : ∃ W4, W4 = ((w3.setCell ⟨g3, 0, none⟩ (.int .u64 (m1 : Int))).setCell ⟨g3, 1, none⟩ (.int .u64 (m2 : Int))).drew := ⟨_, rfl⟩
    rw [← hW4] at hf4 hw4 hw2 ⊢
    clear hW4 k30 k31 f30 f31 k2 d0 d1 i1 i2 hwj
    have k2 := hw2.cell 0
    have k30 := hw4.cell 0
    have k31 := hw4.cell 1
    simp only [List.getElem?_toArray] at k2 k30 k31
    have hg2l := hw2.lt
    have hg3l := hw4.lt
    have HF4 := Lib.hid hf4
    clear hf4 hw4 hw2
    have hfw : Frm [] w W4 := HF4.out
    have CAT := Lib.hid ((cat_one (W := W4) (s := (m1, m2)) (SA.out W4 hfw) (SB.out W4 hfw) (by rw [← HS1.out]; exact hsb) NA.out NB.out (by show (l.take fr).length + 1 + (l.drop tt).length ≤ _; rw [List.length_take, List.length_drop]; have := HN.out; omega)).mono fun _ _ h => h.n)
    clear hfw
    go_region_held3 (fun w' => w'.cell? ⟨g2, 0, none⟩ = some (.slice (some ⟨b, off, none⟩) n cap) ∧ w'.cell? ⟨g3, 0, none⟩ = some (.int .u64 (m1 : Int)) ∧ w'.cell? ⟨g3, 1, none⟩ = some (.int .u64 (m2 : Int))) (first | go_keep | (refine ⟨?_, ?_, ?_⟩ <;> (rw [hf5.cell (by simpa using ‹_›) (by simp)]; assumption))) ((go_at_call 98; refine CAT.out.mono ?_; rintro e w5 ⟨a5, m5, c5, rfl, hm5, ho5, hf5⟩))
    have hs1 := HS1.out
    have FIN : Hid (Got w (fun x => Mem l x ∨ (r1 ≤ x ∧ x < r2)) (n + 1) (.returned (.slice a5 m5 c5)) w5) := ⟨l.take fr ++ ([s] ++ l.drop tt), by rw [hs1]; exact retR_from HF4.out (RetR.of hm5.out ho5.out hf5), SPEC.out.1, BOUT.out, SPEC.out.2, LOUT.out⟩
    clear hs1 hm5 ho5 hf5 CAT k2 k30 k31 HS HS1 SPEC BOUT LOUT
    go_wp2
    go_ret
    exact FIN.out
  · have hlt' : ¬ (fr : Int) < (tt : Int) := by omega
    have hs1 : s = (r1, r2) := by rw [HS.out, if_neg hlt]
    have HS1 := Lib.hid hs1
    clear hs1 TAIL
    go_wp2
    have hg2l := (HF3.out.whole H2.out (by simp)).lt
    have hg3l := (HF3.out.whole H3.out (by simp)).lt
    have HF4 := Lib.hid (HF.out.trans HF3.out (U := []) (by simp) (by simp))
    obtain ⟨W4, rfl⟩ : ∃ W4, W4 = w3 := ⟨_, rfl⟩
    have hfw : Frm [] w W4 := HF4.out
    have CAT := Lib.hid ((cat_one (W := W4) (s := (r1, r2)) (SA.out W4 hfw) (SB.out W4 hfw) (by rw [← HS1.out]; exact hsb) NA.out NB.out (by show (l.take fr).length + 1 + (l.drop tt).length ≤ _; rw [List.length_take, List.length_drop]; have := HN.out; omega)).mono fun _ _ h => h.n)
    clear hfw
    go_region_held3 (fun w' => w'.cell? ⟨g2, 0, none⟩ = some (.slice a n cap) ∧ w'.cell? ⟨g3, 0, none⟩ = some (.int .u64 (r1 : Int)) ∧ w'.cell? ⟨g3, 1, none⟩ = some (.int .u64 (r2 : Int))) (first | go_keep | (refine ⟨?_, ?_, ?_⟩ <;> (rw [hf5.cell (by simpa using ‹_›) (by simp)]; assumption))) ((go_at_call 98; refine CAT.out.mono ?_; rintro e w5 ⟨a5, m5, c5, rfl, hm5, ho5, hf5⟩))
    have hs1 := HS1.out
    have FIN : Hid (Got w (fun x => Mem l x ∨ (r1 ≤ x ∧ x < r2)) (n + 1) (.returned (.slice a5 m5 c5)) w5) := ⟨l.take fr ++ ([s] ++ l.drop tt), by rw [hs1]; exact retR_from HF4.out (RetR.of hm5.out ho5.out hf5), SPEC.out.1, BOUT.out, SPEC.out.2, LOUT.out⟩
    clear hs1 hm5 ho5 hf5 CAT k2 k30 k31 HS HS1 SPEC BOUT LOUT
    go_wp2
    go_ret
    exact FIN.out
end Go.Proofs.Ytghadpihmhaepaa
/- Contract of 'ends'. -/
namespace Go.Proofs.Ytghadpihmhaepaa
open Go.RowKit

/-- A range that was just laid. -/
theorem one_rg {W : World} (s : Rg) (hs : s.1 < 18446744073709551616 ∧ s.2 < 18446744073709551616) : Rr (W.alloc (.cells #[.int .u64 (s.1 : Nat), .int .u64 (s.2 : Nat)] 71)) (some ⟨W.heap.size, 0, none⟩) [s] := by
  have hw := Whole.made W 71 #[.int .u64 (s.1 : Nat), .int .u64 (s.2 : Nat)]
  refine ⟨by simp; exact hs, fun _ => ⟨W.heap.size, 0, rfl, fun i hi => ?_⟩⟩
  simp at hi
  subst hi
  exact ⟨hw.cell 0, hw.cell 1⟩

theorem own_app {w w' : World} {base : Nat} {v : Value} {n m : Nat} {l l2 : List Rg} {a' : Option Addr} {c' : Nat} (h : AppR w w' base 71 v n m (fl l) l2 a' c') (hn : n = l.length) (hm : m = l2.length) : OwnR w' base a' c' (l ++ l2) := by
  subst hn hm
  have h1 := h.own
  rw [← fl_append] at h1
  unfold OwnR
  rw [List.length_append]; exact h1

set_option maxHeartbeats 2000000 in
theorem ends_any {lo hi r1 r2 : Nat} (hlo : lo < 18446744073709551616) (hhi : hi < 18446744073709551616) (h1 : r1 < 18446744073709551616) (h2 : r2 < 18446744073709551616) (w : World) :
    Calls Try.prog 102 #[.int .u64 lo, .int .u64 hi, .agg #[.int .u64 r1, .int .u64 r2]] w (RetR w (endsL lo hi (r1, r2))) := by
  obtain ⟨i0, hi0, hz0, hz1, hz2⟩ := info_parts Try.info71
  have HI := Lib.hid hi0; clear hi0
  have HZ0 := Lib.hid hz0; clear hz0
  have HZ1 := Lib.hid hz1; clear hz1
  have HZ2 := Lib.hid hz2; clear hz2
  obtain ⟨W0, hW0⟩ : ∃ W0, W0 = w.alloc (.cells #[.int .u64 r1, .int .u64 r2] 71) := ⟨_, rfl⟩
  have hw0 : Whole W0 w.heap.size 71 #[.int .u64 r1, .int .u64 r2] := by rw [hW0]; exact Whole.made _ _ _
  have hf0 : Frm [] w W0 := by rw [hW0]; exact (Frm.refl _ _).alloc _
  obtain ⟨g, hg⟩ : ∃ g, g = w.heap.size := ⟨_, rfl⟩
  rw [← hg] at hw0
  have hs0 : w.heap.size ≤ W0.heap.size := hf0.size
  have HW0 := Lib.hid hW0; clear hW0
  have HG := Lib.hid hg; clear hg
  have HWH := Lib.hid hw0; clear hw0
  have HF0 := Lib.hid hf0; clear hf0
  have k0 := HWH.out.cell 0
  have k1 := HWH.out.cell 1
  simp only [List.getElem?_toArray] at k0 k1
  by_cases hA : lo < r1
  · have EA : Hid ((if lo < r1 then [((lo, r1) : Rg)] else []) = [((lo, r1) : Rg)]) := if_pos hA
    by_cases hB : r2 < hi
    · have EB : Hid ((if r2 < hi then [((r2, hi) : Rg)] else []) = [((r2, hi) : Rg)]) := if_pos hB
      go_enter Try.func102, Try.ntmps102
      go_upto_region 1 with (fail)
      rw [← HW0.out, ← HG.out]
      go_wp2_with (at_builtin; refine wpList_appR rfl (.tmp 12) (.tmp 17) 53 rfl w.heap.size 71 i0 Try.underlying53 HI.out HZ0.out HZ1.out HZ2.out _ 0 (fl []) rfl (World.ownsRow_nil _ _ _ _) _ 1 1 [(lo, r1)] rfl (one_rg (lo, r1) ⟨hlo, h1⟩) rfl (by intro h; cases h) (by omega) (by simp; omega) ?_)
      intro a1 c1 w1 happ
      have hf1 : Frm [] W0 w1 := frm_app ((Frm.refl _ _).alloc _) happ (by intro x hx; cases hx)
      have ho1 : OwnR w1 w.heap.size a1 c1 [(lo, r1)] := own_app happ rfl rfl
      have hs1 : w.heap.size ≤ w1.heap.size := Nat.le_trans hs0 hf1.size
      have HO1 := Lib.hid ho1
      have HF1 := Lib.hid hf1
      have k2 := (HF1.out.whole HWH.out (by simp)).cell 0
      have k3 := (HF1.out.whole HWH.out (by simp)).cell 1
      simp only [List.getElem?_toArray] at k2 k3
      clear happ ho1 hf1 k0 k1
      go_wp2_with (at_builtin; refine wpList_appR rfl (.tmp 23) (.tmp 28) 53 rfl w.heap.size 71 i0 Try.underlying53 HI.out HZ0.out HZ1.out HZ2.out _ 1 (fl [(lo, r1)]) rfl (HO1.out.keep ((Frm.refl [] w1).alloc _) (by simp)) _ 1 1 [(r2, hi)] rfl (one_rg (r2, hi) ⟨h2, hhi⟩) rfl (by intro h; cases h) (by omega) (by simp; omega) ?_)
      intro a2 c2 w2 happ
      have HF2 := Lib.hid (frm_app ((HF0.out.trans HF1.out (U := []) (by simp) (by simp)).alloc _) happ (fun x hx => .inr (HO1.out.lt x hx).1))
      have HO2 := Lib.hid (own_app happ rfl rfl)
      have FIN : Hid (RetR w (endsL lo hi (r1, r2)) (.returned (.slice a2 2 c2)) w2) := by
        show RetR _ _ _ _
        unfold endsL
        simp only
        rw [EA.out, EB.out]
        exact ⟨a2, c2, rfl, HO2.out, HF2.out⟩
      clear happ k2 k3
      go_wp2
      go_ret
      exact FIN.out
    · have EB : Hid ((if r2 < hi then [((r2, hi) : Rg)] else []) = []) := if_neg hB
      go_enter Try.func102, Try.ntmps102
      go_upto_region 1 with (fail)
      rw [← HW0.out, ← HG.out]
      go_wp2_with (at_builtin; refine wpList_appR rfl (.tmp 12) (.tmp 17) 53 rfl w.heap.size 71 i0 Try.underlying53 HI.out HZ0.out HZ1.out HZ2.out _ 0 (fl []) rfl (World.ownsRow_nil _ _ _ _) _ 1 1 [(lo, r1)] rfl (one_rg (lo, r1) ⟨hlo, h1⟩) rfl (by intro h; cases h) (by omega) (by simp; omega) ?_)
      intro a1 c1 w1 happ
      have hf1 : Frm [] W0 w1 := frm_app ((Frm.refl _ _).alloc _) happ (by intro x hx; cases hx)
      have HO1 := Lib.hid (own_app happ rfl rfl)
      have HF1 := Lib.hid hf1
      have k2 := (HF1.out.whole HWH.out (by simp)).cell 0
      have k3 := (HF1.out.whole HWH.out (by simp)).cell 1
      simp only [List.getElem?_toArray] at k2 k3
      have FIN : Hid (RetR w (endsL lo hi (r1, r2)) (.returned (.slice a1 1 c1)) w1) := by
        show RetR _ _ _ _
        unfold endsL
        simp only
        rw [EA.out, EB.out]
        exact ⟨a1, c1, rfl, HO1.out, HF0.out.trans HF1.out (by simp) (by simp)⟩
      clear happ hf1 k0 k1
      go_wp2
      go_ret
      exact FIN.out
  · have EA : Hid ((if lo < r1 then [((lo, r1) : Rg)] else []) = []) := if_neg hA
    by_cases hB : r2 < hi
    · have EB : Hid ((if r2 < hi then [((r2, hi) : Rg)] else []) = [((r2, hi) : Rg)]) := if_pos hB
      go_enter Try.func102, Try.ntmps102
      go_upto_region 1 with (fail)
      rw [← HW0.out, ← HG.out]
      go_wp2_with (at_builtin; refine wpList_appR rfl (.tmp 23) (.tmp 28) 53 rfl w.heap.size 71 i0 Try.underlying53 HI.out HZ0.out HZ1.out HZ2.out _ 0 (fl []) rfl (World.ownsRow_nil _ _ _ _) _ 1 1 [(r2, hi)] rfl (one_rg (r2, hi) ⟨h2, hhi⟩) rfl (by intro h; cases h) (by omega) (by simp; omega) ?_)
      intro a1 c1 w1 happ
      have hf1 : Frm [] W0 w1 := frm_app ((Frm.refl _ _).alloc _) happ (by intro x hx; cases hx)
      have HO1 := Lib.hid (own_app happ rfl rfl)
      have HF1 := Lib.hid hf1
      have FIN : Hid (RetR w (endsL lo hi (r1, r2)) (.returned (.slice a1 1 c1)) w1) := by
        show RetR _ _ _ _
        unfold endsL
        simp only
        rw [EA.out, EB.out]
        exact ⟨a1, c1, rfl, HO1.out, HF0.out.trans HF1.out (by simp) (by simp)⟩
      clear happ hf1 k0 k1
      go_wp2
      go_ret
      exact FIN.out
    · have EB : Hid ((if r2 < hi then [((r2, hi) : Rg)] else []) = []) := if_neg hB
      go_enter Try.func102, Try.ntmps102
      go_upto_region 1 with (fail)
      rw [← HW0.out, ← HG.out]
      have FIN : Hid (RetR w (endsL lo hi (r1, r2)) (.returned (.slice none 0 0)) W0) := by
        show RetR _ _ _ _
        unfold endsL
        simp only
        rw [EA.out, EB.out]
        exact ⟨none, 0, rfl, OwnR.nil _ _, HF0.out⟩
      go_wp2
      go_ret
      exact FIN.out
end Go.Proofs.Ytghadpihmhaepaa
/- Contract of Remove. -/
namespace Go.Proofs.Ytghadpihmhaepaa
open Go.RowKit

set_option maxHeartbeats 2000000 in
theorem remove_empty {w : World} {a : Option Addr} {l : List Rg} (h : Rr w a l) (hr : Rt l) {n cap : Nat} (hn : n = l.length) (hnil : a = none → cap = 0) (hsz : n ≤ 1000) {r1 r2 : Nat} (he : r2 ≤ r1) :
    Calls Try.prog 77 #[.slice a n cap, .agg #[.int .u64 r1, .int .u64 r2]] w (Got w (fun x => Mem l x ∧ ¬ (r1 ≤ x ∧ x < r2)) (n + 1)) := by
  obtain ⟨W0, hW0⟩ : ∃ W0, W0 = (w.alloc (.cells #[.slice a n cap] 53)).alloc (.cells #[.int .u64 r1, .int .u64 r2] 71) := ⟨_, rfl⟩
  obtain ⟨g2, hg2⟩ : ∃ g2, g2 = w.heap.size := ⟨_, rfl⟩
  obtain ⟨g3, hg3⟩ : ∃ g3, g3 = w.heap.size + 1 := ⟨_, rfl⟩
  have h2 : Whole W0 g2 53 #[.slice a n cap] := by rw [hW0, hg2]; exact (Whole.made w _ _).alloc _
  have h3 : Whole W0 g3 71 #[.int .u64 r1, .int .u64 r2] := by
    rw [hW0, hg3]
    have := Whole.made (w.alloc (.cells #[.slice a n cap] 53)) 71 #[.int .u64 r1, .int .u64 r2]
    simpa using this
  have hF : Frm [] w W0 := by rw [hW0]; exact ((Frm.refl _ _).alloc _).alloc _
  have HF := Lib.hid hF; clear hF
  have H := Lib.hid h; clear h
  have HR := Lib.hid hr; clear hr
  have HN := Lib.hid hn; clear hn
  have HNIL := Lib.hid hnil; clear hnil
  have HW0 := Lib.hid hW0; clear hW0
  have HG2 := Lib.hid hg2; clear hg2
  have HG3 := Lib.hid hg3; clear hg3
  have H2 := Lib.hid h2
  have c0 := h3.cell 0
  have c1 := h3.cell 1
  simp only [List.getElem?_toArray] at c0 c1
  clear h2 h3
  go_enter Try.func77, Try.ntmps77
  go_wp2_with fail
  refine (empty_any r1 r2 _).mono ?_
  rintro e w1 hbo
  obtain ⟨rfl, hf⟩ := hbo.yes he
  rw [← HW0.out] at hf
  have k2 := (hf.whole H2.out (by simp)).cell 0
  simp only [List.getElem?_toArray] at k2
  rw [HG2.out] at k2
  have HF1 := Lib.hid (HF.out.trans hf (U := []) (by simp) (by simp))
  clear hf hbo c0 c1
  go_wp2_with fail
  refine (cloneR_any (H.out.keep0 HF1.out) HN.out HNIL.out (by omega)).mono ?_
  rintro e w2 hret
  have hret2 := retR_from HF1.out hret
  obtain ⟨a2, c2, rfl, ho, hf2⟩ := hret2
  have FIN : Hid (Got w (fun x => Mem l x ∧ ¬ (r1 ≤ x ∧ x < r2)) (n + 1) (.returned (.slice a2 l.length c2)) w2) := ⟨l, ⟨a2, c2, rfl, ho, hf2⟩, HR.out, H.out.1, fun x => ⟨fun hx => ⟨hx, by omega⟩, fun hx => hx.1⟩, by have := HN.out; omega⟩
  clear hret ho hf2 k2
  go_wp2
  go_ret
  exact FIN.out
set_option maxRecDepth 100000 in
set_option maxHeartbeats 4000000 in
theorem remove_some {w : World} {a : Option Addr} {l : List Rg} (h : Rr w a l) (hr : Rt l) {n cap : Nat} (hn : n = l.length) (hnc : n ≤ cap) (hcm : cap ≤ 9223372036854775807) (hnil : a = none → cap = 0) (hsz : n ≤ 1000) {r1 r2 : Nat} (he : r1 < r2) (hb2 : r2 < 18446744073709551616) :
    Calls Try.prog 77 #[.slice a n cap, .agg #[.int .u64 r1, .int .u64 r2]] w (Got w (fun x => Mem l x ∧ ¬ (r1 ≤ x ∧ x < r2)) (n + 1)) := by
  have hmf : ∀ (fn : Fn) (first cap : Array Value) (w : World), (Instr.makeFunc fn first cap).run Try.prog w = .ok (.func fn first cap) w := fun _ _ _ _ => rfl
  obtain ⟨W0, hW0⟩ : ∃ W0, W0 = (w.alloc (.cells #[.slice a n cap] 53)).alloc (.cells #[.int .u64 r1, .int .u64 r2] 71) := ⟨_, rfl⟩
  obtain ⟨g2, hg2⟩ : ∃ g2, g2 = w.heap.size := ⟨_, rfl⟩
  obtain ⟨g3, hg3⟩ : ∃ g3, g3 = w.heap.size + 1 := ⟨_, rfl⟩
  have h2 : Whole W0 g2 53 #[.slice a n cap] := by rw [hW0, hg2]; exact (Whole.made w _ _).alloc _
  have h3 : Whole W0 g3 71 #[.int .u64 r1, .int .u64 r2] := by rw [hW0]; exact Whole.made2 _ _ _ hg3
  have hF : Frm [] w W0 := by rw [hW0]; exact ((Frm.refl _ _).alloc _).alloc _
  have hg23 : g2 < g3 := by omega
  have hgw : w.heap.size ≤ g2 := by omega
  have HF := Lib.hid hF; clear hF
  have H := Lib.hid h; clear h
  have HR := Lib.hid hr; clear hr
  have HN := Lib.hid hn; clear hn
  have HNIL := Lib.hid hnil; clear hnil
  have HW0 := Lib.hid hW0; clear hW0
  have HG2 := Lib.hid hg2; clear hg2
  have HG3 := Lib.hid hg3; clear hg3
  have H2 := Lib.hid h2
  have H3 := Lib.hid h3
  have c0 := h3.cell 0
  have c1 := h3.cell 1
  simp only [List.getElem?_toArray] at c0 c1
  clear h2 h3
  go_enter Try.func77, Try.ntmps77
  go_wp2_with fail
  rw [← HW0.out, ← HG3.out, ← HG2.out]
  refine (empty_any r1 r2 _).mono ?_
  rintro e w1 hbo
  obtain ⟨rfl, hf⟩ := hbo.no (by omega)
  have k2 := (hf.whole H2.out (by simp)).cell 0
  have k30 := (hf.whole H3.out (by simp)).cell 0
  simp only [List.getElem?_toArray] at k2 k30
  have HF1 := Lib.hid hf
  clear hf hbo c0 c1
  go_wp2_with fail
  have hrr1 := H.out.keep0 (HF.out.trans HF1.out (U := []) (by simp) (by simp))
  refine (behind_any hrr1 HR.out (cap := cap) (x := r1) HN.out (by omega)).mono ?_
  rintro e w2 ⟨fr, rfl, hfr, f1, f2, hf⟩
  have F1 := Lib.hid f1; clear f1
  have F2 := Lib.hid f2; clear f2
  have HF2 := Lib.hid (HF1.out.trans hf (U := []) (by simp) (by simp))
  clear hf k2 hrr1 k30
  have k2 := (HF2.out.whole H2.out (by simp)).cell 0
  simp only [List.getElem?_toArray] at k2
  go_wp2_with fail
  have hrr2 := H.out.keep0 (HF.out.trans HF2.out (U := []) (by simp) (by simp))
  have HH2 := Lib.hid (HF2.out.whole H2.out (by simp))
  have HH3 := Lib.hid (HF2.out.whole H3.out (by simp))
  refine (search_any 101 #[.pointer (some ⟨g2, 0, none⟩), .pointer (some ⟨g3, 0, none⟩)] n (fun i => decide (r2 ≤ (l.getD i (0, 0)).1)) w2 enters_rem1 (by omega)
    (fun wr i hf hi => rem1_any (r := (r1, r2)) (hrr2.keep0 hf) (by have := HN.out; omega) HN.out ((hf.whole HH2.out (by simp)).cell 0) ((hf.whole HH3.out (by simp)).cell 0) ((hf.whole HH3.out (by simp)).cell 1))
    (fun i j hij hj hd => by
      have h1 := rt_le HR.out hij (by have := HN.out; omega)
      have h2 : r2 ≤ (l.getD i (0, 0)).1 := of_decide_eq_true hd
      exact decide_eq_true (show r2 ≤ (l.getD j (0, 0)).1 by omega))).mono ?_
  rintro e w3 ⟨tt, rfl, hto, t1, t2, hf⟩
  have HF3 := Lib.hid (HF2.out.trans hf (U := []) (by simp) (by simp))
  clear hf k2 hrr2 HH2 HH3
  -- what the two places mean
  have hft : fr ≤ tt := by
    rcases Nat.lt_or_ge tt fr with hlt | hge
    · have e1 := F1.out tt hlt
      have e2 : r2 ≤ (l.getD tt (0, 0)).1 := of_decide_eq_true (t2 tt (Nat.le_refl _) (by have := HN.out; omega))
      have e3 := rt_lt HR.out (i := tt) (by have := HN.out; omega)
      omega
    · exact hge
  obtain ⟨kp, hkp⟩ : ∃ kp : List Rg, kp = if fr < tt then endsL (l.getD fr (0, 0)).1 (l.getD (tt - 1) (0, 0)).2 (r1, r2) else [] := ⟨_, rfl⟩
  have SPEC := Lib.hid (remove_spec HR.out (r := (r1, r2)) he hft (by have := HN.out; omega)
    (fun i hi => F1.out i hi)
    (fun i hi hil => F2.out i hi hil)
    (fun i hi => by have e1 : ¬ r2 ≤ (l.getD i (0, 0)).1 := of_decide_eq_false (t1 i hi); omega)
    (fun i hi hil => of_decide_eq_true (t2 i hi (by have := HN.out; omega))) hkp)
  have bfr := getD_bd H.out.1 fr
  have bto := getD_bd H.out.1 (tt - 1)
  have hkb : Bd kp ∧ kp.length ≤ 2 ∧ (kp ≠ [] → fr < tt) := by
    rw [hkp]
    split
    · refine ⟨fun p hp => ?_, ?_, fun _ => by assumption⟩
      · unfold endsL at hp
        rcases List.mem_append.1 hp with hp | hp
        · split at hp
          · simp only [List.mem_singleton] at hp
            subst hp; exact ⟨bfr.1, by show r1 < _; omega⟩
          · simp at hp
        · split at hp
          · simp only [List.mem_singleton] at hp
            subst hp; exact ⟨hb2, bto.2⟩
          · simp at hp
      · unfold endsL
        rw [List.length_append]
        split <;> split <;> simp
    · exact ⟨by intro p hp; simp at hp, by simp, fun h => absurd rfl h⟩
  have BOUT : Hid (Bd (l.take fr ++ (kp ++ l.drop tt))) := by
    intro p hp
    rcases List.mem_append.1 hp with hp | hp
    · exact H.out.1 p (List.mem_of_mem_take hp)
    · rcases List.mem_append.1 hp with hp | hp
      · exact hkb.1 p hp
      · exact H.out.1 p (List.mem_of_mem_drop hp)
  have LOUT : Hid ((l.take fr ++ (kp ++ l.drop tt)).length ≤ n + 1) := by
    have := HN.out
    show (l.take fr ++ (kp ++ l.drop tt)).length ≤ n + 1
    rcases Nat.eq_zero_or_pos kp.length with h0 | h0
    · simp only [List.length_append, List.length_take, List.length_drop]; omega
    · have := hkb.2.2 (fun h => by rw [h] at h0; simp at h0)
      simp only [List.length_append, List.length_take, List.length_drop]; omega
  clear t1 t2 F1 F2
  have cA := fun w => run_cutR_h w a n cap fr (fr : Int) rfl (by omega)
  have cB := fun w => run_cutR_l w a n cap tt (tt : Int) rfl (by omega)
  obtain ⟨aA, haA⟩ : ∃ aA, aA = cutR a cap 0 := ⟨_, rfl⟩
  obtain ⟨aB, haB⟩ : ∃ aB, aB = cutR a cap tt := ⟨_, rfl⟩
  obtain ⟨nB, hnB⟩ : ∃ nB, nB = n - tt := ⟨_, rfl⟩
  obtain ⟨cB', hcB'⟩ : ∃ cB', cB' = cap - tt := ⟨_, rfl⟩
  rw [← haA] at cA
  rw [← haB, ← hnB, ← hcB'] at cB
  have SA : Hid (∀ w', Frm [] w w' → SlIn w' ⟨aA, cap, l.take fr⟩) := fun w' hf => by
    have hk := H.out.keep0 hf
    refine ⟨?_, fun h => ?_, ?_, hcm⟩
    · show Rr w' aA (l.take fr)
      rw [haA]
      have := (hk.cut (cap := cap) (by have := HN.out; omega) 0).take fr
      rwa [List.drop_zero] at this
    · have h' : cutR a cap 0 = none := by rw [← haA]; exact h
      have := cutR_none HNIL.out h'; show cap = 0; omega
    · show (l.take fr).length ≤ cap
      rw [List.length_take]; omega
  have SB : Hid (∀ w', Frm [] w w' → SlIn w' ⟨aB, cB', l.drop tt⟩) := fun w' hf => by
    have hk := H.out.keep0 hf
    refine ⟨?_, fun h => ?_, ?_, by show cB' ≤ _; omega⟩
    · show Rr w' aB (l.drop tt)
      rw [haB]
      exact hk.cut (cap := cap) (by have := HN.out; omega) tt
    · have h' : cutR a cap tt = none := by rw [← haB]; exact h
      have := cutR_none HNIL.out h'; show cB' = 0; omega
    · show (l.drop tt).length ≤ cB'
      rw [List.length_drop]; have := HN.out; omega
  have NA : Hid (fr = (l.take fr).length) := by show fr = _; rw [List.length_take]; have := HN.out; omega
  have NB : Hid (nB = (l.drop tt).length) := by show nB = _; rw [List.length_drop]; have := HN.out; omega
  have HKP := Lib.hid hkp
  have HKB := Lib.hid hkb
  clear haA haB hnB hcB' hkp hkb
  have k2 := (HF3.out.whole H2.out (by simp)).cell 0
  have k30 := (HF3.out.whole H3.out (by simp)).cell 0
  have k31 := (HF3.out.whole H3.out (by simp)).cell 1
  simp only [List.getElem?_toArray] at k2 k30 k31
  by_cases hlt : fr < tt
  · have hlt' : (fr : Int) < (tt : Int) := by omega
    obtain ⟨b, off, rfl, hc⟩ := (H.out.keep0 (HF.out.trans HF3.out (U := []) (by simp) (by simp))).2 (by have := HN.out; omega)
    obtain ⟨d0, _⟩ := hc fr (by have := HN.out; omega)
    obtain ⟨j, hj⟩ : ∃ j, j = tt - 1 := ⟨_, rfl⟩
    obtain ⟨_, d1⟩ := hc j (by have := HN.out; omega)
    have hk1 : kp = endsL (l.getD fr (0, 0)).1 (l.getD j (0, 0)).2 (r1, r2) := by rw [HKP.out, if_pos hlt, hj]
    rw [← hj] at bto
    obtain ⟨x, hx⟩ : ∃ y, y = (l.getD fr (0, 0)).1 := ⟨_, rfl⟩
    obtain ⟨y, hy⟩ : ∃ y, y = (l.getD j (0, 0)).2 := ⟨_, rfl⟩
    rw [← hx] at d0 hk1 bfr
    rw [← hy] at d1 hk1 bto
    have HK1 := Lib.hid hk1
    clear hc hx hy hk1
    have hfn : (fr : Int) < (n : Int) := by omega
    have hjn : (j : Int) < (n : Int) := by omega
    have hwj : IntKind.i64.wrap ((tt : Int) - 1) = (j : Int) := by rw [IntWalk.i64_in _ (by omega)]; omega
    have HJ := Lib.hid hj; clear hj
    have EN := Lib.hid (ends_any (lo := x) (hi := y) (r1 := r1) (r2 := r2) bfr.1 bto.2 (by omega) hb2)
    clear bfr bto
    go_wp2
    go_still_tail 12, (by kernel_rfl)
    change wpList _ _ _ _ _ w3.drew
    go_wp2_with fail
    refine (EN.out w3.drew).mono ?_
    rintro e w4 hret
    have hret2 := hret.n
    obtain ⟨ak, mk, ck, rfl, hmk, hok, hf4⟩ := hret2
    have hf34 : Frm [] w3 w4 := (Frm.drew1 w3).trans hf4 (by simp) (by simp)
    have HF34 := Lib.hid hf34
    have SK : Hid (SlIn w4 ⟨ak, ck, kp⟩) := by
      have h := hok.out
      rw [← HK1.out] at h
      have h2 := h.rr HKB.out.1
      exact ⟨h2.1, h2.2.1, h2.2.2.1, by have := h2.2.2.2; unfold maxLen at this; show ck ≤ _; omega⟩
    have MK : Hid (mk = kp.length) := by rw [HK1.out]; exact hmk.out
    clear hret hf4 hf34 hmk hok EN k30 k31 k2 hwj
    have hw2 := HF34.out.whole (HF3.out.whole H2.out (by simp)) (by simp)
    have k2 := hw2.cell 0
    have hg2l := hw2.lt
    simp only [List.getElem?_toArray] at k2
    have HF4 := Lib.hid ((HF.out.trans HF3.out (U := []) (by simp) (by simp)).trans HF34.out (U := []) (by simp) (by simp))
    have hfw : Frm [] w w4 := HF4.out
    have CAT0 := (cat_lit (W := w4) (SA.out w4 hfw) SK.out (SB.out w4 hfw) (by show (l.take fr).length + kp.length + (l.drop tt).length ≤ _; rw [List.length_take, List.length_drop]; have := HN.out; have := HKB.out.2.1; omega)).mono fun _ _ h => h.n
    simp only at CAT0
    rw [← NA.out, ← NB.out, ← MK.out] at CAT0
    have CAT := Lib.hid CAT0
    clear hfw hw2 CAT0
    go_wp2
    go_region_held3 (fun w' => w'.cell? ⟨g2, 0, none⟩ = some (.slice (some ⟨b, off, none⟩) n cap)) (first | go_keep | (rw [hf5.cell (by simpa using ‹_›) (by simp)]; assumption)) ((go_at_call 98; refine CAT.out.mono ?_; rintro e w5 ⟨a5, m5, c5, rfl, hm5, ho5, hf5⟩))
    have FIN : Hid (Got w (fun x => Mem l x ∧ ¬ (r1 ≤ x ∧ x < r2)) (n + 1) (.returned (.slice a5 m5 c5)) w5) := ⟨l.take fr ++ (kp ++ l.drop tt), retR_from HF4.out (RetR.of hm5.out ho5.out hf5), SPEC.out.1, BOUT.out, SPEC.out.2, LOUT.out⟩
    clear hm5 ho5 hf5 CAT k2 HKP HK1 SPEC BOUT LOUT
    go_wp2
    go_ret
    exact FIN.out
  · have hlt' : ¬ (fr : Int) < (tt : Int) := by omega
    have hk1 : kp = [] := by rw [HKP.out, if_neg hlt]
    have HK1 := Lib.hid hk1
    clear hk1 bfr bto k30 k31
    have hg2l := (HF3.out.whole H2.out (by simp)).lt
    have HF4 := Lib.hid (HF.out.trans HF3.out (U := []) (by simp) (by simp))
    have hfw : Frm [] w w3 := HF4.out
    have CAT0 := (cat_lit (W := w3) (sK := ⟨none, 0, []⟩) (SA.out w3 hfw) ⟨Rr.nil _ _, fun _ => rfl, by simp, by simp⟩ (SB.out w3 hfw) (by show (l.take fr).length + 0 + (l.drop tt).length ≤ _; rw [List.length_take, List.length_drop]; have := HN.out; omega)).mono fun _ _ h => h.n
    simp only at CAT0
    rw [← NA.out, ← NB.out] at CAT0
    have CAT := Lib.hid CAT0
    clear hfw CAT0
    go_wp2
    go_region_held3 (fun w' => w'.cell? ⟨g2, 0, none⟩ = some (.slice a n cap)) (first | go_keep | (rw [hf5.cell (by simpa using ‹_›) (by simp)]; assumption)) ((go_at_call 98; refine CAT.out.mono ?_; rintro e w5 ⟨a5, m5, c5, rfl, hm5, ho5, hf5⟩))
    have hk1 := HK1.out
    have FIN : Hid (Got w (fun x => Mem l x ∧ ¬ (r1 ≤ x ∧ x < r2)) (n + 1) (.returned (.slice a5 m5 c5)) w5) := ⟨l.take fr ++ (kp ++ l.drop tt), by rw [hk1]; exact retR_from HF4.out (RetR.of hm5.out ho5.out hf5), SPEC.out.1, BOUT.out, SPEC.out.2, LOUT.out⟩
    clear hk1 hm5 ho5 hf5 CAT k2 HKP HK1 SPEC BOUT LOUT
    go_wp2
    go_ret
    exact FIN.out
end Go.Proofs.Ytghadpihmhaepaa
/- Plain mathematics behind the document's Set: a number more in a rising list; what holds between two numbers of the list of all ends. They speak of no program. -/
namespace Go.Proofs.Ytghadpihmhaepaa

/-- A rising list. -/
def Up (l : List Nat) : Prop := l.Pairwise (· < ·)
theorem up_at {l : List Nat} (h : Up l) {i j : Nat} (hij : i < j) (hj : j < l.length) : l.getD i 0 < l.getD j 0 := by
  have hi : i < l.length := by omega
  have e : l.getD i 0 = l[i] := by simp [hi]
  have e' : l.getD j 0 = l[j] := by simp [hj]
  rw [e, e']; exact List.pairwise_iff_getElem.1 h i j hi hj hij
theorem up_mem {l : List Nat} {x : Nat} (h : x ∈ l) : ∃ i, i < l.length ∧ l.getD i 0 = x := by
  obtain ⟨i, hi, rfl⟩ := List.getElem_of_mem h
  exact ⟨i, hi, by simp [hi]⟩
theorem mem_getD {l : List Nat} {i : Nat} (hi : i < l.length) : l.getD i 0 ∈ l := by
  have e : l.getD i 0 = l[i] := by simp [hi]
  rw [e]; exact List.getElem_mem hi
theorem mem_take_at {l : List Nat} {k x : Nat} (h : x ∈ l.take k) : ∃ i, i < k ∧ i < l.length ∧ l.getD i 0 = x := by
  obtain ⟨i, hi, rfl⟩ := List.getElem_of_mem h
  have hi' : i < k ∧ i < l.length := by rw [List.length_take] at hi; omega
  exact ⟨i, hi'.1, hi'.2, by simp [hi'.2]⟩
theorem mem_drop_at {l : List Nat} {k x : Nat} (h : x ∈ l.drop k) : ∃ i, k ≤ i ∧ i < l.length ∧ l.getD i 0 = x := by
  obtain ⟨i, hi, rfl⟩ := List.getElem_of_mem h
  have hi' : k + i < l.length := by rw [List.length_drop] at hi; omega
  exact ⟨k + i, by omega, hi', by simp [hi']⟩
theorem up_put {l : List Nat} (h : Up l) {n k : Nat} (_hk : k ≤ l.length) (h1 : ∀ i, i < k → l.getD i 0 < n) (h2 : k < l.length → n < l.getD k 0) :
    Up (l.take k ++ ([n] ++ l.drop k)) ∧ ∀ x, x ∈ l.take k ++ ([n] ++ l.drop k) ↔ x ∈ l ∨ x = n := by
  have hd : ∀ x ∈ l.drop k, n < x := by
    intro x hx
    obtain ⟨i, hi, hil, rfl⟩ := mem_drop_at hx
    have := h2 (by omega)
    rcases Nat.lt_or_eq_of_le hi with h3 | rfl
    · have := up_at h h3 hil; omega
    · exact this
  have ht : ∀ x ∈ l.take k, x < n := by
    intro x hx
    obtain ⟨i, hi, hil, rfl⟩ := mem_take_at hx
    exact h1 i hi
  constructor
  · unfold Up
    rw [List.pairwise_append]
    refine ⟨h.sublist (List.take_sublist _ _), ?_, ?_⟩
    · rw [List.singleton_append, List.pairwise_cons]
      exact ⟨hd, h.sublist (List.drop_sublist _ _)⟩
    · intro x hx y hy
      rcases List.mem_append.1 hy with hy | hy
      · simp only [List.mem_singleton] at hy
        subst hy; exact ht x hx
      · have := ht x hx; have := hd y hy; omega
  · intro x
    have e : x ∈ l ↔ x ∈ l.take k ∨ x ∈ l.drop k := by rw [← List.mem_append, List.take_append_drop]
    rw [e]
    simp only [List.mem_append, List.mem_singleton]
    constructor
    · rintro (h | h | h)
      · exact .inl (.inl h)
      · exact .inr h
      · exact .inl (.inr h)
    · rintro ((h | h) | h)
      · exact .inl h
      · exact .inr (.inr h)
      · exact .inr (.inl h)

/-- All ends of some are in c. -/
def Ends (l : List Rg) (c : List Nat) : Prop := ∀ p ∈ l, p.1 ∈ c ∧ p.2 ∈ c
theorem same_between {l : List Rg} {c : List Nat} (hc : Up c) (he : Ends l c) {i x : Nat} (hi : i + 1 < c.length) (h1 : c.getD i 0 ≤ x) (h2 : x < c.getD (i + 1) 0) : Mem l x ↔ Mem l (c.getD i 0) := by
  have key : ∀ y ∈ c, (y ≤ x ↔ y ≤ c.getD i 0) := by
    intro y hy
    obtain ⟨j, hj, rfl⟩ := up_mem hy
    constructor
    · intro h3
      rcases Nat.lt_or_ge i j with h4 | h4
      · have : c.getD (i + 1) 0 ≤ c.getD j 0 := by
          rcases Nat.lt_or_eq_of_le (Nat.succ_le_of_lt h4) with h5 | h5
          · exact Nat.le_of_lt (up_at hc h5 hj)
          · rw [← h5]; exact Nat.le_refl _
        omega
      · rcases Nat.lt_or_eq_of_le h4 with h5 | h5
        · exact Nat.le_of_lt (up_at hc h5 (by omega))
        · rw [h5]; exact Nat.le_refl _
    · intro h3; omega
  constructor
  · rintro ⟨p, hp, h3, h4⟩
    have k1 := key p.1 (he p hp).1
    have k2 := key p.2 (he p hp).2
    exact ⟨p, hp, by omega, by omega⟩
  · rintro ⟨p, hp, h3, h4⟩
    have k1 := key p.1 (he p hp).1
    have k2 := key p.2 (he p hp).2
    exact ⟨p, hp, by omega, by omega⟩

/-- What stands in out behind i of the ends. -/
structure SetTo (some none : List Rg) (c : List Nat) (i : Nat) (out : List Rg) : Prop where
  rt : Rt out
  bd : ∀ p ∈ out, p.1 < 18446744073709551616 ∧ p.2 < 18446744073709551616
  hi : ∀ p ∈ out, p.2 ≤ c.getD i 0
  mem : ∀ x, Mem out x ↔ x < c.getD i 0 ∧ Mem some x ∧ ¬ Mem none x
  len : out.length ≤ i
variable {some none : List Rg} {c : List Nat} {i : Nat} {out : List Rg}
theorem SetTo.zero (hc : Up c) (he : Ends some c) : SetTo some none c 0 [] where
  rt := Rt.nil
  bd := by simp
  hi := by simp
  mem := fun x => ⟨fun h => absurd h (Mem.nil x), fun ⟨h1, ⟨p, hp, h2, _⟩, _⟩ => by
    obtain ⟨j, hj, h3⟩ := up_mem (he p hp).1
    rcases Nat.eq_zero_or_pos j with rfl | h4
    · omega
    · have := up_at hc h4 hj; omega⟩
  len := Nat.le_refl _
theorem SetTo.skip (h : SetTo some none c i out) (hc : Up c) (he : Ends some c) (he' : Ends none c) (hi : i + 1 < c.length) (hno : ¬ Mem some (c.getD i 0) ∨ Mem none (c.getD i 0)) : SetTo some none c (i + 1) out where
  rt := h.rt
  bd := h.bd
  hi := fun p hp => by have := h.hi p hp; have := up_at hc (Nat.lt_add_one i) hi; omega
  mem := fun x => by
    have hlt := up_at hc (Nat.lt_add_one i) hi
    rw [h.mem x]
    constructor
    · rintro ⟨h1, h2⟩; exact ⟨by omega, h2⟩
    · rintro ⟨h1, h2, h3⟩
      rcases Nat.lt_or_ge x (c.getD i 0) with h4 | h4
      · exact ⟨h4, h2, h3⟩
      · have e1 := same_between hc he hi h4 h1
        have e2 := same_between hc he' hi h4 h1
        rcases hno with h5 | h5
        · exact absurd (e1.1 h2) h5
        · exact absurd (e2.2 h5) h3
  len := Nat.le_succ_of_le h.len
theorem SetTo.grow (h : SetTo some none c i out) (hc : Up c) (hcb : ∀ x ∈ c, x < 18446744073709551616) (he : Ends some c) (he' : Ends none c) (hi : i + 1 < c.length) (h1 : Mem some (c.getD i 0)) (h2 : ¬ Mem none (c.getD i 0))
    (hl : out.length ≤ 0 ∨ (out.getD (out.length - 1) (0, 0)).2 ≠ c.getD i 0) : SetTo some none c (i + 1) (out ++ [(c.getD i 0, c.getD (i + 1) 0)]) := by
  have hlt := up_at hc (Nat.lt_add_one i) hi
  have hall : ∀ p ∈ out, p.2 < c.getD i 0 := by
    intro p hp
    obtain ⟨j, hj, rfl⟩ := List.getElem_of_mem hp
    have ej : out[j] = out.getD j (0, 0) := by simp [hj]
    rcases hl with hl | hl
    · omega
    · have hlast : out.getD (out.length - 1) (0, 0) ∈ out := by
        have e : out.getD (out.length - 1) (0, 0) = out[out.length - 1] := by simp [show out.length - 1 < out.length by omega]
        rw [e]; exact List.getElem_mem _
      have h5 := h.hi _ hlast
      rw [ej]
      rcases Nat.lt_or_ge j (out.length - 1) with h6 | h6
      · have := rt_gap h.rt h6 (by omega)
        have := rt_lt h.rt (i := out.length - 1) (by omega)
        omega
      · rw [show j = out.length - 1 by omega]; omega
  refine ⟨?_, ?_, ?_, ?_, ?_⟩
  · rw [rt_append]
    exact ⟨h.rt, (rt_cons _ _).2 ⟨hlt, by simp, Rt.nil⟩, fun p hp q hq => by simp only [List.mem_singleton] at hq; subst hq; exact hall p hp⟩
  · intro p hp
    rcases List.mem_append.1 hp with hp | hp
    · exact h.bd p hp
    · simp only [List.mem_singleton] at hp
      subst hp; exact ⟨hcb _ (mem_getD (by omega)), hcb _ (mem_getD hi)⟩
  · intro p hp
    rcases List.mem_append.1 hp with hp | hp
    · have := h.hi p hp; omega
    · simp only [List.mem_singleton] at hp
      subst hp; exact Nat.le_refl _
  · intro x
    rw [mem_append, h.mem x, mem_cons]
    constructor
    · rintro (⟨h3, h4⟩ | h3 | h3)
      · exact ⟨by omega, h4⟩
      · simp only at h3
        exact ⟨h3.2, (same_between hc he hi h3.1 h3.2).2 h1, fun h4 => h2 ((same_between hc he' hi h3.1 h3.2).1 h4)⟩
      · exact absurd h3 (Mem.nil x)
    · rintro ⟨h3, h4⟩
      rcases Nat.lt_or_ge x (c.getD i 0) with h5 | h5
      · exact .inl ⟨h5, h4⟩
      · exact .inr (.inl ⟨h5, h3⟩)
  · have := h.len
    simp; omega
theorem set_last {l : List Rg} (h : 0 < l.length) (p : Rg) : l.set (l.length - 1) p = l.take (l.length - 1) ++ [p] := by
  rw [List.set_eq_take_append_cons_drop, if_pos (by omega)]
  rw [List.drop_eq_nil_of_le (by omega)]
theorem split_last {l : List Rg} (h : 0 < l.length) : l = l.take (l.length - 1) ++ [l.getD (l.length - 1) (0, 0)] := by
  have e : l.getD (l.length - 1) (0, 0) = l[l.length - 1] := by simp [show l.length - 1 < l.length by omega]
  rw [e, List.take_append_getElem]
  rw [List.take_of_length_le (by omega)]
theorem SetTo.stretch (h : SetTo some none c i out) (hc : Up c) (hcb : ∀ x ∈ c, x < 18446744073709551616) (he : Ends some c) (he' : Ends none c) (hi : i + 1 < c.length) (h1 : Mem some (c.getD i 0)) (h2 : ¬ Mem none (c.getD i 0))
    (h0 : 0 < out.length) (hl : (out.getD (out.length - 1) (0, 0)).2 = c.getD i 0) : SetTo some none c (i + 1) (out.set (out.length - 1) ((out.getD (out.length - 1) (0, 0)).1, c.getD (i + 1) 0)) := by
  have hlt := up_at hc (Nat.lt_add_one i) hi
  have es := split_last h0
  rw [set_last h0]
  obtain ⟨A, hA⟩ : ∃ A, A = out.take (out.length - 1) := ⟨_, rfl⟩
  obtain ⟨p, hp⟩ : ∃ p, p = out.getD (out.length - 1) (0, 0) := ⟨_, rfl⟩
  rw [← hA, ← hp] at es
  rw [← hp] at hl
  rw [← hA, ← hp]
  have hlen := h.len
  have hr := h.rt
  have hb := h.bd
  have hh := h.hi
  have hm := h.mem
  rw [es] at hlen hr hb hh hm
  obtain ⟨r1, r2, r3⟩ := (rt_append A [p]).1 hr
  have hp2 := ((rt_cons p []).1 r2).1
  refine ⟨?_, ?_, ?_, ?_, ?_⟩
  · rw [rt_append]
    exact ⟨r1, (rt_cons _ _).2 ⟨by show p.1 < _; omega, by simp, Rt.nil⟩, fun q hq s hs => by simp only [List.mem_singleton] at hs; subst hs; exact r3 q hq p (by simp)⟩
  · intro q hq
    rcases List.mem_append.1 hq with hq | hq
    · exact hb q (List.mem_append_left _ hq)
    · simp only [List.mem_singleton] at hq
      subst hq; exact ⟨(hb p (by simp)).1, hcb _ (mem_getD hi)⟩
  · intro q hq
    rcases List.mem_append.1 hq with hq | hq
    · have := hh q (List.mem_append_left _ hq); omega
    · simp only [List.mem_singleton] at hq
      subst hq; exact Nat.le_refl _
  · intro x
    have hmx := hm x
    rw [mem_append, mem_cons] at hmx
    rw [mem_append, mem_cons]
    simp only
    constructor
    · rintro (h3 | h3 | h3)
      · have := hmx.1 (.inl h3); exact ⟨by omega, this.2⟩
      · rcases Nat.lt_or_ge x (c.getD i 0) with h5 | h5
        · have := hmx.1 (.inr (.inl ⟨h3.1, by omega⟩)); exact ⟨by omega, this.2⟩
        · exact ⟨h3.2, (same_between hc he hi h5 h3.2).2 h1, fun h4 => h2 ((same_between hc he' hi h5 h3.2).1 h4)⟩
      · exact absurd h3 (Mem.nil x)
    · rintro ⟨h3, h4⟩
      rcases Nat.lt_or_ge x (c.getD i 0) with h5 | h5
      · rcases hmx.2 ⟨h5, h4⟩ with h6 | h6 | h6
        · exact .inl h6
        · exact .inr (.inl ⟨h6.1, by omega⟩)
        · exact absurd h6 (Mem.nil x)
      · exact .inr (.inl ⟨by omega, h3⟩)
  · rw [List.length_append] at hlen ⊢
    simp at hlen ⊢; omega
theorem SetTo.done (h : SetTo some none c i out) (hc : Up c) (he : Ends some c) (hi : ¬ i + 1 < c.length) (hi2 : i < c.length ∨ (c = [] ∧ i = 0)) : ∀ x, Mem out x ↔ Mem some x ∧ ¬ Mem none x := by
  intro x
  rw [h.mem x]
  constructor
  · rintro ⟨_, h1⟩; exact h1
  · rintro ⟨⟨p, hp, h3, h4⟩, h2⟩
    refine ⟨?_, ⟨p, hp, h3, h4⟩, h2⟩
    obtain ⟨j, hj, h5⟩ := up_mem (he p hp).2
    rcases hi2 with h6 | ⟨h6, _⟩
    · rcases Nat.lt_or_eq_of_le (show j ≤ i by omega) with h7 | rfl
      · have := up_at hc h7 h6; omega
      · omega
    · rw [h6] at hj; simp at hj
end Go.Proofs.Ytghadpihmhaepaa
/- Contract of the document's put: a number more in a rising list. -/
namespace Go.Proofs.Ytghadpihmhaepaa
open Go.RowKit

theorem Try.info23 : (Try.prog.info? 23).map (fun i => (i.zero, i.size, i.bytes)) = some (some (.int .u64 0), 1, 8) := by kernel_rfl
def uv (c : Nat) : Value := .int .u64 (c : Int)
/-- A slice at a reads as the numbers l. -/
def Uw (w : World) (a : Option Addr) (l : List Nat) : Prop :=
  (∀ c ∈ l, c < 18446744073709551616) ∧ (0 < l.length → ∃ b off, a = some ⟨b, off, none⟩ ∧ ∀ i, i < l.length → w.cell? ⟨b, off + i, none⟩ = some (.int .u64 (l.getD i 0 : Nat)))
theorem Uw.nil (w : World) (a : Option Addr) : Uw w a [] := ⟨by simp, fun h => absurd h (by simp)⟩
theorem Uw.keep {w w' : World} {a : Option Addr} {l : List Nat} (h : Uw w a l) (hf : Frm [] w w') : Uw w' a l := by
  refine ⟨h.1, fun h0 => ?_⟩
  obtain ⟨b, off, rfl, hc⟩ := h.2 h0
  exact ⟨b, off, rfl, fun i hi => (hf.cell (p := ⟨b, off + i, none⟩) (block_lt_of_cell (hc i hi)) (by simp)).trans (hc i hi)⟩
theorem u_bd {l : List Nat} (h : ∀ c ∈ l, c < 18446744073709551616) (i : Nat) : l.getD i 0 < 18446744073709551616 := by
  by_cases hi : i < l.length
  · exact h _ (mem_getD hi)
  · have e : l.getD i 0 = 0 := by simp [Nat.le_of_not_lt hi]
    rw [e]; simp
theorem getD_uv {l : List Nat} {i : Nat} (h : i < l.length) : (l.map uv)[i]? = some (uv (l.getD i 0)) := by simp [h]
theorem uv_one (l : List Nat) : ∀ u ∈ l.map uv, u.oneCell' = true := by
  intro u hu
  obtain ⟨c, _, rfl⟩ := List.mem_map.1 hu
  rfl
theorem Uw.take {w : World} {a : Option Addr} {l : List Nat} (h : Uw w a l) (k : Nat) : Uw w a (l.take k) := by
  refine ⟨fun p hp => h.1 p (List.mem_of_mem_take hp), fun h0 => ?_⟩
  have hl : (l.take k).length ≤ l.length := List.length_take_le' k l
  obtain ⟨b, off, ha, hc⟩ := h.2 (by omega)
  refine ⟨b, off, ha, fun i hi => ?_⟩
  rw [List.length_take] at hi
  have e : (l.take k).getD i 0 = l.getD i 0 := by simp [List.getD, show i < k by omega]
  rw [e]
  exact hc i (by omega)
def cutU (a : Option Addr) (cap lo : Nat) : Option Addr := if cap = lo then a else a.map (·.add lo)
theorem Uw.cut {w : World} {a : Option Addr} {l : List Nat} {cap : Nat} (h : Uw w a l) (hc : l.length ≤ cap) (lo : Nat) : Uw w (cutU a cap lo) (l.drop lo) := by
  refine ⟨fun p hp => h.1 p (List.mem_of_mem_drop hp), fun h0 => ?_⟩
  rw [List.length_drop] at h0
  obtain ⟨b, off, rfl, hcl⟩ := h.2 (by omega)
  refine ⟨b, off + lo, ?_, fun i hi => ?_⟩
  · unfold cutU
    rw [if_neg (by omega)]
    simp [addr_add]
  · rw [List.length_drop] at hi
    have e : (l.drop lo).getD i 0 = l.getD (lo + i) 0 := by simp [List.getD, List.getElem?_drop]
    rw [e]
    have := hcl (lo + i) (by omega)
    rw [← Nat.add_assoc] at this
    exact this
theorem cutU_none {a : Option Addr} {cap lo : Nat} (h : a = none → cap = 0) (hc : cutU a cap lo = none) : cap - lo = 0 := by
  unfold cutU at hc
  by_cases hlo : cap = lo
  · omega
  · rw [if_neg hlo] at hc
    have := h (by simpa using hc)
    omega
theorem size_u64 (w : World) : (Go.sizeOf 23).run Try.prog w = .ok 1 w := by kernel_rfl
theorem run_cutU_h (w : World) (a : Option Addr) (n cap hi : Nat) (h : Int) (hh : h = (hi : Nat)) (h2 : hi ≤ cap) :
    (Instr.slice 103 (.slice a n cap) none (some (.int .i64 h)) none).run Try.prog w = .ok (.slice (cutU a cap 0) hi cap) w := by
  subst hh
  have ht' : Try.prog.underlying 103 = some (.slice (Try.prog.elem 103)) := by simp [Program.elem, Try.underlying103]
  have he : Try.prog.elem 103 = 23 := by simp [Program.elem, Try.underlying103]
  rw [run_slice_h w _ _ _ _ ht' _ _ (by omega) (by omega), he, size_u64]
  simp [Result.andThen, sliced, cutU]
theorem run_cutU_l (w : World) (a : Option Addr) (n cap lo : Nat) (l : Int) (hl : l = (lo : Nat)) (h1 : lo ≤ n) :
    (Instr.slice 103 (.slice a n cap) (some (.int .i64 l)) none none).run Try.prog w = .ok (.slice (cutU a cap lo) (n - lo) (cap - lo)) w := by
  subst hl
  have ht' : Try.prog.underlying 103 = some (.slice (Try.prog.elem 103)) := by simp [Program.elem, Try.underlying103]
  have he : Try.prog.elem 103 = 23 := by simp [Program.elem, Try.underlying103]
  rw [run_slice_l w _ _ _ _ ht' _ _ (by omega) (by omega), he, size_u64]
  simp [Result.andThen, sliced, cutU]

/-- A row of the call's own with the numbers l. -/
def OwnU (w : World) (base : Nat) (a : Option Addr) (cap : Nat) (l : List Nat) : Prop := w.ownsRow base 23 1 (.slice a l.length cap) l.length (l.map uv)
theorem OwnU.uw {w : World} {base : Nat} {a : Option Addr} {cap : Nat} {l : List Nat} (h : OwnU w base a cap l) (hb : ∀ c ∈ l, c < 18446744073709551616) : Uw w a l ∧ (a = none → cap = 0) ∧ l.length ≤ cap ∧ cap ≤ 9223372036854775807 := by
  refine ⟨⟨hb, fun h0 => ?_⟩, ?_⟩
  · rcases h.2 with ⟨_, h1⟩ | ⟨g, cap', cur, hv, hb, hg, hnc, hcm, hcs, ht⟩
    · omega
    · simp only [Value.slice.injEq] at hv
      obtain ⟨rfl, _, rfl⟩ := hv
      refine ⟨g, 0, rfl, fun i hi => ?_⟩
      have hh : w.ownsRow base 23 1 (.slice (some ⟨g, 0, none⟩) l.length cap) l.length (l.map uv) := h
      rw [Nat.zero_add, hh.cellAt i (by omega), getD_uv hi]; rfl
  · rcases h.2 with ⟨hv, h1⟩ | ⟨g, cap', cur, hv, hb, hg, hnc, hcm, hcs, ht⟩
    · simp only [Value.slice.injEq] at hv
      exact ⟨fun _ => hv.2.2, by omega, by rw [hv.2.2]; simp⟩
    · simp only [Value.slice.injEq] at hv
      obtain ⟨rfl, _, rfl⟩ := hv
      unfold maxLen at hcm
      exact ⟨fun h => by simp at h, hnc, by omega⟩
theorem OwnU.keep {w w' : World} {base : Nat} {a : Option Addr} {cap : Nat} {l : List Nat} {S : List Nat} (h : OwnU w base a cap l) (hf : Frm S w w') (hn : ∀ x, a = some x → x.block ∉ S) : OwnU w' base a cap l :=
  hf.own h (fun g hg => by
    cases a with
    | none => simp [Value.ownBlock] at hg
    | some x => simp only [Value.ownBlock, Option.some.injEq] at hg; subst hg; exact hn x rfl)
theorem OwnU.lt {w : World} {base : Nat} {a : Option Addr} {cap : Nat} {l : List Nat} (h : OwnU w base a cap l) : ∀ x, a = some x → base ≤ x.block ∧ x.block < w.heap.size := fun x hx => World.ownsRow.lt h x.block (by rw [hx]; rfl)

section
variable {P : Program} {w : World}
structure AppU (w w' : World) (base : Nat) (e : TypeId) (v : Value) (n m : Nat) (xs : List Value) (l : List Nat) (a' : Option Addr) (cap' : Nat) : Prop where
  own : w'.ownsRow base e 1 (.slice a' (n + m) cap') (n + m) (xs ++ l.map uv)
  grown : w.grownBy w' v.ownBlock
  place : (Value.slice a' (n + m) cap').ownBlock = v.ownBlock ∨ (Value.slice a' (n + m) cap').ownBlock = some w.heap.size
theorem run_appU (base : Nat) (t ty e : TypeId) (i : TypeInfo) (ht : P.underlying t = some (.slice e)) (hi : P.info? e = some i) (hz : i.zero = some (.int .u64 0))
    (hsize : i.size = 1) (hby : i.bytes = 8) (v : Value) (n : Nat) (xs : List Value) (hown : w.ownsRow base e 1 v n xs)
    (ad : Option Addr) (m c : Nat) (l : List Nat) (hB : Uw w ad l) (hm : m = l.length) (hnil : ad = none → c = 0)
    (hfit : n + m ≤ 1000000) (hbase : base ≤ w.heap.size) :
    ∃ a' cap' w', (Builtin.append_ #[t, t] ty #[v, .slice ad m c]).run P w = .ok (.slice a' (n + m) cap') w' ∧ AppU w w' base e v n m xs l a' cap' := by
  have shape : ∀ (v' : Value) (w' : World) (k : Nat) (ys : List Value), w'.ownsRow base e 1 v' k ys → ∃ a' cap', v' = .slice a' k cap' := by
    intro v' w' k ys h
    rcases h.2 with ⟨hv, h0⟩ | ⟨g, cap', cur, hv, _⟩
    · exact ⟨none, 0, by rw [hv, h0]⟩
    · exact ⟨_, cap', hv⟩
  cases ad with
  | none =>
    have hc0 := hnil rfl
    subst hc0
    have hl0 : l = [] := by
      rcases Nat.eq_zero_or_pos l.length with h | h
      · exact List.eq_nil_of_length_eq_zero h
      · obtain ⟨b, off, h, _⟩ := hB.2 h; cases h
    subst hl0
    have hm0 : m = 0 := by simpa using hm
    subst hm0
    obtain ⟨a', cap', hv⟩ := shape v w n xs hown
    subst hv
    exact ⟨a', cap', w, run_append_owned_none (P := P) (w := w) base t ty e i 1 ht hi _ n xs hown, by simpa using hown, World.grownBy.refl _ _, .inl rfl⟩
  | some x =>
    have hnews : ∀ j u, (l.map uv)[j]? = some u → w.cell? (x.add j) = some u := by
      rcases Nat.eq_zero_or_pos l.length with h | h
      · have : l = [] := List.eq_nil_of_length_eq_zero h
        subst this; intro j u hu; simp at hu
      · obtain ⟨b, off, h, hh⟩ := hB.2 h
        cases h
        intro j u hu
        have hj : j < l.length := by
          rcases Nat.lt_or_ge j l.length with h' | h'
          · exact h'
          · rw [List.getElem?_eq_none (by simpa using h')] at hu; cases hu
        rw [getD_uv hj] at hu
        cases hu
        rw [addr_add]; exact hh j hj
    obtain ⟨v', w', hr, ho, hg, _, hpl⟩ := run_append_own_at (P := P) w base t ty e i (.int .u64 0) 1 8 ht hi hz hsize hby rfl (by decide) v n xs hown x m c (l.map uv) (by simp [hm]) hnews (uv_one l) (by unfold maxLen; omega) (by omega) hbase
    obtain ⟨a', cap', hv⟩ := shape v' w' (n + m) _ ho
    subst hv
    exact ⟨a', cap', w', hr, ho, hg, hpl⟩
theorem step_appU {ops : Array Oper} {o : Oper} {a : Act} {K : Act → World → Prop} {Q : Exit → Act → World → Prop} {E : Prop} (hgd : o.guard = none) (s x : Operand) (t : TypeId)
    (ho : o.op = .call { callee := .builtin .append, args := #[s, x], argTypes := #[t, t] })
    (base : Nat) (e : TypeId) (i : TypeInfo) (ht : P.underlying t = some (.slice e)) (hi : P.info? e = some i) (hz : i.zero = some (.int .u64 0))
    (hsize : i.size = 1) (hby : i.bytes = 8) (v : Value) (n : Nat) (xs : List Value) (hs : a.eval s = v) (hown : w.ownsRow base e 1 v n xs)
    (ad : Option Addr) (m c : Nat) (l : List Nat) (hx : a.eval x = .slice ad m c) (hB : Uw w ad l) (hm : m = l.length) (hnil : ad = none → c = 0)
    (hfit : n + m ≤ 1000000) (hbase : base ≤ w.heap.size)
    (h : ∀ a' cap' w', AppU w w' base e v n m xs l a' cap' → K (a.put o.dst (.slice a' (n + m) cap')) w') :
    if Region.wanted o (yielded ops a.tmps) = true then Oper.wp P o a w K Q else E := by
  have hw : Region.wanted o (yielded ops a.tmps) = true := by simp [Region.wanted, hgd]
  rw [if_pos hw]
  obtain ⟨a', cap', w', hr, h2⟩ := run_appU (P := P) base t o.type e i ht hi hz hsize hby v n xs hown ad m c l hB hm hnil hfit hbase
  unfold Oper.wp execOp
  simp only [ho, resolve, invoke, builtin, Sem.run_bind, Sem.run_pure, Result.andThen_ok, List.map_toArray, List.map_cons, List.map_nil, hs, hx, hr]
  exact h a' cap' w' h2
end
theorem frm_appU {S : List Nat} {w w1 w2 : World} {base : Nat} {e : TypeId} {a : Option Addr} {n n' cap m : Nat} {xs : List Value} {l : List Nat} {a' : Option Addr} {cap' : Nat} (hf : Frm S w w1) (h : AppU w1 w2 base e (.slice a n' cap) n m xs l a' cap') (ha : ∀ x, a = some x → x.block ∈ S ∨ w.heap.size ≤ x.block) : Frm S w w2 :=
  hf.grown h.grown (fun k hk => by
    cases a with
    | none => simp [Value.ownBlock] at hk
    | some x => simp only [Value.ownBlock, Option.some.injEq] at hk; subst hk; exact ha x rfl)
/-- A slice of numbers. -/
def UIn (w : World) (a : Option Addr) (cap : Nat) (l : List Nat) : Prop := Uw w a l ∧ (a = none → cap = 0) ∧ l.length ≤ cap ∧ cap ≤ 9223372036854775807
theorem UIn.keep {w w' : World} {a : Option Addr} {cap : Nat} {l : List Nat} (h : UIn w a cap l) (hf : Frm [] w w') : UIn w' a cap l := ⟨h.1.keep hf, h.2⟩
/-- A call hands back rising numbers: those of S, so many at most. -/
def GotU (w : World) (S : Nat → Prop) (m : Nat) (e : Ending) (w' : World) : Prop :=
  ∃ (a' : Option Addr) (k cap' : Nat) (l' : List Nat), e = .returned (.slice a' k cap') ∧ Hid (k = l'.length) ∧ Hid (UIn w' a' cap' l') ∧ Hid (Up l' ∧ (∀ x, x ∈ l' ↔ S x)) ∧ l'.length ≤ m ∧ Hid (Frm [] w w')
end Go.Proofs.Ytghadpihmhaepaa
