/- Hear of both menders in the same words; the law's few, whatever the word. -/
import Derived.Test.YtecfoomjpjcldaaRmRes
import Derived.Test.YtecfoomjpjcldaaMdFew
namespace Go.Proofs.Ytecfoomjpjcldaa
open Go.RowKit
set_option maxRecDepth 100000
/-- Is the call out of range? -/
def hvBad (P : Nat) (pl : Int) (sr : Nat) : Bool := decide (pl < 0) || (decide ((P : Int) ≤ pl) || decide (1048576 < sr))
def hvC (P : Nat) (pl : Int) (sr : Nat) (f : Nat → Option (List Nat)) (l : List (Nat × List Nat)) : Nat := if hvBad P pl sr = true then 2 else if (joinF f l).isNone = true then 21 else 0
def hvH (P : Nat) (pl : Int) (sr : Nat) (f : Nat → Option (List Nat)) (l : List (Nat × List Nat)) (h : Nat → Bool) : Nat → Bool := if hvC P pl sr f l = 0 then hrd h pl.toNat else h
def hvS (P : Nat) (pl : Int) (sr : Nat) (f : Nat → Option (List Nat)) (l : List (Nat × List Nat)) (su : Nat) : Nat := if hvC P pl sr f l = 0 then max su sr else su
def hvF (P : Nat) (pl : Int) (sr : Nat) (f : Nat → Option (List Nat)) (l : List (Nat × List Nat)) : Nat → Option (List Nat) := if hvC P pl sr f l = 0 then (joinF f l).getD f else f
theorem hv_bad {P : Nat} {pl : Int} {sr : Nat} {f : Nat → Option (List Nat)} {l : List (Nat × List Nat)} (h : pl < 0 ∨ (P : Int) ≤ pl ∨ 1048576 < sr) : hvC P pl sr f l = 2 := by
  unfold hvC
  rw [if_pos]
  unfold hvBad
  rcases h with h | h | h <;> simp [h]
theorem hv_good {P : Nat} {pn : Nat} {sr : Nat} (hp : pn < P) (hs : sr ≤ 1048576) : hvBad P (pn : Int) sr = false := by
  unfold hvBad
  simp only [Bool.or_eq_false_iff, decide_eq_false_iff_not]
  omega
theorem hv_none {P pn sr : Nat} {f : Nat → Option (List Nat)} {l : List (Nat × List Nat)} (hp : pn < P) (hs : sr ≤ 1048576) (h : joinF f l = none) : hvC P (pn : Int) sr f l = 21 := by
  unfold hvC
  rw [hv_good hp hs, h]; rfl
theorem hv_some {P pn sr : Nat} {f f' : Nat → Option (List Nat)} {l : List (Nat × List Nat)} (hp : pn < P) (hs : sr ≤ 1048576) (h : joinF f l = some f') : hvC P (pn : Int) sr f l = 0 := by
  unfold hvC
  rw [hv_good hp hs, h]; rfl
theorem hear_v {w : World} {p : Nat} {F G : List Nat} {P W A : Nat} {h : Nat → Bool} {su : Nat} {t : Tn} (pl : Int) (sr : Nat) (a : Option Addr) (n c : Nat) (X : List Ix) (m : Md w p F P W A h su t) (hsr : sr < 18446744073709551616) (hX : IL w G a X) (hn : n = X.length) (hfit : ∀ x ∈ X, x.t.2.length ≤ 140737488355328) (hn63 : n ≤ 140737488355328) (hF : ∀ x ∈ F, x < w.heap.size) :
    Calls Try.prog 26 #[.pointer (some ⟨p, 0, none⟩), .int .i64 pl, .int .u64 (sr : Nat), .slice a n c] w fun e w' => ∃ t',
      e = .returned (.int .i64 (hvC P pl sr (atT t) (its X) : Nat)) ∧ Frm [p] w w' ∧ Md w' p F P W A (hvH P pl sr (atT t) (its X) h) (hvS P pl sr (atT t) (its X) su) t' ∧ atT t' = hvF P pl sr (atT t) (its X) ∧ (keysT t').length ≤ (keysT t).length + n := by
  refine (hear_any pl sr a n c X m hsr hX hn hfit hn63 hF).mono ?_
  rintro e w' (⟨hb, rfl, hf⟩ | ⟨pn, rfl, hp, hs, ⟨hno, rfl, hf⟩ | ⟨t', hyes, rfl, hf, hm⟩⟩)
  · unfold hvH hvS hvF
    rw [hv_bad hb]
    exact ⟨t, rfl, hf.weak (by simp), m.here hf, rfl, Nat.le_add_right _ _⟩
  · have hj : joinF (atT t) (its X) = none := by rw [← join_map, hno]; rfl
    unfold hvH hvS hvF
    rw [hv_none hp hs hj]
    exact ⟨t, rfl, hf.weak (by simp), m.here hf, rfl, Nat.le_add_right _ _⟩
  · have hj : joinF (atT t) (its X) = some (atT t') := by rw [← join_map, hyes]; rfl
    unfold hvH hvS hvF
    rw [hv_some hp hs hj, hj]
    have hk := keys_join hyes
    rw [its_length] at hk
    exact ⟨t', rfl, hf, hm, rfl, by omega⟩
theorem rmhear_v {w : World} {B p hbk : Nat} {F G : List Nat} {P W A : Nat} {h : Nat → Bool} {su : Nat} {l : List (Nat × List Nat)} (pl : Int) (sr : Nat) (a : Option Addr) (n c : Nat) (X : List Ix) (m : Rm w B p hbk F P W A h su l) (hB : B ≤ w.heap.size) (hl : l.length ≤ 16777216) (hsu : su ≤ 1048576) (hsr : sr < 18446744073709551616) (hX : IL w G a X) (hn : n = X.length) (hfit : ∀ x ∈ X, x.t.2.length ≤ 140737488355328) (hn63 : n ≤ 16777216) (hF : ∀ x ∈ F, x < w.heap.size) :
    Calls Try.prog 27 #[.pointer (some ⟨p, 0, none⟩), .int .i64 pl, .int .u64 (sr : Nat), .slice a n c] w fun e w' => ∃ l',
      e = .returned (.int .i64 (hvC P pl sr (lookN l) (its X) : Nat)) ∧ Frm [p, hbk] w w' ∧ Rm w' B p hbk F P W A (hvH P pl sr (lookN l) (its X) h) (hvS P pl sr (lookN l) (its X) su) l' ∧ lookN l' = hvF P pl sr (lookN l) (its X) ∧ l'.length ≤ l.length + n := by
  refine (rmhear_any pl sr a n c X m hB hl hsu hsr hX hn hfit hn63 hF).mono ?_
  rintro e w' (⟨hb, rfl, hf⟩ | ⟨pn, rfl, hp, hs, ⟨hno, rfl, hf⟩ | ⟨l', hyes, hle, rfl, hf, hm⟩⟩)
  · unfold hvH hvS hvF
    rw [hv_bad hb]
    exact ⟨l, rfl, hf.weak (by simp), m.here hf, rfl, Nat.le_add_right _ _⟩
  · unfold hvH hvS hvF
    rw [hv_none hp hs hno]
    exact ⟨l, rfl, hf.weak (by simp), m.here hf, rfl, Nat.le_add_right _ _⟩
  · unfold hvH hvS hvF
    rw [hv_some hp hs hyes, hyes]
    rw [its_length] at hle
    exact ⟨l', rfl, hf, hm, rfl, by omega⟩
/-- What few leaves of a word. -/
def FewU (w : World) (F : List Nat) (n : Nat) (e : Ending) (w' : World) : Prop :=
  ∃ (pl : Int) (su : Nat) (a : Option Addr) (c : Nat) (X : List Ix) (raw : Bool), e = .returned (.agg #[.int .i64 pl, .int .u64 (su : Nat), .slice a n c, .bool raw]) ∧ X.length = n ∧ su < 18446744073709551616 ∧ (∀ x ∈ X, x.t.2.length ≤ 140737488355328) ∧ IL w' F a X ∧ Frm [] w w'
set_option maxHeartbeats 8000000 in
theorem few_raw (pl : Int) (su : Nat) (la : Option Addr) (n lc : Nat) (P W A : Nat) (w : World) :
    Calls Try.prog 25 #[.agg #[.int .i64 pl, .int .u64 (su : Nat), .slice la n lc, .bool true], quV P W A] w fun e w' => e = .returned (.agg #[.int .i64 pl, .int .u64 (su : Nat), .slice la n lc, .bool true]) ∧ Frm [] w w' := by
  unfold quV
  have hwf : Hid (Whole (((w.alloc (.cells #[.int .i64 pl, .int .u64 (su : Nat), .slice la n lc, .bool true] 67)).alloc (.cells #[.int .i64 (P : Int), .int .i64 (W : Int), .int .i64 (A : Int)] 23)).alloc (.cells #[.int .i64 pl, .int .u64 (su : Nat), .slice la n lc, .bool true] 67)) (w.heap.size + 1 + 1) 67 #[.int .i64 pl, .int .u64 (su : Nat), .slice la n lc, .bool true]) := Lib.hid (by
    have := Whole.made ((w.alloc (.cells #[.int .i64 pl, .int .u64 (su : Nat), .slice la n lc, .bool true] 67)).alloc (.cells #[.int .i64 (P : Int), .int .i64 (W : Int), .int .i64 (A : Int)] 23)) 67 #[.int .i64 pl, .int .u64 (su : Nat), .slice la n lc, .bool true]
    rwa [World.size_alloc, World.size_alloc] at this)
  go_enter Try.func25, Try.ntmps25
  go_wp2
  refine bodyPost_ret (results_cell_row (P := Try.prog) rfl _ _ (w.heap.size + 1 + 1) _ _ _ _ rfl hwf.out Try.underlying67 rfl (by kernel_rfl)) rfl ?_
  exact ⟨rfl, ((((Frm.refl _ _).alloc _).alloc _).alloc _)⟩
theorem few_fitB {X X' : List Ix} (h : its X' = (its X).map fewE) : ∀ x ∈ X', x.t.2.length ≤ 140737488355328 := by
  intro x hx
  have h1 : x.t ∈ its X' := List.mem_map.2 ⟨x, hx, rfl⟩
  rw [h] at h1
  obtain ⟨y, _, hy⟩ := List.mem_map.1 h1
  rw [← hy]; simp [fewE]
theorem few_u (pl : Int) (su : Nat) (la : Option Addr) (lc : Nat) (X : List Ix) (raw : Bool) (P W A : Nat) (w : World) (F : List Nat) (hX : IL w F la X) (hP : 0 < P) (hP7 : P ≤ 7) (hsu : su < 18446744073709551616) (hl : X.length ≤ 30) (hfit : ∀ x ∈ X, x.t.2.length ≤ 140737488355328) (hF : ∀ x ∈ F, x < w.heap.size) :
    Calls Try.prog 25 #[.agg #[.int .i64 pl, .int .u64 (su : Nat), .slice la X.length lc, .bool raw], quV P W A] w (FewU w F X.length) := by
  cases raw with
  | false =>
    refine (few_any pl su la lc X P W A w F (hX.keep (Frm.refl [] _) (by simp) (by simp)) hP hP7 hsu hl hF).mono ?_
    rintro e w' ⟨a, c, X', hx, rfl, hil, hf⟩
    exact ⟨_, su % 4, a, c, X', false, rfl, by have := congrArg List.length hx; simpa [its] using this, by omega, few_fitB hx, hil, hf⟩
  | true =>
    refine (few_raw pl su la X.length lc P W A w).mono ?_
    rintro e w' ⟨rfl, hf⟩
    exact ⟨pl, su, la, lc, X, true, rfl, rfl, hsu, hfit, hX.keep hf (by simp) (fun x hx => .inl hx), hf⟩
end Go.Proofs.Ytecfoomjpjcldaa
