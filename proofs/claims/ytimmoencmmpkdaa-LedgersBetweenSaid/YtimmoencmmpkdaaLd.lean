/- Rows of Ld: what they read as, rows of the call's own of them, pieces. They speak of no program. -/
import Derived.Test.YtimmoencmmpkdaaSn
namespace Go.Proofs.Ytimmoencmmpkdaa
open Go.RowKit

/-- One. -/
structure Ld where
  id : Nat := 0
  cl : Bool := false
  n : Nat := 0
deriving DecidableEq
instance : Inhabited Ld := ⟨{}⟩
theorem ldc_default : (default : Ld) = ⟨0, false, 0⟩ := rfl
def Ld.cells (x : Ld) : List Value := [.int .u64 (x.id : Nat), .bool x.cl, .int .u64 (x.n : Nat)]
def Ld.val (x : Ld) : Value := .agg #[.int .u64 (x.id : Nat), .bool x.cl, .int .u64 (x.n : Nat)]
def Ld.fits (x : Ld) : Prop := x.id < 18446744073709551616 ∧ x.n < 18446744073709551616
def ldc (X : List Ld) : List Value := X.flatMap Ld.cells
theorem ldc_append (X Y : List Ld) : ldc (X ++ Y) = ldc X ++ ldc Y := by simp [ldc]
theorem ldc_cons (x : Ld) (X : List Ld) : ldc (x :: X) = x.cells ++ ldc X := rfl
theorem ldc_length (X : List Ld) : (ldc X).length = X.length * 3 := by
  induction X with
  | nil => rfl
  | cons x X ih => rw [ldc_cons, List.length_append, ih, List.length_cons]; simp [Ld.cells]; omega
theorem ldc_one (X : List Ld) : ∀ u ∈ ldc X, u.oneCell' = true := by
  intro u hu
  unfold ldc at hu
  simp only [List.mem_flatMap, Ld.cells] at hu
  obtain ⟨x, _, h⟩ := hu
  simp at h
  rcases h with h | h | h <;> subst h <;> rfl
theorem ldc_at (X : List Ld) : ∀ i, i < X.length → (ldc X)[i * 3]? = some (.int .u64 ((X.getD i default).id : Nat)) ∧ (ldc X)[i * 3 + 1]? = some (.bool (X.getD i default).cl) ∧ (ldc X)[i * 3 + 2]? = some (.int .u64 ((X.getD i default).n : Nat)) := by
  induction X with
  | nil => intro i hi; simp at hi
  | cons x X ih =>
    intro i hi
    have e : ldc (x :: X) = .int .u64 (x.id : Nat) :: .bool x.cl :: .int .u64 (x.n : Nat) :: ldc X := rfl
    rw [e]
    rcases i with _ | i
    · exact ⟨rfl, rfl, rfl⟩
    · have := ih i (by simpa using hi)
      have h1 : (i + 1) * 3 = i * 3 + 1 + 1 + 1 := by omega
      rw [h1]
      simpa using this
theorem ldc_take (X : List Ld) (n : Nat) : ldc (X.take n) = (ldc X).take (n * 3) := by
  induction X generalizing n with
  | nil => simp [ldc]
  | cons x X ih =>
    rcases n with _ | n
    · simp [ldc]
    · rw [List.take_succ_cons, ldc_cons, ldc_cons, ih, show (n + 1) * 3 = x.cells.length + n * 3 by simp [Ld.cells]; omega, List.take_length_add_append]
theorem ldc_drop (X : List Ld) (n : Nat) : ldc (X.drop n) = (ldc X).drop (n * 3) := by
  induction X generalizing n with
  | nil => simp [ldc]
  | cons x X ih =>
    rcases n with _ | n
    · simp [ldc]
    · rw [List.drop_succ_cons, ldc_cons, ih, show (n + 1) * 3 = x.cells.length + n * 3 by simp [Ld.cells]; omega, ← List.drop_drop, List.drop_left' rfl]
theorem ldc_ne {X : List Ld} (h : ldc X ≠ []) : X ≠ [] := by rintro rfl; exact h rfl
theorem ldc_ne' {X : List Ld} (h : X ≠ []) : ldc X ≠ [] := by
  intro e
  have := ldc_length X
  rw [e] at this
  have := List.length_pos_iff.2 h
  simp at *; omega

/-- A slice of sessions, as it reads; it lies outside the blocks F. -/
structure LdL (w : World) (F : List Nat) (a : Option Addr) (X : List Ld) : Prop where
  vals : ValsAt w a (ldc X)
  fits : ∀ x ∈ X, x.fits
  away : X ≠ [] → ∀ q, a = some q → q.block ∉ F
theorem LdL.nil (w : World) (F : List Nat) (a : Option Addr) : LdL w F a [] := ⟨.inl rfl, by simp, fun h => absurd rfl h⟩
theorem LdL.keep {w w' : World} {F F' S : List Nat} {a : Option Addr} {X : List Ld} (h : LdL w F a X) (hf : Frm S w w') (hS : ∀ x ∈ S, x ∈ F ∨ w.heap.size ≤ x) (hF : ∀ x ∈ F', x ∈ F ∨ w.heap.size ≤ x) : LdL w' F' a X := by
  refine ⟨h.vals.keep hf (fun hne q hq hm => ?_), h.fits, fun hne q hq hm => ?_⟩
  · rcases hS _ hm with h1 | h1
    · exact h.away (ldc_ne hne) q hq h1
    · have := valsAt_lt h.vals hne q hq; omega
  · rcases hF _ hm with h1 | h1
    · exact h.away hne q hq h1
    · have := valsAt_lt h.vals (ldc_ne' hne) q hq; omega
theorem LdL.at {w : World} {F : List Nat} {a : Option Addr} {X : List Ld} (h : LdL w F a X) {i : Nat} (hi : i < X.length) :
    ∃ b off, a = some ⟨b, off, none⟩ ∧ w.cell? ⟨b, off + i * 3, none⟩ = some (.int .u64 ((X.getD i default).id : Nat)) ∧ w.cell? ⟨b, off + i * 3 + 1, none⟩ = some (.bool (X.getD i default).cl) ∧ w.cell? ⟨b, off + i * 3 + 2, none⟩ = some (.int .u64 ((X.getD i default).n : Nat)) ∧ (X.getD i default).fits := by
  obtain ⟨h0, h1, h2⟩ := ldc_at X i hi
  have hm : X.getD i default ∈ X := by simp [hi]
  rcases h.vals with h' | ⟨b, off, rfl, hc⟩
  · rw [h'] at h0; simp at h0
  · exact ⟨b, off, rfl, hc _ _ h0, by rw [Nat.add_assoc]; exact hc _ _ h1, by rw [Nat.add_assoc]; exact hc _ _ h2, h.fits _ hm⟩
theorem LdL.take {w : World} {F : List Nat} {a : Option Addr} {X : List Ld} (h : LdL w F a X) (n : Nat) : LdL w F a (X.take n) := by
  refine ⟨?_, fun x hx => h.fits x (List.mem_of_mem_take hx), fun hne => h.away (by rintro rfl; simp at hne)⟩
  rw [ldc_take]
  rcases h.vals with h' | ⟨b, off, rfl, hc⟩
  · exact .inl (by rw [h']; simp)
  · refine .inr ⟨b, off, rfl, fun i u hu => hc i u ?_⟩
    rw [List.getElem?_take] at hu
    split at hu
    · exact hu
    · cases hu
theorem LdL.drop {w : World} {F : List Nat} {a : Option Addr} {X : List Ld} {cap : Nat} (h : LdL w F a X) (hc : X.length ≤ cap) (lo : Nat) : LdL w F (cut3 a cap lo) (X.drop lo) := by
  unfold cut3
  by_cases hlo : cap = lo
  · rw [if_pos hlo, List.drop_eq_nil_of_le (by omega)]; exact LdL.nil _ _ _
  · rw [if_neg hlo]
    refine ⟨?_, fun x hx => h.fits x (List.mem_of_mem_drop hx), fun hne q hq hm => ?_⟩
    · rw [ldc_drop]
      rcases h.vals with h' | ⟨b, off, rfl, hcc⟩
      · exact .inl (by rw [h']; simp)
      · refine .inr ⟨b, off + lo * 3, by simp [addr_add], fun i u hu => ?_⟩
        rw [List.getElem?_drop] at hu
        rw [Nat.add_assoc]
        exact hcc _ _ hu
    · cases a with
      | none => cases hq
      | some y =>
        simp at hq
        subst hq
        exact h.away (by rintro rfl; simp at hne) y rfl (by unfold Addr.add at hm; split at hm <;> exact hm)
/-- A row of the call's own of sessions. -/
structure LdOwn (w : World) (base : Nat) (e : TypeId) (F : List Nat) (a : Option Addr) (cap : Nat) (X : List Ld) : Prop where
  own : w.ownsRow base e 3 (.slice a X.length cap) X.length (ldc X)
  fits : ∀ x ∈ X, x.fits
  away : ∀ g ∈ blk a, g ∉ F
section
variable {w w' : World} {base : Nat} {e : TypeId} {F F' S : List Nat} {a : Option Addr} {cap : Nat} {X : List Ld}
theorem LdOwn.nil (w : World) (base : Nat) (e : TypeId) (F : List Nat) : LdOwn w base e F none 0 [] := ⟨World.ownsRow_nil _ _ _ _, by simp, by simp⟩
theorem LdOwn.blk_lt (h : LdOwn w base e F a cap X) : ∀ g ∈ blk a, base ≤ g ∧ g < w.heap.size := fun g hg => World.ownsRow.lt h.own g (ownBlk3.2 hg)
theorem LdOwn.keep (h : LdOwn w base e F a cap X) (hf : Frm S w w') (hS : ∀ x ∈ S, x ∈ F ∨ w.heap.size ≤ x) (hF : ∀ x ∈ F', x ∈ F ∨ w.heap.size ≤ x) : LdOwn w' base e F' a cap X := by
  have hb := h.blk_lt
  refine ⟨hf.own h.own (fun g hg hm => ?_), h.fits, fun g hg hm => ?_⟩
  · rcases hS g hm with h1 | h1
    · exact h.away g (ownBlk3.1 hg) h1
    · have := (hb g (ownBlk3.1 hg)).2; omega
  · rcases hF g hm with h1 | h1
    · exact h.away g hg h1
    · have := (hb g hg).2; omega
theorem LdOwn.sl (h : LdOwn w base e F a cap X) : LdL w F a X := ⟨own_vals h.own, h.fits, fun _ q hq => h.away q.block (by rw [hq]; simp)⟩
theorem LdOwn.caps (h : LdOwn w base e F a cap X) : X.length ≤ cap ∧ cap ≤ maxLen ∧ (a = none → cap = 0) := by
  rcases h.own.2 with ⟨hv, hl⟩ | ⟨g, c, cur, hv, _, _, h1, h2, _⟩
  · simp only [Value.slice.injEq] at hv
    rw [hl, hv.2.2]; exact ⟨Nat.le_refl _, Nat.zero_le _, fun _ => rfl⟩
  · simp only [Value.slice.injEq] at hv
    obtain ⟨rfl, _, rfl⟩ := hv
    exact ⟨h1, h2, fun h => by cases h⟩
/-- What is appended. -/
theorem LdOwn.app {n m : Nat} {Y : List Ld} {a' : Option Addr} {cap' : Nat} (h : LdOwn w base e F a cap X) (hn : n = X.length) (k : ∀ y ∈ Y, y.fits) (hm : m = Y.length) (hF : ∀ x ∈ F, x < w.heap.size)
    (ha : AppS w w' base e 3 (.slice a n cap) n m (ldc X) (ldc Y) a' cap') : LdOwn w' base e F a' cap' (X ++ Y) ∧ Frm (blk a) w w' ∧ (∀ g ∈ blk a', g ∈ blk a ∨ w.heap.size ≤ g) ∧ n + m = (X ++ Y).length := by
  subst hn; subst hm
  have hf : Frm (blk a) w w' := (Frm.refl _ _).grown ha.grown (fun g hg => .inl (ownBlk3.1 hg))
  have hp : ∀ g ∈ blk a', g ∈ blk a ∨ w.heap.size ≤ g := by
    intro g hg
    have hg' : (Value.slice a' (X.length + Y.length) cap').ownBlock = some g := ownBlk3.2 hg
    rcases ha.place with h1 | h1
    · exact .inl (ownBlk3.1 (h1 ▸ hg'))
    · rw [hg'] at h1
      cases h1
      exact .inr (Nat.le_refl _)
  refine ⟨⟨?_, fun x hx => (List.mem_append.1 hx).elim (h.fits x) (k x), fun g hg hm => ?_⟩, hf, hp, by simp⟩
  · have := ha.own
    rwa [← ldc_append, ← List.length_append] at this
  · rcases hp g hg with h1 | h1
    · exact h.away g h1 hm
    · have := hF g hm; omega
end
theorem LdL.sub {w : World} {F : List Nat} {a : Option Addr} {X : List Ld} (h : LdL w F a X) {w' : World} (hf : Frm [] w w') : LdL w' F a X := h.keep hf (by simp) (fun x hx => .inl hx)
theorem ldcvals_one (w : World) (x : Ld) (t : TypeId) : ValsAt (w.alloc (.cells #[.int .u64 (x.id : Nat), .bool x.cl, .int .u64 (x.n : Nat)] t)) (some ⟨w.heap.size, 0, none⟩) (ldc [x]) := by
  refine .inr ⟨_, _, rfl, fun i u hu => ?_⟩
  rw [(Whole.made w t _).cell, Nat.zero_add]
  simp only [ldc, List.flatMap_cons, List.flatMap_nil, List.append_nil, Ld.cells] at hu
  rw [← hu]
  simp
end Go.Proofs.Ytimmoencmmpkdaa
