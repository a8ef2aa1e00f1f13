/- Rows of Ps: what they read as, rows of the call's own of them, pieces. They speak of no program. -/
import Derived.Test.YtimmoencmmpkdaaSn
namespace Go.Proofs.Ytimmoencmmpkdaa
open Go.RowKit

/-- One. -/
structure Ps where
  l : Nat := 0
  e : Nat := 0
deriving DecidableEq
instance : Inhabited Ps := ⟨{}⟩
theorem psc_default : (default : Ps) = ⟨0, 0⟩ := rfl
def Ps.cells (x : Ps) : List Value := [.int .u64 (x.l : Nat), .int .u64 (x.e : Nat)]
def Ps.val (x : Ps) : Value := .agg #[.int .u64 (x.l : Nat), .int .u64 (x.e : Nat)]
def Ps.fits (x : Ps) : Prop := x.l < 18446744073709551616 ∧ x.e < 18446744073709551616
def psc (X : List Ps) : List Value := X.flatMap Ps.cells
theorem psc_append (X Y : List Ps) : psc (X ++ Y) = psc X ++ psc Y := by simp [psc]
theorem psc_cons (x : Ps) (X : List Ps) : psc (x :: X) = x.cells ++ psc X := rfl
theorem psc_length (X : List Ps) : (psc X).length = X.length * 2 := by
  induction X with
  | nil => rfl
  | cons x X ih => rw [psc_cons, List.length_append, ih, List.length_cons]; simp [Ps.cells]; omega
theorem psc_one (X : List Ps) : ∀ u ∈ psc X, u.oneCell' = true := by
  intro u hu
  unfold psc at hu
  simp only [List.mem_flatMap, Ps.cells] at hu
  obtain ⟨x, _, h⟩ := hu
  simp at h
  rcases h with h | h <;> subst h <;> rfl
theorem psc_at (X : List Ps) : ∀ i, i < X.length → (psc X)[i * 2]? = some (.int .u64 ((X.getD i default).l : Nat)) ∧ (psc X)[i * 2 + 1]? = some (.int .u64 ((X.getD i default).e : Nat)) := by
  induction X with
  | nil => intro i hi; simp at hi
  | cons x X ih =>
    intro i hi
    have e : psc (x :: X) = .int .u64 (x.l : Nat) :: .int .u64 (x.e : Nat) :: psc X := rfl
    rw [e]
    rcases i with _ | i
    · exact ⟨rfl, rfl⟩
    · have := ih i (by simpa using hi)
      have h1 : (i + 1) * 2 = i * 2 + 1 + 1 := by omega
      rw [h1]
      simpa using this
theorem psc_take (X : List Ps) (n : Nat) : psc (X.take n) = (psc X).take (n * 2) := by
  induction X generalizing n with
  | nil => simp [psc]
  | cons x X ih =>
    rcases n with _ | n
    · simp [psc]
    · rw [List.take_succ_cons, psc_cons, psc_cons, ih, show (n + 1) * 2 = x.cells.length + n * 2 by simp [Ps.cells]; omega, List.take_length_add_append]
theorem psc_drop (X : List Ps) (n : Nat) : psc (X.drop n) = (psc X).drop (n * 2) := by
  induction X generalizing n with
  | nil => simp [psc]
  | cons x X ih =>
    rcases n with _ | n
    · simp [psc]
    · rw [List.drop_succ_cons, psc_cons, ih, show (n + 1) * 2 = x.cells.length + n * 2 by simp [Ps.cells]; omega, ← List.drop_drop, List.drop_left' rfl]
theorem psc_ne {X : List Ps} (h : psc X ≠ []) : X ≠ [] := by rintro rfl; exact h rfl
theorem psc_ne' {X : List Ps} (h : X ≠ []) : psc X ≠ [] := by
  intro e
  have := psc_length X
  rw [e] at this
  have := List.length_pos_iff.2 h
  simp at *; omega

/-- A slice of sessions, as it reads; it lies outside the blocks F. -/
structure PsL (w : World) (F : List Nat) (a : Option Addr) (X : List Ps) : Prop where
  vals : ValsAt w a (psc X)
  fits : ∀ x ∈ X, x.fits
  away : X ≠ [] → ∀ q, a = some q → q.block ∉ F
theorem PsL.nil (w : World) (F : List Nat) (a : Option Addr) : PsL w F a [] := ⟨.inl rfl, by simp, fun h => absurd rfl h⟩
theorem PsL.keep {w w' : World} {F F' S : List Nat} {a : Option Addr} {X : List Ps} (h : PsL w F a X) (hf : Frm S w w') (hS : ∀ x ∈ S, x ∈ F ∨ w.heap.size ≤ x) (hF : ∀ x ∈ F', x ∈ F ∨ w.heap.size ≤ x) : PsL w' F' a X := by
  refine ⟨h.vals.keep hf (fun hne q hq hm => ?_), h.fits, fun hne q hq hm => ?_⟩
  · rcases hS _ hm with h1 | h1
    · exact h.away (psc_ne hne) q hq h1
    · have := valsAt_lt h.vals hne q hq; omega
  · rcases hF _ hm with h1 | h1
    · exact h.away hne q hq h1
    · have := valsAt_lt h.vals (psc_ne' hne) q hq; omega
theorem PsL.at {w : World} {F : List Nat} {a : Option Addr} {X : List Ps} (h : PsL w F a X) {i : Nat} (hi : i < X.length) :
    ∃ b off, a = some ⟨b, off, none⟩ ∧ w.cell? ⟨b, off + i * 2, none⟩ = some (.int .u64 ((X.getD i default).l : Nat)) ∧ w.cell? ⟨b, off + i * 2 + 1, none⟩ = some (.int .u64 ((X.getD i default).e : Nat)) ∧ (X.getD i default).fits := by
  obtain ⟨h0, h1⟩ := psc_at X i hi
  have hm : X.getD i default ∈ X := by simp [hi]
  rcases h.vals with h' | ⟨b, off, rfl, hc⟩
  · rw [h'] at h0; simp at h0
  · exact ⟨b, off, rfl, hc _ _ h0, by rw [Nat.add_assoc]; exact hc _ _ h1, h.fits _ hm⟩
theorem PsL.take {w : World} {F : List Nat} {a : Option Addr} {X : List Ps} (h : PsL w F a X) (n : Nat) : PsL w F a (X.take n) := by
  refine ⟨?_, fun x hx => h.fits x (List.mem_of_mem_take hx), fun hne => h.away (by rintro rfl; simp at hne)⟩
  rw [psc_take]
  rcases h.vals with h' | ⟨b, off, rfl, hc⟩
  · exact .inl (by rw [h']; simp)
  · refine .inr ⟨b, off, rfl, fun i u hu => hc i u ?_⟩
    rw [List.getElem?_take] at hu
    split at hu
    · exact hu
    · cases hu
/-- A row of the call's own of sessions. -/
structure PsOwn (w : World) (base : Nat) (e : TypeId) (F : List Nat) (a : Option Addr) (cap : Nat) (X : List Ps) : Prop where
  own : w.ownsRow base e 2 (.slice a X.length cap) X.length (psc X)
  fits : ∀ x ∈ X, x.fits
  away : ∀ g ∈ blk a, g ∉ F
section
variable {w w' : World} {base : Nat} {e : TypeId} {F F' S : List Nat} {a : Option Addr} {cap : Nat} {X : List Ps}
theorem PsOwn.nil (w : World) (base : Nat) (e : TypeId) (F : List Nat) : PsOwn w base e F none 0 [] := ⟨World.ownsRow_nil _ _ _ _, by simp, by simp⟩
theorem PsOwn.blk_lt (h : PsOwn w base e F a cap X) : ∀ g ∈ blk a, base ≤ g ∧ g < w.heap.size := fun g hg => World.ownsRow.lt h.own g (ownBlk3.2 hg)
theorem PsOwn.keep (h : PsOwn w base e F a cap X) (hf : Frm S w w') (hS : ∀ x ∈ S, x ∈ F ∨ w.heap.size ≤ x) (hF : ∀ x ∈ F', x ∈ F ∨ w.heap.size ≤ x) : PsOwn w' base e F' a cap X := by
  have hb := h.blk_lt
  refine ⟨hf.own h.own (fun g hg hm => ?_), h.fits, fun g hg hm => ?_⟩
  · rcases hS g hm with h1 | h1
    · exact h.away g (ownBlk3.1 hg) h1
    · have := (hb g (ownBlk3.1 hg)).2; omega
  · rcases hF g hm with h1 | h1
    · exact h.away g hg h1
    · have := (hb g hg).2; omega
theorem PsOwn.sl (h : PsOwn w base e F a cap X) : PsL w F a X := ⟨own_vals h.own, h.fits, fun _ q hq => h.away q.block (by rw [hq]; simp)⟩
theorem PsOwn.caps (h : PsOwn w base e F a cap X) : X.length ≤ cap ∧ cap ≤ maxLen ∧ (a = none → cap = 0) := by
  rcases h.own.2 with ⟨hv, hl⟩ | ⟨g, c, cur, hv, _, _, h1, h2, _⟩
  · simp only [Value.slice.injEq] at hv
    rw [hl, hv.2.2]; exact ⟨Nat.le_refl _, Nat.zero_le _, fun _ => rfl⟩
  · simp only [Value.slice.injEq] at hv
    obtain ⟨rfl, _, rfl⟩ := hv
    exact ⟨h1, h2, fun h => by cases h⟩
/-- What is appended. -/
theorem PsOwn.app {n m : Nat} {Y : List Ps} {a' : Option Addr} {cap' : Nat} (h : PsOwn w base e F a cap X) (hn : n = X.length) (k : ∀ y ∈ Y, y.fits) (hm : m = Y.length) (hF : ∀ x ∈ F, x < w.heap.size)
    (ha : AppS w w' base e 2 (.slice a n cap) n m (psc X) (psc Y) a' cap') : PsOwn w' base e F a' cap' (X ++ Y) ∧ Frm (blk a) w w' ∧ (∀ g ∈ blk a', g ∈ blk a ∨ w.heap.size ≤ g) ∧ n + m = (X ++ Y).length := by
  subst hn; subst hm
  have hf : Frm (blk a) w w' := (Frm.refl _ _).grown ha.grown (fun g hg => .inl (ownBlk3.1 hg))
  have hp : ∀ g ∈ blk a', g ∈ blk a ∨ w.heap.size ≤ g := by
    intro g hg
    have hg' : (Value.slice a' (X.length + Y.length) cap').ownBlock = some g := ownBlk3.2 hg
    rcases ha.place with h1 | h1
    · exact .inl (ownBlk3.1 (h1 ▸ hg'))
    · rw [hg'] at h1
      cases h1
      exact .inr (Nat.le_refl _)
  refine ⟨⟨?_, fun x hx => (List.mem_append.1 hx).elim (h.fits x) (k x), fun g hg hm => ?_⟩, hf, hp, by simp⟩
  · have := ha.own
    rwa [← psc_append, ← List.length_append] at this
  · rcases hp g hg with h1 | h1
    · exact h.away g h1 hm
    · have := hF g hm; omega
end
theorem PsL.sub {w : World} {F : List Nat} {a : Option Addr} {X : List Ps} (h : PsL w F a X) {w' : World} (hf : Frm [] w w') : PsL w' F a X := h.keep hf (by simp) (fun x hx => .inl hx)
theorem pscvals_one (w : World) (x : Ps) (t : TypeId) : ValsAt (w.alloc (.cells #[.int .u64 (x.l : Nat), .int .u64 (x.e : Nat)] t)) (some ⟨w.heap.size, 0, none⟩) (psc [x]) := by
  refine .inr ⟨_, _, rfl, fun i u hu => ?_⟩
  rw [(Whole.made w t _).cell, Nat.zero_add]
  simp only [psc, List.flatMap_cons, List.flatMap_nil, List.append_nil, Ps.cells] at hu
  rw [← hu]
  simp
end Go.Proofs.Ytimmoencmmpkdaa
