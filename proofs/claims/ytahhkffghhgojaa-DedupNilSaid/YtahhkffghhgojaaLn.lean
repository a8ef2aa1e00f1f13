/- Rows of Ln: what they read as, rows of the call's own of them, pieces. They speak of no program. -/
import Derived.Test.YtahhkffghhgojaaSn
namespace Go.Proofs.Ytahhkffghhgojaa
open Go.RowKit

/-- One. -/
structure Ln where
  nm : ByteArray := ⟨#[]⟩
  top : Nat := 0
  done : Nat := 0
  l : Nat := 0
  e : Nat := 0
deriving DecidableEq
instance : Inhabited Ln := ⟨{}⟩
theorem lnc_default : (default : Ln) = ⟨⟨#[]⟩, 0, 0, 0, 0⟩ := rfl
def Ln.cells (x : Ln) : List Value := [.string x.nm, .int .u64 (x.top : Nat), .int .u64 (x.done : Nat), .int .u64 (x.l : Nat), .int .u64 (x.e : Nat)]
def Ln.val (x : Ln) : Value := .agg #[.string x.nm, .int .u64 (x.top : Nat), .int .u64 (x.done : Nat), .int .u64 (x.l : Nat), .int .u64 (x.e : Nat)]
def Ln.fits (x : Ln) : Prop := x.top < 18446744073709551616 ∧ x.done < 18446744073709551616 ∧ x.l < 18446744073709551616 ∧ x.e < 18446744073709551616
def lnc (X : List Ln) : List Value := X.flatMap Ln.cells
theorem lnc_append (X Y : List Ln) : lnc (X ++ Y) = lnc X ++ lnc Y := by simp [lnc]
theorem lnc_cons (x : Ln) (X : List Ln) : lnc (x :: X) = x.cells ++ lnc X := rfl
theorem lnc_length (X : List Ln) : (lnc X).length = X.length * 5 := by
  induction X with
  | nil => rfl
  | cons x X ih => rw [lnc_cons, List.length_append, ih, List.length_cons]; simp [Ln.cells]; omega
theorem lnc_one (X : List Ln) : ∀ u ∈ lnc X, u.oneCell' = true := by
  intro u hu
  unfold lnc at hu
  simp only [List.mem_flatMap, Ln.cells] at hu
  obtain ⟨x, _, h⟩ := hu
  simp at h
  rcases h with h | h | h | h | h <;> subst h <;> rfl
theorem lnc_at (X : List Ln) : ∀ i, i < X.length → (lnc X)[i * 5]? = some (.string (X.getD i default).nm) ∧ (lnc X)[i * 5 + 1]? = some (.int .u64 ((X.getD i default).top : Nat)) ∧ (lnc X)[i * 5 + 2]? = some (.int .u64 ((X.getD i default).done : Nat)) ∧ (lnc X)[i * 5 + 3]? = some (.int .u64 ((X.getD i default).l : Nat)) ∧ (lnc X)[i * 5 + 4]? = some (.int .u64 ((X.getD i default).e : Nat)) := by
  induction X with
  | nil => intro i hi; simp at hi
  | cons x X ih =>
    intro i hi
    have e : lnc (x :: X) = .string x.nm :: .int .u64 (x.top : Nat) :: .int .u64 (x.done : Nat) :: .int .u64 (x.l : Nat) :: .int .u64 (x.e : Nat) :: lnc X := rfl
    rw [e]
    rcases i with _ | i
    · exact ⟨rfl, rfl, rfl, rfl, rfl⟩
    · have := ih i (by simpa using hi)
      have h1 : (i + 1) * 5 = i * 5 + 1 + 1 + 1 + 1 + 1 := by omega
      rw [h1]
      simpa using this
theorem lnc_take (X : List Ln) (n : Nat) : lnc (X.take n) = (lnc X).take (n * 5) := by
  induction X generalizing n with
  | nil => simp [lnc]
  | cons x X ih =>
    rcases n with _ | n
    · simp [lnc]
    · rw [List.take_succ_cons, lnc_cons, lnc_cons, ih, show (n + 1) * 5 = x.cells.length + n * 5 by simp [Ln.cells]; omega, List.take_length_add_append]
theorem lnc_drop (X : List Ln) (n : Nat) : lnc (X.drop n) = (lnc X).drop (n * 5) := by
  induction X generalizing n with
  | nil => simp [lnc]
  | cons x X ih =>
    rcases n with _ | n
    · simp [lnc]
    · rw [List.drop_succ_cons, lnc_cons, ih, show (n + 1) * 5 = x.cells.length + n * 5 by simp [Ln.cells]; omega, ← List.drop_drop, List.drop_left' rfl]
theorem lnc_ne {X : List Ln} (h : lnc X ≠ []) : X ≠ [] := by rintro rfl; exact h rfl
theorem lnc_ne' {X : List Ln} (h : X ≠ []) : lnc X ≠ [] := by
  intro e
  have := lnc_length X
  rw [e] at this
  have := List.length_pos_iff.2 h
  simp at *; omega

/-- A slice of sessions, as it reads; it lies outside the blocks F. -/
structure LnL (w : World) (F : List Nat) (a : Option Addr) (X : List Ln) : Prop where
  vals : ValsAt w a (lnc X)
  fits : ∀ x ∈ X, x.fits
  away : X ≠ [] → ∀ q, a = some q → q.block ∉ F
theorem LnL.nil (w : World) (F : List Nat) (a : Option Addr) : LnL w F a [] := ⟨.inl rfl, by simp, fun h => absurd rfl h⟩
theorem LnL.keep {w w' : World} {F F' S : List Nat} {a : Option Addr} {X : List Ln} (h : LnL w F a X) (hf : Frm S w w') (hS : ∀ x ∈ S, x ∈ F ∨ w.heap.size ≤ x) (hF : ∀ x ∈ F', x ∈ F ∨ w.heap.size ≤ x) : LnL w' F' a X := by
  refine ⟨h.vals.keep hf (fun hne q hq hm => ?_), h.fits, fun hne q hq hm => ?_⟩
  · rcases hS _ hm with h1 | h1
    · exact h.away (lnc_ne hne) q hq h1
    · have := valsAt_lt h.vals hne q hq; omega
  · rcases hF _ hm with h1 | h1
    · exact h.away hne q hq h1
    · have := valsAt_lt h.vals (lnc_ne' hne) q hq; omega
theorem LnL.at {w : World} {F : List Nat} {a : Option Addr} {X : List Ln} (h : LnL w F a X) {i : Nat} (hi : i < X.length) :
    ∃ b off, a = some ⟨b, off, none⟩ ∧ w.cell? ⟨b, off + i * 5, none⟩ = some (.string (X.getD i default).nm) ∧ w.cell? ⟨b, off + i * 5 + 1, none⟩ = some (.int .u64 ((X.getD i default).top : Nat)) ∧ w.cell? ⟨b, off + i * 5 + 2, none⟩ = some (.int .u64 ((X.getD i default).done : Nat)) ∧ w.cell? ⟨b, off + i * 5 + 3, none⟩ = some (.int .u64 ((X.getD i default).l : Nat)) ∧ w.cell? ⟨b, off + i * 5 + 4, none⟩ = some (.int .u64 ((X.getD i default).e : Nat)) ∧ (X.getD i default).fits := by
  obtain ⟨h0, h1, h2, h3, h4⟩ := lnc_at X i hi
  have hm : X.getD i default ∈ X := by simp [hi]
  rcases h.vals with h' | ⟨b, off, rfl, hc⟩
  · rw [h'] at h0; simp at h0
  · exact ⟨b, off, rfl, hc _ _ h0, by rw [Nat.add_assoc]; exact hc _ _ h1, by rw [Nat.add_assoc]; exact hc _ _ h2, by rw [Nat.add_assoc]; exact hc _ _ h3, by rw [Nat.add_assoc]; exact hc _ _ h4, h.fits _ hm⟩
theorem LnL.take {w : World} {F : List Nat} {a : Option Addr} {X : List Ln} (h : LnL w F a X) (n : Nat) : LnL w F a (X.take n) := by
  refine ⟨?_, fun x hx => h.fits x (List.mem_of_mem_take hx), fun hne => h.away (by rintro rfl; simp at hne)⟩
  rw [lnc_take]
  rcases h.vals with h' | ⟨b, off, rfl, hc⟩
  · exact .inl (by rw [h']; simp)
  · refine .inr ⟨b, off, rfl, fun i u hu => hc i u ?_⟩
    rw [List.getElem?_take] at hu
    split at hu
    · exact hu
    · cases hu
/-- A row of the call's own of sessions. -/
structure LnOwn (w : World) (base : Nat) (e : TypeId) (F : List Nat) (a : Option Addr) (cap : Nat) (X : List Ln) : Prop where
  own : w.ownsRow base e 5 (.slice a X.length cap) X.length (lnc X)
  fits : ∀ x ∈ X, x.fits
  away : ∀ g ∈ blk a, g ∉ F
section
variable {w w' : World} {base : Nat} {e : TypeId} {F F' S : List Nat} {a : Option Addr} {cap : Nat} {X : List Ln}
theorem LnOwn.nil (w : World) (base : Nat) (e : TypeId) (F : List Nat) : LnOwn w base e F none 0 [] := ⟨World.ownsRow_nil _ _ _ _, by simp, by simp⟩
theorem LnOwn.blk_lt (h : LnOwn w base e F a cap X) : ∀ g ∈ blk a, base ≤ g ∧ g < w.heap.size := fun g hg => World.ownsRow.lt h.own g (ownBlk3.2 hg)
theorem LnOwn.keep (h : LnOwn w base e F a cap X) (hf : Frm S w w') (hS : ∀ x ∈ S, x ∈ F ∨ w.heap.size ≤ x) (hF : ∀ x ∈ F', x ∈ F ∨ w.heap.size ≤ x) : LnOwn w' base e F' a cap X := by
  have hb := h.blk_lt
  refine ⟨hf.own h.own (fun g hg hm => ?_), h.fits, fun g hg hm => ?_⟩
  · rcases hS g hm with h1 | h1
    · exact h.away g (ownBlk3.1 hg) h1
    · have := (hb g (ownBlk3.1 hg)).2; omega
  · rcases hF g hm with h1 | h1
    · exact h.away g hg h1
    · have := (hb g hg).2; omega
theorem LnOwn.sl (h : LnOwn w base e F a cap X) : LnL w F a X := ⟨own_vals h.own, h.fits, fun _ q hq => h.away q.block (by rw [hq]; simp)⟩
theorem LnOwn.caps (h : LnOwn w base e F a cap X) : X.length ≤ cap ∧ cap ≤ maxLen ∧ (a = none → cap = 0) := by
  rcases h.own.2 with ⟨hv, hl⟩ | ⟨g, c, cur, hv, _, _, h1, h2, _⟩
  · simp only [Value.slice.injEq] at hv
    rw [hl, hv.2.2]; exact ⟨Nat.le_refl _, Nat.zero_le _, fun _ => rfl⟩
  · simp only [Value.slice.injEq] at hv
    obtain ⟨rfl, _, rfl⟩ := hv
    exact ⟨h1, h2, fun h => by cases h⟩
/-- What is appended. -/
theorem LnOwn.app {n m : Nat} {Y : List Ln} {a' : Option Addr} {cap' : Nat} (h : LnOwn w base e F a cap X) (hn : n = X.length) (k : ∀ y ∈ Y, y.fits) (hm : m = Y.length) (hF : ∀ x ∈ F, x < w.heap.size)
    (ha : AppS w w' base e 5 (.slice a n cap) n m (lnc X) (lnc Y) a' cap') : LnOwn w' base e F a' cap' (X ++ Y) ∧ Frm (blk a) w w' ∧ (∀ g ∈ blk a', g ∈ blk a ∨ w.heap.size ≤ g) ∧ n + m = (X ++ Y).length := by
  subst hn; subst hm
  have hf : Frm (blk a) w w' := (Frm.refl _ _).grown ha.grown (fun g hg => .inl (ownBlk3.1 hg))
  have hp : ∀ g ∈ blk a', g ∈ blk a ∨ w.heap.size ≤ g := by
    intro g hg
    have hg' : (Value.slice a' (X.length + Y.length) cap').ownBlock = some g := ownBlk3.2 hg
    rcases ha.place with h1 | h1
    · exact .inl (ownBlk3.1 (h1 ▸ hg'))
    · rw [hg'] at h1
      cases h1
      exact .inr (Nat.le_refl _)
  refine ⟨⟨?_, fun x hx => (List.mem_append.1 hx).elim (h.fits x) (k x), fun g hg hm => ?_⟩, hf, hp, by simp⟩
  · have := ha.own
    rwa [← lnc_append, ← List.length_append] at this
  · rcases hp g hg with h1 | h1
    · exact h.away g h1 hm
    · have := hF g hm; omega
end
theorem LnL.sub {w : World} {F : List Nat} {a : Option Addr} {X : List Ln} (h : LnL w F a X) {w' : World} (hf : Frm [] w w') : LnL w' F a X := h.keep hf (by simp) (fun x hx => .inl hx)
theorem lncvals_one (w : World) (x : Ln) (t : TypeId) : ValsAt (w.alloc (.cells #[.string x.nm, .int .u64 (x.top : Nat), .int .u64 (x.done : Nat), .int .u64 (x.l : Nat), .int .u64 (x.e : Nat)] t)) (some ⟨w.heap.size, 0, none⟩) (lnc [x]) := by
  refine .inr ⟨_, _, rfl, fun i u hu => ?_⟩
  rw [(Whole.made w t _).cell, Nat.zero_add]
  simp only [lnc, List.flatMap_cons, List.flatMap_nil, List.append_nil, Ln.cells] at hu
  rw [← hu]
  simp
end Go.Proofs.Ytahhkffghhgojaa
