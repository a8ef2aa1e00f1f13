/- Lists of sessions (an Id, an end, a life): what they read as, rows of the call's own of them, pieces. They speak of no program. (For stage 7.) -/
import Derived.Test.YtbdgmpfdcmmfhaaDoorElems
import Derived.Test.YtbdgmpfdcmmfhaaDoorOwnVals
namespace Go.Proofs.YtbdgmpfdcmmfhaaDoor
open Go.RowKit

/-- A session. -/
structure Sn where
  id : Nat := 0
  ends : Nat := 0
  life : Nat := 0
instance : Inhabited Sn := ⟨{}⟩
theorem sn_default : (default : Sn) = ⟨0, 0, 0⟩ := rfl
def Sn.cells (x : Sn) : List Value := [.int .u64 (x.id : Nat), .int .u64 (x.ends : Nat), .int .u64 (x.life : Nat)]
def Sn.val (x : Sn) : Value := .agg #[.int .u64 (x.id : Nat), .int .u64 (x.ends : Nat), .int .u64 (x.life : Nat)]
def Sn.fits (x : Sn) : Prop := x.id < 18446744073709551616 ∧ x.ends < 18446744073709551616 ∧ x.life < 18446744073709551616
def snc (X : List Sn) : List Value := X.flatMap Sn.cells
theorem snc_append (X Y : List Sn) : snc (X ++ Y) = snc X ++ snc Y := by simp [snc]
theorem snc_cons (x : Sn) (X : List Sn) : snc (x :: X) = x.cells ++ snc X := rfl
theorem snc_length (X : List Sn) : (snc X).length = X.length * 3 := by
  induction X with
  | nil => rfl
  | cons x X ih => rw [snc_cons, List.length_append, ih, List.length_cons]; simp [Sn.cells]; omega
theorem snc_one (X : List Sn) : ∀ u ∈ snc X, u.oneCell' = true := by
  intro u hu
  unfold snc at hu
  simp only [List.mem_flatMap, Sn.cells] at hu
  obtain ⟨x, _, h⟩ := hu
  simp at h
  rcases h with h | h | h <;> subst h <;> rfl
theorem snc_at (X : List Sn) : ∀ i, i < X.length → (snc X)[i * 3]? = some (.int .u64 ((X.getD i default).id : Nat)) ∧ (snc X)[i * 3 + 1]? = some (.int .u64 ((X.getD i default).ends : Nat)) ∧ (snc X)[i * 3 + 2]? = some (.int .u64 ((X.getD i default).life : Nat)) := by
  induction X with
  | nil => intro i hi; simp at hi
  | cons x X ih =>
    intro i hi
    have e : snc (x :: X) = .int .u64 (x.id : Nat) :: .int .u64 (x.ends : Nat) :: .int .u64 (x.life : Nat) :: snc X := rfl
    rw [e]
    rcases i with _ | i
    · exact ⟨rfl, rfl, rfl⟩
    · have := ih i (by simpa using hi)
      have h1 : (i + 1) * 3 = i * 3 + 1 + 1 + 1 := by omega
      rw [h1]
      simpa using this
theorem snc_take (X : List Sn) (n : Nat) : snc (X.take n) = (snc X).take (n * 3) := by
  induction X generalizing n with
  | nil => simp [snc]
  | cons x X ih =>
    rcases n with _ | n
    · simp [snc]
    · rw [List.take_succ_cons, snc_cons, snc_cons, ih, show (n + 1) * 3 = x.cells.length + n * 3 by simp [Sn.cells]; omega, List.take_length_add_append]
theorem snc_drop (X : List Sn) (n : Nat) : snc (X.drop n) = (snc X).drop (n * 3) := by
  induction X generalizing n with
  | nil => simp [snc]
  | cons x X ih =>
    rcases n with _ | n
    · simp [snc]
    · rw [List.drop_succ_cons, snc_cons, ih, show (n + 1) * 3 = x.cells.length + n * 3 by simp [Sn.cells]; omega, ← List.drop_drop, List.drop_left' rfl]
theorem snc_ne {X : List Sn} (h : snc X ≠ []) : X ≠ [] := by rintro rfl; exact h rfl
theorem snc_ne' {X : List Sn} (h : X ≠ []) : snc X ≠ [] := by
  intro e
  have := snc_length X
  rw [e] at this
  have := List.length_pos_iff.2 h
  simp at *; omega

/-- A slice of sessions, as it reads; it lies outside the blocks F. -/
structure SL (w : World) (F : List Nat) (a : Option Addr) (X : List Sn) : Prop where
  vals : ValsAt w a (snc X)
  fits : ∀ x ∈ X, x.fits
  away : X ≠ [] → ∀ q, a = some q → q.block ∉ F
theorem SL.nil (w : World) (F : List Nat) (a : Option Addr) : SL w F a [] := ⟨.inl rfl, by simp, fun h => absurd rfl h⟩
theorem valsAt_lt {w : World} {a : Option Addr} {us : List Value} (h : ValsAt w a us) (hne : us ≠ []) : ∀ q, a = some q → q.block < w.heap.size := by
  intro q hq
  rcases h with h | ⟨b, off, rfl, hc⟩
  · exact absurd h hne
  · cases hq
    cases us with
    | nil => exact absurd rfl hne
    | cons v vs => exact block_lt_of_cell (a := ⟨b, off + 0, none⟩) (hc 0 v rfl)
theorem SL.keep {w w' : World} {F F' S : List Nat} {a : Option Addr} {X : List Sn} (h : SL w F a X) (hf : Frm S w w') (hS : ∀ x ∈ S, x ∈ F ∨ w.heap.size ≤ x) (hF : ∀ x ∈ F', x ∈ F ∨ w.heap.size ≤ x) : SL w' F' a X := by
  refine ⟨h.vals.keep hf (fun hne q hq hm => ?_), h.fits, fun hne q hq hm => ?_⟩
  · rcases hS _ hm with h1 | h1
    · exact h.away (snc_ne hne) q hq h1
    · have := valsAt_lt h.vals hne q hq; omega
  · rcases hF _ hm with h1 | h1
    · exact h.away hne q hq h1
    · have := valsAt_lt h.vals (snc_ne' hne) q hq; omega
theorem SL.at {w : World} {F : List Nat} {a : Option Addr} {X : List Sn} (h : SL w F a X) {i : Nat} (hi : i < X.length) :
    ∃ b off, a = some ⟨b, off, none⟩ ∧ w.cell? ⟨b, off + i * 3, none⟩ = some (.int .u64 ((X.getD i default).id : Nat)) ∧ w.cell? ⟨b, off + i * 3 + 1, none⟩ = some (.int .u64 ((X.getD i default).ends : Nat)) ∧
      w.cell? ⟨b, off + i * 3 + 2, none⟩ = some (.int .u64 ((X.getD i default).life : Nat)) ∧ (X.getD i default).fits := by
  obtain ⟨h0, h1, h2⟩ := snc_at X i hi
  have hm : X.getD i default ∈ X := by simp [hi]
  rcases h.vals with h' | ⟨b, off, rfl, hc⟩
  · rw [h'] at h0; simp at h0
  · exact ⟨b, off, rfl, hc _ _ h0, by rw [Nat.add_assoc]; exact hc _ _ h1, by rw [Nat.add_assoc]; exact hc _ _ h2, h.fits _ hm⟩
theorem SL.take {w : World} {F : List Nat} {a : Option Addr} {X : List Sn} (h : SL w F a X) (n : Nat) : SL w F a (X.take n) := by
  refine ⟨?_, fun x hx => h.fits x (List.mem_of_mem_take hx), fun hne => h.away (by rintro rfl; simp at hne)⟩
  rw [snc_take]
  rcases h.vals with h' | ⟨b, off, rfl, hc⟩
  · exact .inl (by rw [h']; simp)
  · refine .inr ⟨b, off, rfl, fun i u hu => hc i u ?_⟩
    rw [List.getElem?_take] at hu
    split at hu
    · exact hu
    · cases hu
/-- The address of what is left of a slice of elements of three cells each. -/
def cut3 (a : Option Addr) (cap lo : Nat) : Option Addr := if cap = lo then a else a.map (·.add (lo * 3))
theorem SL.drop {w : World} {F : List Nat} {a : Option Addr} {X : List Sn} {cap : Nat} (h : SL w F a X) (hc : X.length ≤ cap) (lo : Nat) : SL w F (cut3 a cap lo) (X.drop lo) := by
  unfold cut3
  by_cases hlo : cap = lo
  · rw [if_pos hlo, List.drop_eq_nil_of_le (by omega)]; exact SL.nil _ _ _
  · rw [if_neg hlo]
    refine ⟨?_, fun x hx => h.fits x (List.mem_of_mem_drop hx), fun hne q hq hm => ?_⟩
    · rw [snc_drop]
      rcases h.vals with h' | ⟨b, off, rfl, hcc⟩
      · exact .inl (by rw [h']; simp)
      · refine .inr ⟨b, off + lo * 3, by simp [addr_add], fun i u hu => ?_⟩
        rw [List.getElem?_drop] at hu
        rw [Nat.add_assoc]
        exact hcc _ _ hu
    · cases a with
      | none => cases hq
      | some y =>
        simp at hq
        subst hq
        exact h.away (by rintro rfl; simp at hne) y rfl (by unfold Addr.add at hm; split at hm <;> exact hm)
/-- A row of the call's own of sessions. -/
structure SOwn (w : World) (base : Nat) (e : TypeId) (F : List Nat) (a : Option Addr) (cap : Nat) (X : List Sn) : Prop where
  own : w.ownsRow base e 3 (.slice a X.length cap) X.length (snc X)
  fits : ∀ x ∈ X, x.fits
  away : ∀ g ∈ blk a, g ∉ F
section
variable {w w' : World} {base : Nat} {e : TypeId} {F F' S : List Nat} {a : Option Addr} {cap : Nat} {X : List Sn}
theorem SOwn.nil (w : World) (base : Nat) (e : TypeId) (F : List Nat) : SOwn w base e F none 0 [] := ⟨World.ownsRow_nil _ _ _ _, by simp, by simp⟩
theorem ownBlk3 {a : Option Addr} {n c g : Nat} : (Value.slice a n c).ownBlock = some g ↔ g ∈ blk a := by cases a <;> simp [Value.ownBlock, eq_comm]
theorem SOwn.blk_lt (h : SOwn w base e F a cap X) : ∀ g ∈ blk a, base ≤ g ∧ g < w.heap.size := fun g hg => World.ownsRow.lt h.own g (ownBlk3.2 hg)
theorem SOwn.keep (h : SOwn w base e F a cap X) (hf : Frm S w w') (hS : ∀ x ∈ S, x ∈ F ∨ w.heap.size ≤ x) (hF : ∀ x ∈ F', x ∈ F ∨ w.heap.size ≤ x) : SOwn w' base e F' a cap X := by
  have hb := h.blk_lt
  refine ⟨hf.own h.own (fun g hg hm => ?_), h.fits, fun g hg hm => ?_⟩
  · rcases hS g hm with h1 | h1
    · exact h.away g (ownBlk3.1 hg) h1
    · have := (hb g (ownBlk3.1 hg)).2; omega
  · rcases hF g hm with h1 | h1
    · exact h.away g hg h1
    · have := (hb g hg).2; omega
theorem SOwn.sl (h : SOwn w base e F a cap X) : SL w F a X := ⟨own_vals h.own, h.fits, fun _ q hq => h.away q.block (by rw [hq]; simp)⟩
theorem SOwn.caps (h : SOwn w base e F a cap X) : X.length ≤ cap ∧ cap ≤ maxLen ∧ (a = none → cap = 0) := by
  rcases h.own.2 with ⟨hv, hl⟩ | ⟨g, c, cur, hv, _, _, h1, h2, _⟩
  · simp only [Value.slice.injEq] at hv
    rw [hl, hv.2.2]; exact ⟨Nat.le_refl _, Nat.zero_le _, fun _ => rfl⟩
  · simp only [Value.slice.injEq] at hv
    obtain ⟨rfl, _, rfl⟩ := hv
    exact ⟨h1, h2, fun h => by cases h⟩
/-- What is appended. -/
theorem SOwn.app {n m : Nat} {Y : List Sn} {a' : Option Addr} {cap' : Nat} (h : SOwn w base e F a cap X) (hn : n = X.length) (k : ∀ y ∈ Y, y.fits) (hm : m = Y.length) (hF : ∀ x ∈ F, x < w.heap.size)
    (ha : AppS w w' base e 3 (.slice a n cap) n m (snc X) (snc Y) a' cap') : SOwn w' base e F a' cap' (X ++ Y) ∧ Frm (blk a) w w' ∧ (∀ g ∈ blk a', g ∈ blk a ∨ w.heap.size ≤ g) ∧ n + m = (X ++ Y).length := by
  subst hn; subst hm
  have hf : Frm (blk a) w w' := (Frm.refl _ _).grown ha.grown (fun g hg => .inl (ownBlk3.1 hg))
  have hp : ∀ g ∈ blk a', g ∈ blk a ∨ w.heap.size ≤ g := by
    intro g hg
    have hg' : (Value.slice a' (X.length + Y.length) cap').ownBlock = some g := ownBlk3.2 hg
    rcases ha.place with h1 | h1
    · exact .inl (ownBlk3.1 (h1 ▸ hg'))
    · rw [hg'] at h1
      cases h1
      exact .inr (Nat.le_refl _)
  refine ⟨⟨?_, fun x hx => (List.mem_append.1 hx).elim (h.fits x) (k x), fun g hg hm => ?_⟩, hf, hp, by simp⟩
  · have := ha.own
    rwa [← snc_append, ← List.length_append] at this
  · rcases hp g hg with h1 | h1
    · exact h.away g h1 hm
    · have := hF g hm; omega
end
section
variable {P : Program} {t e : TypeId}
/-- 'x[lo:]' of elements of three cells. -/
theorem run_cut3 (ht : P.underlying t = some (.slice e)) (hz : ∀ w, (Go.sizeOf e).run P w = .ok 3 w) (w : World) (a : Option Addr) (n cap lo : Nat) (l : Int) (hl : l = (lo : Nat)) (h1 : lo ≤ n) :
    (Instr.slice t (.slice a n cap) (some (.int .i64 l)) none none).run P w = .ok (.slice (cut3 a cap lo) (n - lo) (cap - lo)) w := by
  subst hl
  have ht' : P.underlying t = some (.slice (P.elem t)) := by simp [Program.elem, ht]
  have he : P.elem t = e := by simp [Program.elem, ht]
  rw [run_slice_l w t _ _ _ ht' .i64 _ (by omega) (by omega), he, hz]
  simp [Result.andThen, sliced, cut3]
theorem run_head3 (ht : P.underlying t = some (.slice e)) (hz : ∀ w, (Go.sizeOf e).run P w = .ok 3 w) (w : World) (a : Option Addr) (n cap hi : Nat) (h2 : hi ≤ cap) :
    (Instr.slice t (.slice a n cap) none (some (.int .i64 (hi : Nat))) none).run P w = .ok (.slice a hi cap) w := by
  have ht' : P.underlying t = some (.slice (P.elem t)) := by simp [Program.elem, ht]
  have he : P.elem t = e := by simp [Program.elem, ht]
  rw [run_slice_h w t _ _ _ ht' .i64 _ (by omega) (by omega), he, hz]
  have := head_map a
  simp [Result.andThen, sliced, this]
end
theorem snvals_one (w : World) (x : Sn) (t : TypeId) : ValsAt (w.alloc (.cells #[.int .u64 (x.id : Nat), .int .u64 (x.ends : Nat), .int .u64 (x.life : Nat)] t)) (some ⟨w.heap.size, 0, none⟩) (snc [x]) := by
  refine .inr ⟨_, _, rfl, fun i u hu => ?_⟩
  rw [(Whole.made w t _).cell, Nat.zero_add]
  simp only [snc, List.flatMap_cons, List.flatMap_nil, List.append_nil, Sn.cells] at hu
  rw [← hu]
  simp

/-- The document's Book in plain words: at most 2^64 - 1; a session's place. -/
def sumU (a b : Nat) : Nat := if a + b < 18446744073709551616 then a + b else 18446744073709551615
def atS (X : List Sn) (id : Nat) : Nat := X.findIdx (fun x => decide (x.id = id))
theorem atS_le (X : List Sn) (id : Nat) : atS X id ≤ X.length := List.findIdx_le_length
theorem atS_at {X : List Sn} {id : Nat} (h : atS X id < X.length) : (X.getD (atS X id) default).id = id := by
  have h1 := List.findIdx_getElem (p := fun x : Sn => decide (x.id = id)) (w := h)
  have e : X.getD (atS X id) default = X[atS X id] := by simp [h]
  rw [e]
  exact of_decide_eq_true h1
theorem atS_before {X : List Sn} {id j : Nat} (h : j < atS X id) : (X.getD j default).id ≠ id := by
  have hj : j < X.length := Nat.lt_of_lt_of_le h (atS_le X id)
  have := List.not_of_lt_findIdx h
  have e : X.getD j default = X[j] := by simp [hj]
  rw [e]
  simpa using this
end Go.Proofs.YtbdgmpfdcmmfhaaDoor
