/- Lists of entries (a number, bytes): what they read as, rows of the call's own of them. -/
import Derived.Test.YtecfoomjpjcldaaNd
namespace Go.Proofs.Ytecfoomjpjcldaa
open Go.RowKit

/-- An entry's number, its bytes, and where they lie. -/
structure Ix where
  t : Nat × List Nat := (0, [])
  a : Option Addr := none
  c : Nat := 0
instance : Inhabited Ix := ⟨{}⟩
theorem ix_default : (default : Ix) = ⟨(0, []), none, 0⟩ := rfl
def Ix.cells (x : Ix) : List Value := [.int .u64 (x.t.1 : Nat), .slice x.a x.t.2.length x.c]
def ic (X : List Ix) : List Value := X.flatMap Ix.cells
theorem ic_append (X Y : List Ix) : ic (X ++ Y) = ic X ++ ic Y := by simp [ic]
theorem ic_cons (x : Ix) (X : List Ix) : ic (x :: X) = x.cells ++ ic X := rfl
theorem ic_length (X : List Ix) : (ic X).length = X.length * 2 := by
  induction X with
  | nil => rfl
  | cons x X ih => rw [ic_cons, List.length_append, ih, List.length_cons]; simp [Ix.cells]; omega
theorem ic_one (X : List Ix) : ∀ u ∈ ic X, u.oneCell' = true := by
  intro u hu
  unfold ic at hu
  simp only [List.mem_flatMap, Ix.cells] at hu
  obtain ⟨x, _, h⟩ := hu
  simp at h
  rcases h with h | h <;> subst h <;> rfl
theorem ic_at (X : List Ix) : ∀ i, i < X.length → (ic X)[i * 2]? = some (.int .u64 ((X.getD i default).t.1 : Nat)) ∧ (ic X)[i * 2 + 1]? = some (.slice (X.getD i default).a (X.getD i default).t.2.length (X.getD i default).c) := by
  induction X with
  | nil => intro i hi; simp at hi
  | cons x X ih =>
    intro i hi
    have e : ic (x :: X) = .int .u64 (x.t.1 : Nat) :: .slice x.a x.t.2.length x.c :: ic X := rfl
    rw [e]
    rcases i with _ | i
    · exact ⟨rfl, rfl⟩
    · have := ih i (by simpa using hi)
      have h1 : (i + 1) * 2 = i * 2 + 1 + 1 := by omega
      rw [h1]
      simpa using this
theorem ic_take (X : List Ix) (n : Nat) : ic (X.take n) = (ic X).take (n * 2) := by
  induction X generalizing n with
  | nil => simp [ic]
  | cons x X ih =>
    rcases n with _ | n
    · simp [ic]
    · rw [List.take_succ_cons, ic_cons, ic_cons, ih, show (n + 1) * 2 = x.cells.length + n * 2 by simp [Ix.cells]; omega, List.take_length_add_append]
theorem ic_drop (X : List Ix) (n : Nat) : ic (X.drop n) = (ic X).drop (n * 2) := by
  induction X generalizing n with
  | nil => simp [ic]
  | cons x X ih =>
    rcases n with _ | n
    · simp [ic]
    · rw [List.drop_succ_cons, ic_cons, ih, show (n + 1) * 2 = x.cells.length + n * 2 by simp [Ix.cells]; omega, ← List.drop_drop, List.drop_left' rfl]

/-- What an entry is known by: its bytes, outside the blocks F; numbers that fit. -/
structure IxOk (w : World) (F : List Nat) (x : Ix) : Prop where
  bytes : Bytes w x.a x.t.2
  away : x.t.2 ≠ [] → ∀ q, x.a = some q → q.block ∉ F
  nil : x.a = none → x.c = 0
  num : x.t.1 < 18446744073709551616
theorem IxOk.keep {w w' : World} {F F' S : List Nat} {x : Ix} (h : IxOk w F x) (hf : Frm S w w') (hS : ∀ x ∈ S, x ∈ F ∨ w.heap.size ≤ x) (hF : ∀ x ∈ F', x ∈ F ∨ w.heap.size ≤ x) : IxOk w' F' x := by
  refine ⟨hf.bytes' h.bytes (fun hne q hq hm => ?_), fun hne q hq hm => ?_, h.nil, h.num⟩
  · rcases hS _ hm with h1 | h1
    · exact h.away hne q hq h1
    · have := bytes_lt h.bytes hne q hq; omega
  · rcases hF _ hm with h1 | h1
    · exact h.away hne q hq h1
    · have := bytes_lt h.bytes hne q hq; omega
def IOk (w : World) (F : List Nat) (X : List Ix) : Prop := ∀ x ∈ X, IxOk w F x
theorem IOk.keep {w w' : World} {F F' S : List Nat} {X : List Ix} (h : IOk w F X) (hf : Frm S w w') (hS : ∀ x ∈ S, x ∈ F ∨ w.heap.size ≤ x) (hF : ∀ x ∈ F', x ∈ F ∨ w.heap.size ≤ x) : IOk w' F' X := fun x hx => (h x hx).keep hf hS hF
theorem IOk.append {w : World} {F : List Nat} {X Y : List Ix} (h : IOk w F X) (k : IOk w F Y) : IOk w F (X ++ Y) := fun x hx => (List.mem_append.1 hx).elim (h x) (k x)
theorem IOk.sub {w : World} {F : List Nat} {X Y : List Ix} (h : IOk w F X) (hs : ∀ x ∈ Y, x ∈ X) : IOk w F Y := fun x hx => h x (hs x hx)
theorem IOk.nil (w : World) (F : List Nat) : IOk w F [] := fun x hx => by simp at hx

/-- A slice of entries, as it reads; neither it nor a value of it lies in the blocks F. -/
structure IL (w : World) (F : List Nat) (a : Option Addr) (X : List Ix) : Prop where
  vals : ValsAt w a (ic X)
  ok : IOk w F X
  away : X ≠ [] → ∀ q, a = some q → q.block ∉ F
theorem IL.nil (w : World) (F : List Nat) (a : Option Addr) : IL w F a [] := ⟨.inl rfl, IOk.nil _ _, fun h => absurd rfl h⟩
theorem ic_ne {X : List Ix} (h : ic X ≠ []) : X ≠ [] := by rintro rfl; exact h rfl
theorem ic_ne' {X : List Ix} (h : X ≠ []) : ic X ≠ [] := by
  intro e
  have := ic_length X
  rw [e] at this
  have := List.length_pos_iff.2 h
  simp at *; omega
theorem IL.keep {w w' : World} {F F' S : List Nat} {a : Option Addr} {X : List Ix} (h : IL w F a X) (hf : Frm S w w') (hS : ∀ x ∈ S, x ∈ F ∨ w.heap.size ≤ x) (hF : ∀ x ∈ F', x ∈ F ∨ w.heap.size ≤ x) : IL w' F' a X := by
  refine ⟨h.vals.keep hf (fun hne q hq hm => ?_), h.ok.keep hf hS hF, fun hne q hq hm => ?_⟩
  · rcases hS _ hm with h1 | h1
    · exact h.away (ic_ne hne) q hq h1
    · have := vals_lt h.vals hne q hq; omega
  · rcases hF _ hm with h1 | h1
    · exact h.away hne q hq h1
    · have := vals_lt h.vals (ic_ne' hne) q hq; omega
theorem IL.at {w : World} {F : List Nat} {a : Option Addr} {X : List Ix} (h : IL w F a X) {i : Nat} (hi : i < X.length) :
    ∃ b off, a = some ⟨b, off, none⟩ ∧ w.cell? ⟨b, off + i * 2, none⟩ = some (.int .u64 ((X.getD i default).t.1 : Nat)) ∧ w.cell? ⟨b, off + i * 2 + 1, none⟩ = some (.slice (X.getD i default).a (X.getD i default).t.2.length (X.getD i default).c) ∧ IxOk w F (X.getD i default) := by
  obtain ⟨h0, h1⟩ := ic_at X i hi
  have hm : X.getD i default ∈ X := by simp [hi]
  rcases h.vals with h' | ⟨b, off, rfl, hc⟩
  · rw [h'] at h0; simp at h0
  · exact ⟨b, off, rfl, hc _ _ h0, by rw [Nat.add_assoc]; exact hc _ _ h1, h.ok _ hm⟩
theorem IL.take {w : World} {F : List Nat} {a : Option Addr} {X : List Ix} (h : IL w F a X) (n : Nat) : IL w F a (X.take n) := by
  refine ⟨?_, h.ok.sub (fun x hx => List.mem_of_mem_take hx), fun hne => h.away (by rintro rfl; simp at hne)⟩
  rw [ic_take]
  rcases h.vals with h' | ⟨b, off, rfl, hc⟩
  · exact .inl (by rw [h']; simp)
  · refine .inr ⟨b, off, rfl, fun i u hu => hc i u ?_⟩
    rw [List.getElem?_take] at hu
    split at hu
    · exact hu
    · cases hu
/-- The address of what is left of a slice of elements of two cells each. -/
def cut2 (a : Option Addr) (cap lo : Nat) : Option Addr := if cap = lo then a else a.map (·.add (lo * 2))
theorem IL.drop {w : World} {F : List Nat} {a : Option Addr} {X : List Ix} {cap : Nat} (h : IL w F a X) (hc : X.length ≤ cap) (lo : Nat) : IL w F (cut2 a cap lo) (X.drop lo) := by
  unfold cut2
  by_cases hlo : cap = lo
  · rw [if_pos hlo, List.drop_eq_nil_of_le (by omega)]; exact IL.nil _ _ _
  · rw [if_neg hlo]
    refine ⟨?_, h.ok.sub (fun x hx => List.mem_of_mem_drop hx), fun hne q hq hm => ?_⟩
    · rw [ic_drop]
      rcases h.vals with h' | ⟨b, off, rfl, hcc⟩
      · exact .inl (by rw [h']; simp)
      · refine .inr ⟨b, off + lo * 2, by simp [addr_add], fun i u hu => ?_⟩
        rw [List.getElem?_drop] at hu
        rw [Nat.add_assoc]
        exact hcc _ _ hu
    · cases a with
      | none => cases hq
      | some y =>
        simp at hq
        subst hq
        exact h.away (by rintro rfl; simp at hne) y rfl (by unfold Addr.add at hm; split at hm <;> exact hm)

/-- A row of the call's own of entries. -/
structure IOwn (w : World) (base : Nat) (e : TypeId) (F : List Nat) (a : Option Addr) (cap : Nat) (X : List Ix) : Prop where
  own : w.ownsRow base e 2 (.slice a X.length cap) X.length (ic X)
  ok : IOk w (blk a ++ F) X
  away : ∀ g ∈ blk a, g ∉ F
section
variable {w w' : World} {base : Nat} {e : TypeId} {F F' S : List Nat} {a : Option Addr} {cap : Nat} {X : List Ix}
theorem IOwn.nil (w : World) (base : Nat) (e : TypeId) (F : List Nat) : IOwn w base e F none 0 [] := ⟨World.ownsRow_nil _ _ _ _, IOk.nil _ _, by simp⟩
theorem IOwn.blk_lt (h : IOwn w base e F a cap X) : ∀ g ∈ blk a, base ≤ g ∧ g < w.heap.size := fun g hg => World.ownsRow.lt h.own g (ownBlk.2 hg)
theorem IOwn.keep (h : IOwn w base e F a cap X) (hf : Frm S w w') (hS : ∀ x ∈ S, x ∈ F ∨ w.heap.size ≤ x) (hF : ∀ x ∈ F', x ∈ F ∨ w.heap.size ≤ x) : IOwn w' base e F' a cap X := by
  have hb := h.blk_lt
  refine ⟨hf.own h.own (fun g hg hm => ?_), h.ok.keep hf (fun x hx => ?_) (fun x hx => ?_), fun g hg hm => ?_⟩
  · rcases hS g hm with h1 | h1
    · exact h.away g (ownBlk.1 hg) h1
    · have := (hb g (ownBlk.1 hg)).2; omega
  · rcases hS x hx with h1 | h1
    · exact .inl (by simp [h1])
    · exact .inr h1
  · rcases List.mem_append.1 hx with h1 | h1
    · exact .inl (by simp [h1])
    · rcases hF x h1 with h2 | h2
      · exact .inl (by simp [h2])
      · exact .inr h2
  · rcases hF g hm with h1 | h1
    · exact h.away g hg h1
    · have := (hb g hg).2; omega
theorem IOwn.il (h : IOwn w base e F a cap X) : IL w F a X := by
  refine ⟨?_, h.ok.keep (S := []) (Frm.refl _ _) (by simp) (fun x hx => .inl (by simp [hx])), fun _ q hq => h.away q.block (by rw [hq]; simp)⟩
  by_cases h0 : X = []
  · subst h0; exact .inl rfl
  · rcases h.own.2 with ⟨_, hl⟩ | ⟨g, c, cur, hv, _⟩
    · exact absurd (List.eq_nil_of_length_eq_zero hl) h0
    · simp only [Value.slice.injEq] at hv
      obtain ⟨rfl, _, rfl⟩ := hv
      refine .inr ⟨g, 0, rfl, fun i u hu => ?_⟩
      have hi : i < (ic X).length := by
        rcases Nat.lt_or_ge i (ic X).length with h' | h'
        · exact h'
        · rw [List.getElem?_eq_none h'] at hu; cases hu
      rw [ic_length] at hi
      rw [Nat.zero_add, World.ownsRow.cellAt h.own i hi]
      exact hu
theorem IOwn.caps (h : IOwn w base e F a cap X) : X.length ≤ cap ∧ cap ≤ maxLen ∧ (a = none → cap = 0) := by
  rcases h.own.2 with ⟨hv, hl⟩ | ⟨g, c, cur, hv, _, _, h1, h2, _⟩
  · simp only [Value.slice.injEq] at hv
    rw [hl, hv.2.2]; exact ⟨Nat.le_refl _, Nat.zero_le _, fun _ => rfl⟩
  · simp only [Value.slice.injEq] at hv
    obtain ⟨rfl, _, rfl⟩ := hv
    exact ⟨h1, h2, fun h => by cases h⟩
/-- What is appended lies neither in the row's block nor in F. -/
theorem IOwn.app {n m : Nat} {Y : List Ix} {a' : Option Addr} {cap' : Nat} (h : IOwn w base e F a cap X) (hn : n = X.length) (k : IOk w (blk a ++ F) Y) (hm : m = Y.length) (hF : ∀ x ∈ F, x < w.heap.size)
    (ha : AppS w w' base e 2 (.slice a n cap) n m (ic X) (ic Y) a' cap') : IOwn w' base e F a' cap' (X ++ Y) ∧ Frm (blk a) w w' ∧ (∀ g ∈ blk a', g ∈ blk a ∨ w.heap.size ≤ g) ∧ n + m = (X ++ Y).length := by
  subst hn; subst hm
  have hf : Frm (blk a) w w' := (Frm.refl _ _).grown ha.grown (fun g hg => .inl (ownBlk.1 hg))
  have hp : ∀ g ∈ blk a', g ∈ blk a ∨ w.heap.size ≤ g := by
    intro g hg
    have hg' : (Value.slice a' (X.length + Y.length) cap').ownBlock = some g := ownBlk.2 hg
    rcases ha.place with h1 | h1
    · exact .inl (ownBlk.1 (h1 ▸ hg'))
    · rw [hg'] at h1
      cases h1
      exact .inr (Nat.le_refl _)
  refine ⟨⟨?_, ?_, fun g hg hm => ?_⟩, hf, hp, by simp⟩
  · have := ha.own
    rwa [← ic_append, ← List.length_append] at this
  · refine (h.ok.append k).keep hf (fun x hx => .inl (by simp [hx])) (fun x hx => ?_)
    rcases List.mem_append.1 hx with h1 | h1
    · rcases hp x h1 with h2 | h2
      · exact .inl (by simp [h2])
      · exact .inr h2
    · exact .inl (by simp [h1])
  · rcases hp g hg with h1 | h1
    · exact h.away g h1 hm
    · have := hF g hm; omega
end
section
variable {P : Program} {t e : TypeId}
/-- 'x[lo:]' of elements of two cells. -/
theorem run_cut2 (ht : P.underlying t = some (.slice e)) (hz : ∀ w, (Go.sizeOf e).run P w = .ok 2 w) (w : World) (a : Option Addr) (n cap lo : Nat) (l : Int) (hl : l = (lo : Nat)) (h1 : lo ≤ n) :
    (Instr.slice t (.slice a n cap) (some (.int .i64 l)) none none).run P w = .ok (.slice (cut2 a cap lo) (n - lo) (cap - lo)) w := by
  subst hl
  have ht' : P.underlying t = some (.slice (P.elem t)) := by simp [Program.elem, ht]
  have he : P.elem t = e := by simp [Program.elem, ht]
  rw [run_slice_l w t _ _ _ ht' .i64 _ (by omega) (by omega), he, hz]
  simp [Result.andThen, sliced, cut2]
theorem run_head2m (ht : P.underlying t = some (.slice e)) (hz : ∀ w, (Go.sizeOf e).run P w = .ok 2 w) (w : World) (a : Option Addr) (n cap hi mx : Nat) (h2 : hi ≤ mx) (h3 : mx ≤ cap) :
    (Instr.slice t (.slice a n cap) none (some (.int .i64 (hi : Nat))) (some (.int .i64 (mx : Nat)))).run P w = .ok (.slice a hi mx) w := by
  have ht' : P.underlying t = some (.slice (P.elem t)) := by simp [Program.elem, ht]
  have he : P.elem t = e := by simp [Program.elem, ht]
  rw [run_slice_hm w t _ _ _ ht' .i64 .i64 _ _ (by omega) (by omega) (by omega), he, hz]
  have := head_map a
  simp [Result.andThen, sliced, this]
end
/-- The entries alone. -/
def its (X : List Ix) : List (Nat × List Nat) := X.map (·.t)
theorem its_length (X : List Ix) : (its X).length = X.length := by simp [its]
end Go.Proofs.Ytecfoomjpjcldaa
