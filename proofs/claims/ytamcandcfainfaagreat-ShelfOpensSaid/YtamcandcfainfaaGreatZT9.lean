/- Both storage nodes, the program's and the document's (T9). -/
import Derived.Test.YtamcandcfainfaaGreatMX
import Derived.Test.YtamcandcfainfaaGreatZRdAdd
namespace Go.Proofs.YtamcandcfainfaaGreat
open Go.RowKit
set_option maxRecDepth 100000
/-- The blocks that are new from w to w'. -/
def nwB (w w' : World) : List Nat := (List.range w'.heap.size).filter fun x => decide (w.heap.size ≤ x)
theorem mem_nwB {w w' : World} {x : Nat} : x ∈ nwB w w' ↔ w.heap.size ≤ x ∧ x < w'.heap.size := by
  unfold nwB
  rw [List.mem_filter, List.mem_range, decide_eq_true_iff]
  exact And.comm
/-- The program's node at p on the disk dp is S1, its disk has the bytes l1; the document's at q with its disk at m is S2, l2. The program's writes to no block of D, the document's to none of G; each block is one of these. The blocks Z are of both. -/
def T9 (w0 w : World) (Z : List Nat) (p dp q m room : Nat) (S1 : Nd9) (l1 : List Nat) (S2 : Nd9) (l2 : List Nat) (mm : Nat) : Prop :=
  ∃ D G W, Nv w0 w D p dp S1 l1 room ∧ Rd w w0.heap.size G W q m S2 l2 room mm ∧ (∀ x ∈ W, x ∈ D) ∧ (∀ x, x < w.heap.size → x ∈ D ∨ x ∈ G) ∧ (∀ x ∈ G, x < w.heap.size) ∧ ∀ z ∈ Z, z ∈ D ∧ z ∈ G
section
variable {w0 w w' : World} {Z Z' : List Nat} {p dp q m room : Nat} {S1 S2 S' : Nd9} {l1 l2 l' : List Nat} {mm : Nat}
theorem T9.frm (h : T9 w0 w Z p dp q m room S1 l1 S2 l2 mm) : Frm [] w0 w := by obtain ⟨D, G, W, h1, _⟩ := h; exact h1.frm
theorem T9.more {m' : Nat} (h : T9 w0 w Z p dp q m room S1 l1 S2 l2 mm) (hm : mm ≤ m') : T9 w0 w Z p dp q m room S1 l1 S2 l2 m' := by
  obtain ⟨D, G, W, h1, h2, h3⟩ := h
  exact ⟨D, G, W, h1, h2.more hm, h3⟩
theorem T9.less (h : T9 w0 w Z p dp q m room S1 l1 S2 l2 mm) (hZ : ∀ x ∈ Z', x ∈ Z) : T9 w0 w Z' p dp q m room S1 l1 S2 l2 mm := by
  obtain ⟨D, G, W, h1, h2, h3, h4, h5, h6⟩ := h
  exact ⟨D, G, W, h1, h2, h3, h4, h5, fun z hz => h6 z (hZ z hz)⟩
/-- Nothing of both is written, but blocks of both are turned; what is new may be of both. -/
theorem T9.turn {T : List Nat} (h : T9 w0 w Z p dp q m room S1 l1 S2 l2 mm) (hf : Frm T w w') (hT : ∀ x ∈ T, x ∈ Z ∧ w0.heap.size ≤ x) (hZ : ∀ x ∈ Z', x ∈ Z ∨ (w.heap.size ≤ x ∧ x < w'.heap.size)) : T9 w0 w' Z' p dp q m room S1 l1 S2 l2 mm := by
  obtain ⟨D, G, W, h1, h2, h3, h4, h5, h6⟩ := h
  refine ⟨D ++ nwB w w', G ++ nwB w w', W, h1.keep hf (fun x hx => ⟨.inl (h6 x (hT x hx).1).1, (hT x hx).2⟩) (fun x hx => ?_) (fun x hx => ?_), h2.keep hf (fun x hx => .inl (h6 x (hT x hx).1).2) (fun x hx => ?_), fun x hx => List.mem_append_left _ (h3 x hx), fun x hx => ?_, fun x hx => ?_, fun z hz => ?_⟩
  · rcases List.mem_append.1 hx with h | h
    · exact .inl h
    · exact .inr (mem_nwB.1 h).1
  · rcases List.mem_append.1 hx with h | h
    · exact Nat.lt_of_lt_of_le (h1.low x h) hf.size
    · exact (mem_nwB.1 h).2
  · rcases List.mem_append.1 hx with h | h
    · exact .inl h
    · exact .inr (mem_nwB.1 h).1
  · by_cases hlt : x < w.heap.size
    · exact (h4 x hlt).imp (List.mem_append_left _) (List.mem_append_left _)
    · exact .inl (List.mem_append_right _ (mem_nwB.2 ⟨by omega, hx⟩))
  · rcases List.mem_append.1 hx with h | h
    · exact Nat.lt_of_lt_of_le (h5 x h) hf.size
    · exact (mem_nwB.1 h).2
  · rcases hZ z hz with h | h
    · exact ⟨List.mem_append_left _ (h6 z h).1, List.mem_append_left _ (h6 z h).2⟩
    · exact ⟨List.mem_append_right _ (mem_nwB.2 h), List.mem_append_right _ (mem_nwB.2 h)⟩
/-- Nothing of both is written; what is new may be of both. -/
theorem T9.here (h : T9 w0 w Z p dp q m room S1 l1 S2 l2 mm) (hf : Frm [] w w') (hZ : ∀ x ∈ Z', x ∈ Z ∨ (w.heap.size ≤ x ∧ x < w'.heap.size)) : T9 w0 w' Z' p dp q m room S1 l1 S2 l2 mm := h.turn hf (by simp) hZ
theorem T9.same (h : T9 w0 w Z p dp q m room S1 l1 S2 l2 mm) (hf : Frm [] w w') : T9 w0 w' Z p dp q m room S1 l1 S2 l2 mm := h.here hf (fun _ hx => .inl hx)
theorem Off.trans {w1 w2 : World} (h : Off w0 w w1 Z) (k : Off w0 w1 w2 Z) : Off w0 w w2 Z := by
  obtain ⟨T, hf, hT⟩ := h
  obtain ⟨U, kf, kT⟩ := k
  exact ⟨T ++ U, hf.trans kf (fun x hx => List.mem_append_left _ hx) (fun x hx => .inl (List.mem_append_right _ hx)), fun y hy => (List.mem_append.1 hy).elim (hT y) (kT y)⟩
theorem Off.sub {w1 : World} {Y : List Nat} (h : Off w0 w w1 Y) (hZ : ∀ z ∈ Z, z ∈ Y) : Off w0 w w1 Z := by
  obtain ⟨T, hf, hT⟩ := h
  exact ⟨T, hf, fun y hy => ⟨fun hm => (hT y hy).1 (hZ y hm), (hT y hy).2⟩⟩
/-- A call of the program's. -/
theorem T9.prog {D G W : List Nat} (h2 : Rd w w0.heap.size G W q m S2 l2 room mm) (h3 : ∀ x ∈ W, x ∈ D) (h4 : ∀ x, x < w.heap.size → x ∈ D ∨ x ∈ G) (h5 : ∀ x ∈ G, x < w.heap.size) (h6 : ∀ z ∈ Z, z ∈ D ∧ z ∈ G) (hn : Nv w0 w' D p dp S' l' room) (ho : Off w0 w w' D) : T9 w0 w' Z p dp q m room S' l' S2 l2 mm ∧ Off w0 w w' Z := by
  refine ⟨?_, ho.sub (fun z hz => (h6 z hz).1)⟩
  obtain ⟨T, hf, hT⟩ := ho
  refine ⟨D, G ++ nwB w w', W, hn, h2.keep hf (fun x hx => ?_) (fun x hx => ?_), h3, fun x hx => ?_, fun x hx => ?_, fun z hz => ⟨(h6 z hz).1, List.mem_append_left _ (h6 z hz).2⟩⟩
  · by_cases hlt : x < w.heap.size
    · exact .inl ((h4 x hlt).resolve_left (hT x hx).1)
    · exact .inr (by omega)
  · rcases List.mem_append.1 hx with h | h
    · exact .inl h
    · exact .inr (mem_nwB.1 h).1
  · by_cases hlt : x < w.heap.size
    · exact (h4 x hlt).imp id (List.mem_append_left _)
    · exact .inr (List.mem_append_right _ (mem_nwB.2 ⟨by omega, hx⟩))
  · rcases List.mem_append.1 hx with h | h
    · exact Nat.lt_of_lt_of_le (h5 x h) hf.size
    · exact (mem_nwB.1 h).2
/-! The program's calls. -/
/-! The document's calls. -/
/-- The program's disk behind a crash, and the document's node. -/
def Td9 (w0 w : World) (Z : List Nat) (dp q m room : Nat) (S : Nd9) (l : List Nat) (S2 : Nd9) (l2 : List Nat) (mm : Nat) : Prop :=
  ∃ D G W Fd : List Nat, Dk w w0.heap.size dp Fd l l.length room ∧ (∀ x ∈ Fd, x ∉ D) ∧ Frm [] w0 w ∧ (recN l = l.length ∧ sayAll nd0 (recs l) = some S) ∧ (∀ y ∈ D, y < w.heap.size) ∧ Rd w w0.heap.size G W q m S2 l2 room mm ∧ (∀ x ∈ W, x ∈ D) ∧ (∀ x, x < w.heap.size → x ∈ D ∨ x ∈ G) ∧ (∀ x ∈ G, x < w.heap.size) ∧ ∀ z ∈ Z, z ∈ D ∧ z ∈ G
end
end Go.Proofs.YtamcandcfainfaaGreat
