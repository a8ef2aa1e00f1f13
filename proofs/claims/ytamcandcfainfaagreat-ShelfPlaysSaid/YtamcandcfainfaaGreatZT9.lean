/- Both storage nodes, the program's and the document's (T9). -/
import Derived.Test.YtamcandcfainfaaGreatZRdAdd
import Derived.Test.YtamcandcfainfaaGreatME
namespace Go.Proofs.YtamcandcfainfaaGreat
open Go.RowKit
set_option maxRecDepth 100000
/-- The blocks that are new from w to w'. -/
def nwB (w w' : World) : List Nat := (List.range w'.heap.size).filter fun x => decide (w.heap.size ≤ x)
theorem mem_nwB {w w' : World} {x : Nat} : x ∈ nwB w w' ↔ w.heap.size ≤ x ∧ x < w'.heap.size := by
  unfold nwB
  rw [List.mem_filter, List.mem_range, decide_eq_true_iff]
  exact And.comm
/-- The program's node at p on the disk dp is S1, its disk has the bytes l1; the document's at q with its disk at m is S2, l2. The program's writes to no block of D, the document's to none of G; each block is one of these. The blocks Z are of both. -/
def T9 (w0 w : World) (Z : List Nat) (p dp q m room : Nat) (S1 : Nd9) (l1 : List Nat) (S2 : Nd9) (l2 : List Nat) (mm : Nat) : Prop :=
  ∃ D G W, Nv w0 w D p dp S1 l1 room ∧ Rd w w0.heap.size G W q m S2 l2 room mm ∧ (∀ x ∈ W, x ∈ D) ∧ (∀ x, x < w.heap.size → x ∈ D ∨ x ∈ G) ∧ (∀ x ∈ G, x < w.heap.size) ∧ ∀ z ∈ Z, z ∈ D ∧ z ∈ G
section
variable {w0 w w' : World} {Z Z' : List Nat} {p dp q m room : Nat} {S1 S2 S' : Nd9} {l1 l2 l' : List Nat} {mm : Nat}
theorem T9.frm (h : T9 w0 w Z p dp q m room S1 l1 S2 l2 mm) : Frm [] w0 w := by obtain ⟨D, G, W, h1, _⟩ := h; exact h1.frm
theorem T9.more {m' : Nat} (h : T9 w0 w Z p dp q m room S1 l1 S2 l2 mm) (hm : mm ≤ m') : T9 w0 w Z p dp q m room S1 l1 S2 l2 m' := by
  obtain ⟨D, G, W, h1, h2, h3⟩ := h
  exact ⟨D, G, W, h1, h2.more hm, h3⟩
theorem T9.less (h : T9 w0 w Z p dp q m room S1 l1 S2 l2 mm) (hZ : ∀ x ∈ Z', x ∈ Z) : T9 w0 w Z' p dp q m room S1 l1 S2 l2 mm := by
  obtain ⟨D, G, W, h1, h2, h3, h4, h5, h6⟩ := h
  exact ⟨D, G, W, h1, h2, h3, h4, h5, fun z hz => h6 z (hZ z hz)⟩
/-- Nothing of both is written, but blocks of both are turned; what is new may be of both. -/
theorem T9.turn {T : List Nat} (h : T9 w0 w Z p dp q m room S1 l1 S2 l2 mm) (hf : Frm T w w') (hT : ∀ x ∈ T, x ∈ Z ∧ w0.heap.size ≤ x) (hZ : ∀ x ∈ Z', x ∈ Z ∨ (w.heap.size ≤ x ∧ x < w'.heap.size)) : T9 w0 w' Z' p dp q m room S1 l1 S2 l2 mm := by
  obtain ⟨D, G, W, h1, h2, h3, h4, h5, h6⟩ := h
  refine ⟨D ++ nwB w w', G ++ nwB w w', W, h1.keep hf (fun x hx => ⟨.inl (h6 x (hT x hx).1).1, (hT x hx).2⟩) (fun x hx => ?_) (fun x hx => ?_), h2.keep hf (fun x hx => .inl (h6 x (hT x hx).1).2) (fun x hx => ?_), fun x hx => List.mem_append_left _ (h3 x hx), fun x hx => ?_, fun x hx => ?_, fun z hz => ?_⟩
  · rcases List.mem_append.1 hx with h | h
    · exact .inl h
    · exact .inr (mem_nwB.1 h).1
  · rcases List.mem_append.1 hx with h | h
    · exact Nat.lt_of_lt_of_le (h1.low x h) hf.size
    · exact (mem_nwB.1 h).2
  · rcases List.mem_append.1 hx with h | h
    · exact .inl h
    · exact .inr (mem_nwB.1 h).1
  · by_cases hlt : x < w.heap.size
    · exact (h4 x hlt).imp (List.mem_append_left _) (List.mem_append_left _)
    · exact .inl (List.mem_append_right _ (mem_nwB.2 ⟨by omega, hx⟩))
  · rcases List.mem_append.1 hx with h | h
    · exact Nat.lt_of_lt_of_le (h5 x h) hf.size
    · exact (mem_nwB.1 h).2
  · rcases hZ z hz with h | h
    · exact ⟨List.mem_append_left _ (h6 z h).1, List.mem_append_left _ (h6 z h).2⟩
    · exact ⟨List.mem_append_right _ (mem_nwB.2 h), List.mem_append_right _ (mem_nwB.2 h)⟩
/-- Nothing of both is written; what is new may be of both. -/
theorem T9.here (h : T9 w0 w Z p dp q m room S1 l1 S2 l2 mm) (hf : Frm [] w w') (hZ : ∀ x ∈ Z', x ∈ Z ∨ (w.heap.size ≤ x ∧ x < w'.heap.size)) : T9 w0 w' Z' p dp q m room S1 l1 S2 l2 mm := h.turn hf (by simp) hZ
theorem T9.same (h : T9 w0 w Z p dp q m room S1 l1 S2 l2 mm) (hf : Frm [] w w') : T9 w0 w' Z p dp q m room S1 l1 S2 l2 mm := h.here hf (fun _ hx => .inl hx)
theorem Off.trans {w1 w2 : World} (h : Off w0 w w1 Z) (k : Off w0 w1 w2 Z) : Off w0 w w2 Z := by
  obtain ⟨T, hf, hT⟩ := h
  obtain ⟨U, kf, kT⟩ := k
  exact ⟨T ++ U, hf.trans kf (fun x hx => List.mem_append_left _ hx) (fun x hx => .inl (List.mem_append_right _ hx)), fun y hy => (List.mem_append.1 hy).elim (hT y) (kT y)⟩
theorem Off.sub {w1 : World} {Y : List Nat} (h : Off w0 w w1 Y) (hZ : ∀ z ∈ Z, z ∈ Y) : Off w0 w w1 Z := by
  obtain ⟨T, hf, hT⟩ := h
  exact ⟨T, hf, fun y hy => ⟨fun hm => (hT y hy).1 (hZ y hm), (hT y hy).2⟩⟩
theorem Off.whole9 {w1 : World} {g : Nat} {t : TypeId} {cs : Array Value} (h : Whole w g t cs) (ho : Off w0 w w1 Z) (hg : g ∈ Z) : Whole w1 g t cs := by
  obtain ⟨T, hf, hT⟩ := ho
  exact hf.whole h (fun hm => (hT g hm).1 hg)
theorem Off.bytes9 {a : Option Addr} {d : List Nat} {w1 : World} (h : Bytes w a d) (ho : Off w0 w w1 Z) (hlow : d ≠ [] → ∀ y, a = some y → y.block < w0.heap.size) : Bytes w1 a d := by
  obtain ⟨T, hf, hT⟩ := ho
  exact hf.bytes' h (fun hne y hy hm => by have h1 := hlow hne y hy; have h2 := (hT _ hm).2; omega)
theorem Off.own9 {B sz n c : Nat} {e : TypeId} {a : Option Addr} {xs : List Value} {w1 : World} (h : w.ownsRow B e sz (.slice a n c) n xs) (ho : Off w0 w w1 Z) (hZ : ∀ x ∈ blk a, x ∈ Z) : w1.ownsRow B e sz (.slice a n c) n xs := by
  obtain ⟨T, hf, hT⟩ := ho
  exact hf.own h (fun g hg hm => (hT g hm).1 (hZ g (ownBlk.1 hg)))
/-- A call of the program's. -/
theorem T9.prog {D G W : List Nat} (h2 : Rd w w0.heap.size G W q m S2 l2 room mm) (h3 : ∀ x ∈ W, x ∈ D) (h4 : ∀ x, x < w.heap.size → x ∈ D ∨ x ∈ G) (h5 : ∀ x ∈ G, x < w.heap.size) (h6 : ∀ z ∈ Z, z ∈ D ∧ z ∈ G) (hn : Nv w0 w' D p dp S' l' room) (ho : Off w0 w w' D) : T9 w0 w' Z p dp q m room S' l' S2 l2 mm ∧ Off w0 w w' Z := by
  refine ⟨?_, ho.sub (fun z hz => (h6 z hz).1)⟩
  obtain ⟨T, hf, hT⟩ := ho
  refine ⟨D, G ++ nwB w w', W, hn, h2.keep hf (fun x hx => ?_) (fun x hx => ?_), h3, fun x hx => ?_, fun x hx => ?_, fun z hz => ⟨(h6 z hz).1, List.mem_append_left _ (h6 z hz).2⟩⟩
  · by_cases hlt : x < w.heap.size
    · exact .inl ((h4 x hlt).resolve_left (hT x hx).1)
    · exact .inr (by omega)
  · rcases List.mem_append.1 hx with h | h
    · exact .inl h
    · exact .inr (mem_nwB.1 h).1
  · by_cases hlt : x < w.heap.size
    · exact (h4 x hlt).imp id (List.mem_append_left _)
    · exact .inr (List.mem_append_right _ (mem_nwB.2 ⟨by omega, hx⟩))
  · rcases List.mem_append.1 hx with h | h
    · exact Nat.lt_of_lt_of_le (h5 x h) hf.size
    · exact (mem_nwB.1 h).2
/-- A call of the document's. -/
theorem T9.doc {D G W : List Nat} {m' : Nat} (h1 : Nv w0 w D p dp S1 l1 room) (h2 : Rd w w0.heap.size G W q m S2 l2 room mm) (h3 : ∀ x ∈ W, x ∈ D) (h4 : ∀ x, x < w.heap.size → x ∈ D ∨ x ∈ G) (h5 : ∀ x ∈ G, x < w.heap.size) (h6 : ∀ z ∈ Z, z ∈ D ∧ z ∈ G) (hr : RdTo w w' w0.heap.size G W q m S' l' room m') : T9 w0 w' Z p dp q m room S1 l1 S' l' m' ∧ Off w0 w w' Z := by
  obtain ⟨W', k1, hf, k3⟩ := hr
  refine ⟨?_, W, hf, fun y hy => ⟨fun hm => (h2.lt y hy).2.2 (h6 y hm).2, (h2.lt y hy).1⟩⟩
  refine ⟨D ++ nwB w w', G, W', h1.keep hf (fun x hx => ⟨.inl (h3 x hx), (h2.lt x hx).1⟩) (fun x hx => ?_) (fun x hx => ?_), k1, fun x hx => ?_, fun x hx => ?_, fun x hx => Nat.lt_of_lt_of_le (h5 x hx) hf.size, fun z hz => ⟨List.mem_append_left _ (h6 z hz).1, (h6 z hz).2⟩⟩
  · rcases List.mem_append.1 hx with h | h
    · exact .inl h
    · exact .inr (mem_nwB.1 h).1
  · rcases List.mem_append.1 hx with h | h
    · exact Nat.lt_of_lt_of_le (h1.low x h) hf.size
    · exact (mem_nwB.1 h).2
  · rcases k3 x hx with h | h
    · exact List.mem_append_left _ (h3 x h)
    · exact List.mem_append_right _ (mem_nwB.2 ⟨h, (k1.lt x hx).2.1⟩)
  · by_cases hlt : x < w.heap.size
    · exact (h4 x hlt).imp (List.mem_append_left _) id
    · exact .inl (List.mem_append_right _ (mem_nwB.2 ⟨by omega, hx⟩))
/-! The program's calls. -/
theorem t9_add (i k s : Nat) (a : Option Addr) (len cap : Nat) (d : List Nat) (mends : Bool) (h : T9 w0 w Z p dp q m room S1 l1 S2 l2 mm) (hi : i < N64) (hk : k < N64) (hsu : s < N64) (hb : Bytes w a d) (hlen : len = d.length) (hnil : a = none → cap = 0) :
    Calls Tryz.prog 18 #[.pointer (some ⟨p, 0, none⟩), .int .u64 (i : Nat), .agg #[.int .u64 (k : Nat), .slice a len cap], .int .u64 (s : Nat), .bool mends] w fun e w' => e = .returned (.int .i64 (oE l1 room (addO S1 i k s d mends) (recA i k s d) : Nat)) ∧ T9 w0 w' Z p dp q m room (oS S1 l1 room (addO S1 i k s d mends) (recA i k s d) i (addL (S1 i) k s d)) (oL l1 room (addO S1 i k s d mends) (recA i k s d)) S2 l2 mm ∧ Off w0 w w' Z := by
  obtain ⟨D, G, W, h1, h2, h3, h4, h5, h6⟩ := h
  refine (nv_add i k s a len cap d mends h1 hi hk hsu hb hlen hnil).mono ?_
  rintro e w' ⟨he, hn, ho⟩
  exact ⟨he, T9.prog h2 h3 h4 h5 h6 hn ho⟩
theorem t9_fence (i : Nat) (h : T9 w0 w Z p dp q m room S1 l1 S2 l2 mm) (hi : i < N64) :
    Calls Tryz.prog 19 #[.pointer (some ⟨p, 0, none⟩), .int .u64 (i : Nat)] w fun e w' => e = .returned (.tuple #[.int .u64 (fenN S1 l1 room i : Nat), .int .i64 (oE l1 room (fenO S1 i) (recW 2 i) : Nat)]) ∧ T9 w0 w' Z p dp q m room (oS S1 l1 room (fenO S1 i) (recW 2 i) i (fenL (S1 i))) (oL l1 room (fenO S1 i) (recW 2 i)) S2 l2 mm ∧ Off w0 w w' Z := by
  obtain ⟨D, G, W, h1, h2, h3, h4, h5, h6⟩ := h
  refine (nv_fence i h1 hi).mono ?_
  rintro e w' ⟨he, hn, ho⟩
  exact ⟨he, T9.prog h2 h3 h4 h5 h6 hn ho⟩
theorem t9_drop (i : Nat) (h : T9 w0 w Z p dp q m room S1 l1 S2 l2 mm) (hi : i < N64) :
    Calls Tryz.prog 23 #[.pointer (some ⟨p, 0, none⟩), .int .u64 (i : Nat)] w fun e w' => e = .returned (.int .i64 (oE l1 room (dropO S1 i) (recW 3 i) : Nat)) ∧ T9 w0 w' Z p dp q m room (oS S1 l1 room (dropO S1 i) (recW 3 i) i dropL) (oL l1 room (dropO S1 i) (recW 3 i)) S2 l2 mm ∧ Off w0 w w' Z := by
  obtain ⟨D, G, W, h1, h2, h3, h4, h5, h6⟩ := h
  refine (nv_drop i h1 hi).mono ?_
  rintro e w' ⟨he, hn, ho⟩
  exact ⟨he, T9.prog h2 h3 h4 h5 h6 hn ho⟩
/-! The document's calls. -/
theorem t9_radd (i k s : Nat) (a : Option Addr) (len cap : Nat) (d : List Nat) (mends : Bool) (h : T9 w0 w Z p dp q m room S1 l1 S2 l2 mm) (hi : i < N64) (hk : k < N64) (hsu : s < N64) (hm : mm ≤ 100000) (hb : Bytes w a d) (hlen : len = d.length) (hnil : a = none → cap = 0) (hlow : d ≠ [] → ∀ y, a = some y → y.block < w0.heap.size) :
    Calls Tryz.prog 15 #[.pointer (some ⟨q, 0, none⟩), .int .u64 (i : Nat), .agg #[.int .u64 (k : Nat), .slice a len cap], .int .u64 (s : Nat), .bool mends] w fun e w' => e = .returned (.int .i64 (oE l2 room (addO S2 i k s d mends) (recA i k s d) : Nat)) ∧ T9 w0 w' Z p dp q m room S1 l1 (oS S2 l2 room (addO S2 i k s d mends) (recA i k s d) i (addL (S2 i) k s d)) (oL l2 room (addO S2 i k s d mends) (recA i k s d)) (mm + 3) ∧ Off w0 w w' Z := by
  obtain ⟨D, G, W, h1, h2, h3, h4, h5, h6⟩ := h
  refine (rdadd_any i k s a len cap d mends hi hk hsu h2 h5 hm hb hlen hnil (fun hne y hy hm' => ?_)).mono ?_
  · have h7 := hlow hne y hy; have h8 := (h2.lt _ hm').1; omega
  · rintro e w' ⟨he, ht⟩
    exact ⟨he, T9.doc h1 h2 h3 h4 h5 h6 ht⟩
theorem t9_rfence (i : Nat) (h : T9 w0 w Z p dp q m room S1 l1 S2 l2 mm) (hi : i < N64) (hm : mm ≤ 100000) :
    Calls Tryz.prog 13 #[.pointer (some ⟨q, 0, none⟩), .int .u64 (i : Nat)] w fun e w' => e = .returned (.tuple #[.int .u64 (fenN S2 l2 room i : Nat), .int .i64 (oE l2 room (fenO S2 i) (recW 2 i) : Nat)]) ∧ T9 w0 w' Z p dp q m room S1 l1 (oS S2 l2 room (fenO S2 i) (recW 2 i) i (fenL (S2 i))) (oL l2 room (fenO S2 i) (recW 2 i)) (mm + 3) ∧ Off w0 w w' Z := by
  obtain ⟨D, G, W, h1, h2, h3, h4, h5, h6⟩ := h
  refine (rdfence_any i hi h2 h5 hm).mono ?_
  rintro e w' ⟨he, ht⟩
  exact ⟨he, T9.doc h1 h2 h3 h4 h5 h6 ht⟩
theorem t9_rdrop (i : Nat) (h : T9 w0 w Z p dp q m room S1 l1 S2 l2 mm) (hi : i < N64) (hm : mm ≤ 100000) :
    Calls Tryz.prog 14 #[.pointer (some ⟨q, 0, none⟩), .int .u64 (i : Nat)] w fun e w' => e = .returned (.int .i64 (oE l2 room (dropO S2 i) (recW 3 i) : Nat)) ∧ T9 w0 w' Z p dp q m room S1 l1 (oS S2 l2 room (dropO S2 i) (recW 3 i) i dropL) (oL l2 room (dropO S2 i) (recW 3 i)) (mm + 3) ∧ Off w0 w w' Z := by
  obtain ⟨D, G, W, h1, h2, h3, h4, h5, h6⟩ := h
  refine (rddrop_any i hi h2 h5 hm).mono ?_
  rintro e w' ⟨he, ht⟩
  exact ⟨he, T9.doc h1 h2 h3 h4 h5 h6 ht⟩
theorem t9_rof (i : Nat) (h : T9 w0 w Z p dp q m room S1 l1 S2 l2 mm) (hi : i < N64) (hm : mm ≤ 100000) :
    Calls Tryz.prog 24 #[.pointer (some ⟨q, 0, none⟩), .int .u64 (i : Nat)] w fun e w' => ∃ (at' g : Nat) (a : Option Addr) (n c : Nat) (X : List Ix) (rn rc : Nat), e = .returned (.int .i64 (at' : Nat)) ∧ (T9 w0 w' Z p dp q m room S1 l1 S2 l2 (mm + 1) ∧ Off w0 w w' Z) ∧ At9 w' q g at' (S2 i) a n c X rn rc (mm + 1) := by
  obtain ⟨D, G, W, h1, h2, h3, h4, h5, h6⟩ := h
  refine (rdof_any i hi h2 h5 (by omega)).mono ?_
  rintro e w' ⟨at', g, W', a, n, c, X, rn, rc, he, hrd, hf, hx, h9⟩
  exact ⟨at', g, a, n, c, X, rn, rc, he, T9.doc h1 h2 h3 h4 h5 h6 ⟨W', hrd, hf, hx⟩, h9⟩
theorem t9_doc (h : T9 w0 w Z p dp q m room S1 l1 S2 l2 mm) : ∃ da dc, ∀ z, Frm [] w z → z.cell? ⟨q, 1, none⟩ = some (.pointer (some ⟨m, 0, none⟩)) ∧ z.cell? ⟨m, 2, none⟩ = some (.slice da l2.length dc) ∧ Bytes z da l2 := by
  obtain ⟨D, G, W, h1, ⟨La, Lc, R, Gd, hs, hn, ⟨hr, da, dc, hm, hh, hG⟩, ho, hW⟩, _⟩ := h
  exact ⟨da, dc, fun z hz => ⟨(hz.cell (p := ⟨q, 1, none⟩) (hs.lt q (by unfold rwB; simp)) (by simp)).trans (hs.box.cell 1), (hz.whole hm (by simp)).cell 2, hz.bytes (hh.bytes hr.1) (by simp)⟩⟩
theorem t9_bytes (h : T9 w0 w Z p dp q m room S1 l1 S2 l2 mm) :
    Calls Tryz.prog 11 #[.pointer (some ⟨dp, 0, none⟩)] w fun e w' => ∃ ab cb, e = .returned (.slice ab l1.length cb) ∧ Bytes w' ab l1 ∧ Frm [] w w' := by
  obtain ⟨D, G, W, ⟨⟨jq, Fd, hs⟩, _, _⟩, _⟩ := h
  refine (dbytes_any hs.dk).mono ?_
  rintro e w' ⟨ab, cb, he, ho, hf⟩
  exact ⟨ab, cb, he, (bytes_of_own ho hs.dk.1.1).2.1, hf⟩
/-- The program's disk behind a crash, and the document's node. -/
def Td9 (w0 w : World) (Z : List Nat) (dp q m room : Nat) (S : Nd9) (l : List Nat) (S2 : Nd9) (l2 : List Nat) (mm : Nat) : Prop :=
  ∃ D G W Fd : List Nat, Dk w w0.heap.size dp Fd l l.length room ∧ (∀ x ∈ Fd, x ∉ D) ∧ Frm [] w0 w ∧ (recN l = l.length ∧ sayAll nd0 (recs l) = some S) ∧ (∀ y ∈ D, y < w.heap.size) ∧ Rd w w0.heap.size G W q m S2 l2 room mm ∧ (∀ x ∈ W, x ∈ D) ∧ (∀ x, x < w.heap.size → x ∈ D ∨ x ∈ G) ∧ (∀ x ∈ G, x < w.heap.size) ∧ ∀ z ∈ Z, z ∈ D ∧ z ∈ G
theorem t9_crash (keep bit : Int) (h : T9 w0 w Z p dp q m room S1 l1 S2 l2 mm) :
    Calls Tryz.prog 12 #[.pointer (some ⟨dp, 0, none⟩), .int .i64 keep, .int .i64 bit] w fun e w' => e = .returned (.tuple #[]) ∧ Td9 w0 w' Z dp q m room S1 l1 S2 l2 mm ∧ Off w0 w w' Z := by
  obtain ⟨D, G, W, h1, h2, h3, h4, h5, h6⟩ := h
  refine (nv_crash keep bit h1).mono ?_
  rintro e w' ⟨he, ⟨Fd, hd, hFd⟩, hf, hsay, hlow, ho⟩
  have hoz : Off w0 w w' Z := ho.sub (fun z hz => (h6 z hz).1)
  obtain ⟨T, hfT, hT⟩ := ho
  refine ⟨he, ?_, hoz⟩
  refine ⟨D, G ++ nwB w w', W, Fd, hd, hFd, hf, hsay, hlow, h2.keep hfT (fun x hx => ?_) (fun x hx => ?_), h3, fun x hx => ?_, fun x hx => ?_, fun z hz => ⟨(h6 z hz).1, List.mem_append_left _ (h6 z hz).2⟩⟩
  · by_cases hlt : x < w.heap.size
    · exact .inl ((h4 x hlt).resolve_left (hT x hx).1)
    · exact .inr (by omega)
  · rcases List.mem_append.1 hx with h | h
    · exact .inl h
    · exact .inr (mem_nwB.1 h).1
  · by_cases hlt : x < w.heap.size
    · exact (h4 x hlt).imp id (List.mem_append_left _)
    · exact .inr (List.mem_append_right _ (mem_nwB.2 ⟨by omega, hx⟩))
  · rcases List.mem_append.1 hx with h | h
    · exact Nat.lt_of_lt_of_le (h5 x h) hfT.size
    · exact (mem_nwB.1 h).2
theorem td9_open (h : Td9 w0 w Z dp q m room S1 l1 S2 l2 mm) :
    Calls Tryz.prog 7 #[.pointer (some ⟨dp, 0, none⟩)] w fun e w' => ∃ p, e = .returned (.tuple #[.pointer (some ⟨p, 0, none⟩), .int .i64 0]) ∧ T9 w0 w' Z p dp q m room S1 l1 S2 l2 mm ∧ Off w0 w w' Z := by
  obtain ⟨D, G, W, Fd, hd, hFd, hf, hsay, hlow, h2, h3, h4, h5, h6⟩ := h
  refine (nv_again hf hd hFd hlow hsay).mono ?_
  rintro e w' ⟨p, he, hn, ho⟩
  exact ⟨p, he, T9.prog h2 h3 h4 h5 h6 hn ho⟩
end
end Go.Proofs.YtamcandcfainfaaGreat
