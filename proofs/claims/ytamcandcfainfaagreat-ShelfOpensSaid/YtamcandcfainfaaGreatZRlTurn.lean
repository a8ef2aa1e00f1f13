/- The document's ledgers turned where they lie: fenced, sure, dropped. -/
import Derived.Test.YtamcandcfainfaaGreatMX
import Derived.Test.YtamcandcfainfaaGreatZRlOf
namespace Go.Proofs.YtamcandcfainfaaGreat
open Go.RowKit
set_option maxRecDepth 100000

/-- Another ledger in one's place, changed where it lies: its entries are the same, or none. -/
theorem Rs.turned {w w' : World} {B : Nat} {F : List Nat} {q g : Nat} {dv : Value} {Lc : Nat} {R : List Rl} {m i : Nat} {y : Rl} (h : Rs w B F q dv (some ⟨g, 0, none⟩) Lc R m) (hF : ∀ x ∈ F, x < w.heap.size) (hi : i < R.length) (hid : y.id = (R.getD i default).id) (hs : y.sure < N64)
    (hX : (y.X = (R.getD i default).X ∧ y.a = (R.getD i default).a ∧ y.c = (R.getD i default).c) ∨ (y.X = [] ∧ y.a = none ∧ y.c = 0)) (hf : Frm [g] w w') (hrow : w'.ownsRow B 82 5 (.slice (some ⟨g, 0, none⟩) R.length Lc) R.length (rc (R.set i y))) :
    Rs w' B F q dv (some ⟨g, 0, none⟩) Lc (R.set i y) m := by
  have hmem : R.getD i default ∈ R := by simp [hi]
  have hrok := h.all _ hmem
  have hgw : g ∈ rwB q (some ⟨g, 0, none⟩) R := by unfold rwB; simp
  have ha : ∀ x ∈ blk y.a, x ∈ blk (R.getD i default).a ∨ w.heap.size ≤ x := fun x hx => by
    rcases hX with ⟨_, h2, _⟩ | ⟨_, h2, _⟩
    · rw [h2] at hx; exact .inl hx
    · rw [h2] at hx; simp at hx
  have hgr : g ∉ blk (R.getD i default).a := fun hm => h.kinds.2.2 _ hmem g (by simp) hm
  refine h.set hF hi hid hf (fun x hx => by simp at hx; subst hx; exact .inl (by simp)) hrow ?_ ha (Nat.le_refl _) ?_
  · rcases hX with ⟨e1, e2, e3⟩ | ⟨e1, e2, e3⟩
    · refine ⟨?_, fun z hz => ?_, by rw [e1]; exact hrok.rise, by rw [hid]; exact hrok.num.1, hs⟩
      · rw [e1, e2, e3]
        exact hf.own hrok.row (fun x hx hm => by simp at hm; subst hm; exact hgr (ownBlk.1 hx))
      · rw [e1] at hz
        refine (hrok.ok z hz).keep hf (fun x hx => by simp at hx; subst hx; exact .inl (by simp [hgw])) (fun x hx => ?_)
        rcases List.mem_append.1 hx with h1 | h1
        · rcases rwB_set hi ha h1 with h2 | h2
          · exact .inl (by simp [h2])
          · exact .inr h2
        · exact .inl (by simp [h1])
    · refine ⟨?_, fun z hz => by rw [e1] at hz; simp at hz, by rw [e1]; exact List.Pairwise.nil, by rw [hid]; exact hrok.num.1, hs⟩
      rw [e1, e2, e3]
      exact World.ownsRow_nil _ _ _ _
  · rcases hX with ⟨e1, _, _⟩ | ⟨e1, _, _⟩
    · rw [e1]; exact h.few.2 _ hmem
    · rw [e1]; simp
theorem set_same {l : List Value} {i : Nat} {v : Value} (h : l[i]? = some v) : l.set i v = l := by
  apply List.ext_getElem?
  intro j
  rw [List.getElem?_set]
  split
  · rename_i hij; subst hij
    split
    · exact h.symm
    · rename_i hlt; rw [List.getElem?_eq_none (by omega)] at h; cases h
  · rfl
theorem rc_fen (X : List Rl) (q : Nat) (hq : q < X.length) : rc (X.set q { (X.getD q default) with fen := true }) = (rc X).set (q * 5 + 1) (.bool true) := by
  obtain ⟨n0, n1, n2, n3, n4⟩ := rc_at X q hq
  rw [rc_set X _ q hq]
  dsimp only
  rw [set_same n0]
  rw [set_same (i := q * 5 + 2) (by rw [List.getElem?_set_ne (by omega)]; exact n2), set_same (i := q * 5 + 3) (by rw [List.getElem?_set_ne (by omega)]; exact n3), set_same (i := q * 5 + 4) (by rw [List.getElem?_set_ne (by omega)]; exact n4)]
theorem rc_sure (X : List Rl) (q s : Nat) (hq : q < X.length) : rc (X.set q { (X.getD q default) with sure := s }) = (rc X).set (q * 5 + 3) (.int .u64 (s : Nat)) := by
  obtain ⟨n0, n1, n2, n3, n4⟩ := rc_at X q hq
  rw [rc_set X _ q hq]
  dsimp only
  rw [set_same n0, set_same n1, set_same n2]
  rw [set_same (i := q * 5 + 4) (by rw [List.getElem?_set_ne (by omega)]; exact n4)]
theorem rc_drop (X : List Rl) (q : Nat) (hq : q < X.length) : rc (X.set q { id := (X.getD q default).id, gone := true }) = ((((rc X).set (q * 5 + 1) (.bool false)).set (q * 5 + 2) (.bool true)).set (q * 5 + 3) (.int .u64 0)).set (q * 5 + 4) (.slice none 0 0) := by
  obtain ⟨n0, n1, n2, n3, n4⟩ := rc_at X q hq
  rw [rc_set X _ q hq]
  dsimp only
  rw [set_same n0]
  rfl
section
variable {w : World} {B : Nat} {F : List Nat} {q g : Nat} {dv : Value} {Lc : Nat} {R : List Rl} {m i : Nat}
/-- What is left of a node when a ledger is turned. -/
structure Turned (w w' : World) (B : Nat) (F : List Nat) (q g : Nat) (dv : Value) (Lc : Nat) (R : List Rl) (m i : Nat) (x : Lg) (R' : List Rl) : Prop where
  rs : Rs w' B F q dv (some ⟨g, 0, none⟩) Lc R' m
  node : nodeOf R' = updS (nodeOf R) (R.getD i default).id x
  frm : Frm [g] w w'
  new : ∀ y ∈ rwB q (some ⟨g, 0, none⟩) R', y ∈ rwB q (some ⟨g, 0, none⟩) R ∨ w.heap.size ≤ y
theorem Rs.fenced (h : Rs w B F q dv (some ⟨g, 0, none⟩) Lc R m) (hF : ∀ x ∈ F, x < w.heap.size) (hi : i < R.length) :
    Turned w (w.setCell ⟨g, i * 5 + 1, none⟩ (.bool true)) B F q g dv Lc R m i (fenL (nodeOf R (R.getD i default).id)) (R.set i { (R.getD i default) with fen := true }) := by
  obtain ⟨r, hr⟩ : ∃ r, r = R.getD i default := ⟨_, rfl⟩
  obtain ⟨y, hy⟩ : ∃ y : Rl, y = { r with fen := true } := ⟨_, rfl⟩
  have hfs : Frm [g] w (w.setCell ⟨g, i * 5 + 1, none⟩ (.bool true)) := (Frm.refl _ _).setCell (.inl (by simp)) _
  have hrow := (World.ownsRow.stored h.own (i * 5 + 1) (.bool true)).1
  rw [← rc_fen R i hi] at hrow
  have hnode := nodeOf_at h.ids hi
  have hnum := (h.all (R.getD i default) (by simp [hi])).num.2
  rw [← hr] at hrow hnode hnum ⊢
  rw [← hy] at hrow ⊢
  have hid : y.id = (R.getD i default).id := by rw [hy, ← hr]
  refine ⟨h.turned hF hi hid (by rw [hy]; exact hnum) (.inl (by rw [hy, ← hr]; exact ⟨rfl, rfl, rfl⟩)) hfs hrow, ?_, hfs, fun z hz => rwB_set hi (fun x hx => by rw [hy] at hx; rw [← hr]; exact .inl hx) hz⟩
  rw [nodeOf_set h.ids hi hid, hid, ← hr, hnode, hy]
  rfl
theorem Rs.sured (h : Rs w B F q dv (some ⟨g, 0, none⟩) Lc R m) (hF : ∀ x ∈ F, x < w.heap.size) (hi : i < R.length) (s : Nat) (hs : s < N64) :
    Turned w (w.setCell ⟨g, i * 5 + 3, none⟩ (.int .u64 (s : Nat))) B F q g dv Lc R m i { nodeOf R (R.getD i default).id with sure := s } (R.set i { (R.getD i default) with sure := s }) := by
  obtain ⟨r, hr⟩ : ∃ r, r = R.getD i default := ⟨_, rfl⟩
  obtain ⟨y, hy⟩ : ∃ y : Rl, y = { r with sure := s } := ⟨_, rfl⟩
  have hfs : Frm [g] w (w.setCell ⟨g, i * 5 + 3, none⟩ (.int .u64 (s : Nat))) := (Frm.refl _ _).setCell (.inl (by simp)) _
  have hrow := (World.ownsRow.stored h.own (i * 5 + 3) (.int .u64 (s : Nat))).1
  rw [← rc_sure R i s hi] at hrow
  have hnode := nodeOf_at h.ids hi
  rw [← hr] at hrow hnode ⊢
  rw [← hy] at hrow ⊢
  have hid : y.id = (R.getD i default).id := by rw [hy, ← hr]
  refine ⟨h.turned hF hi hid (by rw [hy]; exact hs) (.inl (by rw [hy, ← hr]; exact ⟨rfl, rfl, rfl⟩)) hfs hrow, ?_, hfs, fun z hz => rwB_set hi (fun x hx => by rw [hy] at hx; rw [← hr]; exact .inl hx) hz⟩
  rw [nodeOf_set h.ids hi hid, hid, ← hr, hnode, hy]
  rfl
/-- The world in which a ledger was dropped: four cells written. -/
def dropW (w : World) (g i : Nat) (id : Nat) : World := ((((w.setCell ⟨g, i * 5, none⟩ (.int .u64 (id : Nat))).setCell ⟨g, i * 5 + 1, none⟩ (.bool false)).setCell ⟨g, i * 5 + 2, none⟩ (.bool true)).setCell ⟨g, i * 5 + 3, none⟩ (.int .u64 0)).setCell ⟨g, i * 5 + 4, none⟩ (.slice none 0 0)
theorem Rs.dropped (h : Rs w B F q dv (some ⟨g, 0, none⟩) Lc R m) (hF : ∀ x ∈ F, x < w.heap.size) (hi : i < R.length) :
    Turned w (dropW w g i (R.getD i default).id) B F q g dv Lc R m i dropL (R.set i { id := (R.getD i default).id, gone := true }) := by
  obtain ⟨r, hr⟩ : ∃ r, r = R.getD i default := ⟨_, rfl⟩
  obtain ⟨y, hy⟩ : ∃ y : Rl, y = { id := r.id, gone := true } := ⟨_, rfl⟩
  have hfs : Frm [g] w (dropW w g i r.id) := by
    unfold dropW
    exact (((((Frm.refl _ _).setCell (.inl (by simp)) _).setCell (.inl (by simp)) _).setCell (.inl (by simp)) _).setCell (.inl (by simp)) _).setCell (.inl (by simp)) _
  have o0 := (World.ownsRow.stored h.own (i * 5) (.int .u64 (r.id : Nat))).1
  rw [set_same (by rw [hr]; exact (rc_at R i hi).1)] at o0
  have o1 := (World.ownsRow.stored o0 (i * 5 + 1) (.bool false)).1
  have o2 := (World.ownsRow.stored o1 (i * 5 + 2) (.bool true)).1
  have o3 := (World.ownsRow.stored o2 (i * 5 + 3) (.int .u64 0)).1
  have hrow := (World.ownsRow.stored o3 (i * 5 + 4) (.slice none 0 0)).1
  rw [← rc_drop R i hi] at hrow
  rw [← hr] at hrow ⊢
  rw [← hy] at hrow ⊢
  have hid : y.id = (R.getD i default).id := by rw [hy, ← hr]
  refine ⟨h.turned hF hi hid (by rw [hy]; exact (by decide : 0 < N64)) (.inr (by rw [hy]; exact ⟨rfl, rfl, rfl⟩)) hfs hrow, ?_, hfs, fun z hz => rwB_set hi (fun x hx => by rw [hy] at hx; simp at hx) hz⟩
  rw [nodeOf_set h.ids hi hid, hid, ← hr, hy]
  rfl
end
end Go.Proofs.YtamcandcfainfaaGreat
