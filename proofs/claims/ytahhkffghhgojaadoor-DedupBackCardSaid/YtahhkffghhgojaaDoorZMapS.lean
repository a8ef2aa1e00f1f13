/- A map from strings whose elements are lines, each under its own name. It speaks of no program. -/
import Derived.Test.YtahhkffghhgojaaDoorZMapV
import Derived.Test.YtahhkffghhgojaaDoorZTbSort
import Derived.Maps.Views
import Derived.Sort.MapsRangeIn
namespace Go.Proofs.YtahhkffghhgojaaDoor
open Go.RowKit Go.Maps
set_option maxRecDepth 100000

/-- A line is laid under its name: in the place of the one that is there, or behind all. -/
def putL (X : List Ln) (x : Ln) : List Ln := if (lookL X x.nm).isSome then updL X x.nm (fun _ => x) else X ++ [x]
def delL (X : List Ln) (s : ByteArray) : List Ln := X.filter fun x => decide (x.nm ≠ s)
theorem dist_cons {x : Ln} {X : List Ln} : Dist (x :: X) ↔ (∀ y ∈ X, x.nm ≠ y.nm) ∧ Dist X := List.pairwise_cons
theorem putL_dist {X : List Ln} (d : Dist X) (x : Ln) : Dist (putL X x) := by
  unfold putL
  split
  · refine dist_names (X := X) ?_ d
    unfold updL
    rw [List.map_map]
    apply List.map_congr_left
    intro y _
    simp only [Function.comp]
    split
    · rename_i h; exact h
    · rfl
  · rename_i h
    have hn : lookL X x.nm = none := by simpa using h
    rw [lookL_none] at hn
    unfold Dist
    rw [List.pairwise_append]
    exact ⟨d, by simp, fun y hy z hz => by simp at hz; subst hz; exact hn y hy⟩
theorem mem_putL {X : List Ln} {x y : Ln} : y ∈ putL X x ↔ y = x ∨ (y ∈ X ∧ y.nm ≠ x.nm) := by
  unfold putL
  split
  · rename_i h
    unfold updL
    rw [List.mem_map]
    constructor
    · rintro ⟨z, hz, rfl⟩
      split
      · exact .inl rfl
      · rename_i h1; exact .inr ⟨hz, h1⟩
    · rintro (rfl | ⟨hy, hne⟩)
      · obtain ⟨z, hz⟩ := Option.isSome_iff_exists.1 h
        have h1 := List.mem_of_find?_eq_some hz
        have h2 : z.nm = y.nm := by simpa using List.find?_some hz
        exact ⟨z, h1, by rw [if_pos h2]⟩
      · exact ⟨y, hy, by rw [if_neg hne]⟩
  · rename_i h
    have hn : lookL X x.nm = none := by simpa using h
    rw [lookL_none] at hn
    rw [List.mem_append, List.mem_singleton]
    constructor
    · rintro (h1 | rfl)
      · exact .inr ⟨h1, hn y h1⟩
      · exact .inl rfl
    · rintro (rfl | ⟨h1, _⟩)
      · exact .inr rfl
      · exact .inl h1
theorem lookL_putL {X : List Ln} (d : Dist X) (x : Ln) (s : ByteArray) : lookL (putL X x) s = if s = x.nm then some x else lookL X s := by
  by_cases hs : s = x.nm
  · rw [if_pos hs, lookL_some (putL_dist d x)]
    exact ⟨mem_putL.2 (.inl rfl), hs.symm⟩
  · rw [if_neg hs]
    cases h : lookL X s with
    | none =>
      rw [lookL_none] at h ⊢
      intro y hy
      rcases mem_putL.1 hy with rfl | ⟨h1, _⟩
      · exact fun e => hs e.symm
      · exact h y h1
    | some y =>
      rw [lookL_some d] at h
      rw [lookL_some (putL_dist d x)]
      exact ⟨mem_putL.2 (.inr ⟨h.1, by rw [h.2]; exact hs⟩), h.2⟩
theorem putL_len (X : List Ln) (x : Ln) : (putL X x).length = if (lookL X x.nm).isSome then X.length else X.length + 1 := by
  unfold putL updL
  split <;> simp
theorem delL_dist {X : List Ln} (d : Dist X) (s : ByteArray) : Dist (delL X s) := List.Pairwise.sublist List.filter_sublist d
theorem lookL_delL {X : List Ln} (d : Dist X) (s t : ByteArray) : lookL (delL X s) t = if t = s then none else lookL X t := by
  by_cases h : t = s
  · rw [if_pos h, lookL_none]
    intro x hx
    have := (List.mem_filter.1 hx).2
    subst h
    simpa using this
  · rw [if_neg h]
    cases e : lookL X t with
    | none =>
      rw [lookL_none] at e ⊢
      exact fun x hx => e x (List.mem_filter.1 hx).1
    | some y =>
      rw [lookL_some d] at e
      rw [lookL_some (delL_dist d s)]
      exact ⟨List.mem_filter.2 ⟨e.1, by simpa [e.2] using h⟩, e.2⟩
theorem delL_len {X : List Ln} (d : Dist X) (s : ByteArray) : (delL X s).length + (if (lookL X s).isSome then 1 else 0) = X.length := by
  induction X with
  | nil => rfl
  | cons x X ih =>
    obtain ⟨h1, h2⟩ := dist_cons.1 d
    have ih := ih h2
    unfold delL lookL at *
    by_cases h : x.nm = s
    · have e1 : X.filter (fun y => decide (y.nm ≠ s)) = X := List.filter_eq_self.2 (fun y hy => by have := h1 y hy; rw [h] at this; simpa using fun e => this e.symm)
      rw [List.filter_cons_of_neg (by simpa using h), e1, List.find?_cons_of_pos (by simpa using h)]
      simp
    · rw [List.filter_cons_of_pos (by simpa using h), List.find?_cons_of_neg (by simpa using h)]
      simp only [List.length_cons]
      omega
/-- Two lists of lines, each name once, in which the same are, are one but for the order. -/
theorem perm_same {X Y : List Ln} (d : Dist X) (d' : Dist Y) (h : ∀ x, x ∈ X ↔ x ∈ Y) : X.Perm Y := by
  have n1 : X.Nodup := d.imp (fun h1 e => h1 (congrArg Ln.nm e))
  have n2 : Y.Nodup := d'.imp (fun h1 e => h1 (congrArg Ln.nm e))
  exact (List.perm_ext_iff_of_nodup n1 n2).2 h

/-- What stands in it: the lines X. -/
structure LnsIn (D : DataW Value) (X : List Ln) : Prop where
  dist : Dist X
  size : Maps.size D = X.length
  has : ∀ s : ByteArray, Maps.has D (.string s.data.toList) = (lookL X s).isSome
  at' : ∀ (s : ByteArray) (x : Ln), lookL X s = some x → ∀ z, D.atKey (.string s.data.toList) z = .held x.val
  short : ∀ x ∈ X, x.nm.size ≤ maxLen
theorem LnsIn.perm {D : DataW Value} {X Y : List Ln} (h : LnsIn D X) (p : X.Perm Y) : LnsIn D Y :=
  ⟨Dist.perm h.dist p, by rw [h.size, p.length_eq], fun s => by rw [h.has, lookL_perm h.dist p], fun s x hx => h.at' s x (by rw [lookL_perm h.dist p]; exact hx), fun x hx => h.short x (p.mem_iff.2 hx)⟩
theorem key_str {s t : ByteArray} (h : t ≠ s) : Lit.string t.data.toList ≠ Lit.string s.data.toList := by
  intro e
  injection e with e
  exact h (ByteArray.ext (Array.ext' e))
theorem LnsIn.put {D : DataW Value} {X : List Ln} (h : LnsIn D X) (ht : Tidy D) (x : Ln) (hx : x.nm.size ≤ maxLen) : LnsIn (D.put (.string x.nm.data.toList) (.held x.val)) (putL X x) := by
  have hk : WideAt.IsKeyLit (.string x.nm.data.toList) := trivial
  refine ⟨putL_dist h.dist x, ?_, fun s => ?_, fun s y hy z => ?_, fun y hy => ?_⟩
  · rw [size_put ht, h.has, h.size, putL_len]
  · rw [lookL_putL h.dist]
    by_cases e : s = x.nm
    · subst e; rw [has_put_same ht.isMap hk]; simp
    · rw [has_put_other (key_str e), h.has, if_neg e]
  · rw [lookL_putL h.dist] at hy
    by_cases e : s = x.nm
    · subst e
      simp only [if_pos, Option.some.injEq] at hy
      subst hy
      exact atKey_put_same ht.isMap hk _ _
    · rw [if_neg e] at hy
      rw [atKey_put_other (key_str e)]
      exact h.at' s y hy z
  · rcases mem_putL.1 hy with rfl | ⟨h1, _⟩
    · exact hx
    · exact h.short y h1
theorem LnsIn.del {D : DataW Value} {X : List Ln} (h : LnsIn D X) (ht : Tidy D) (s : ByteArray) : LnsIn (D.del (.string s.data.toList)) (delL X s) := by
  refine ⟨delL_dist h.dist s, ?_, fun t => ?_, fun t y hy z => ?_, fun y hy => h.short y (List.mem_filter.1 hy).1⟩
  · have h1 := size_del ht (k := .string s.data.toList)
    have h2 := delL_len h.dist s
    rw [h.has, h.size] at h1
    omega
  · rw [lookL_delL h.dist]
    by_cases e : t = s
    · subst e; rw [has_del_same]; simp
    · rw [has_del_other (key_str e), h.has, if_neg e]
  · rw [lookL_delL h.dist] at hy
    by_cases e : t = s
    · rw [if_pos e] at hy; cases hy
    · rw [if_neg e] at hy
      rw [atKey_del_other (key_str e)]
      exact h.at' t y hy z

section
variable {P : Program} {k : TypeId}
/-- Block b of w is a map of at most n entries, from strings; X says what is there. -/
structure MapS (P : Program) (k : TypeId) (w : World) (b n : Nat) (X : List Ln) : Prop where
  key : P.underlying k = some .string
  own : ∃ D : DataW Value, w.ownsMap P k asIs b n D ∧ LnsIn D X
variable {w : World} {b n : Nat} {X : List Ln}
theorem MapS.dist (h : MapS P k w b n X) : Dist X := by
  obtain ⟨D, _, h2⟩ := h.own
  exact h2.dist
theorem MapS.short (h : MapS P k w b n X) : ∀ x ∈ X, x.nm.size ≤ maxLen := by
  obtain ⟨D, _, h2⟩ := h.own
  exact h2.short
theorem MapS.le (h : MapS P k w b n X) : X.length ≤ n := by
  obtain ⟨D, h1, h2⟩ := h.own
  rw [← h2.size]; exact h1.size_le
theorem MapS.lt (h : MapS P k w b n X) : b < w.heap.size := by
  obtain ⟨D, h1, _⟩ := h.own
  exact h1.lt
theorem MapS.perm (h : MapS P k w b n X) {Y : List Ln} (p : X.Perm Y) : MapS P k w b n Y := by
  obtain ⟨D, h1, h2⟩ := h.own
  exact ⟨h.key, ⟨D, h1, h2.perm p⟩⟩
theorem MapS.mono (h : MapS P k w b n X) {n' : Nat} (hn : n ≤ n') : MapS P k w b n' X := by
  obtain ⟨D, h1, h2⟩ := h.own
  exact ⟨h.key, ⟨D, h1.mono hn, h2⟩⟩
/-- The bound comes down to what is there. -/
theorem MapS.tight (h : MapS P k w b n X) : MapS P k w b X.length X := by
  obtain ⟨D, ⟨es, clock, hb, F, hs, hD⟩, h2⟩ := h.own
  refine ⟨h.key, ⟨D, ⟨es, clock, hb, F, ?_, hD⟩, h2⟩⟩
  have h3 := h2.size
  rw [hD] at h3
  have e1 : Maps.size (DataW.map ((es.toList.map (Go.WideElems.rg P k asIs)).foldr DataW.insert [])) = es.size := by simp [Maps.size, length_sorted]
  rw [e1] at h3
  omega
theorem MapS.keep {S : List Nat} {w' : World} (h : MapS P k w b n X) (hf : Frm S w w') (hS : b ∉ S) : MapS P k w' b n X := by
  have hlt := h.lt
  obtain ⟨D, ⟨es, clock, hb, h1⟩, h2⟩ := h.own
  exact ⟨h.key, ⟨D, ⟨es, clock, (hf.block b hlt hS).trans hb, h1⟩, h2⟩⟩
theorem MapS.new (w : World) (hk : P.underlying k = some .string) : MapS P k (w.alloc (.map #[] 0)) w.heap.size 0 [] :=
  ⟨hk, ⟨.map [], World.ownsMap_made w P k asIs, ⟨List.Pairwise.nil, rfl, fun _ => rfl, fun _ _ h => (by cases h), fun _ h => (by simp at h)⟩⟩⟩
/-- A block that is a map is no cells. -/
theorem MapS.whole {e : TypeId} {cs : Array Value} (h : MapS P k w b n X) : ¬ Whole w b e cs := by
  obtain ⟨D, ⟨es, clock, hb, _⟩, _⟩ := h.own
  intro hw
  have e := hb.symm.trans hw
  cases e
theorem MapS.ne {e : TypeId} {cs : Array Value} {g : Nat} (h : MapS P k w b n X) (hw : Whole w g e cs) : b ≠ g := by
  rintro rfl; exact h.whole hw
theorem MapS.look_ok {t e : TypeId} (h : MapS P k w b n X) (ht : P.underlying t = some (.map k e)) {z : Value} (hz : (zeroValue e).run P w = .ok z w) {s : ByteArray} (hs : s.size ≤ maxLen) :
    (Instr.lookup t (.map (some b)) (.string s) true).run P w = .ok (.tuple #[((lookL X s).map Ln.val).getD z, .bool (lookL X s).isSome]) w := by
  obtain ⟨D, h1, h2⟩ := h.own
  obtain ⟨v, ps, hr, hv⟩ := h1.look_ok (string_keyed h.key) ht hz (zd := .held z) (zp := []) rfl (Go.WideMaps.keyOf_string_mk h.key hs)
  rw [hr, h2.has s]
  have hd : DataW.held v = D.atKey (.string s.data.toList) (.held z) := (Prod.mk.inj (Option.some.inj hv)).1
  cases hfi : lookL X s with
  | none =>
    have := h2.has s
    rw [hfi] at this
    rw [Maps.atKey_of_not_has this] at hd
    cases hd
    rfl
  | some u =>
    rw [h2.at' s u hfi] at hd
    cases hd
    rfl
theorem MapS.put {t e : TypeId} (h : MapS P k w b n X) (ht : P.underlying t = some (.map k e)) (hn : n < maxLen) (x : Ln) (hx : x.nm.size ≤ maxLen) :
    ∃ w', (Instr.mapUpdate t (.map (some b)) (.string x.nm) x.val).run P w = .ok () w' ∧ MapS P k w' b (n + 1) (putL X x) ∧ Frm [b] w w' := by
  obtain ⟨D, h1, h2⟩ := h.own
  obtain ⟨w', hr, h4, h5⟩ := h1.update (string_keyed h.key) ht hn (Go.WideMaps.keyOf_string_mk h.key hx) (val := x.val) (d := .held x.val) (ps := []) rfl
  exact ⟨w', hr, ⟨h.key, ⟨_, h4, h2.put (h1.tidy (string_keyed h.key)) x hx⟩⟩, (Frm.refl [b] w).grown h5 (by simp)⟩
theorem MapS.drop {t e : TypeId} (h : MapS P k w b n X) (ht : P.underlying t = some (.map k e)) (s : ByteArray) (hs : s.size ≤ maxLen) (ty : TypeId) :
    ∃ w', (Builtin.delete_ #[t, k] ty #[.map (some b), .string s]).run P w = .ok (.tuple #[]) w' ∧ MapS P k w' b n (delL X s) ∧ Frm [b] w w' := by
  obtain ⟨D, h1, h2⟩ := h.own
  obtain ⟨w', hr, h4, h5⟩ := h1.drop (string_keyed h.key) ht (Go.WideMaps.keyOf_string_mk h.key hs) ty
  refine ⟨w', hr, ⟨h.key, ⟨_, h4, h2.del (h1.tidy (string_keyed h.key)) s⟩⟩, ?_⟩
  obtain ⟨es, clock, es', clock', hb, rfl⟩ := h5
  exact ⟨rfl, rfl, rfl, by simp [Go.ChangeMaps.setBlock], fun j hj hne => by
    have : j ≠ b := by simpa using hne
    exact Go.ChangeMaps.heap_setBlock_other hb _ this⟩
theorem MapS.len {t e : TypeId} (h : MapS P k w b n X) (ht : P.underlying t = some (.map k e)) (ty : TypeId) : (Builtin.len_ #[t] ty #[.map (some b)]).run P w = .ok (.int .i64 (X.length : Nat)) w := by
  obtain ⟨D, h1, h2⟩ := h.own
  rw [h1.len ht ty, h2.size]

/-- A map's value: none, or a block. -/
def MapSl (P : Program) (k : TypeId) (w : World) (m : Option Nat) (n : Nat) (X : List Ln) : Prop :=
  (m = none ∧ X = []) ∨ ∃ b, m = some b ∧ MapS P k w b n X
theorem MapSl.dist {m : Option Nat} (h : MapSl P k w m n X) : Dist X := by
  rcases h with ⟨_, rfl⟩ | ⟨b, _, h⟩
  · exact List.Pairwise.nil
  · exact h.dist
theorem MapSl.perm {m : Option Nat} (h : MapSl P k w m n X) {Y : List Ln} (p : X.Perm Y) : MapSl P k w m n Y := by
  rcases h with ⟨h1, rfl⟩ | ⟨b, h1, h⟩
  · exact .inl ⟨h1, by simpa using p⟩
  · exact .inr ⟨b, h1, h.perm p⟩
theorem MapSl.short {m : Option Nat} (h : MapSl P k w m n X) : ∀ x ∈ X, x.nm.size ≤ maxLen := by
  rcases h with ⟨_, rfl⟩ | ⟨b, _, h⟩
  · intro x hx; cases hx
  · exact h.short
theorem MapSl.lt {m : Option Nat} (h : MapSl P k w m n X) : ∀ b, m = some b → b < w.heap.size := by
  rcases h with ⟨rfl, _⟩ | ⟨b, rfl, h⟩
  · intro b hb; cases hb
  · intro b' hb; cases hb; exact h.lt
theorem MapSl.keep {S : List Nat} {w' : World} {m : Option Nat} (h : MapSl P k w m n X) (hf : Frm S w w') (hS : ∀ b, m = some b → b ∉ S) : MapSl P k w' m n X := by
  rcases h with h | ⟨b, rfl, h⟩
  · exact .inl h
  · exact .inr ⟨b, rfl, h.keep hf (hS b rfl)⟩
theorem MapSl.look_ok {t e : TypeId} {m : Option Nat} (hk : P.underlying k = some .string) (h : MapSl P k w m n X) (ht : P.underlying t = some (.map k e)) {z : Value} (hz : (zeroValue e).run P w = .ok z w) {s : ByteArray} (hs : s.size ≤ maxLen) :
    (Instr.lookup t (.map m) (.string s) true).run P w = .ok (.tuple #[((lookL X s).map Ln.val).getD z, .bool (lookL X s).isSome]) w := by
  rcases h with ⟨rfl, rfl⟩ | ⟨b, rfl, h⟩
  · rw [Maps.look_nil true (string_keyed hk) ht hz (Go.WideMaps.keyOf_string_mk hk hs)]
    rfl
  · exact h.look_ok ht hz hs
theorem MapSl.len {t e : TypeId} {m : Option Nat} (h : MapSl P k w m n X) (ht : P.underlying t = some (.map k e)) (ty : TypeId) : (Builtin.len_ #[t] ty #[.map m]).run P w = .ok (.int .i64 (X.length : Nat)) w := by
  rcases h with ⟨rfl, rfl⟩ | ⟨b, rfl, h⟩
  · simp [Builtin.len_, run_underlying ht, goInt, Result.andThen]
  · exact h.len ht ty

/-- The map in block b ranged over by the iterator r; the lines S came. -/
structure RgS (P : Program) (k : TypeId) (w : World) (b r n : Nat) (X S : List Ln) (cnt : Nat) : Prop where
  key : P.underlying k = some .string
  rg : ∃ (D : DataW Value) (left : Lit → Bool), w.ranges P k asIs b r n D left cnt ∧ LnsIn D X ∧ (∀ x : Ln, x ∈ S ↔ (x ∈ X ∧ left (.string x.nm.data.toList) = false))
  once : Dist S
  count : S.length + cnt ≤ X.length
variable {w' : World} {r : Nat} {S : List Ln} {cnt : Nat} {T : List Nat}
theorem RgS.left_eq (h : RgS P k w b r n X S cnt) : w.rangeLeft b r = cnt := by
  obtain ⟨D, left, hr, _⟩ := h.rg
  exact hr.left_eq
theorem RgS.lt (h : RgS P k w b r n X S cnt) : b < w.heap.size ∧ r < w.heap.size := by
  obtain ⟨D, left, hr, _⟩ := h.rg
  exact ⟨hr.owns.lt, hr.lt⟩
theorem RgS.sub (h : RgS P k w b r n X S cnt) : ∀ x ∈ S, x ∈ X := by
  obtain ⟨D, left, _, _, h3⟩ := h.rg
  exact fun x hx => ((h3 x).1 hx).1
theorem RgS.map (h : RgS P k w b r n X S cnt) : MapS P k w b n X := by
  obtain ⟨D, left, hr, h2, _⟩ := h.rg
  exact ⟨h.key, ⟨D, hr.owns, h2⟩⟩
theorem RgS.keep (h : RgS P k w b r n X S cnt) (hf : Frm T w w') (hb : b ∉ T) (hr : r ∉ T) : RgS P k w' b r n X S cnt := by
  have hlt := h.lt
  obtain ⟨D, left, ⟨es, clock, since, seen, c0, h1, h2, h3, h4, h5, h6⟩, g⟩ := h.rg
  exact ⟨h.key, ⟨D, left, ⟨es, clock, since, seen, c0, (hf.block b hlt.1 hb).trans h1, h2, h3, h4, (hf.block r hlt.2 hr).trans h5, h6⟩, g⟩, h.once, h.count⟩
end
section
variable {P : Program} {k : TypeId} {ops : Array Oper} {rest : List Oper} {o : Oper} {a : Act} {Q : Exit → Act → World → Prop}
/-- 'v, ok := m[s]' at the operation. -/
theorem wpList_lookS (w : World) (hg : o.guard = none) (m x : Operand) (t e : TypeId) (hop : o.op = Op.lookup t m x true) (hk : P.underlying k = some .string) (ht : P.underlying t = some (.map k e)) {z : Value} (hz : (zeroValue e).run P w = .ok z w)
    (mb : Option Nat) (n : Nat) (X : List Ln) (hm : a.eval m = .map mb) (h : MapSl P k w mb n X) (s : ByteArray) (hs : s.size ≤ maxLen) (hx : a.eval x = .string s)
    (hK : wpList P ops Q rest (a.put o.dst (.tuple #[((lookL X s).map Ln.val).getD z, .bool (lookL X s).isSome])) w) : wpList P ops Q (o :: rest) a w := by
  refine wpList_plain hg fun K' hK' => ?_
  unfold Oper.wp
  simp [execOp, hop, hx, hm, h.look_ok hk ht hz hs, Result.andThen]
  exact hK' _ _ hK
/-- 'm[s] = l' at the operation. -/
theorem wpList_putS (w : World) (hg : o.guard = none) (m x v : Operand) (t e : TypeId) (hop : o.op = Op.mapUpdate t m x v) (ht : P.underlying t = some (.map k e))
    (b n : Nat) (X : List Ln) (hm : a.eval m = .map (some b)) (h : MapS P k w b n X) (hn : n < maxLen) (l : Ln) (hl : l.nm.size ≤ maxLen) (hx : a.eval x = .string l.nm) (hv : a.eval v = l.val)
    (hK : ∀ w', MapS P k w' b (n + 1) (putL X l) → Frm [b] w w' → wpList P ops Q rest (a.put o.dst undef) w') : wpList P ops Q (o :: rest) a w := by
  refine wpList_plain hg fun K' hK' => ?_
  obtain ⟨w', hr, h1, h2⟩ := h.put ht hn l hl
  unfold Oper.wp
  simp [execOp, hop, hm, hx, hv, hr, Result.andThen]
  exact hK' _ _ (hK w' h1 h2)
/-- 'delete(m, s)' at the operation. -/
theorem wpList_delS (w : World) (hg : o.guard = none) (m x : Operand) (t e : TypeId) (hop : o.op = Op.call { callee := Callee.builtin Builtin.delete, args := #[m, x], argTypes := #[t, k] }) (ht : P.underlying t = some (.map k e))
    (b n : Nat) (X : List Ln) (hm : a.eval m = .map (some b)) (h : MapS P k w b n X) (s : ByteArray) (hs : s.size ≤ maxLen) (hx : a.eval x = .string s)
    (hK : ∀ w', MapS P k w' b n (delL X s) → Frm [b] w w' → wpList P ops Q rest (a.put o.dst (.tuple #[])) w') : wpList P ops Q (o :: rest) a w := by
  refine wpList_plain hg fun K' hK' => ?_
  obtain ⟨w', hr, h1, h2⟩ := h.drop ht s hs o.type
  unfold Oper.wp
  simp [execOp, hop, resolve, invoke, builtin, hm, hx, hr, Result.andThen]
  exact hK' _ _ (hK w' h1 h2)
/-- 'range m' at the operation. -/
theorem wpList_rangeS (w : World) (hg : o.guard = none) (m : Operand) (t e : TypeId) (hop : o.op = Op.range t m) (ht : P.underlying t = some (.map k e)) (b n : Nat) (X : List Ln) (hm : a.eval m = .map (some b)) (h : MapS P k w b n X)
    (hK : ∀ w', RgS P k w' b w.heap.size n X [] X.length → Frm [] w w' → wpList P ops Q rest (a.put o.dst (.pointer (some ⟨w.heap.size, 0, none⟩))) w') : wpList P ops Q (o :: rest) a w := by
  obtain ⟨D, h1, h2⟩ := h.own
  refine wpList_range_own w hg m t hop k e (string_keyed h.key) ht asIs b n D hm h1 ?_
  intro w' hr hgr hs
  rw [h2.size] at hr
  refine hK w' ⟨h.key, ⟨D, _, hr, h2, fun x => ?_⟩, List.Pairwise.nil, by simp⟩ ((Frm.refl _ _).grown hgr (fun k hk => by cases hk))
  constructor
  · intro hx; cases hx
  · rintro ⟨hx, hn⟩
    rw [h2.has, (lookL_some h2.dist).2 ⟨hx, rfl⟩] at hn
    cases hn
theorem key_strS (hk : P.underlying k = some .string) {key : Value} {kl : Lit} (h : keyOf P k key = some kl) : ∃ s : ByteArray, key = .string s ∧ kl = .string s.data.toList ∧ s.size ≤ maxLen := by
  obtain ⟨s, rfl⟩ := Maps.keyOf_string_inv hk h
  by_cases hs : s.size ≤ maxLen
  · rw [Go.WideMaps.keyOf_string_mk hk hs] at h
    exact ⟨s, rfl, (Option.some.inj h).symm, hs⟩
  · rw [Go.keyOf_string hk] at h
    simp [mapKey, hk, hs] at h
def encS (s : ByteArray) : Value := .string s
/-- The step. -/
theorem wpList_nextS (w : World) (hg : o.guard = none) (it : Operand) (hop : o.op = Op.next it false) (b r n : Nat) (X S : List Ln) (cnt : Nat) (hit : a.eval it = .pointer (some ⟨r, 0, none⟩)) (h : RgS P k w b r n X S cnt)
    (hDone : X.Perm S → wpList P ops Q rest (a.put o.dst (.tuple #[.bool false])) w)
    (hMore : ∀ (x : Ln) (w' : World) (cnt' : Nat), x ∈ X → (∀ y ∈ S, y.nm ≠ x.nm) → RgS P k w' b r n X (S ++ [x]) cnt' → cnt' < cnt → Frm [r] w w' →
      (Instr.entry (.pointer (some ⟨r, 0, none⟩))).run P w' = .ok (.tuple #[.string x.nm, x.val]) w' → wpList P ops Q rest (a.put o.dst (.tuple #[.bool true, .string x.nm, x.val])) w') : wpList P ops Q (o :: rest) a w := by
  obtain ⟨D, left, hr, h1, h3⟩ := h.rg
  refine wpList_next_ranges w hg it hop k (string_keyed h.key) asIs encS id (fun key kl hk => by obtain ⟨x, hx, _⟩ := key_strS h.key hk; exact ⟨x, hx⟩) (fun v _ _ => ⟨v, rfl⟩) b r n D left cnt hit hr ?_ ?_
  · intro hc hl
    refine hDone (perm_same h1.dist h.once (fun x => ?_))
    rw [h3 x, hl]
    simp
  · intro s c kl y w' cnt' hkey hlk hv hat hrg hlt hgr hsz hen
    obtain ⟨s', ex, rfl, hss⟩ := key_strS h.key hkey
    obtain rfl : s = s' := by have := ex; simp only [encS, Value.string.injEq] at this; exact this
    have hhas : Maps.has D (.string s.data.toList) = true := has_true_of_atKey hat
    rw [h1.has] at hhas
    obtain ⟨x, hx⟩ := Option.isSome_iff_exists.1 hhas
    obtain ⟨hxX, rfl⟩ := (lookL_some h1.dist).1 hx
    have hnew : ∀ y ∈ S, y.nm ≠ x.nm := by
      intro y hy e
      have := ((h3 y).1 hy).2
      rw [e, hlk] at this
      cases this
    have hvc : c = x.val := by
      have e1 := h1.at' _ _ hx (.held undef)
      rw [hat] at e1
      have e2 : y = (.held c, []) := (Option.some.inj hv).symm
      rw [e2] at e1
      have e3 : (DataW.held c : DataW Value) = .held x.val := e1
      injection e3
    subst hvc
    refine hMore x w' cnt' hxX hnew ⟨h.key, ⟨D, _, hrg, h1, fun z => ?_⟩, ?_, ?_⟩ hlt ((Frm.refl _ _).grown hgr (fun k hk => by injection hk with hk; subst hk; exact .inl (by simp))) hen
    · rw [List.mem_append, List.mem_singleton, h3 z]
      by_cases hz : z.nm = x.nm
      · constructor
        · rintro (⟨h5, _⟩ | rfl)
          · have : z = x := h1.dist.uniq h5 hxX hz
            subst this
            exact ⟨h5, by simp [Lit.sameKey]⟩
          · exact ⟨hxX, by simp [Lit.sameKey]⟩
        · rintro ⟨h5, _⟩
          exact .inr (h1.dist.uniq h5 hxX hz)
      · have hn : (Lit.string z.nm.data.toList).sameKey (Lit.string x.nm.data.toList) = false := sameKey_ne (key_str hz)
        constructor
        · rintro (⟨h5, h6⟩ | rfl)
          · exact ⟨h5, by simp [h6]⟩
          · exact absurd rfl hz
        · rintro ⟨h5, h6⟩
          refine .inl ⟨h5, ?_⟩
          simpa [hn] using h6
    · unfold Dist
      rw [List.pairwise_append]
      exact ⟨h.once, by simp, fun y hy z hz => by simp at hz; subst hz; exact hnew y hy⟩
    · have := h.count
      simp
      omega
end
end Go.Proofs.YtahhkffghhgojaaDoor
