/- Rows of the call's own of elements of several cells each; appending cells to them, also to a slice without spare room. They speak of no program. -/
import Derived.Test.YtbdgmpfdcmmfhaaDoorVals
namespace Go.Proofs.YtbdgmpfdcmmfhaaDoor
open Go.RowKit

section
variable {P : Program} {w : World}
/-- What appending the cells us (m elements) to an owned value leaves. -/
structure AppS (w w' : World) (base : Nat) (e : TypeId) (sz : Nat) (v : Value) (n m : Nat) (xs us : List Value) (a' : Option Addr) (cap' : Nat) : Prop where
  own : w'.ownsRow base e sz (.slice a' (n + m) cap') (n + m) (xs ++ us)
  grown : w.grownBy w' v.ownBlock
  place : (Value.slice a' (n + m) cap').ownBlock = v.ownBlock ∨ (Value.slice a' (n + m) cap').ownBlock = some w.heap.size
theorem slice_shape {w : World} {base : Nat} {e : TypeId} {sz n : Nat} {v : Value} {xs : List Value} (h : w.ownsRow base e sz v n xs) : ∃ a cap, v = .slice a n cap := by
  rcases h.2 with ⟨hv, h0⟩ | ⟨g, cap', cur, hv, _⟩
  · exact ⟨none, 0, by rw [hv, h0]⟩
  · exact ⟨_, cap', hv⟩

theorem run_appS (base : Nat) (t ty e : TypeId) (i : TypeInfo) (z : Value) (sz by' : Nat) (ht : P.underlying t = some (.slice e)) (hi : P.info? e = some i) (hz : i.zero = some z) (hz1 : z.cells.size = sz) (hsz : 0 < sz)
    (hsize : i.size = sz) (hby : i.bytes = by') (hb : by' ≤ 100) (v : Value) (n : Nat) (xs : List Value) (hown : w.ownsRow base e sz v n xs)
    (ad : Option Addr) (m c : Nat) (us : List Value) (hB : ValsAt w ad us) (hm : us.length = m * sz) (hone : ∀ u ∈ us, u.oneCell' = true) (hnil : ad = none → c = 0)
    (hfit : n + m ≤ 1000000000) (hbase : base ≤ w.heap.size) :
    ∃ a' cap' w', (Builtin.append_ #[t, t] ty #[v, .slice ad m c]).run P w = .ok (.slice a' (n + m) cap') w' ∧ AppS w w' base e sz v n m xs us a' cap' := by
  cases ad with
  | none =>
    have hc0 := hnil rfl
    subst hc0
    have hl0 : us = [] := by
      rcases hB with h | ⟨_, _, h, _⟩
      · exact h
      · cases h
    subst hl0
    have hm0 : m = 0 := by
      rcases Nat.eq_zero_or_pos m with h | h
      · exact h
      · have := Nat.mul_pos h hsz; simp at hm; omega
    subst hm0
    obtain ⟨a', cap', hv⟩ := slice_shape hown
    subst hv
    exact ⟨a', cap', w, run_append_owned_none (P := P) (w := w) base t ty e i sz ht hi _ n xs hown, by simpa using hown, World.grownBy.refl _ _, .inl rfl⟩
  | some x =>
    have hnews : ∀ j u, us[j]? = some u → w.cell? (x.add j) = some u := by
      rcases hB with h | ⟨b, off, h, hh⟩
      · subst h; intro j u hu; simp at hu
      · cases h
        intro j u hu
        rw [addr_add]
        exact hh j u hu
    obtain ⟨v', w', hr, ho, hg, _, hpl⟩ := run_append_own_at (P := P) w base t ty e i z sz by' ht hi hz hsize hby hz1 hsz v n xs hown x m c us hm hnews hone (by unfold maxLen; omega)
      (by have := Nat.mul_le_mul hfit hb; omega) hbase
    obtain ⟨a', cap', hv⟩ := slice_shape ho
    subst hv
    exact ⟨a', cap', w', hr, ho, hg, hpl⟩

theorem wpList_appS {ops : Array Oper} {rest : List Oper} {o : Oper} {a : Act} {Q : Exit → Act → World → Prop} (hw : Region.wanted o (yielded ops a.tmps) = true) (s x : Operand) (t : TypeId)
    (ho : o.op = .call { callee := .builtin .append, args := #[s, x], argTypes := #[t, t] })
    (base : Nat) (e : TypeId) (i : TypeInfo) (z : Value) (sz by' : Nat) (ht : P.underlying t = some (.slice e)) (hi : P.info? e = some i) (hz : i.zero = some z) (hz1 : z.cells.size = sz) (hsz : 0 < sz)
    (hsize : i.size = sz) (hby : i.bytes = by') (hb : by' ≤ 100) (v : Value) (n : Nat) (xs : List Value) (hs : a.eval s = v) (hown : w.ownsRow base e sz v n xs)
    (ad : Option Addr) (m c : Nat) (us : List Value) (hx : a.eval x = .slice ad m c) (hB : ValsAt w ad us) (hm : us.length = m * sz) (hone : ∀ u ∈ us, u.oneCell' = true) (hnil : ad = none → c = 0)
    (hfit : n + m ≤ 1000000000) (hbase : base ≤ w.heap.size)
    (h : ∀ a' cap' w', AppS w w' base e sz v n m xs us a' cap' → wpList P ops Q rest (a.put o.dst (.slice a' (n + m) cap')) w') : wpList P ops Q (o :: rest) a w := by
  refine wpList_step fun K hK => ?_
  rw [if_pos hw]
  obtain ⟨a', cap', w', hr, h2⟩ := run_appS (P := P) base t o.type e i z sz by' ht hi hz hz1 hsz hsize hby hb v n xs hown ad m c us hB hm hone hnil hfit hbase
  unfold Oper.wp execOp
  simp only [ho, resolve, invoke, builtin, Sem.run_bind, Sem.run_pure, Result.andThen_ok, List.map_toArray, List.map_cons, List.map_nil, hs, hx, hr]
  exact hK _ _ (h a' cap' w' h2)

theorem step_appS {ops : Array Oper} {o : Oper} {a : Act} {K : Act → World → Prop} {Q : Exit → Act → World → Prop} {E : Prop} (hw : Region.wanted o (yielded ops a.tmps) = true) (s x : Operand) (t : TypeId)
    (ho : o.op = .call { callee := .builtin .append, args := #[s, x], argTypes := #[t, t] })
    (base : Nat) (e : TypeId) (i : TypeInfo) (z : Value) (sz by' : Nat) (ht : P.underlying t = some (.slice e)) (hi : P.info? e = some i) (hz : i.zero = some z) (hz1 : z.cells.size = sz) (hsz : 0 < sz)
    (hsize : i.size = sz) (hby : i.bytes = by') (hb : by' ≤ 100) (v : Value) (n : Nat) (xs : List Value) (hs : a.eval s = v) (hown : w.ownsRow base e sz v n xs)
    (ad : Option Addr) (m c : Nat) (us : List Value) (hx : a.eval x = .slice ad m c) (hB : ValsAt w ad us) (hm : us.length = m * sz) (hone : ∀ u ∈ us, u.oneCell' = true) (hnil : ad = none → c = 0)
    (hfit : n + m ≤ 1000000000) (hbase : base ≤ w.heap.size) (k : Nat) (hk : n + m = k)
    (h : ∀ a' cap' w', AppS w w' base e sz v n m xs us a' cap' → K (a.put o.dst (.slice a' k cap')) w') :
    if Region.wanted o (yielded ops a.tmps) = true then Oper.wp P o a w K Q else E := by
  subst hk
  rw [if_pos hw]
  obtain ⟨a', cap', w', hr, h2⟩ := run_appS (P := P) base t o.type e i z sz by' ht hi hz hz1 hsz hsize hby hb v n xs hown ad m c us hB hm hone hnil hfit hbase
  unfold Oper.wp execOp
  simp only [ho, resolve, invoke, builtin, Sem.run_bind, Sem.run_pure, Result.andThen_ok, List.map_toArray, List.map_cons, List.map_nil, hs, hx, hr]
  exact h a' cap' w' h2

/-- Appending something to a slice without spare room: a row of the call's own, the slice as it was. -/
theorem run_appT (base : Nat) (t ty e : TypeId) (i : TypeInfo) (z : Value) (sz by' : Nat) (ht : P.underlying t = some (.slice e)) (hi : P.info? e = some i) (hz : i.zero = some z) (hz1 : z.cells.size = sz) (hsz : 0 < sz)
    (hsize : i.size = sz) (hby : i.bytes = by') (hb : by' ≤ 100) (sa : Option Addr) (n : Nat) (xs : List Value) (hS : ValsAt w sa xs) (hxn : xs.length = n * sz)
    (ad : Option Addr) (m c : Nat) (us : List Value) (hB : ValsAt w ad us) (hm : us.length = m * sz) (hone : ∀ u ∈ us, u.oneCell' = true) (hm0 : 0 < m)
    (hfit : n + m ≤ 1000000000) (hbase : base ≤ w.heap.size) (hnil : sa = none → n = 0) :
    ∃ a' cap' w', (Builtin.append_ #[t, t] ty #[.slice sa n n, .slice ad m c]).run P w = .ok (.slice a' (n + m) cap') w' ∧ w'.ownsRow base e sz (.slice a' (n + m) cap') (n + m) (xs ++ us) ∧ Frm [] w w' ∧ ∀ g ∈ blk a', w.heap.size ≤ g := by
  have hune : us ≠ [] := by
    intro h0
    have := Nat.mul_pos hm0 hsz
    rw [h0] at hm; simp at hm; omega
  obtain ⟨b, off, rfl, hh⟩ : ∃ b off, ad = some ⟨b, off, none⟩ ∧ ∀ i u, us[i]? = some u → w.cell? ⟨b, off + i, none⟩ = some u := by
    rcases hB with h | h
    · exact absurd h hune
    · exact h
  have hnews : ∀ j u, us[j]? = some u → w.cell? ((⟨b, off, none⟩ : Addr).add j) = some u := fun j u hu => by rw [addr_add]; exact hh j u hu
  cases sa with
  | none =>
    have hn0 := hnil rfl
    subst hn0
    have hx0 : xs = [] := List.eq_nil_of_length_eq_zero (by simpa using hxn)
    subst hx0
    obtain ⟨a', cap', w', hr, h⟩ := run_appS (P := P) base t ty e i z sz by' ht hi hz hz1 hsz hsize hby hb (.slice none 0 0) 0 [] (World.ownsRow_nil w base e sz) (some ⟨b, off, none⟩) m c us (.inr ⟨b, off, rfl, hh⟩) hm hone (fun h => by cases h) hfit hbase
    refine ⟨a', cap', w', hr, h.own, (Frm.refl _ _).grown h.grown (fun k hk => by simp [Value.ownBlock] at hk), fun g hg => ?_⟩
    obtain ⟨y, rfl, rfl⟩ := mem_blk.1 hg
    rcases h.place with h | h <;> simp [Value.ownBlock] at h
    omega
  | some y =>
    have holds : ∀ j u, xs[j]? = some u → w.cell? (y.add j) = some u := by
      rcases hS with h | ⟨b', off', h, hc⟩
      · subst h; intro j u hu; simp at hu
      · cases h
        intro j u hu
        rw [addr_add]
        exact hc j u hu
    obtain ⟨v', w', hr, ho, hgr⟩ := run_append_arg_grows (P := P) w t ty e i z sz by' ht hi hz hsize hby hz1 hsz y n n xs hxn holds ⟨b, off, none⟩ m c us hm hnews (by omega) (by unfold maxLen; omega) (by have := Nat.mul_le_mul hfit hb; omega)
    obtain ⟨a', cap', hv⟩ := slice_shape ho
    subst hv
    have hlt := World.ownsRow.lt ho
    refine ⟨a', cap', w', hr, ⟨ho.1, ?_⟩, (Frm.refl _ _).grown hgr (fun k hk => by cases hk), fun g hg => ?_⟩
    · rcases ho.2 with h | ⟨g, cap, cur, hv, hb', r⟩
      · exact .inl h
      · exact .inr ⟨g, cap, cur, hv, by omega, r⟩
    · obtain ⟨q, rfl, rfl⟩ := mem_blk.1 hg
      exact (hlt q.block rfl).1

theorem step_appT {ops : Array Oper} {o : Oper} {a : Act} {K : Act → World → Prop} {Q : Exit → Act → World → Prop} {E : Prop} (hw : Region.wanted o (yielded ops a.tmps) = true) (s x : Operand) (t : TypeId)
    (ho : o.op = .call { callee := .builtin .append, args := #[s, x], argTypes := #[t, t] })
    (base : Nat) (e : TypeId) (i : TypeInfo) (z : Value) (sz by' : Nat) (ht : P.underlying t = some (.slice e)) (hi : P.info? e = some i) (hz : i.zero = some z) (hz1 : z.cells.size = sz) (hsz : 0 < sz)
    (hsize : i.size = sz) (hby : i.bytes = by') (hb : by' ≤ 100) (sa : Option Addr) (n : Nat) (xs : List Value) (hs : a.eval s = .slice sa n n) (hS : ValsAt w sa xs) (hxn : xs.length = n * sz)
    (ad : Option Addr) (m c : Nat) (us : List Value) (hx : a.eval x = .slice ad m c) (hB : ValsAt w ad us) (hm : us.length = m * sz) (hone : ∀ u ∈ us, u.oneCell' = true) (hm0 : 0 < m)
    (hfit : n + m ≤ 1000000000) (hbase : base ≤ w.heap.size) (hnil : sa = none → n = 0) (k : Nat) (hk : n + m = k)
    (h : ∀ a' cap' w', w'.ownsRow base e sz (.slice a' k cap') k (xs ++ us) → Frm [] w w' → (∀ g ∈ blk a', w.heap.size ≤ g) → K (a.put o.dst (.slice a' k cap')) w') :
    if Region.wanted o (yielded ops a.tmps) = true then Oper.wp P o a w K Q else E := by
  subst hk
  rw [if_pos hw]
  obtain ⟨a', cap', w', hr, h2, h3, h4⟩ := run_appT (P := P) base t o.type e i z sz by' ht hi hz hz1 hsz hsize hby hb sa n xs hS hxn ad m c us hB hm hone hm0 hfit hbase hnil
  unfold Oper.wp execOp
  simp only [ho, resolve, invoke, builtin, Sem.run_bind, Sem.run_pure, Result.andThen_ok, List.map_toArray, List.map_cons, List.map_nil, hs, hx, hr]
  exact h a' cap' w' h2 h3 h4
end
end Go.Proofs.YtbdgmpfdcmmfhaaDoor
