/- Rows of one-cell values that the call made itself; appending values to them. Slices of slices of bytes: what they read as (LL), rows of the call's own (OwnL), and what stays of them. They speak of no program. -/
import Derived.Test.YtbdgmpfdcmmfhaaDoorHead
import Derived.Maps.AppendAt
import Derived.Deep.RegionLaw
namespace Go.Proofs.YtbdgmpfdcmmfhaaDoor
open Go.RowKit

/-- These values lie there, cell by cell. -/
def ValsAt (w : World) (x : Option Addr) (us : List Value) : Prop := us = [] ∨ ∃ b off, x = some ⟨b, off, none⟩ ∧ ∀ i u, us[i]? = some u → w.cell? ⟨b, off + i, none⟩ = some u
theorem ValsAt.nil (w : World) (x : Option Addr) : ValsAt w x [] := .inl rfl
theorem ValsAt.one (w : World) (v : Value) (t : TypeId) : ValsAt (w.alloc (.cells #[v] t)) (some ⟨w.heap.size, 0, none⟩) [v] := by
  refine .inr ⟨_, _, rfl, fun i u hu => ?_⟩
  rw [(Whole.made w t #[v]).cell]
  rw [Nat.zero_add]
  simpa using hu
theorem ValsAt.keep {S : List Nat} {w w' : World} {x : Option Addr} {us : List Value} (h : ValsAt w x us) (hf : Frm S w w') (hn : us ≠ [] → ∀ y, x = some y → y.block ∉ S) : ValsAt w' x us := by
  rcases h with h | ⟨b, off, rfl, hc⟩
  · exact .inl h
  · by_cases h0 : us = []
    · exact .inl h0
    · refine .inr ⟨b, off, rfl, fun i u hu => ?_⟩
      have e := hc i u hu
      exact (hf.cell (p := ⟨b, off + i, none⟩) (block_lt_of_cell e) (hn h0 ⟨b, off, none⟩ rfl)).trans e

section
variable {P : Program} {w : World}
/-- What appending the values us to an owned value leaves. -/
structure AppV (w w' : World) (base : Nat) (e : TypeId) (v : Value) (n m : Nat) (xs us : List Value) (a' : Option Addr) (cap' : Nat) : Prop where
  own : w'.ownsRow base e 1 (.slice a' (n + m) cap') (n + m) (xs ++ us)
  grown : w.grownBy w' v.ownBlock
  place : (Value.slice a' (n + m) cap').ownBlock = v.ownBlock ∨ (Value.slice a' (n + m) cap').ownBlock = some w.heap.size

theorem run_appV (base : Nat) (t ty e : TypeId) (i : TypeInfo) (z : Value) (by' : Nat) (ht : P.underlying t = some (.slice e)) (hi : P.info? e = some i) (hz : i.zero = some z) (hz1 : z.cells.size = 1)
    (hsize : i.size = 1) (hby : i.bytes = by') (hb24 : by' ≤ 100) (v : Value) (n : Nat) (xs : List Value) (hown : w.ownsRow base e 1 v n xs)
    (ad : Option Addr) (m c : Nat) (us : List Value) (hB : ValsAt w ad us) (hm : m = us.length) (hone : ∀ u ∈ us, u.oneCell' = true) (hnil : ad = none → c = 0)
    (hfit : n + m ≤ 1000000000) (hbase : base ≤ w.heap.size) :
    ∃ a' cap' w', (Builtin.append_ #[t, t] ty #[v, .slice ad m c]).run P w = .ok (.slice a' (n + m) cap') w' ∧ AppV w w' base e v n m xs us a' cap' := by
  have shape : ∀ (v' : Value) (w' : World) (k : Nat) (ys : List Value), w'.ownsRow base e 1 v' k ys → ∃ a' cap', v' = .slice a' k cap' := by
    intro v' w' k ys h
    rcases h.2 with ⟨hv, h0⟩ | ⟨g, cap', cur, hv, _⟩
    · exact ⟨none, 0, by rw [hv, h0]⟩
    · exact ⟨_, cap', hv⟩
  cases ad with
  | none =>
    have hc0 := hnil rfl
    subst hc0
    have hl0 : us = [] := by
      rcases hB with h | ⟨_, _, h, _⟩
      · exact h
      · cases h
    subst hl0
    have hm0 : m = 0 := by simpa using hm
    subst hm0
    obtain ⟨a', cap', hv⟩ := shape v w n xs hown
    subst hv
    exact ⟨a', cap', w, run_append_owned_none (P := P) (w := w) base t ty e i 1 ht hi _ n xs hown, by simpa using hown, World.grownBy.refl _ _, .inl rfl⟩
  | some x =>
    have hnews : ∀ j u, us[j]? = some u → w.cell? (x.add j) = some u := by
      rcases hB with h | ⟨b, off, h, hh⟩
      · subst h; intro j u hu; simp at hu
      · cases h
        intro j u hu
        rw [addr_add]
        exact hh j u hu
    obtain ⟨v', w', hr, ho, hg, _, hpl⟩ := run_append_own_at (P := P) w base t ty e i z 1 by' ht hi hz hsize hby hz1 (by decide) v n xs hown x m c us (by simp [hm]) hnews hone (by unfold maxLen; omega)
      (by have := Nat.mul_le_mul hfit hb24; omega) hbase
    obtain ⟨a', cap', hv⟩ := shape v' w' (n + m) _ ho
    subst hv
    exact ⟨a', cap', w', hr, ho, hg, hpl⟩

theorem wpList_appV {ops : Array Oper} {rest : List Oper} {o : Oper} {a : Act} {Q : Exit → Act → World → Prop} (hgd : o.guard = none) (s x : Operand) (t : TypeId)
    (ho : o.op = .call { callee := .builtin .append, args := #[s, x], argTypes := #[t, t] })
    (base : Nat) (e : TypeId) (i : TypeInfo) (z : Value) (by' : Nat) (ht : P.underlying t = some (.slice e)) (hi : P.info? e = some i) (hz : i.zero = some z) (hz1 : z.cells.size = 1)
    (hsize : i.size = 1) (hby : i.bytes = by') (hb24 : by' ≤ 100) (v : Value) (n : Nat) (xs : List Value) (hs : a.eval s = v) (hown : w.ownsRow base e 1 v n xs)
    (ad : Option Addr) (m c : Nat) (us : List Value) (hx : a.eval x = .slice ad m c) (hB : ValsAt w ad us) (hm : m = us.length) (hone : ∀ u ∈ us, u.oneCell' = true) (hnil : ad = none → c = 0)
    (hfit : n + m ≤ 1000000000) (hbase : base ≤ w.heap.size)
    (h : ∀ a' cap' w', AppV w w' base e v n m xs us a' cap' → wpList P ops Q rest (a.put o.dst (.slice a' (n + m) cap')) w') : wpList P ops Q (o :: rest) a w := by
  refine wpList_plain hgd fun K hK => ?_
  obtain ⟨a', cap', w', hr, h2⟩ := run_appV (P := P) base t o.type e i z by' ht hi hz hz1 hsize hby hb24 v n xs hown ad m c us hB hm hone hnil hfit hbase
  unfold Oper.wp execOp
  simp only [ho, resolve, invoke, builtin, Sem.run_bind, Sem.run_pure, Result.andThen_ok, List.map_toArray, List.map_cons, List.map_nil, hs, hx, hr]
  exact hK _ _ (h a' cap' w' h2)

/-- The same where the operation is guarded, and wanted. -/
theorem wpList_appW {ops : Array Oper} {rest : List Oper} {o : Oper} {a : Act} {Q : Exit → Act → World → Prop} (hw : Region.wanted o (yielded ops a.tmps) = true) (s x : Operand) (t : TypeId)
    (ho : o.op = .call { callee := .builtin .append, args := #[s, x], argTypes := #[t, t] })
    (base : Nat) (e : TypeId) (i : TypeInfo) (z : Value) (by' : Nat) (ht : P.underlying t = some (.slice e)) (hi : P.info? e = some i) (hz : i.zero = some z) (hz1 : z.cells.size = 1)
    (hsize : i.size = 1) (hby : i.bytes = by') (hb24 : by' ≤ 100) (v : Value) (n : Nat) (xs : List Value) (hs : a.eval s = v) (hown : w.ownsRow base e 1 v n xs)
    (ad : Option Addr) (m c : Nat) (us : List Value) (hx : a.eval x = .slice ad m c) (hB : ValsAt w ad us) (hm : m = us.length) (hone : ∀ u ∈ us, u.oneCell' = true) (hnil : ad = none → c = 0)
    (hfit : n + m ≤ 1000000000) (hbase : base ≤ w.heap.size)
    (h : ∀ a' cap' w', AppV w w' base e v n m xs us a' cap' → wpList P ops Q rest (a.put o.dst (.slice a' (n + m) cap')) w') : wpList P ops Q (o :: rest) a w := by
  refine wpList_step fun K hK => ?_
  rw [if_pos hw]
  obtain ⟨a', cap', w', hr, h2⟩ := run_appV (P := P) base t o.type e i z by' ht hi hz hz1 hsize hby hb24 v n xs hown ad m c us hB hm hone hnil hfit hbase
  unfold Oper.wp execOp
  simp only [ho, resolve, invoke, builtin, Sem.run_bind, Sem.run_pure, Result.andThen_ok, List.map_toArray, List.map_cons, List.map_nil, hs, hx, hr]
  exact hK _ _ (h a' cap' w' h2)

theorem step_appV {ops : Array Oper} {o : Oper} {a : Act} {K : Act → World → Prop} {Q : Exit → Act → World → Prop} {E : Prop} (hw : Region.wanted o (yielded ops a.tmps) = true) (s x : Operand) (t : TypeId)
    (ho : o.op = .call { callee := .builtin .append, args := #[s, x], argTypes := #[t, t] })
    (base : Nat) (e : TypeId) (i : TypeInfo) (z : Value) (by' : Nat) (ht : P.underlying t = some (.slice e)) (hi : P.info? e = some i) (hz : i.zero = some z) (hz1 : z.cells.size = 1)
    (hsize : i.size = 1) (hby : i.bytes = by') (hb24 : by' ≤ 100) (v : Value) (n : Nat) (xs : List Value) (hs : a.eval s = v) (hown : w.ownsRow base e 1 v n xs)
    (ad : Option Addr) (m c : Nat) (us : List Value) (hx : a.eval x = .slice ad m c) (hB : ValsAt w ad us) (hm : m = us.length) (hone : ∀ u ∈ us, u.oneCell' = true) (hnil : ad = none → c = 0)
    (hfit : n + m ≤ 1000000000) (hbase : base ≤ w.heap.size) (k : Nat) (hk : n + m = k)
    (h : ∀ a' cap' w', AppV w w' base e v n m xs us a' cap' → K (a.put o.dst (.slice a' k cap')) w') :
    if Region.wanted o (yielded ops a.tmps) = true then Oper.wp P o a w K Q else E := by
  subst hk
  rw [if_pos hw]
  obtain ⟨a', cap', w', hr, h2⟩ := run_appV (P := P) base t o.type e i z by' ht hi hz hz1 hsize hby hb24 v n xs hown ad m c us hB hm hone hnil hfit hbase
  unfold Oper.wp execOp
  simp only [ho, resolve, invoke, builtin, Sem.run_bind, Sem.run_pure, Result.andThen_ok, List.map_toArray, List.map_cons, List.map_nil, hs, hx, hr]
  exact h a' cap' w' h2
end

/-- Values that are slices of bytes, and what they read as; what isn't empty lies outside the blocks F. -/
structure Ents (w : World) (F : List Nat) (vs : List Value) (L : List (List Nat)) : Prop where
  len : vs.length = L.length
  ent : ∀ i, i < L.length → ∃ a cap, vs[i]? = some (.slice a (L.getD i []).length cap) ∧ Bytes w a (L.getD i []) ∧ (L.getD i [] ≠ [] → ∀ x, a = some x → x.block ∉ F) ∧ (a = none → cap = 0)
theorem Ents.nil (w : World) (F : List Nat) : Ents w F [] [] := ⟨rfl, fun i h => absurd h (by simp)⟩
theorem Ents.one' {w : World} {F : List Nat} {vs : List Value} {L : List (List Nat)} (h : Ents w F vs L) : ∀ u ∈ vs, u.oneCell' = true := by
  intro u hu
  obtain ⟨i, hi, e⟩ := List.getElem_of_mem hu
  obtain ⟨a, cap, h1, _⟩ := h.ent i (by rw [← h.len]; exact hi)
  rw [List.getElem?_eq_getElem hi, e] at h1
  cases h1
  rfl
theorem Ents.keep {w w' : World} {F F' S : List Nat} {vs : List Value} {L : List (List Nat)} (h : Ents w F vs L) (hf : Frm S w w') (hS : ∀ x ∈ S, x ∈ F ∨ w.heap.size ≤ x) (hF : ∀ x ∈ F', x ∈ F ∨ w.heap.size ≤ x) : Ents w' F' vs L := by
  refine ⟨h.len, fun i hi => ?_⟩
  obtain ⟨a, cap, h1, h2, h3, h4⟩ := h.ent i hi
  refine ⟨a, cap, h1, hf.bytes' h2 (fun hne x hx hm => ?_), fun hne x hx hm => ?_, h4⟩
  · rcases hS _ hm with h | h
    · exact h3 hne x hx h
    · have := bytes_lt h2 hne x hx; omega
  · rcases hF _ hm with h | h
    · exact h3 hne x hx h
    · have := bytes_lt h2 hne x hx; omega
theorem Ents.less' {w : World} {F F' : List Nat} {vs : List Value} {L : List (List Nat)} (h : Ents w F vs L) (hF : ∀ x ∈ F', x ∈ F ∨ w.heap.size ≤ x) : Ents w F' vs L := h.keep (S := []) (Frm.refl _ _) (by simp) hF
theorem Ents.append {w : World} {F : List Nat} {vs us : List Value} {L M : List (List Nat)} (h : Ents w F vs L) (k : Ents w F us M) : Ents w F (vs ++ us) (L ++ M) := by
  refine ⟨by simp [h.len, k.len], fun i hi => ?_⟩
  by_cases hl : i < L.length
  · obtain ⟨a, cap, h1, h2, h3⟩ := h.ent i hl
    have e : (L ++ M).getD i [] = L.getD i [] := by simp [List.getD, List.getElem?_append, hl]
    rw [e]
    exact ⟨a, cap, by rw [List.getElem?_append_left (by rw [h.len]; exact hl)]; exact h1, h2, h3⟩
  · rw [List.length_append] at hi
    obtain ⟨a, cap, h1, h2, h3⟩ := k.ent (i - L.length) (by omega)
    have e : (L ++ M).getD i [] = M.getD (i - L.length) [] := by simp [List.getD, List.getElem?_append, hl]
    rw [e]
    exact ⟨a, cap, by rw [List.getElem?_append_right (by rw [h.len]; omega), h.len]; exact h1, h2, h3⟩
theorem Ents.sole {w : World} {F : List Nat} {a : Option Addr} {n cap : Nat} {l : List Nat} (h : Bytes w a l) (hn : n = l.length) (hnil : a = none → cap = 0) (hF : l ≠ [] → ∀ x, a = some x → x.block ∉ F) : Ents w F [.slice a n cap] [l] := by
  subst hn
  refine ⟨rfl, fun i hi => ?_⟩
  have : i = 0 := by simpa using hi
  subst this
  exact ⟨a, cap, rfl, h, hF, hnil⟩
theorem Ents.take {w : World} {F : List Nat} {vs : List Value} {L : List (List Nat)} (h : Ents w F vs L) (k : Nat) : Ents w F (vs.take k) (L.take k) := by
  refine ⟨by simp [h.len], fun i hi => ?_⟩
  rw [List.length_take] at hi
  obtain ⟨a, cap, h1, h2, h3⟩ := h.ent i (by omega)
  have e : (L.take k).getD i [] = L.getD i [] := by simp [List.getD, show i < k by omega]
  rw [e]
  exact ⟨a, cap, by rw [List.getElem?_take, if_pos (by omega)]; exact h1, h2, h3⟩

/-- A slice of slices of bytes, as it reads; neither it nor what is in it (if it isn't empty) lies in the blocks F. -/
def LL (w : World) (F : List Nat) (a : Option Addr) (L : List (List Nat)) : Prop :=
  ∃ vs, ValsAt w a vs ∧ Ents w F vs L ∧ (L ≠ [] → ∀ x, a = some x → x.block ∉ F)
theorem LL.keep {w w' : World} {F F' S : List Nat} {a : Option Addr} {L : List (List Nat)} (h : LL w F a L) (hf : Frm S w w') (hS : ∀ x ∈ S, x ∈ F ∨ w.heap.size ≤ x) (hF : ∀ x ∈ F', x ∈ F ∨ w.heap.size ≤ x) : LL w' F' a L := by
  obtain ⟨vs, h1, h2, h3⟩ := h
  have hlt : L ≠ [] → ∀ x, a = some x → x.block < w.heap.size := by
    intro h0 x hx
    have h0' : vs ≠ [] := by intro e; have := h2.len; rw [e] at this; exact h0 (List.eq_nil_of_length_eq_zero this.symm)
    rcases h1 with h | ⟨b, off, rfl, hc⟩
    · exact absurd h h0'
    · cases hx
      cases vs with
      | nil => exact absurd rfl h0'
      | cons v vs => exact block_lt_of_cell (a := ⟨b, off + 0, none⟩) (hc 0 v rfl)
  have hvs : vs ≠ [] → L ≠ [] := by intro h0 e; have := h2.len; rw [e] at this; exact h0 (List.eq_nil_of_length_eq_zero this)
  refine ⟨vs, h1.keep hf (fun h0 x hx hm => ?_), h2.keep hf hS hF, fun h0 x hx hm => ?_⟩
  · rcases hS _ hm with h | h
    · exact h3 (hvs h0) x hx h
    · have := hlt (hvs h0) x hx; omega
  · rcases hF _ hm with h | h
    · exact h3 h0 x hx h
    · have := hlt h0 x hx; omega
theorem LL.less {w : World} {F F' : List Nat} {a : Option Addr} {L : List (List Nat)} (h : LL w F a L) (hF : ∀ x ∈ F', x ∈ F ∨ w.heap.size ≤ x) : LL w F' a L := h.keep (S := []) (Frm.refl _ _) (by simp) hF
theorem LL.take {w : World} {F : List Nat} {a : Option Addr} {L : List (List Nat)} (h : LL w F a L) (k : Nat) : LL w F a (L.take k) := by
  obtain ⟨vs, h1, h2, h3⟩ := h
  refine ⟨vs.take k, ?_, h2.take k, fun h0 => h3 (by rintro rfl; simp at h0)⟩
  rcases h1 with h | ⟨b, off, rfl, hc⟩
  · exact .inl (by rw [h]; simp)
  · refine .inr ⟨b, off, rfl, fun i u hu => hc i u ?_⟩
    rw [List.getElem?_take] at hu
    split at hu
    · exact hu
    · cases hu
/-- One of them. -/
theorem LL.at {w : World} {F : List Nat} {a : Option Addr} {L : List (List Nat)} (h : LL w F a L) {i : Nat} (hi : i < L.length) :
    ∃ b off, a = some ⟨b, off, none⟩ ∧ ∃ ai ci, w.cell? ⟨b, off + i, none⟩ = some (.slice ai (L.getD i []).length ci) ∧ Bytes w ai (L.getD i []) ∧ (L.getD i [] ≠ [] → ∀ x, ai = some x → x.block ∉ F) ∧ (ai = none → ci = 0) := by
  obtain ⟨vs, h1, h2, h3⟩ := h
  obtain ⟨ai, ci, e1, e2, e3⟩ := h2.ent i hi
  rcases h1 with h | ⟨b, off, rfl, hc⟩
  · rw [h] at e1; simp at e1
  · exact ⟨b, off, rfl, ai, ci, hc i _ e1, e2, e3⟩
theorem LL.byte {w : World} {F : List Nat} {a : Option Addr} {L : List (List Nat)} (h : LL w F a L) {l : List Nat} (hl : l ∈ L) : ∀ c ∈ l, c < 256 := by
  obtain ⟨i, hi, rfl⟩ := List.getElem_of_mem hl
  obtain ⟨_, _, _, _, _, _, hb, _⟩ := h.at hi
  simpa [List.getD, hi] using hb.1

/-- A row of the call's own of slices of bytes. -/
structure OwnL (w : World) (base : Nat) (e : TypeId) (F : List Nat) (a : Option Addr) (cap : Nat) (L : List (List Nat)) (vs : List Value) : Prop where
  own : w.ownsRow base e 1 (.slice a L.length cap) L.length vs
  ents : Ents w (blk a ++ F) vs L
  away : ∀ g ∈ blk a, g ∉ F
section
variable {w w' : World} {base : Nat} {e : TypeId} {F F' S : List Nat} {a : Option Addr} {cap : Nat} {L : List (List Nat)} {vs : List Value}
theorem OwnL.nil (w : World) (base : Nat) (e : TypeId) (F : List Nat) : OwnL w base e F none 0 [] [] := ⟨World.ownsRow_nil _ _ _ _, Ents.nil _ _, by simp⟩
theorem OwnL.blk_lt (h : OwnL w base e F a cap L vs) : ∀ g ∈ blk a, base ≤ g ∧ g < w.heap.size := by
  intro g hg
  obtain ⟨x, rfl, rfl⟩ := mem_blk.1 hg
  exact World.ownsRow.lt h.own x.block rfl
theorem OwnL.keep (h : OwnL w base e F a cap L vs) (hf : Frm S w w') (hS : ∀ x ∈ S, x ∈ F ∨ w.heap.size ≤ x) (hF : ∀ x ∈ F', x ∈ F ∨ w.heap.size ≤ x) : OwnL w' base e F' a cap L vs := by
  have hb := h.blk_lt
  refine ⟨hf.own h.own (fun g hg hm => ?_), h.ents.keep hf (fun x hx => ?_) (fun x hx => ?_), fun g hg hm => ?_⟩
  · have hg' : g ∈ blk a := by
      cases a with
      | none => simp [Value.ownBlock] at hg
      | some y => simpa [Value.ownBlock, eq_comm] using hg
    rcases hS g hm with h1 | h1
    · exact h.away g hg' h1
    · have := (hb g hg').2; omega
  · rcases hS x hx with h1 | h1
    · exact .inl (by simp [h1])
    · exact .inr h1
  · rcases List.mem_append.1 hx with h1 | h1
    · exact .inl (by simp [h1])
    · rcases hF x h1 with h2 | h2
      · exact .inl (by simp [h2])
      · exact .inr h2
  · rcases hF g hm with h1 | h1
    · exact h.away g hg h1
    · have := (hb g hg).2; omega
theorem OwnL.ll (h : OwnL w base e F a cap L vs) : LL w F a L := by
  refine ⟨vs, ?_, h.ents.keep (S := []) (Frm.refl _ _) (by simp) (fun x hx => .inl (by simp [hx])), fun _ x hx => h.away x.block (by rw [hx]; simp)⟩
  by_cases h0 : vs = []
  · exact .inl h0
  · rcases h.own.2 with ⟨_, hl⟩ | ⟨g, c, cur, hv, _⟩
    · exact absurd (List.eq_nil_of_length_eq_zero (by rw [h.ents.len, hl])) h0
    · simp only [Value.slice.injEq] at hv
      obtain ⟨rfl, _, rfl⟩ := hv
      refine .inr ⟨g, 0, rfl, fun i u hu => ?_⟩
      have hi : i < vs.length := by
        rcases Nat.lt_or_ge i vs.length with h' | h'
        · exact h'
        · rw [List.getElem?_eq_none h'] at hu; cases hu
      rw [Nat.zero_add, World.ownsRow.cellAt h.own i (by rw [Nat.mul_one, ← h.ents.len]; exact hi)]
      exact hu
theorem OwnL.caps (h : OwnL w base e F a cap L vs) : L.length ≤ cap ∧ cap ≤ maxLen ∧ (a = none → cap = 0) := by
  rcases h.own.2 with ⟨hv, hl⟩ | ⟨g, c, cur, hv, _, _, h1, h2, _⟩
  · simp only [Value.slice.injEq] at hv
    rw [hl, hv.2.2]; exact ⟨Nat.le_refl _, Nat.zero_le _, fun _ => rfl⟩
  · simp only [Value.slice.injEq] at hv
    obtain ⟨rfl, _, rfl⟩ := hv
    exact ⟨h1, h2, fun h => by cases h⟩
/-- What is appended lies neither in the row's block nor in F. -/
theorem OwnL.app {n m : Nat} {us : List Value} {M : List (List Nat)} {a' : Option Addr} {cap' : Nat} (h : OwnL w base e F a cap L vs) (hn : n = L.length) (k : Ents w (blk a ++ F) us M) (hm : m = M.length) (hF : ∀ x ∈ F, x < w.heap.size)
    (ha : AppV w w' base e (.slice a n cap) n m vs us a' cap') : OwnL w' base e F a' cap' (L ++ M) (vs ++ us) ∧ Frm (blk a) w w' ∧ (∀ g ∈ blk a', g ∈ blk a ∨ w.heap.size ≤ g) ∧ n + m = (L ++ M).length := by
  subst hn; subst hm
  have hown : ∀ g, (Value.slice a L.length cap).ownBlock = some g → g ∈ blk a := by
    intro g hg
    cases a with
    | none => simp [Value.ownBlock] at hg
    | some y => simpa [Value.ownBlock, eq_comm] using hg
  have hf : Frm (blk a) w w' := (Frm.refl _ _).grown ha.grown (fun g hg => .inl (hown g hg))
  have hp : ∀ g ∈ blk a', g ∈ blk a ∨ w.heap.size ≤ g := by
    intro g hg
    have hg' : (Value.slice a' (L.length + M.length) cap').ownBlock = some g := by
      obtain ⟨x, rfl, rfl⟩ := mem_blk.1 hg
      rfl
    rcases ha.place with h1 | h1
    · exact .inl (hown g (h1 ▸ hg'))
    · rw [hg'] at h1
      cases h1
      exact .inr (Nat.le_refl _)
  refine ⟨⟨?_, ?_, fun g hg hm => ?_⟩, hf, hp, by simp⟩
  · have := ha.own
    rwa [List.length_append]
  · refine (h.ents.append k).keep hf (fun x hx => .inl (by simp [hx])) (fun x hx => ?_)
    rcases List.mem_append.1 hx with h1 | h1
    · rcases hp x h1 with h2 | h2
      · exact .inl (by simp [h2])
      · exact .inr h2
    · exact .inl (by simp [h1])
  · rcases hp g hg with h1 | h1
    · exact h.away g h1 hm
    · have := hF g hm; omega
end
/-- A slice of slices of bytes that came in. -/
structure LIn (w : World) (a : Option Addr) (cap : Nat) (L : List (List Nat)) : Prop where
  ll : LL w [] a L
  nil : a = none → cap = 0
/-- A slice of bools that came in. -/
def BIn (w : World) (a : Option Addr) (bs : List Bool) : Prop := ∀ i, i < bs.length → ∃ b off, a = some ⟨b, off, none⟩ ∧ w.cell? ⟨b, off + i, none⟩ = some (.bool (bs.getD i false))
theorem BIn.keep {w w' : World} {a : Option Addr} {bs : List Bool} (h : BIn w a bs) (hf : Frm [] w w') : BIn w' a bs := fun i hi => by
  obtain ⟨b, off, h1, h2⟩ := h i hi
  exact ⟨b, off, h1, (hf.cell (p := ⟨b, off + i, none⟩) (block_lt_of_cell h2) (by simp)).trans h2⟩
end Go.Proofs.YtbdgmpfdcmmfhaaDoor
