/- Appending whatever slice of bytes (nil or not) to a row of the call's own, with where the new row lies; in a plain region (wpList_app) and in one that draws its order (step_app). They speak of no program. -/
import Derived.Test.YtbdgmpfdcmmfhaaDoorFrm
import Derived.Maps.AppendAt
import Derived.Deep.RegionLaw
namespace Go.Proofs.YtbdgmpfdcmmfhaaDoor
open Go.RowKit

section
variable {P : Program} {w : World}
/-- What appending the bytes l to an owned value leaves. -/
structure App (w w' : World) (base : Nat) (e : TypeId) (v : Value) (n m : Nat) (xs : List Value) (l : List Nat) (a' : Option Addr) (cap' : Nat) : Prop where
  own : w'.ownsRow base e 1 (.slice a' (n + m) cap') (n + m) (xs ++ l.map u8v)
  grown : w.grownBy w' v.ownBlock
  place : (Value.slice a' (n + m) cap').ownBlock = v.ownBlock ∨ (Value.slice a' (n + m) cap').ownBlock = some w.heap.size

theorem run_app (base : Nat) (t ty e : TypeId) (i : TypeInfo) (ht : P.underlying t = some (.slice e)) (hi : P.info? e = some i) (hz : i.zero = some (.int .u8 0))
    (hsize : i.size = 1) (hby : i.bytes = 1) (v : Value) (n : Nat) (xs : List Value) (hown : w.ownsRow base e 1 v n xs)
    (ad : Option Addr) (m c : Nat) (l : List Nat) (hB : Bytes w ad l) (hm : m = l.length) (hnil : ad = none → c = 0)
    (hfit : n + m ≤ 140737488355328) (hbase : base ≤ w.heap.size) :
    ∃ a' cap' w', (Builtin.append_ #[t, t] ty #[v, .slice ad m c]).run P w = .ok (.slice a' (n + m) cap') w' ∧ App w w' base e v n m xs l a' cap' := by
  obtain ⟨h8, hl, hc⟩ := hB
  have shape : ∀ (v' : Value) (w' : World) (k : Nat) (ys : List Value), w'.ownsRow base e 1 v' k ys → ∃ a' cap', v' = .slice a' k cap' := by
    intro v' w' k ys h
    rcases h.2 with ⟨hv, h0⟩ | ⟨g, cap', cur, hv, _⟩
    · exact ⟨none, 0, by rw [hv, h0]⟩
    · exact ⟨_, cap', hv⟩
  cases ad with
  | none =>
    have hc0 := hnil rfl
    subst hc0
    have hl0 : l = [] := by
      rcases hc with h | ⟨b, off, h, _⟩
      · exact h
      · cases h
    subst hl0
    have hm0 : m = 0 := by simpa using hm
    subst hm0
    obtain ⟨a', cap', hv⟩ := shape v w n xs hown
    subst hv
    exact ⟨a', cap', w, run_append_owned_none (P := P) (w := w) base t ty e i 1 ht hi _ n xs hown, by simpa using hown, World.grownBy.refl _ _, .inl rfl⟩
  | some x =>
    have hnews : ∀ j u, (l.map u8v)[j]? = some u → w.cell? (x.add j) = some u := by
      rcases hc with h | ⟨b, off, h, hh⟩
      · subst h; intro j u hu; simp at hu
      · cases h; exact Bytes.news hh
    obtain ⟨v', w', hr, ho, hg, _, hpl⟩ := run_append_own_at (P := P) w base t ty e i (.int .u8 0) 1 1 ht hi hz hsize hby rfl (by decide) v n xs hown x m c (l.map u8v) (by simp [hm]) hnews (u8v_one l) (by unfold maxLen; omega) (by omega) hbase
    obtain ⟨a', cap', hv⟩ := shape v' w' (n + m) _ ho
    subst hv
    exact ⟨a', cap', w', hr, ho, hg, hpl⟩

theorem wpList_app {ops : Array Oper} {rest : List Oper} {o : Oper} {a : Act} {Q : Exit → Act → World → Prop} (hgd : o.guard = none) (s x : Operand) (t : TypeId)
    (ho : o.op = .call { callee := .builtin .append, args := #[s, x], argTypes := #[t, t] })
    (base : Nat) (e : TypeId) (i : TypeInfo) (ht : P.underlying t = some (.slice e)) (hi : P.info? e = some i) (hz : i.zero = some (.int .u8 0))
    (hsize : i.size = 1) (hby : i.bytes = 1) (v : Value) (n : Nat) (xs : List Value) (hs : a.eval s = v) (hown : w.ownsRow base e 1 v n xs)
    (ad : Option Addr) (m c : Nat) (l : List Nat) (hx : a.eval x = .slice ad m c) (hB : Bytes w ad l) (hm : m = l.length) (hnil : ad = none → c = 0)
    (hfit : n + m ≤ 140737488355328) (hbase : base ≤ w.heap.size)
    (h : ∀ a' cap' w', App w w' base e v n m xs l a' cap' → wpList P ops Q rest (a.put o.dst (.slice a' (n + m) cap')) w') : wpList P ops Q (o :: rest) a w := by
  refine wpList_plain hgd fun K hK => ?_
  obtain ⟨a', cap', w', hr, h2⟩ := run_app (P := P) base t o.type e i ht hi hz hsize hby v n xs hown ad m c l hB hm hnil hfit hbase
  unfold Oper.wp execOp
  simp only [ho, resolve, invoke, builtin, Sem.run_bind, Sem.run_pure, Result.andThen_ok, List.map_toArray, List.map_cons, List.map_nil, hs, hx, hr]
  exact hK _ _ (h a' cap' w' h2)

theorem step_app {ops : Array Oper} {o : Oper} {a : Act} {K : Act → World → Prop} {Q : Exit → Act → World → Prop} {E : Prop} (hgd : o.guard = none) (s x : Operand) (t : TypeId)
    (ho : o.op = .call { callee := .builtin .append, args := #[s, x], argTypes := #[t, t] })
    (base : Nat) (e : TypeId) (i : TypeInfo) (ht : P.underlying t = some (.slice e)) (hi : P.info? e = some i) (hz : i.zero = some (.int .u8 0))
    (hsize : i.size = 1) (hby : i.bytes = 1) (v : Value) (n : Nat) (xs : List Value) (hs : a.eval s = v) (hown : w.ownsRow base e 1 v n xs)
    (ad : Option Addr) (m c : Nat) (l : List Nat) (hx : a.eval x = .slice ad m c) (hB : Bytes w ad l) (hm : m = l.length) (hnil : ad = none → c = 0)
    (hfit : n + m ≤ 140737488355328) (hbase : base ≤ w.heap.size)
    (h : ∀ a' cap' w', App w w' base e v n m xs l a' cap' → K (a.put o.dst (.slice a' (n + m) cap')) w') :
    if Region.wanted o (yielded ops a.tmps) = true then Oper.wp P o a w K Q else E := by
  have hw : Region.wanted o (yielded ops a.tmps) = true := by simp [Region.wanted, hgd]
  rw [if_pos hw]
  obtain ⟨a', cap', w', hr, h2⟩ := run_app (P := P) base t o.type e i ht hi hz hsize hby v n xs hown ad m c l hB hm hnil hfit hbase
  unfold Oper.wp execOp
  simp only [ho, resolve, invoke, builtin, Sem.run_bind, Sem.run_pure, Result.andThen_ok, List.map_toArray, List.map_cons, List.map_nil, hs, hx, hr]
  exact h a' cap' w' h2
end
end Go.Proofs.YtbdgmpfdcmmfhaaDoor
