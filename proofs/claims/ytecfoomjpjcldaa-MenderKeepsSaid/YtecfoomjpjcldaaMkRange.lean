/- 'for k, v := range m' over a map from uint64 whose elements are whatever they are: what came so far, each once. -/
import Derived.Test.YtecfoomjpjcldaaMapV
import Derived.Maps.Views
namespace Go.Proofs.Ytecfoomjpjcldaa
open Go.RowKit Go.Maps
set_option maxRecDepth 100000
/-- The map in block b, its function f, ranged over by the iterator r; the keys S came. -/
structure RgV (P : Program) (k : TypeId) (w : World) (b r n : Nat) (f : Nat → Option Value) (S : List Nat) (cnt : Nat) : Prop where
  key : P.underlying k = some (.int .u64)
  rg : ∃ (D : DataW Value) (left : Lit → Bool), w.ranges P k asIs b r n D left cnt ∧ (∀ i, i < M64 → Maps.has D (.int .u64 (i : Int)) = (f i).isSome) ∧ (∀ i, i < M64 → ∀ v, f i = some v → ∀ z, D.atKey (.int .u64 (i : Int)) z = .held v) ∧ (∀ x : Nat, x ∈ S ↔ (x < M64 ∧ Maps.has D (.int .u64 (x : Int)) = true ∧ left (.int .u64 (x : Int)) = false))
  far : ∀ i, M64 ≤ i → f i = none
  once : S.Nodup
section
variable {P : Program} {k : TypeId} {w w' : World} {b r n : Nat} {f : Nat → Option Value} {S : List Nat} {cnt : Nat} {T : List Nat}
theorem RgV.left_eq (h : RgV P k w b r n f S cnt) : w.rangeLeft b r = cnt := by
  obtain ⟨D, left, hr, _⟩ := h.rg
  exact hr.left_eq
theorem RgV.lt (h : RgV P k w b r n f S cnt) : b < w.heap.size ∧ r < w.heap.size := by
  obtain ⟨D, left, hr, _⟩ := h.rg
  exact ⟨hr.owns.lt, hr.lt⟩
theorem RgV.keep (h : RgV P k w b r n f S cnt) (hf : Frm T w w') (hb : b ∉ T) (hr : r ∉ T) : RgV P k w' b r n f S cnt := by
  have hlt := h.lt
  obtain ⟨D, left, ⟨es, clock, since, seen, c0, h1, h2, h3, h4, h5, h6⟩, g⟩ := h.rg
  exact ⟨h.key, ⟨D, left, ⟨es, clock, since, seen, c0, (hf.block b hlt.1 hb).trans h1, h2, h3, h4, (hf.block r hlt.2 hr).trans h5, h6⟩, g⟩, h.far, h.once⟩
/-- Nothing is left: all came. -/
theorem RgV.all (h : RgV P k w b r n f S cnt) (hl : ∀ D left, w.ranges P k asIs b r n D left cnt → ∀ kl, left kl = false) : ∀ x, x ∈ S ↔ f x ≠ none := by
  obtain ⟨D, left, hr, h1, _, h3⟩ := h.rg
  have hl := hl D left hr
  intro x
  rw [h3 x, hl]
  constructor
  · rintro ⟨hx, hh, _⟩
    rw [h1 x hx] at hh
    intro hn; rw [hn] at hh; cases hh
  · intro hn
    have hx : x < M64 := by
      rcases Nat.lt_or_ge x M64 with h | h'
      · exact h
      · exact absurd (h.far x h') hn
    refine ⟨hx, ?_, rfl⟩
    rw [h1 x hx]
    cases hf : f x with
    | none => exact absurd hf hn
    | some _ => rfl
end
section
variable {P : Program} {k : TypeId} {ops : Array Oper} {rest : List Oper} {o : Oper} {a : Act} {Q : Exit → Act → World → Prop}
/-- 'range m' at the operation. -/
theorem wpList_rangeV (w : World) (hg : o.guard = none) (m : Operand) (t e : TypeId) (hop : o.op = Op.range t m) (ht : P.underlying t = some (.map k e)) (b n : Nat) (f : Nat → Option Value) (hm : a.eval m = .map (some b)) (h : MapV P k w b n f)
    (hK : ∀ w' cnt, RgV P k w' b w.heap.size n f [] cnt → Frm [] w w' → wpList P ops Q rest (a.put o.dst (.pointer (some ⟨w.heap.size, 0, none⟩))) w') : wpList P ops Q (o :: rest) a w := by
  obtain ⟨D, h1, h2, h3⟩ := h.own
  refine wpList_range_own w hg m t hop k e (int_keyed h.key) ht asIs b n D hm h1 ?_
  intro w' hr hgr hs
  refine hK w' _ ⟨h.key, ⟨D, _, hr, h2, h3, fun x => ?_⟩, h.far, List.nodup_nil⟩ ((Frm.refl _ _).grown hgr (fun k hk => by cases hk))
  cases Maps.has D (.int .u64 (x : Int)) <;> simp
theorem key_u64V (hk : P.underlying k = some (.int .u64)) {key : Value} {kl : Lit} (h : keyOf P k key = some kl) : ∃ x : Nat, key = .int .u64 (x : Int) ∧ kl = .int .u64 (x : Int) ∧ x < M64 := by
  obtain ⟨x, h1, h2, h3⟩ := Maps.keyOf_int_inv hk h
  have e1 : IntKind.u64.min = 0 := rfl
  have e2 : IntKind.u64.max = 18446744073709551615 := rfl
  simp only [Lit.wf, e1, e2, Bool.and_eq_true, decide_eq_true_eq] at h3
  have hx : ((x.toNat : Nat) : Int) = x := Int.toNat_of_nonneg h3.1
  refine ⟨x.toNat, by rw [hx]; exact h1, by rw [hx]; exact h2, ?_⟩
  show x.toNat < 18446744073709551616
  omega
def encV (x : Nat) : Value := .int .u64 (x : Int)
/-- The step. -/
theorem wpList_nextV (w : World) (hg : o.guard = none) (it : Operand) (hop : o.op = Op.next it false) (b r n : Nat) (f : Nat → Option Value) (S : List Nat) (cnt : Nat) (hit : a.eval it = .pointer (some ⟨r, 0, none⟩)) (h : RgV P k w b r n f S cnt)
    (hDone : (∀ x, x ∈ S ↔ f x ≠ none) → wpList P ops Q rest (a.put o.dst (.tuple #[.bool false])) w)
    (hMore : ∀ (x : Nat) (v : Value) (w' : World) (cnt' : Nat), x < M64 → x ∉ S → f x = some v → RgV P k w' b r n f (S ++ [x]) cnt' → cnt' < cnt → Frm [r] w w' →
      (Instr.entry (.pointer (some ⟨r, 0, none⟩))).run P w' = .ok (.tuple #[.int .u64 (x : Int), v]) w' → wpList P ops Q rest (a.put o.dst (.tuple #[.bool true, .int .u64 (x : Int), v])) w') : wpList P ops Q (o :: rest) a w := by
  obtain ⟨D, left, hr, h1, h2, h3⟩ := h.rg
  refine wpList_next_ranges w hg it hop k (int_keyed h.key) asIs encV id (fun key kl hk => by obtain ⟨x, hx, _⟩ := key_u64V h.key hk; exact ⟨x, hx⟩) (fun v _ _ => ⟨v, rfl⟩) b r n D left cnt hit hr ?_ ?_
  · intro hc hl
    refine hDone (fun x => ?_)
    rw [h3 x, hl]
    constructor
    · rintro ⟨hx, hh, _⟩
      rw [h1 x hx] at hh
      intro hn; rw [hn] at hh; cases hh
    · intro hn
      have hx : x < M64 := by
        rcases Nat.lt_or_ge x M64 with h | h'
        · exact h
        · exact absurd (h.far x h') hn
      refine ⟨hx, ?_, rfl⟩
      rw [h1 x hx]
      cases hf : f x with
      | none => exact absurd hf hn
      | some _ => rfl
  · intro x c kl y w' cnt' hkey hlk hv hat hrg hlt hgr hsz hen
    obtain ⟨x', ex, rfl, hx64⟩ := key_u64V h.key hkey
    obtain rfl : x = x' := by have := ex; simp only [encV, Value.int.injEq] at this; omega
    have hhas : Maps.has D (.int .u64 (x : Int)) = true := has_true_of_atKey hat
    have hnew : x ∉ S := fun hm => by have := ((h3 x).1 hm).2.2; rw [hlk] at this; cases this
    have hfx : ∃ v, f x = some v := by
      rw [h1 x hx64] at hhas
      exact Option.isSome_iff_exists.1 hhas
    obtain ⟨v, hfv⟩ := hfx
    have hvc : c = v := by
      have e1 := h2 x hx64 v hfv (.held undef)
      rw [hat] at e1
      have e2 : y = (.held c, []) := (Option.some.inj hv).symm
      rw [e2] at e1
      have e3 : (DataW.held c : DataW Value) = .held v := e1
      injection e3
    subst hvc
    refine hMore x c w' cnt' hx64 hnew hfv ⟨h.key, ⟨D, _, hrg, h1, h2, fun z => ?_⟩, h.far, List.nodup_append.2 ⟨h.once, by simp, fun a ha b hb => by simp at hb; subst hb; exact fun e => hnew (e ▸ ha)⟩⟩ hlt ((Frm.refl _ _).grown hgr (fun k hk => by injection hk with hk; subst hk; exact .inl (by simp))) hen
    by_cases hz : z = x
    · subst hz; simp [hhas, hx64, Lit.sameKey]
    · have : ¬ (z : Int) = (x : Int) := by omega
      simp [h3 z, hz, Lit.sameKey, this]
end
end Go.Proofs.Ytecfoomjpjcldaa
