/- A map from uint64 whose elements are whatever they are: its block reads as a function from keys to values. It speaks of no program. -/
import Derived.Test.YtahhkffghhgojaaDoorMA
import Derived.Maps.RangeWalk
import Derived.Maps.OwnSet
namespace Go.Proofs.YtahhkffghhgojaaDoor
open Go.Maps (Keyed)
set_option maxRecDepth 100000

/-- How an element reads: as itself. -/
def asIs (v : Value) : Option (DataW Value × List MemPlace) := some (.held v, [])

/-- Where a key is at home. -/
abbrev M64 : Nat := 18446744073709551616
theorem wf64 {i : Nat} (h : i < M64) : (Lit.int .u64 (i : Int)).wf = true := by
  have h1 : IntKind.u64.min = 0 := rfl
  have h2 : IntKind.u64.max = 18446744073709551615 := rfl
  have h3 : i < 18446744073709551616 := h
  simp only [Lit.wf, h1, h2, Bool.and_eq_true, decide_eq_true_eq]
  omega

section
variable {P : Program} {k : TypeId}

/-- Block b of w is a map of at most n entries, from uint64; f says what is there. -/
structure MapV (P : Program) (k : TypeId) (w : World) (b n : Nat) (f : Nat → Option Value) : Prop where
  key : P.underlying k = some (.int .u64)
  own : ∃ D : DataW Value, w.ownsMap P k asIs b n D ∧ (∀ i, i < M64 → Maps.has D (.int .u64 (i : Int)) = (f i).isSome) ∧ (∀ i, i < M64 → ∀ v, f i = some v → ∀ z, D.atKey (.int .u64 (i : Int)) z = .held v)
  far : ∀ i, M64 ≤ i → f i = none

variable {w : World} {b n : Nat} {f : Nat → Option Value}

theorem MapV.lt (h : MapV P k w b n f) : b < w.heap.size := by
  obtain ⟨D, h1, _⟩ := h.own
  exact h1.lt
theorem MapV.mono (h : MapV P k w b n f) {n' : Nat} (hn : n ≤ n') : MapV P k w b n' f := by
  obtain ⟨D, h1, h2⟩ := h.own
  exact ⟨h.key, ⟨D, h1.mono hn, h2⟩, h.far⟩
theorem MapV.keep {S : List Nat} {w' : World} (h : MapV P k w b n f) (hf : Frm S w w') (hS : b ∉ S) : MapV P k w' b n f := by
  have hlt := h.lt
  obtain ⟨D, ⟨es, clock, hb, h1⟩, h2⟩ := h.own
  exact ⟨h.key, ⟨D, ⟨es, clock, (hf.block b hlt hS).trans hb, h1⟩, h2⟩, h.far⟩
theorem MapV.new (w : World) (hk : P.underlying k = some (.int .u64)) : MapV P k (w.alloc (.map #[] 0)) w.heap.size 0 (fun _ => none) :=
  ⟨hk, ⟨.map [], World.ownsMap_made w P k asIs, fun _ _ => rfl, fun _ _ _ h => by cases h⟩, fun _ _ => rfl⟩

/-- A block that is a map is no cells. -/
theorem MapV.whole {e : TypeId} {cs : Array Value} (h : MapV P k w b n f) : ¬ Whole w b e cs := by
  obtain ⟨D, ⟨es, clock, hb, _⟩, _⟩ := h.own
  intro hw
  have e := hb.symm.trans hw
  cases e

theorem MapV.look_ok {t e : TypeId} (h : MapV P k w b n f) (ht : P.underlying t = some (.map k e)) {z : Value} (hz : (zeroValue e).run P w = .ok z w) {i : Nat} (hi : i < M64) :
    (Instr.lookup t (.map (some b)) (.int .u64 (i : Int)) true).run P w = .ok (.tuple #[(f i).getD z, .bool (f i).isSome]) w := by
  obtain ⟨D, h1, h2, h3⟩ := h.own
  obtain ⟨v, ps, hr, hv⟩ := h1.look_ok (Maps.int_keyed h.key) ht hz (zd := .held z) (zp := []) rfl (Maps.keyOf_int_mk h.key (wf64 hi))
  rw [hr, h2 i hi]
  have hd : DataW.held v = D.atKey (.int .u64 (i : Int)) (.held z) := (Prod.mk.inj (Option.some.inj hv)).1
  cases hfi : f i with
  | none =>
    have := h2 i hi
    rw [hfi] at this
    rw [Maps.atKey_of_not_has this] at hd
    cases hd
    rfl
  | some u =>
    rw [h3 i hi u hfi] at hd
    cases hd
    rfl

/-- The same, but v at i. -/
def updV (f : Nat → Option Value) (i : Nat) (v : Value) : Nat → Option Value := fun j => if j = i then some v else f j

theorem MapV.put {t e : TypeId} (h : MapV P k w b n f) (ht : P.underlying t = some (.map k e)) (hn : n < maxLen) {i : Nat} (hi : i < M64) (v : Value) :
    ∃ w', (Instr.mapUpdate t (.map (some b)) (.int .u64 (i : Int)) v).run P w = .ok () w' ∧ MapV P k w' b (n + 1) (updV f i v) ∧ Frm [b] w w' := by
  obtain ⟨D, h1, h2, h3⟩ := h.own
  obtain ⟨w', hr, h4, h5⟩ := h1.update (Maps.int_keyed h.key) ht hn (Maps.keyOf_int_mk h.key (wf64 hi)) (val := v) (d := .held v) (ps := []) rfl
  have hm : Maps.IsMap D := h1.isMap
  have hne : ∀ j : Nat, j ≠ i → Lit.int .u64 (j : Int) ≠ Lit.int .u64 (i : Int) := by
    intro j hj e
    injection e with _ e
    exact hj (by omega)
  refine ⟨w', hr, ⟨h.key, ⟨_, h4, ?_, ?_⟩, ?_⟩, (Frm.refl [b] w).grown h5 (by simp)⟩
  · intro j hj
    by_cases e : j = i
    · subst e
      rw [Maps.has_put_same hm (show WideAt.IsKeyLit (.int .u64 _) from trivial)]
      simp [updV]
    · rw [Maps.has_put_other (hne j e), h2 j hj]
      simp [updV, e]
  · intro j hj u hu z
    by_cases e : j = i
    · subst e
      simp only [updV, if_pos, Option.some.injEq] at hu
      subst hu
      exact Maps.atKey_put_same hm (show WideAt.IsKeyLit (.int .u64 _) from trivial) _ _
    · simp only [updV, if_neg e] at hu
      rw [Maps.atKey_put_other (hne j e)]
      exact h3 j hj u hu z
  · intro j hj
    have e : j ≠ i := by omega
    simp only [updV, if_neg e]
    exact h.far j hj

/-- A map's value: none, or a block. -/
def MapVal (P : Program) (k : TypeId) (w : World) (m : Value) (n : Nat) (f : Nat → Option Value) : Prop :=
  (m = .map none ∧ f = fun _ => none) ∨ ∃ b, m = .map (some b) ∧ MapV P k w b n f

theorem MapVal.look_ok {t e : TypeId} {m : Value} (hk : P.underlying k = some (.int .u64)) (h : MapVal P k w m n f) (ht : P.underlying t = some (.map k e)) {z : Value} (hz : (zeroValue e).run P w = .ok z w) {i : Nat} (hi : i < M64) :
    (Instr.lookup t m (.int .u64 (i : Int)) true).run P w = .ok (.tuple #[(f i).getD z, .bool (f i).isSome]) w := by
  rcases h with ⟨rfl, rfl⟩ | ⟨b, rfl, h⟩
  · rw [Maps.look_nil true (Maps.int_keyed hk) ht hz (Maps.keyOf_int_mk hk (wf64 hi))]
    rfl
  · exact h.look_ok ht hz hi
theorem MapVal.keep {S : List Nat} {w' : World} {m : Value} (h : MapVal P k w m n f) (hf : Frm S w w') (hS : ∀ b, m = .map (some b) → b ∉ S) : MapVal P k w' m n f := by
  rcases h with ⟨rfl, rfl⟩ | ⟨b, rfl, h⟩
  · exact .inl ⟨rfl, rfl⟩
  · exact .inr ⟨b, rfl, h.keep hf (hS b rfl)⟩
end

section
variable {P : Program} {k : TypeId} {ops : Array Oper} {rest : List Oper} {o : Oper} {a : Act} {Q : Exit → Act → World → Prop}
end
end Go.Proofs.YtahhkffghhgojaaDoor
