/- 'mailcoachlaw02.PackRow': for every input that can be read the law answers true, and its arguments read behind the call as they read before. No further condition. The walk is in the text YthoidlfaeabalaaPkRow. -/
import Derived.Test.YthoidlfaeabalaaRows
import Derived.Test.YthoidlfaeabalaaPkRow
import Derived.WalkKit
import Derived.ProofKit
import Derived.OpenShut
import Derived.ShutString
import Derived.ChangeOld
import Derived.Below
import Derived.Deep.Matrix
namespace Go.Proofs.Ythoidlfaeabalaa.packRow
open Go.ChangeShapes Go.WideShapes Go.ChangeAt Go.RowKit
open Go.ChangeMaps (open_string shut_string)

theorem own : ownKnob Try.prog.godebug = none := by kernel_rfl
theorem laidOut : laidOutB Try.prog = true := by kernel_rfl
theorem cellsRow : Try.prog.cellsOf 26 = 1 := by kernel_rfl
theorem cellsByte : Try.prog.cellsOf 5 = 1 := by kernel_rfl

/-- A slice of slices of bytes that came in. -/
theorem open_rows {H : Type} {enc : TypeId × Value → H} {W : World} {held : Bool} {a : Option Addr} {len cap : Nat} {d : DataW H} {p : List MemPlace}
    (h : DataW.Trod enc Try.prog W 0 (fun _ => true) held 58 (.slice a len cap) d p) : ∃ A C M, RowsIn W a len A C M ∧ len ≤ 9223372036854775807 := by
  obtain ⟨fuel, hf⟩ := h
  rcases Go.Deep.open_int_rows Try.underlying58 Try.underlying26 Try.underlying5 cellsRow cellsByte hf with ⟨hcs, _⟩ | ⟨x, l, c, A, L, C, Z, hcs, _, hl, hm, _, hr⟩
  · simp [Value.cells] at hcs
    obtain ⟨rfl, rfl, rfl⟩ := hcs
    exact ⟨fun _ => none, fun _ => 0, [], ⟨rfl, fun h => absurd h (by omega), fun r h => absurd h (by omega), fun r h => absurd h (by omega), fun r h => absurd h (by omega)⟩, by omega⟩
  · simp [Value.cells] at hcs
    obtain ⟨rfl, rfl, rfl⟩ := hcs
    have each : ∀ r, ∃ m : List Nat, r < len → L r = m.length ∧ Bytes W (A r) m := by
      intro r
      by_cases hrl : r < len
      · obtain ⟨_, h2, h3, h4, h5, h6, h7⟩ := hr r (by omega)
        have hrow : RowIn .u8 W (A r) (L r) (C r) (Z r) := by
          cases hA : A r with
          | none =>
            have h0 := h6 hA
            exact .inl ⟨rfl, by omega, h0, List.eq_nil_of_length_eq_zero (by omega)⟩
          | some x' => exact .inr ⟨x', rfl, h2, h3, h4, fun i hi => (h7 x' hA).2 i (by omega), h5⟩
        obtain ⟨m, hm1, hm2⟩ := bytes_of_row hrow
        exact ⟨m, fun _ => ⟨hm1, hm2⟩⟩
      · exact ⟨[], fun h => absurd h hrl⟩
    obtain ⟨f, hf'⟩ := Classical.axiomOfChoice each
    have hM : ∀ r, r < len → ((List.range len).map f).getD r [] = f r := fun r hr => by simp [hr]
    unfold maxLen at hm
    refine ⟨A, C, (List.range len).map f, ⟨by simp, fun h0 => ?_, fun r hrl => by rw [hM r hrl]; exact (hf' r hrl).2, fun r hrl => by rw [hM r hrl, ← (hf' r hrl).1]; exact (hr r (by omega)).2.1, fun r hrl => (hr r (by omega)).2.2.2.2.2.1⟩, by omega⟩
    obtain ⟨b, off, spot⟩ := x
    have hc0 := (hr 0 (by omega)).1
    have hspot : spot = none := by simpa [Addr.add] using World.cell?_spot hc0
    subst hspot
    refine ⟨b, off, rfl, fun r hrl => ?_⟩
    rw [hM r hrl, ← (hf' r hrl).1, ← addr_add]
    exact (hr r (by omega)).1

set_option maxRecDepth 100000 in
theorem lifted (os : Os) (started : os.Started) (H : Type) (enc : TypeId × Value → H) :
    ReturnsInHanded {} Try.checked os 8 .any (Rows.packRowSpec.pre6 enc Try.prog Try.f8 Rows.packRowRow.domain false) (Rows.packRowSpec.post enc Try.prog Try.f8 false true false false) := by
  refine returnsInHanded_of_change (C := Try.checked) own started (by kernel_rfl) Try.func8
    (ChangeSpec.witness6 (enc := enc) (C := Try.checked) false ⟨#[], #[.slice none 0 0], []⟩ 8 (by kernel_rfl) (by kernel_rfl) (by kernel_rfl) (by kernel_rfl)) ?_
  intro W base args ds gs before hval0 hW _ _
  have hval : ∀ (j : Nat) t v, Try.f8.params[j]? = some t → args[j]? = some v → Value.okWide Try.prog W .any base t v := hval0
  have hW' := hW
  obtain ⟨p, q, hA0, hV, rfl, hfz, hnd⟩ := hW
  have hA : DataW.TrodAll enc Try.prog W 0 (fun _ => true) true Try.f8.params.toList args.toList ds p := hA0
  rw [Try.params8] at hA hval
  obtain ⟨v0, vs0, d0, ds0, p0, q0, hargs, rfl, rfl, h0, r0⟩ := trodAll_cons hA
  obtain ⟨rfl, rfl, rfl⟩ := trodAll_nil r0
  obtain rfl : args = #[v0] := by cases args; simp_all
  obtain ⟨rfl, rfl⟩ := trodVars_none hV
  have k0 := h0
  have lt0 : ∀ x ∈ p0, x.block < W.heap.size := by obtain ⟨m, hm⟩ := k0; exact DataW.trod_lt m _ _ _ hm
  obtain ⟨a0, len0, cap0, rfl⟩ := okWide_slice Try.underlying58 (hval 0 58 v0 rfl rfl)
  obtain ⟨A, C, M, hrows, hb⟩ := open_rows h0
  clear hA0 hval0
  refine (packRow_walk a0 len0 cap0 A C M W hrows hb).mono fun e W' ⟨he, bel⟩ => ?_
  subst he
  exact ⟨_, rfl, _, _, _, [], _, [], hW', trodAll_mk1 (shut_bool Try.underlying4 _), (trodAll_cons_mk (Below.trod laidOut (by kernel_rfl) (of_decide_eq_true (by kernel_rfl)) k0 bel lt0) trodAll_mk0), rfl, bel.frame _, fun h => by cases h⟩

theorem over : Rows.packRowRow.holds Try.pinned (OpenSpec.ofChange Rows.packRowSpec) :=
  OpenClaim.holds_of_wide 8 Try.f8 rfl rfl rfl rfl rfl rfl rfl ⟨rfl, rfl, rfl, rfl, rfl⟩ rfl rfl rfl rfl rfl (by kernel_rfl) Try.func8 (by kernel_rfl)
    (of_decide_eq_true (by kernel_rfl)) (by unfold Func.isWrapper; first | (rw [if_pos (by decide +kernel)]; kernel_rfl) | (rw [if_neg (by decide +kernel)]; exact ⟨rfl, rfl⟩))
    (fun os started H enc _ => lifted os started H enc)

/-- The given statement. -/
theorem proved : Rows.PackRowSaid := over
end Go.Proofs.Ythoidlfaeabalaa.packRow
