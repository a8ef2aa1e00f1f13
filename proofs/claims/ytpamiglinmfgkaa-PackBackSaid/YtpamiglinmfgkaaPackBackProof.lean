/- 'mailcoachlaw02.PackBack': for every input that can be read the law answers true, and its arguments read behind the call as they read before. No further condition. The walk is in the text YtpamiglinmfgkaaPkBackWalk. -/
import Derived.Test.YtpamiglinmfgkaaRows
import Derived.Test.YtpamiglinmfgkaaPkBackWalk
import Derived.WalkKit
import Derived.ProofKit
import Derived.OpenShut
import Derived.ShutString
import Derived.ChangeOld
import Derived.Below
import Derived.Deep.Slices
import Derived.ChangeSame
namespace Go.Proofs.Ytpamiglinmfgkaa.packBack
open Go.ChangeShapes Go.WideShapes Go.ChangeAt Go.RowKit
open Go.ChangeMaps (open_string shut_string)

theorem own : ownKnob Try.prog.godebug = none := by kernel_rfl
theorem laidOut : laidOutB Try.prog = true := by kernel_rfl
theorem cellsThing : Try.prog.cellsOf 35 = 4 := by kernel_rfl
theorem cellsU8 : Try.prog.cellsOf 5 = 1 := by kernel_rfl
theorem cellsU64 : Try.prog.cellsOf 33 = 1 := by kernel_rfl
theorem cellsBytes : Try.prog.cellsOf 26 = 1 := by kernel_rfl
theorem cellsText : Try.prog.cellsOf 9 = 1 := by kernel_rfl

/-- A Thing that came in, by its four cells. -/
theorem open_thing {H : Type} {enc : TypeId × Value → H} {W : World} {held : Bool} {fuel : Nat} {cs : List Value} {y : DataW H × List MemPlace}
    (h : DataW.trod enc Try.prog W 0 (fun _ => true) held fuel 35 cs = some y) :
    ∃ t : Th, cs = [.int .u8 t.k, .int .u64 t.n, .slice t.ba t.bs.length t.bc, .string t.s] ∧ Bytes W t.ba t.bs ∧ t.bs.length ≤ t.bc ∧ (t.ba = none → t.bc = 0) ∧ t.k < 256 ∧ t.n < 18446744073709551616 ∧ t.s.size ≤ 9223372036854775807 := by
  obtain ⟨ys, n, _, _, hlen, hyl, hf⟩ := DataW.trod_struct Try.underlying35 h
  rw [cellsThing] at hlen
  have hyl' : ys.length = 4 := hyl
  match cs, hlen, ys, hyl', hf with
  | [v0, v1, v2, v3], _, [y0, y1, y2, y3], _, hf =>
    have f0 : DataW.trod enc Try.prog W 0 (fun _ => true) held n 5 (([v0, v1, v2, v3].drop 0).take (Try.prog.cellsOf 5)) = [y0, y1, y2, y3][0]? := hf 0 _ rfl
    have f1 : DataW.trod enc Try.prog W 0 (fun _ => true) held n 33 (([v0, v1, v2, v3].drop 1).take (Try.prog.cellsOf 33)) = [y0, y1, y2, y3][1]? := hf 1 _ rfl
    have f2 : DataW.trod enc Try.prog W 0 (fun _ => true) held n 26 (([v0, v1, v2, v3].drop 2).take (Try.prog.cellsOf 26)) = [y0, y1, y2, y3][2]? := hf 2 _ rfl
    have f3 : DataW.trod enc Try.prog W 0 (fun _ => true) held n 9 (([v0, v1, v2, v3].drop 3).take (Try.prog.cellsOf 9)) = [y0, y1, y2, y3][3]? := hf 3 _ rfl
    rw [cellsU8] at f0
    rw [cellsU64] at f1
    rw [cellsBytes] at f2
    rw [cellsText] at f3
    change DataW.trod _ _ _ _ _ _ _ _ [v0] = some y0 at f0
    change DataW.trod _ _ _ _ _ _ _ _ [v1] = some y1 at f1
    change DataW.trod _ _ _ _ _ _ _ _ [v2] = some y2 at f2
    change DataW.trod _ _ _ _ _ _ _ _ [v3] = some y3 at f3
    obtain ⟨k, hk, _, hkw⟩ := DataW.trod_int Try.underlying5 f0
    obtain ⟨m, hm, _, hmw⟩ := DataW.trod_int Try.underlying33 f1
    obtain ⟨s, hs, _, hss⟩ := DataW.trod_string Try.underlying9 f3
    injection hk with hk _; injection hm with hm _; injection hs with hs _
    subst hk hm hs
    obtain ⟨a, c, zs, len, hv, hrow⟩ : ∃ a c zs len, v2 = .slice a len c ∧ RowIn .u8 W a len c zs := by
      rcases open_ints Try.underlying26 Try.underlying5 cellsU8 f2 with ⟨hcs, _⟩ | ⟨x, l, c, zs, hcs, _, hl, hm, hz, hx, hcell, hwz⟩
      · injection hcs with hcs _
        exact ⟨none, 0, [], 0, hcs, .inl ⟨rfl, rfl, rfl, rfl⟩⟩
      · injection hcs with hcs _
        exact ⟨some x, c, zs, l, hcs, .inr ⟨x, rfl, hl, hm, by simpa using hz, hcell, hwz⟩⟩
    subst hv
    obtain ⟨b, hb1, hb2⟩ := bytes_of_row hrow
    have h1 := wf_bounds_u8 hkw
    have h2 : 0 ≤ m ∧ m < 18446744073709551616 := by
      simp [Lit.wf, IntKind.min, IntKind.max, IntKind.signed, IntKind.bits] at hmw
      omega
    have hc := row_cap hrow
    unfold maxLen at hss
    refine ⟨⟨k.toNat, m.toNat, a, c, b, s⟩, ?_, hb2, by rw [← hb1]; exact hc, row_nil hrow, ?_, ?_, ?_⟩
    · have e1 : ((k.toNat : Nat) : Int) = k := by omega
      have e2 : ((m.toNat : Nat) : Int) = m := by omega
      show ([Value.int .u8 k, .int .u64 m, .slice a len c, .string s] : List Value) = [Value.int .u8 (k.toNat : Nat), .int .u64 (m.toNat : Nat), .slice a b.length c, .string s]
      rw [e1, e2, hb1]
    · show k.toNat < _; omega
    · show m.toNat < _; omega
    · show s.size ≤ _; omega

/-- A slice of Things that came in. -/
theorem open_things {H : Type} {enc : TypeId × Value → H} {W : World} {held : Bool} {a : Option Addr} {len cap : Nat} {d : DataW H} {p : List MemPlace}
    (h : DataW.Trod enc Try.prog W 0 (fun _ => true) held 22 (.slice a len cap) d p) : ∃ ts : List Th, Things W a ts ∧ len = ts.length ∧ len ≤ 9223372036854775807 := by
  obtain ⟨fuel, hf⟩ := h
  rcases Go.Deep.open_slice Try.underlying22 hf with ⟨hcs, _⟩ | ⟨x, l, c, m, n, D, Pl, hcs, _, hl, hm, hmm, _, hi⟩
  · simp [Value.cells] at hcs
    obtain ⟨rfl, rfl, rfl⟩ := hcs
    exact ⟨[], fun h => absurd h (by simp), rfl, by omega⟩
  · simp [Value.cells] at hcs
    obtain ⟨rfl, rfl, rfl⟩ := hcs
    rw [if_pos rfl] at hmm
    obtain ⟨b, off, spot⟩ := x
    unfold maxLen at hm
    rw [cellsThing] at hi
    have hspot : 0 < len → spot = none := fun h0 => by
      obtain ⟨cs', hc, ht⟩ := hi 0 (by omega)
      obtain ⟨_, hcl, hat⟩ := World.cells?_some hc
      obtain ⟨t, rfl, _⟩ := open_thing ht
      have c0 : _ = some (Value.int .u8 t.k) := hat 0 (by omega)
      simpa [Addr.add] using World.cell?_spot c0
    have each : ∀ i, ∃ t : Th, i < len → spot = none ∧ ThIn W b (off + i * 4) t := by
      intro i
      by_cases hil : i < len
      · obtain ⟨cs', hc, ht⟩ := hi i (by omega)
        obtain ⟨_, hcl, hat⟩ := World.cells?_some hc
        obtain ⟨t, rfl, h1, h2, h3, h4, h5, h6⟩ := open_thing ht
        have c0 := hat 0 (by omega)
        have c1 := hat 1 (by omega)
        have c2 := hat 2 (by omega)
        have c3 := hat 3 (by omega)
        rw [Go.Deep.add_add] at c0 c1 c2 c3
        have hspot := hspot (by omega)
        subst hspot
        rw [addr_add] at c0 c1 c2 c3
        exact ⟨t, fun _ => ⟨rfl, c0, by rw [Nat.add_assoc]; exact c1, by rw [Nat.add_assoc]; exact c2, by rw [Nat.add_assoc]; exact c3, h1, h2, h3, h4, h5, h6⟩⟩
      · exact ⟨default, fun h => absurd h hil⟩
    obtain ⟨f, hf'⟩ := Classical.axiomOfChoice each
    refine ⟨(List.range len).map f, fun h0 => ?_, by simp, by omega⟩
    have h0' : 0 < len := by simpa using h0
    have hs := (hf' 0 h0').1
    subst hs
    refine ⟨b, off, rfl, fun i hil => ?_⟩
    have hil' : i < len := by simpa using hil
    have e : ((List.range len).map f).getD i default = f i := by simp [hil']
    rw [e]
    exact (hf' i hil').2

set_option maxRecDepth 100000 in
theorem lifted (os : Os) (started : os.Started) (H : Type) (enc : TypeId × Value → H) :
    ReturnsInHanded {} Try.checked os 4 .any (Rows.packBackSpec.pre6 enc Try.prog Try.f4 Rows.packBackRow.domain false) (Rows.packBackSpec.post enc Try.prog Try.f4 false true false false) := by
  refine returnsInHanded_of_change (C := Try.checked) own started (by kernel_rfl) Try.func4
    (ChangeSpec.witness6 (enc := enc) (C := Try.checked) false ⟨#[], #[.slice none 0 0, .slice none 0 0], []⟩ 8 (by kernel_rfl) (by kernel_rfl) (by kernel_rfl) (by kernel_rfl)) ?_
  intro W base args ds gs before hval0 hW _ _
  have hval : ∀ (j : Nat) t v, Try.f4.params[j]? = some t → args[j]? = some v → Value.okWide Try.prog W .any base t v := hval0
  have hW' := hW
  obtain ⟨p, q, hA0, hV, rfl, hfz, hnd⟩ := hW
  have hA : DataW.TrodAll enc Try.prog W 0 (fun _ => true) true Try.f4.params.toList args.toList ds p := hA0
  rw [Try.params4] at hA hval
  obtain ⟨v0, vs0, d0, ds0, p0, q0, hargs, rfl, rfl, h0, r0⟩ := trodAll_cons hA
  obtain ⟨v1, vs1, d1, ds1, p1, q1, rfl, rfl, rfl, h1, r1⟩ := trodAll_cons r0
  obtain ⟨rfl, rfl, rfl⟩ := trodAll_nil r1
  obtain rfl : args = #[v0, v1] := by cases args; simp_all
  obtain ⟨rfl, rfl⟩ := trodVars_none hV
  have k0 := h0
  have lt0 : ∀ x ∈ p0, x.block < W.heap.size := by obtain ⟨m, hm⟩ := k0; exact DataW.trod_lt m _ _ _ hm
  have k1 := h1
  have lt1 : ∀ x ∈ p1, x.block < W.heap.size := by obtain ⟨m, hm⟩ := k1; exact DataW.trod_lt m _ _ _ hm
  obtain ⟨a0, len0, cap0, rfl⟩ := okWide_slice Try.underlying22 (hval 0 22 v0 rfl rfl)
  obtain ⟨ts, hth, hn, hb⟩ := open_things h0
  obtain ⟨a1, len1, cap1, rfl⟩ := okWide_slice Try.underlying26 (hval 1 26 v1 rfl rfl)
  obtain ⟨z1, w1⟩ : ∃ zs, RowIn .u8 W a1 len1 cap1 zs := by
    obtain ⟨fuel, hf⟩ := h1
    rcases open_ints Try.underlying26 Try.underlying5 (by kernel_rfl) hf with ⟨hcs, _⟩ | ⟨x, l, c, zs, hcs, _, hl, hm, hz, hx, hcell, hwz⟩
    · simp [Value.cells] at hcs
      obtain ⟨rfl, rfl, rfl⟩ := hcs
      exact ⟨[], .inl ⟨rfl, rfl, rfl, rfl⟩⟩
    · simp [Value.cells] at hcs
      obtain ⟨rfl, rfl, rfl⟩ := hcs
      exact ⟨zs, .inr ⟨_, rfl, hl, hm, by simpa using hz, hcell, hwz⟩⟩
  obtain ⟨more, hlm, hmo⟩ := bytes_of_row w1
  clear hA0 hval0
  refine (packBack_walk a0 len0 cap0 ts a1 len1 cap1 more W hth hn hb hmo hlm (row_nil w1)).mono fun e W' ⟨he, bel⟩ => ?_
  subst he
  exact ⟨_, rfl, _, _, _, [], _, [], hW', trodAll_mk1 (shut_bool Try.underlying4 _), (trodAll_cons_mk (Below.trod laidOut (by kernel_rfl) (of_decide_eq_true (by kernel_rfl)) k0 bel lt0) (trodAll_cons_mk (Below.trod laidOut (by kernel_rfl) (of_decide_eq_true (by kernel_rfl)) k1 bel lt1) trodAll_mk0)), rfl, bel.frame _, fun h => by cases h⟩

theorem over : Rows.packBackRow.holds Try.pinned (OpenSpec.ofChange Rows.packBackSpec) :=
  OpenClaim.holds_of_wide 4 Try.f4 rfl rfl rfl rfl rfl rfl rfl ⟨rfl, rfl, rfl, rfl, rfl⟩ rfl rfl rfl rfl rfl (by kernel_rfl) Try.func4 (by kernel_rfl)
    (of_decide_eq_true (by kernel_rfl)) (by unfold Func.isWrapper; first | (rw [if_pos (by decide +kernel)]; kernel_rfl) | (rw [if_neg (by decide +kernel)]; exact ⟨rfl, rfl⟩))
    (fun os started H enc _ => lifted os started H enc)

/-- The given statement. -/
theorem proved : Rows.PackBackSaid := over
end Go.Proofs.Ytpamiglinmfgkaa.packBack
