/- Cursors that came in, opened in the words of the walks. -/
import Derived.Test.YtghadpihmhaepaaDOpBase
import Derived.Test.YtghadpihmhaepaaDRgOpen
import Derived.Test.YtghadpihmhaepaaCB
namespace Go.Proofs.Ytghadpihmhaepaa
open Go.ChangeShapes Go.WideShapes Go.ChangeAt Go.RowKit
set_option maxRecDepth 100000

theorem cellsHe : Try.prog.cellsOf 55 = 2 := by kernel_rfl
theorem cellsHe0 : Try.prog.cellsOf 23 = 1 := by kernel_rfl
theorem cellsHe1 : Try.prog.cellsOf 53 = 1 := by kernel_rfl
theorem cellsCrs : Try.prog.cellsOf 28 = 3 := by kernel_rfl
theorem cellsCrs0 : Try.prog.cellsOf 25 = 2 := by kernel_rfl
theorem cellsCrs1 : Try.prog.cellsOf 26 = 1 := by kernel_rfl
theorem open_rgsc {H : Type} {enc : TypeId × Value → H} {w : World} {held : Bool} {fuel : Nat} {v : Value} {y : DataW H × List MemPlace}
    (h : DataW.trod enc Try.prog w 0 (fun _ => true) held fuel 53 [v] = some y) :
    ∃ a c l, v = .slice a l.length c ∧ SlIn w ⟨a, c, l⟩ := by
  have hx := h
  rcases Go.Deep.open_slice Try.underlying53 hx with ⟨hcs, _⟩ | ⟨x, l, c, m, n, D, Pl, hcs, _, hl, hm, hmm, _, hi⟩
  · injection hcs with hcs _
    exact ⟨none, 0, [], hcs, Rr.nil _ _, fun _ => rfl, Nat.le_refl _, by simp⟩
  · injection hcs with hcs _
    subst hcs
    obtain ⟨ts, h1, h2⟩ := open_rgs (enc := enc) (held := held) (W := w) (a := some x) (len := l) (cap := c) (d := y.1) (p := y.2) ⟨fuel, by simpa [Value.cells] using h⟩
    exact ⟨some x, c, ts, by rw [h2], h1⟩
set_option maxRecDepth 100000 in
theorem open_he {H : Type} {enc : TypeId × Value → H} {w : World} {held : Bool} {fuel : Nat} {cs : List Value} {y : DataW H × List MemPlace}
    (h : DataW.trod enc Try.prog w 0 (fun _ => true) held fuel 55 cs = some y) :
    ∃ t : Hx, cs = t.cells ∧ HxOk w [] t := by
  obtain ⟨ys, n, _, _, hlen, hyl, hf⟩ := DataW.trod_struct Try.underlying55 h
  rw [cellsHe] at hlen
  have hyl' : ys.length = 2 := hyl
  match cs, hlen, ys, hyl', hf with
  | [v0, v1], _, [y0, y1], _, hf =>
    have f0 : DataW.trod enc Try.prog w 0 (fun _ => true) held n 23 (([v0, v1].drop 0).take (Try.prog.cellsOf 23)) = [y0, y1][0]? := hf 0 _ rfl
    have f1 : DataW.trod enc Try.prog w 0 (fun _ => true) held n 53 (([v0, v1].drop 1).take (Try.prog.cellsOf 53)) = [y0, y1][1]? := hf 1 _ rfl
    rw [cellsHe0] at f0
    rw [cellsHe1] at f1
    change DataW.trod _ _ _ _ _ _ _ _ [v0] = some y0 at f0
    change DataW.trod _ _ _ _ _ _ _ _ [v1] = some y1 at f1
    obtain ⟨x0, e0, _, g0⟩ := DataW.trod_int Try.underlying23 f0
    injection e0 with e0 _
    have r0 := wf_u64 g0
    have q0 : ((x0.toNat : Nat) : Int) = x0 := by omega
    obtain ⟨a1, c1, l1, e1, b1⟩ := open_rgsc f1
    refine ⟨⟨(x0.toNat, l1), a1, c1⟩, ?_, ⟨b1.1, fun _ q _ => by simp, b1.2.1, by show x0.toNat < _; omega, b1.2.2⟩⟩
    show ([v0, v1] : List Value) = [.int .u64 ((x0.toNat : Nat) : Int), .slice a1 l1.length c1]
    rw [e0, e1, q0]
theorem hxl_of {w : World} {b off : Nat} {X : List Hx} (h : ∀ i, i < X.length → w.cell? ⟨b, off + i * 2, none⟩ = some (.int .u64 ((X.getD i default).t.1 : Nat)) ∧ w.cell? ⟨b, off + i * 2 + 1, none⟩ = some (.slice (X.getD i default).a (X.getD i default).t.2.length (X.getD i default).c) ∧ HxOk w [] (X.getD i default)) : HxL w [] (some ⟨b, off, none⟩) X := by
  refine ⟨.inr ⟨b, off, rfl, fun i u hu => ?_⟩, fun x hx => ?_, fun _ q _ => by simp⟩
  · have hlt : i < (hxc X).length := by
      rcases Nat.lt_or_ge i (hxc X).length with h1 | h1
      · exact h1
      · rw [List.getElem?_eq_none h1] at hu; cases hu
    rw [hxc_length] at hlt
    obtain ⟨c0, c1, _⟩ := h (i / 2) (by omega)
    obtain ⟨e0, e1⟩ := hxc_at X (i / 2) (by omega)
    have hm : i % 2 = 0 ∨ i % 2 = 1 := by omega
    rcases hm with hm | hm
    · have e : i / 2 * 2 = i := by omega
      rw [e] at c0 e0
      rw [e0] at hu; cases hu; exact c0
    · have e : i / 2 * 2 + 1 = i := by omega
      rw [Nat.add_assoc, e] at c1
      rw [e] at e1
      rw [e1] at hu; cases hu; exact c1
  · obtain ⟨i, hi, rfl⟩ := List.mem_iff_getElem.1 hx
    have := (h i hi).2.2
    rwa [show X.getD i default = X[i] by simp [hi]] at this
theorem open_hes {H : Type} {enc : TypeId × Value → H} {w : World} {held : Bool} {fuel : Nat} {v : Value} {y : DataW H × List MemPlace}
    (h : DataW.trod enc Try.prog w 0 (fun _ => true) held fuel 26 [v] = some y) :
    ∃ (a : Option Addr) (n c : Nat) (X : List Hx), v = .slice a n c ∧ n = X.length ∧ HxL w [] a X ∧ (a = none → c = 0) ∧ n ≤ c ∧ c ≤ 9223372036854775807 := by
  rcases Go.Deep.open_slice Try.underlying26 h with ⟨hcs, _⟩ | ⟨x, l, c, m, n, D, Pl, hcs, _, hl, hm, hmm, _, hi⟩
  · injection hcs with hcs _
    exact ⟨none, 0, 0, [], hcs, rfl, HxL.nil _ _ _, fun _ => rfl, Nat.le_refl _, by omega⟩
  · injection hcs with hcs _
    subst hcs
    rw [if_pos rfl] at hmm
    obtain ⟨b, off, spot⟩ := x
    unfold maxLen at hm
    rw [cellsHe] at hi
    have hspot : 0 < l → spot = none := fun h0 => by
      obtain ⟨cs', hc, ht⟩ := hi 0 (by omega)
      obtain ⟨_, hcl, hat⟩ := World.cells?_some hc
      obtain ⟨t, rfl, _⟩ := open_he ht
      have c0 := hat 0 (by simp)
      simp [Hx.cells] at c0
      simpa [Addr.add] using World.cell?_spot c0
    have each : ∀ i, ∃ t : Hx, i < l → spot = none ∧ w.cell? ⟨b, off + i * 2, none⟩ = some (.int .u64 (t.t.1 : Nat)) ∧ w.cell? ⟨b, off + i * 2 + 1, none⟩ = some (.slice t.a t.t.2.length t.c) ∧ HxOk w [] t := by
      intro i
      by_cases hil : i < l
      · obtain ⟨cs', hc, ht⟩ := hi i (by omega)
        obtain ⟨_, hcl, hat⟩ := World.cells?_some hc
        obtain ⟨t, rfl, hok⟩ := open_he ht
        have c0 := hat 0 (by simp)
        have c1 := hat 1 (by simp)
        rw [Go.Deep.add_add] at c0 c1
        have hspot := hspot (by omega)
        subst hspot
        rw [addr_add] at c0 c1
        exact ⟨t, fun _ => ⟨rfl, c0, (by rw [Nat.add_assoc]; exact c1), hok⟩⟩
      · exact ⟨default, fun h => absurd h hil⟩
    obtain ⟨f, hf'⟩ := Classical.axiomOfChoice each
    refine ⟨some ⟨b, off, spot⟩, l, c, (List.range l).map f, rfl, by simp, ?_, fun h => by (cases h), hl, by omega⟩
    by_cases h0 : l = 0
    · subst h0; exact HxL.nil _ _ _
    · have hs := (hf' 0 (by omega)).1
      subst hs
      refine hxl_of (fun i hil => ?_)
      have hil' : i < l := by simpa using hil
      have e : ((List.range l).map f).getD i default = f i := by simp [hil']
      rw [e]
      exact (hf' i hil').2
/-- What is known of a cursor that came in. -/
structure CrsIn (w : World) (m : Ps) (a : Option Addr) (n cap : Nat) (X : List Hx) : Prop where
  fits : m.fits
  hl : HxL w [] a X
  len : n = X.length
  nil : a = none → cap = 0
  le : n ≤ cap
  max : cap ≤ 9223372036854775807
set_option maxRecDepth 100000 in
theorem open_crs {H : Type} {enc : TypeId × Value → H} {w : World} {base : Nat} {held : Bool} {v : Value} {d : DataW H} {p : List MemPlace} (hval : Value.okWide Try.prog w .any base 28 v)
    (h : DataW.Trod enc Try.prog w 0 (fun _ => true) held 28 v d p) : ∃ x : Ps × Option Addr × Nat × Nat × List Hx, v = crsV x.1 x.2.1 x.2.2.1 x.2.2.2.1 ∧ CrsIn w x.1 x.2.1 x.2.2.1 x.2.2.2.1 x.2.2.2.2 := by
  obtain ⟨cs, rfl, hsz⟩ := okWide_struct Try.underlying28 hval
  obtain ⟨fuel, h⟩ := h
  have hcs : (Value.agg cs).cells.toList = cs.toList := rfl
  rw [hcs] at h
  obtain ⟨ys, n, _, _, hlen, hyl, hf⟩ := DataW.trod_struct Try.underlying28 h
  rw [cellsCrs] at hlen
  have hyl' : ys.length = 2 := hyl
  obtain ⟨l⟩ := cs
  match l, hlen, ys, hyl', hf with
  | [v0, v1, v2], _, [y0, y1], _, hf =>
    have f0 : DataW.trod enc Try.prog w 0 (fun _ => true) held n 25 (([v0, v1, v2].drop 0).take (Try.prog.cellsOf 25)) = [y0, y1][0]? := hf 0 _ rfl
    have f1 : DataW.trod enc Try.prog w 0 (fun _ => true) held n 26 (([v0, v1, v2].drop 2).take (Try.prog.cellsOf 26)) = [y0, y1][1]? := hf 1 _ rfl
    rw [cellsCrs0] at f0
    rw [cellsCrs1] at f1
    change DataW.trod _ _ _ _ _ _ _ _ [v0, v1] = some y0 at f0
    change DataW.trod _ _ _ _ _ _ _ _ [v2] = some y1 at f1
    obtain ⟨t, ht, h0, h1⟩ : ∃ t : Ps, [v0, v1] = [.int .u64 (t.l : Nat), .int .u64 (t.e : Nat)] ∧ t.l < 18446744073709551616 ∧ t.e < 18446744073709551616 := by
      obtain ⟨zs, k, _, _, hlen2, hzl, hg⟩ := DataW.trod_struct Try.underlying25 f0
      have hzl' : zs.length = 2 := hzl
      match zs, hzl', hg with
      | [z0, z1], _, hg =>
        have g0 : DataW.trod enc Try.prog w 0 (fun _ => true) held k 23 (([v0, v1].drop 0).take (Try.prog.cellsOf 23)) = [z0, z1][0]? := hg 0 _ rfl
        have g1 : DataW.trod enc Try.prog w 0 (fun _ => true) held k 23 (([v0, v1].drop 1).take (Try.prog.cellsOf 23)) = [z0, z1][1]? := hg 1 _ rfl
        rw [cellsHe0] at g0 g1
        change DataW.trod _ _ _ _ _ _ _ _ [v0] = some z0 at g0
        change DataW.trod _ _ _ _ _ _ _ _ [v1] = some z1 at g1
        obtain ⟨x0, e0, _, w0⟩ := DataW.trod_int Try.underlying23 g0
        obtain ⟨x1, e1, _, w1⟩ := DataW.trod_int Try.underlying23 g1
        injection e0 with e0 _
        injection e1 with e1 _
        have r0 := wf_u64 w0
        have r1 := wf_u64 w1
        have q0 : ((x0.toNat : Nat) : Int) = x0 := by omega
        have q1 : ((x1.toNat : Nat) : Int) = x1 := by omega
        exact ⟨⟨x0.toNat, x1.toNat⟩, by rw [e0, e1, q0, q1], by show x0.toNat < _; omega, by show x1.toNat < _; omega⟩
    obtain ⟨a, k, c, X, rfl, h2, h3, h4, h5, h6⟩ := open_hes f1
    injection ht with ht0 ht1
    injection ht1 with ht1 _
    subst ht0 ht1
    exact ⟨(t, a, k, c, X), rfl, ⟨h0, h1⟩, h3, h2, h4, h5, h6⟩
end Go.Proofs.Ytghadpihmhaepaa
