/- Lists of entries that came in within other values. -/
import Derived.Test.YtecfoomjpjcldaaOpIm
import Derived.Test.YtecfoomjpjcldaaIt
namespace Go.Proofs.Ytecfoomjpjcldaa
open Go.ChangeShapes Go.WideShapes Go.ChangeAt Go.RowKit
set_option maxRecDepth 100000
def Im.ix (t : Im) : Ix := ⟨(t.ent, t.data), t.dataA, t.dataC⟩
/-- A list of entries that came in, as the walks of later layers read one. -/
theorem Ims.il {w : World} {a : Option Addr} {ts : List Im} (h : Ims w a ts) : IL w [] a (ts.map Im.ix) := by
  by_cases h0 : ts = []
  · subst h0; exact IL.nil _ _ _
  · obtain ⟨b, off, rfl, hi⟩ := h (List.length_pos_iff.2 h0)
    have hg : ∀ i, i < ts.length → (ts.map Im.ix).getD i default = (ts.getD i default).ix := fun i h1 => by simp [h1]
    refine ⟨.inr ⟨b, off, rfl, fun i u hu => ?_⟩, fun x hx => ?_, by simp⟩
    · have hlt : i < ts.length * 2 := by
        rcases Nat.lt_or_ge i (ts.length * 2) with h1 | h1
        · exact h1
        · rw [List.getElem?_eq_none (by rw [ic_length, List.length_map]; exact h1)] at hu; cases hu
      obtain ⟨h1, h2⟩ := ic_at (ts.map Im.ix) (i / 2) (by rw [List.length_map]; omega)
      rw [hg _ (by omega)] at h1 h2
      have hm := hi (i / 2) (by omega)
      rcases Nat.mod_two_eq_zero_or_one i with h3 | h3
      · rw [show i / 2 * 2 = i by omega] at h1
        rw [h1] at hu
        injection hu with hu
        subst hu
        have := hm.c0
        rw [show off + i / 2 * 2 = off + i by omega] at this
        exact this
      · rw [show i / 2 * 2 + 1 = i by omega] at h2
        rw [h2] at hu
        injection hu with hu
        subst hu
        have := hm.c1
        rw [show off + i / 2 * 2 + 1 = off + i by omega] at this
        exact this
    · obtain ⟨t, ht, rfl⟩ := List.mem_map.1 hx
      obtain ⟨i, h1, rfl⟩ := List.getElem_of_mem ht
      have hm := (hi i h1).ok
      rw [show ts.getD i default = ts[i] by simp [h1]] at hm
      exact ⟨hm.data_b, by simp, hm.data_nil, hm.ent_lt⟩
theorem open_itemsc {H : Type} {enc : TypeId × Value → H} {w : World} {held : Bool} {fuel : Nat} {v : Value} {y : DataW H × List MemPlace}
    (h : DataW.trod enc Try.prog w 0 (fun _ => true) held fuel 49 [v] = some y) :
    ∃ a c l, v = .slice a l.length c ∧ IL w [] a l ∧ l.length ≤ c ∧ (a = none → c = 0) := by
  have hx := h
  rcases Go.Deep.open_slice Try.underlying49 hx with ⟨hcs, _⟩ | ⟨x, l, c, m, n, D, Pl, hcs, _, hl, hm, hmm, _, hi⟩
  · injection hcs with hcs _
    exact ⟨none, 0, [], hcs, IL.nil _ _ _, Nat.le_refl _, fun _ => rfl⟩
  · injection hcs with hcs _
    subst hcs
    obtain ⟨ts, h1, h2, h3⟩ := open_Ims (enc := enc) (held := held) (w := w) (a := some x) (len := l) (cap := c) (d := y.1) (p := y.2) ⟨fuel, by simpa [Value.cells] using h⟩
    exact ⟨some x, c, ts.map Im.ix, by rw [List.length_map, ← h2], h1.il, by rw [List.length_map, ← h2]; exact hl, fun hn => by cases hn⟩
end Go.Proofs.Ytecfoomjpjcldaa
