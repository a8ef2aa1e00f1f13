/- A row of the call's own of rows of bytes of the call's own: each may be read and turned byte by byte. -/
import Derived.Test.YtamcandcfainfaaGreatMX
import Derived.Test.YtamcandcfainfaaGreatZLCap
import Derived.Test.YtamcandcfainfaaGreatZRwPut
namespace Go.Proofs.YtamcandcfainfaaGreat
open Go.RowKit
set_option maxRecDepth 100000
/-- A row of bytes of the call's own, one at least. -/
def RowW (w : World) (base : Nat) (u : Value) : Prop :=
  ∃ (g n c : Nat) (cur : Array Value), u = .slice (some ⟨g, 0, none⟩) n c ∧ base ≤ g ∧ Whole w g 5 cur ∧ 1 ≤ n ∧ n ≤ c ∧ n ≤ cur.size ∧ n ≤ 2000100 ∧ ∀ i, i < n → ∃ x : Nat, x < 256 ∧ cur[i]? = some (.int .u8 (x : Nat))
theorem RowW.keep {w w' : World} {base : Nat} {u : Value} {T : List Nat} (h : RowW w base u) (hf : Frm T w w') (hT : ∀ g ∈ T, ∀ cur, ¬ Whole w g 5 cur) : RowW w' base u := by
  obtain ⟨g, n, c, cur, h1, h2, h3, h4⟩ := h
  exact ⟨g, n, c, cur, h1, h2, hf.whole h3 (fun hm => hT g hm cur h3), h4⟩
theorem RowW.same {w w' : World} {base : Nat} {u : Value} (h : RowW w base u) (hf : Frm [] w w') : RowW w' base u := h.keep hf (by simp)
theorem RowW.low {w : World} {base base' : Nat} {u : Value} (h : RowW w base u) (hb : base' ≤ base) : RowW w base' u := by
  obtain ⟨g, n, c, cur, h1, h2, h3⟩ := h
  exact ⟨g, n, c, cur, h1, by omega, h3⟩
theorem RowW.of {w0 z : World} {a : Option Addr} {n cap : Nat} {l : List Nat} (h : Rw w0 z a cap l) (hn : n = l.length) (h1 : 1 ≤ l.length) (h2 : l.length ≤ 2000100) (h8 : ∀ x ∈ l, x < 256) : RowW z w0.heap.size (.slice a n cap) := by
  subst hn
  rcases h.own.2 with ⟨_, h0⟩ | ⟨g, c, cur, hv, hb, hh, k1, k2, k3, k4⟩
  · omega
  · simp only [Value.slice.injEq] at hv
    obtain ⟨rfl, _, rfl⟩ := hv
    refine ⟨g, l.length, cap, cur, rfl, hb, hh, h1, k1, by omega, h2, fun i hi => ⟨l.getD i 0, ?_, ?_⟩⟩
    · rw [show l.getD i 0 = l[i] by simp [hi]]
      exact h8 _ (List.getElem_mem hi)
    · have e : (cur.toList.take (l.length * 1))[i]? = (l.map u8v)[i]? := by rw [k4]
      rw [List.getElem?_take, if_pos (by omega)] at e
      rw [← Array.getElem?_toList, e]
      simp [hi, u8v]
/-- A byte is turned. -/
theorem RowW.set {w : World} {base g0 j v : Nat} {u : Value} (h : RowW w base u) (hv : v < 256) : RowW (w.setCell ⟨g0, j, none⟩ (.int .u8 (v : Nat))) base u := by
  obtain ⟨g, n, c, cur, h1, h2, h3, h4, h5, h6, h7, h8⟩ := h
  by_cases he : g = g0
  · subst he
    refine ⟨g, n, c, cur.setIfInBounds j (.int .u8 (v : Nat)), h1, h2, h3.put j _, h4, h5, by simpa using h6, h7, fun i hi => ?_⟩
    by_cases hij : j = i
    · subst hij
      exact ⟨v, hv, by rw [Array.getElem?_setIfInBounds_self_of_lt (by omega)]⟩
    · rw [Array.getElem?_setIfInBounds_ne hij]
      exact h8 i hi
  · exact ⟨g, n, c, cur, h1, h2, h3.other he _, h4, h5, h6, h7, h8⟩
/-- What it reads as. -/
theorem RowW.reads {w : World} {base : Nat} {u : Value} (h : RowW w base u) : ∃ (g c : Nat) (l : List Nat), u = .slice (some ⟨g, 0, none⟩) l.length c ∧ Bytes w (some ⟨g, 0, none⟩) l ∧ l.length ≤ c := by
  obtain ⟨g, n, c, cur, h1, h2, h3, h4, h5, h6, h7, h8⟩ := h
  have hex : ∀ i, ∃ x : Nat, i < n → x < 256 ∧ cur[i]? = some (.int .u8 (x : Nat)) := fun i => by
    by_cases hi : i < n
    · obtain ⟨x, hx⟩ := h8 i hi; exact ⟨x, fun _ => hx⟩
    · exact ⟨0, fun h => absurd h hi⟩
  obtain ⟨f, hf⟩ := Classical.axiomOfChoice hex
  have hl : ((List.range n).map f).length = n := by simp
  refine ⟨g, c, (List.range n).map f, by rw [hl]; exact h1, ⟨fun x hx => ?_, by rw [hl]; omega, .inr ⟨g, 0, rfl, fun i hi => ?_⟩⟩, by rw [hl]; exact h5⟩
  · obtain ⟨i, hi, rfl⟩ := List.mem_map.1 hx
    exact (hf i (by simpa using hi)).1
  · rw [hl] at hi
    rw [Nat.zero_add, h3.cell, (hf i hi).2]
    simp [hi]
end Go.Proofs.YtamcandcfainfaaGreat
