/- Contract of the document's Of at its node with a disk. -/
import Derived.Test.YtamcandcfainfaaGreatMX
import Derived.Test.YtamcandcfainfaaGreatZRd
namespace Go.Proofs.YtamcandcfainfaaGreat
open Go.RowKit
set_option maxRecDepth 100000
/-- The ledger at the place i of the document's row, as it reads: x. -/
structure At9 (w : World) (q g i : Nat) (x : Lg) (a : Option Addr) (n c : Nat) (X : List Ix) (rn rc mm : Nat) : Prop where
  qlt : q < w.heap.size
  glt : g < w.heap.size
  box : w.cell? ⟨q, 0, none⟩ = some (.slice (some ⟨g, 0, none⟩) rn rc)
  lt : i < rn
  few : rn ≤ mm ∧ X.length ≤ mm
  idc : ∃ d : Nat, w.cell? ⟨g, i * 5, none⟩ = some (.int .u64 (d : Nat))
  fen : w.cell? ⟨g, i * 5 + 1, none⟩ = some (.bool x.fen)
  gone : w.cell? ⟨g, i * 5 + 2, none⟩ = some (.bool x.gone)
  sure : w.cell? ⟨g, i * 5 + 3, none⟩ = some (.int .u64 (x.sure : Nat))
  items : w.cell? ⟨g, i * 5 + 4, none⟩ = some (.slice a n c)
  len : n = X.length
  il : IL w [] a X
  its : its X = x.ents
  rise : RiseE x.ents
  nil : a = none → c = 0
  num : x.sure < N64
theorem At9.keep {w w' : World} {q g i : Nat} {x : Lg} {a : Option Addr} {n c : Nat} {X : List Ix} {rn rc mm : Nat} (h : At9 w q g i x a n c X rn rc mm) (hf : Frm [] w w') : At9 w' q g i x a n c X rn rc mm :=
  ⟨Nat.lt_of_lt_of_le h.qlt hf.size, Nat.lt_of_lt_of_le h.glt hf.size, (hf.cell (p := ⟨q, 0, none⟩) h.qlt (by simp)).trans h.box, h.lt, h.few, h.idc.imp fun d e => (hf.cell (p := ⟨g, i * 5, none⟩) h.glt (by simp)).trans e, (hf.cell (p := ⟨g, i * 5 + 1, none⟩) h.glt (by simp)).trans h.fen, (hf.cell (p := ⟨g, i * 5 + 2, none⟩) h.glt (by simp)).trans h.gone, (hf.cell (p := ⟨g, i * 5 + 3, none⟩) h.glt (by simp)).trans h.sure, (hf.cell (p := ⟨g, i * 5 + 4, none⟩) h.glt (by simp)).trans h.items, h.len, h.il.keep hf (by simp) (by simp), h.its, h.rise, h.nil, h.num⟩
/-- What Of answers and leaves. -/
def RdOf (w : World) (B : Nat) (G W : List Nat) (q m : Nat) (S : Nd9) (l : List Nat) (room mm id : Nat) (e : Ending) (w' : World) : Prop :=
  ∃ (i g : Nat) (W' : List Nat) (a : Option Addr) (n c : Nat) (X : List Ix) (rn rc : Nat), e = .returned (.int .i64 (i : Nat)) ∧ Rd w' B G W' q m S l room (mm + 1) ∧ Frm W w w' ∧ (∀ x ∈ W', x ∈ W ∨ w.heap.size ≤ x) ∧ At9 w' q g i (S id) a n c X rn rc (mm + 1)
theorem rdof_any {w : World} {B : Nat} {G W : List Nat} {q m : Nat} {S : Nd9} {l : List Nat} {room mm : Nat} (id : Nat) (hid : id < N64) (h : Rd w B G W q m S l room mm) (hG : ∀ x ∈ G, x < w.heap.size) (hm : mm ≤ 1000000) :
    Calls Tryz.prog 24 #[.pointer (some ⟨q, 0, none⟩), .int .u64 (id : Nat)] w (RdOf w B G W q m S l room mm id) := by
  obtain ⟨La, Lc, R, Gd, hs, hn, hr, ho, rfl⟩ := h
  have hF : ∀ x ∈ Gd ++ G, x < w.heap.size := fun x hx => by
    rcases List.mem_append.1 hx with h1 | h1
    · exact (hr.lt x h1).2
    · exact hG x h1
  refine (rof_any id hid hs hF hm).mono ?_
  rintro e w' ⟨i, La', Lc', R', rfl, hs', hi, hid', hnode, hf, hx⟩
  obtain ⟨g, rfl, c0, c1, c2, c3, c4⟩ := hs'.at hi
  have hmem : R'.getD i default ∈ R' := by simp [hi]
  have hk := hs'.all _ hmem
  have hlg : (R'.getD i default).lg = S id := by rw [← nodeOf_at hs'.ids hi, hid', hnode, hn]
  have hq := hs'.lt q (by unfold rwB; simp)
  have hg := hs'.lt g (by unfold rwB; simp)
  have hio : IOwn w' B 57 [] (R'.getD i default).a (R'.getD i default).c (R'.getD i default).X := ⟨hk.row, hk.ok.keep (S := []) (Frm.refl _ _) (by simp) (fun x hx => by
      simp only [List.append_nil] at hx
      refine .inl (List.mem_append_left _ ?_)
      unfold rwB
      simp only [List.mem_cons, List.mem_append, List.mem_flatMap]
      exact .inr (.inr ⟨_, hmem, hx⟩)), by simp⟩
  refine ⟨i, g, rwB q (some ⟨g, 0, none⟩) R' ++ Gd, (R'.getD i default).a, _, (R'.getD i default).c, (R'.getD i default).X, R'.length, Lc', rfl, ⟨_, Lc', R', Gd, hs', by rw [hnode, hn], hr.keep hf (fun x hx hm' => ?_), ho, rfl⟩, hf.weak (fun x hx => .inl (List.mem_append_left _ hx)), fun x hx' => ?_, ⟨hq, hg, hs'.box.cell 0, hi, ⟨hs'.few.1, hs'.few.2 _ hmem⟩, ⟨_, c0⟩, by rw [← hlg]; exact c1, by rw [← hlg]; exact c2, by rw [← hlg]; exact c3, c4, rfl, hio.il, by rw [← hlg]; rfl, by rw [← hlg]; exact hk.rise, hio.caps.2.2, by rw [← hlg]; exact hk.num.2⟩⟩
  · exact (hs.out x hm').1 (List.mem_append_left _ hx)
  · rcases List.mem_append.1 hx' with h1 | h1
    · exact (hx x h1).imp (List.mem_append_left _) (fun h => h)
    · exact .inl (List.mem_append_right _ h1)
end Go.Proofs.YtamcandcfainfaaGreat
