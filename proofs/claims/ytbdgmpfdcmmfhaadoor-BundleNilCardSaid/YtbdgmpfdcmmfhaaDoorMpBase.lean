/- The document's Map: where bundles begin, of 65536 hashes; Join. -/
import Derived.Test.YtbdgmpfdcmmfhaaDoorIv
import Derived.Laws.OwnMore
import Derived.IntWalk
namespace Go.Proofs.YtbdgmpfdcmmfhaaDoor
open Go.RowKit
set_option maxRecDepth 100000

/-- At block p lies a Map where bundles begin at the places of f. -/
structure Mp (w : World) (p : Nat) (f : Nat → Bool) : Prop where
  cell : ∀ i, i < 65536 → w.cell? ⟨p, i, none⟩ = some (.bool (f i))
  free : ∀ i, i < 65536 → w.frozen? ⟨p, i, none⟩ = false
theorem Mp.lt {w : World} {p : Nat} {f : Nat → Bool} (h : Mp w p f) : p < w.heap.size := block_lt_of_cell (h.cell 0 (by decide))
theorem Mp.keep {w w' : World} {p : Nat} {f : Nat → Bool} {S : List Nat} (h : Mp w p f) (hf : Frm S w w') (hp : p ∉ S) : Mp w' p f :=
  ⟨fun i hi => (hf.cell (p := ⟨p, i, none⟩) h.lt hp).trans (h.cell i hi), fun i hi => (hf.frozen (p := ⟨p, i, none⟩) h.lt hp).trans (h.free i hi)⟩
theorem Mp.put {w : World} {p : Nat} {f : Nat → Bool} (h : Mp w p f) (k : Nat) (hk : k < 65536) (b : Bool) : Mp (w.setCell ⟨p, k, none⟩ (.bool b)) p (fun i => if i = k then b else f i) := by
  refine ⟨fun i hi => ?_, fun i hi => by simpa using h.free i hi⟩
  by_cases e : i = k
  · subst e
    rw [World.cell?_setCell_same _ _ _ (h.cell i hi), if_pos rfl]
  · rw [World.cell?_setCell_other _ _ _ _ (fun he => e (by simpa using he.symm)), if_neg e, h.cell i hi]
/-- Join's, Split's codes. -/
def allM (f : Nat → Bool) : List Nat := (List.range 65536).filter f
def joinC (f : Nat → Bool) (k : Int) : Nat := if k < 1 ∨ 65535 < k then 2 else if f k.toNat = true then 0 else 11
def splC (f : Nat → Bool) (k : Int) : Nat := if k < 1 ∨ 65535 < k then 2 else if f k.toNat = true then 12 else if (allM f).length = 16 then 14 else 0
def joinF (f : Nat → Bool) (k : Int) : Nat → Bool := if joinC f k = 0 then fun i => if i = k.toNat then false else f i else f
def splF (f : Nat → Bool) (k : Int) : Nat → Bool := if splC f k = 0 then fun i => if i = k.toNat then true else f i else f
def MpE (w : World) (p : Nat) (f' : Nat → Bool) (c : Nat) (e : Ending) (w' : World) : Prop := e = .returned (.int .i64 (c : Nat)) ∧ Mp w' p f' ∧ Frm [p] w w'

set_option maxHeartbeats 2000000 in
theorem mjoin_any {w : World} {p : Nat} {f : Nat → Bool} (k : Int) (h : Mp w p f) (hk : (Lit.int .i64 k).wf = true) :
    Calls Tryd.prog 12 #[.pointer (some ⟨p, 0, none⟩), .int .i64 k] w (MpE w p (joinF f k) (joinC f k)) := by
  have HH := Lib.hid h
  obtain ⟨Q, hQ⟩ : ∃ Q, Q = MpE w p (joinF f k) (joinC f k) := ⟨_, rfl⟩
  have SAME : Hid (∀ c : Nat, joinC f k = c → c ≠ 0 → Q (.returned (.int .i64 (c : Nat))) w) := Lib.hid (fun c hc h0 => by
    rw [hQ]
    refine ⟨by rw [hc], ?_, Frm.refl _ _⟩
    unfold joinF; rw [if_neg (by rw [hc]; exact h0)]; exact h)
  rw [← hQ]
  have HQ := Lib.hid hQ
  clear hQ h
  go_enter Tryd.func12, Tryd.ntmps12
  by_cases h1 : k < 1
  · have EH := Lib.hid (SAME.out 2 (by unfold joinC; rw [if_pos (.inl h1)]) (by decide))
    go_wp2
    exact EH.out
  · by_cases h2 : 65535 < k
    · have EH := Lib.hid (SAME.out 2 (by unfold joinC; rw [if_pos (.inr h2)]) (by decide))
      go_wp2
      exact EH.out
    · obtain ⟨j, rfl⟩ : ∃ j : Nat, k = (j : Int) := ⟨k.toNat, by omega⟩
      have hj : j < 65536 := by omega
      have hj' : (j : Int) < 65536 := by omega
      have c0 := HH.out.cell j hj
      have f0 := HH.out.free j hj
      have hno : ¬ ((j : Int) < 1 ∨ 65535 < (j : Int)) := by omega
      cases e : f j
      · rw [e] at c0
        have EH := Lib.hid (SAME.out 11 (by unfold joinC; rw [if_neg hno, if_neg (by rw [Int.toNat_natCast, e]; simp)]) (by decide))
        clear e hno
        go_wp2
        exact EH.out
      · rw [e] at c0
        have J0 : joinC f (j : Int) = 0 := by unfold joinC; rw [if_neg hno, if_pos (by rw [Int.toNat_natCast, e])]
        have EH : Hid (Q (.returned (.int .i64 0)) (w.setCell ⟨p, j, none⟩ (.bool false))) := Lib.hid (by
          rw [HQ.out]
          refine ⟨by rw [J0]; rfl, ?_, (Frm.refl _ _).setCell (.inl (by simp)) _⟩
          unfold joinF
          rw [if_pos J0, Int.toNat_natCast]
          exact HH.out.put j hj false)
        clear e hno J0
        go_wp2
        exact EH.out
end Go.Proofs.YtbdgmpfdcmmfhaaDoor
