/- Contracts of the reference's Reader whatever is left, with a fault or without: Number, Bytes, End. -/
import Derived.Test.YtamcandcfainfaaGreatMX
import Derived.Test.YtamcandcfainfaaGreatZMtParse
namespace Go.Proofs.YtamcandcfainfaaGreat
open Go.RowKit
set_option maxRecDepth 100000
/-- The reader at rb has the bytes of o left (none: there was a fault); they lie in blocks below Bd. -/
def RS (w : World) (Bd : Nat) (rb : Nat) (o : Option (List Nat)) : Prop :=
  ∃ (a : Option Addr) (l : List Nat) (cap code : Nat), Whole w rb 120 #[.slice a l.length cap, .int .i64 (code : Nat)] ∧ Bytes w a l ∧ l.length ≤ cap ∧ (a = none → cap = 0) ∧ (l ≠ [] → ∀ x, a = some x → x.block < Bd) ∧ Bd ≤ rb ∧ ((o = some l ∧ code = 0) ∨ (o = none ∧ code ≠ 0 ∧ code < 100))
theorem RS.keep {w w' : World} {Bd : Nat} {T : List Nat} {rb : Nat} {o : Option (List Nat)} (h : RS w Bd rb o) (hf : Frm T w w') (hT : ∀ x ∈ T, Bd ≤ x) (hr : rb ∉ T) : RS w' Bd rb o := by
  obtain ⟨a, l, cap, code, h1, h2, h3, h4, h5, hb, h6⟩ := h
  exact ⟨a, l, cap, code, hf.whole h1 hr, hf.bytes' h2 (fun hne x hx hm => by have h := h5 hne x hx; have h2 := hT _ hm; omega), h3, h4, h5, hb, h6⟩
theorem RS.lt {w : World} {Bd : Nat} {rb : Nat} {o : Option (List Nat)} (h : RS w Bd rb o) : Bd ≤ rb ∧ rb < w.heap.size := by
  obtain ⟨a, l, cap, code, h1, _, _, _, _, hb, _⟩ := h; exact ⟨hb, h1.lt⟩
theorem RS.code {w : World} {Bd : Nat} {rb : Nat} {o : Option (List Nat)} (h : RS w Bd rb o) : ∃ code : Nat, w.cell? ⟨rb, 1, none⟩ = some (.int .i64 (code : Nat)) ∧ (code = 0 ↔ o ≠ none) := by
  obtain ⟨a, l, cap, code, h1, _, _, _, _, _, h6⟩ := h
  refine ⟨code, h1.cell 1, ?_⟩
  rcases h6 with ⟨rfl, rfl⟩ | ⟨rfl, hc, _⟩
  · simp
  · simp [hc]
/-- Number: what was left is the number and what is left now; else there is a fault. -/
def NumE (w : World) (Bd : Nat) (rb k : Nat) (o : Option (List Nat)) (e : Ending) (w' : World) : Prop :=
  ∃ (n : Nat) (o' : Option (List Nat)), e = .returned (.int .u64 (n : Nat)) ∧ o.bind (pU k) = o'.map (Prod.mk n) ∧ n < 256 ^ k ∧ RS w' Bd rb o' ∧ Frm [rb] w w'
theorem val_ltk {l : List Nat} (h8 : ∀ c ∈ l, c < 256) (k : Nat) : val (l.take k) < 256 ^ k := by
  have h1 := val_lt (l.take k) (fun c hc => h8 c (List.mem_of_mem_take hc))
  have h2 : (l.take k).length ≤ k := by rw [List.length_take]; omega
  exact Nat.lt_of_lt_of_le h1 (Nat.pow_le_pow_right (by omega) h2)
theorem pow_pos8 (k : Nat) : 0 < 256 ^ k := Nat.pow_pos (by omega)
theorem pB_pU (l : List Nat) : pB l = (pU 4 l).bind fun a => if a.2.length < a.1 then none else some (a.2.take a.1, a.2.drop a.1) := by
  unfold pB pU
  by_cases h : l.length < 4
  · rw [if_pos h, if_pos h]; rfl
  · rw [if_neg h, if_neg h]
    simp only [Option.bind_some, List.length_drop, List.drop_drop]
theorem run_head_hu {P : Program} {t e : TypeId} (ht : P.underlying t = some (.slice e)) (hz : ∀ w, (Go.sizeOf e).run P w = .ok 1 w) (w : World) (a : Option Addr) (n cap hi : Nat) (h2 : hi ≤ cap) :
    (Instr.slice t (.slice a n cap) none (some (.int .u64 (hi : Nat))) none).run P w = .ok (.slice a hi cap) w := by
  have ht' : P.underlying t = some (.slice (P.elem t)) := by simp [Program.elem, ht]
  have he : P.elem t = e := by simp [Program.elem, ht]
  rw [run_slice_h w t _ _ _ ht' .u64 _ (by omega) (by omega), he, hz]
  have := head_map a
  simp [Result.andThen, sliced, this]
/-- Counted bytes. -/
def BytE (w : World) (Bd : Nat) (rb : Nat) (o : Option (List Nat)) (e : Ending) (w' : World) : Prop :=
  ∃ (v : List Nat) (va : Option Addr) (vn vc : Nat) (o' : Option (List Nat)), e = .returned (.slice va vn vc) ∧ Hid (vn = v.length) ∧ o.bind pB = o'.map (Prod.mk v) ∧ Bytes w' va v ∧ (v ≠ [] → ∀ x, va = some x → x.block < Bd) ∧ (va = none → vc = 0) ∧ RS w' Bd rb o' ∧ Frm [rb] w w'
end Go.Proofs.YtamcandcfainfaaGreat
