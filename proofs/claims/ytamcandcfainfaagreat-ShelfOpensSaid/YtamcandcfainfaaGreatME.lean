/- Contracts and mathematics that the proofs of this seat stand on: ShWas. -/
import Derived.Test.YtamcandcfainfaaGreatMD
import Derived.Test.YtamcandcfainfaaGreatMC
/- What List answered, kept through later calls. -/
namespace Go.Proofs.YtamcandcfainfaaGreat
open Go.RowKit
set_option maxRecDepth 100000

/-- The blocks of a slice of entries that is read. -/
def ilB (a : Option Addr) (X : List Ix) : List Nat := (if X = [] then [] else blk a) ++ X.flatMap fun x => if x.t.2 = [] then [] else blk x.a
theorem ilB_row {a : Option Addr} {X : List Ix} (h : X ≠ []) {q : Addr} (hq : a = some q) : q.block ∈ ilB a X := by
  unfold ilB
  rw [if_neg h, hq]; simp
theorem ilB_val {a : Option Addr} {X : List Ix} {x : Ix} (hx : x ∈ X) (h : x.t.2 ≠ []) {q : Addr} (hq : x.a = some q) : q.block ∈ ilB a X := by
  unfold ilB
  refine List.mem_append.2 (.inr (List.mem_flatMap.2 ⟨x, hx, ?_⟩))
  rw [if_neg h, hq]; simp
theorem ilB_cases {a : Option Addr} {X : List Ix} {y : Nat} (h : y ∈ ilB a X) : (X ≠ [] ∧ ∃ q, a = some q ∧ q.block = y) ∨ ∃ x ∈ X, x.t.2 ≠ [] ∧ ∃ q, x.a = some q ∧ q.block = y := by
  unfold ilB at h
  rcases List.mem_append.1 h with h1 | h1
  · by_cases h0 : X = []
    · rw [if_pos h0] at h1; simp at h1
    · rw [if_neg h0] at h1
      exact .inl ⟨h0, mem_blk.1 h1⟩
  · obtain ⟨x, hx, h2⟩ := List.mem_flatMap.1 h1
    by_cases h0 : x.t.2 = []
    · rw [if_pos h0] at h2; simp at h2
    · rw [if_neg h0] at h2
      exact .inr ⟨x, hx, h0, mem_blk.1 h2⟩
section
variable {w w' : World} {a : Option Addr} {X : List Ix} {F : List Nat}
/-- A slice of entries as it reads, wherever it lies. -/
theorem IL.any (h : IL w F a X) : IL w [] a X := ⟨h.vals, fun x hx => ⟨(h.ok x hx).bytes, fun _ _ _ => by simp, (h.ok x hx).nil, (h.ok x hx).num⟩, fun _ _ _ => by simp⟩
theorem IL.outside (h : IL w [] a X) (hF : ∀ y ∈ F, y ∉ ilB a X) : IL w F a X :=
  ⟨h.vals, fun x hx => ⟨(h.ok x hx).bytes, fun hne _ hq hm => hF _ hm (ilB_val hx hne hq), (h.ok x hx).nil, (h.ok x hx).num⟩, fun hne _ hq hm => hF _ hm (ilB_row hne hq)⟩
theorem IL.off {w0 : World} {G : List Nat} (h : IL w [] a X) (ho : Off w0 w w' G) (hG : ∀ y ∈ ilB a X, y ∈ G) : IL w' [] a X := by
  obtain ⟨T, hf, hT⟩ := ho
  exact ((h.outside (F := T) (fun y hy hm => (hT y hy).1 (hG y hm))).keep hf (F' := []) (fun x hx => .inl hx) (by simp))
theorem IL.here (h : IL w [] a X) (hf : Frm [] w w') : IL w' [] a X := h.keep hf (by simp) (by simp)
theorem ilB_lt (h : IL w [] a X) : ∀ y ∈ ilB a X, y < w.heap.size := by
  intro y hy
  rcases ilB_cases hy with ⟨hne, q, hq, rfl⟩ | ⟨x, hx, hne, q, hq, rfl⟩
  · exact vals_lt h.vals (ic_ne' hne) q hq
  · exact bytes_lt (h.ok x hx).bytes hne q hq
theorem IL.new (h : IL w' (List.range w.heap.size) a X) : ∀ y ∈ ilB a X, w.heap.size ≤ y := by
  intro y hy
  rcases Nat.lt_or_ge y w.heap.size with h1 | h1
  · have hm := List.mem_range.2 h1
    rcases ilB_cases hy with ⟨hne, q, hq, rfl⟩ | ⟨x, hx, hne, q, hq, rfl⟩
    · exact absurd hm (h.away hne q hq)
    · exact absurd hm ((h.ok x hx).away hne q hq)
  · exact h1
end
section
variable {w0 w : World} {G : List Nat} {p dp : Nat} {S : Nd9} {l : List Nat} {room : Nat}
theorem Nv.sure_lt (h : Nv w0 w G p dp S l room) (i : Nat) (hi : i < N64) : (S i).sure < N64 := by
  obtain ⟨jq, Fd, hs⟩ := h.sp
  obtain ⟨mb, f, o, fe, hk⟩ := hs.stock hi
  exact hk.sure
theorem Nv.few (h : Nv w0 w G p dp S l room) (i : Nat) (hi : i < N64) : (S i).ents.length ≤ 16777216 := by
  obtain ⟨jq, Fd, hs⟩ := h.sp
  obtain ⟨mb, f, o, fe, hk⟩ := hs.stock hi
  have := hs.dk.1.2.2
  have := hk.few
  omega
theorem Nv.rise (h : Nv w0 w G p dp S l room) (i : Nat) (hi : i < N64) : RiseE (S i).ents ∧ ∀ x ∈ (S i).ents, x.1 < N64 := by
  obtain ⟨jq, Fd, hs⟩ := h.sp
  obtain ⟨mb, f, o, fe, hk⟩ := hs.stock hi
  exact ⟨hk.rise, hk.keys⟩
/-- List: a list of the call's own; the node keeps off it from here on, if one asks so. -/
theorem nv_list (i : Nat) (h : Nv w0 w G p dp S l room) (hi : i < N64) :
    Calls Tryz.prog 28 #[.pointer (some ⟨p, 0, none⟩), .int .u64 (i : Nat)] w fun e w' => ∃ a c X, its X = (S i).ents ∧ e = .returned (.slice a X.length c) ∧ IL w' [] a X ∧ Frm [] w w' ∧ Nv w0 w' (ilB a X ++ G) p dp S l room := by
  obtain ⟨jq, Fd, hs⟩ := h.sp
  refine (slist_any i hi hs (List.range w.heap.size) (fun y hy => List.mem_range.1 hy)).mono ?_
  rintro e w' ⟨a, c, X, h1, h2, h3, h4⟩
  have hil := h3.il.any
  refine ⟨a, c, X, h1, h2, hil, h4, h.keep h4 (T := []) (by simp) (fun x hx => ?_) (fun x hx => ?_)⟩
  · rcases List.mem_append.1 hx with hm | hm
    · exact .inr (h3.il.new x hm)
    · exact .inl hm
  · rcases List.mem_append.1 hx with hm | hm
    · exact ilB_lt hil x hm
    · exact Nat.lt_of_lt_of_le (h.low x hm) h4.size
theorem Nv.less {G' : List Nat} (h : Nv w0 w G p dp S l room) (hG : ∀ x ∈ G', x ∈ G) : Nv w0 w G' p dp S l room :=
  h.keep (T := []) (Frm.refl _ _) (by simp) (fun x hx => .inl (hG x hx)) (fun x hx => h.low x (hG x hx))
end

/-! What a call leaves of another ledger, and of its own. -/
/-- Up to where it is sure never falls while it is there. -/
def Rises (x y : Lg) : Prop := y.gone = true ∨ x.sure ≤ y.sure
end Go.Proofs.YtamcandcfainfaaGreat
