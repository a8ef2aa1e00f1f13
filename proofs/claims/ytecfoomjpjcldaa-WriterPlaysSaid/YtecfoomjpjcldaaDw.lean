/- The document's writer as plain data: all entries; which places have each. -/
import Derived.Test.YtecfoomjpjcldaaWoTab
import Derived.Test.YtecfoomjpjcldaaTail
import Derived.Test.YtecfoomjpjcldaaOwnVals
namespace Go.Proofs.Ytecfoomjpjcldaa
open Go.RowKit
set_option maxRecDepth 100000
def dwC (P W A n : Nat) (a : Option Addr) (c : Nat) (b : Option Addr) (e su : Nat) (cl : Bool) : Array Value := #[.int .i64 (P : Nat), .int .i64 (W : Nat), .int .i64 (A : Nat), .slice a n c, .slice b n e, .int .i64 (su : Nat), .bool cl]
/-- The rows at these blocks, as slices. -/
def hvs (P : Nat) (R : List Nat) : List Value := R.map fun g => .slice (some ⟨g, 0, none⟩) P P
theorem hvs_len (P : Nat) (R : List Nat) : (hvs P R).length = R.length := by simp [hvs]
theorem hvs_at {P : Nat} {R : List Nat} {i : Nat} (h : i < R.length) : (hvs P R)[i]? = some (.slice (some ⟨R.getD i 0, 0, none⟩) P P) := by simp [hvs, h]
theorem getD_mem {R : List Nat} {i : Nat} (h : i < R.length) : R.getD i 0 ∈ R := by simp [h]
/-- A row of the call's own of rows of bools, each at a block of its own. -/
structure HR (w : World) (base : Nat) (F : List Nat) (b : Option Addr) (e P : Nat) (R : List Nat) (H : Nat → Nat → Bool) : Prop where
  own : w.ownsRow base 48 1 (.slice b R.length e) R.length (hvs P R)
  row : ∀ i, i < R.length → Whole w (R.getD i 0) 4 (brow P (H i))
  nodup : ∀ i j, i < R.length → j < R.length → R.getD i 0 = R.getD j 0 → i = j
  out : ∀ g ∈ R, base ≤ g ∧ g ∉ blk b ∧ g ∉ F
  away : ∀ g ∈ blk b, g ∉ F
section
variable {w w' : World} {base : Nat} {F F' T : List Nat} {b : Option Addr} {e P : Nat} {R : List Nat} {H : Nat → Nat → Bool}
theorem HR.nil (w : World) (base : Nat) (F : List Nat) (P : Nat) (H : Nat → Nat → Bool) : HR w base F none 0 P [] H := ⟨World.ownsRow_nil _ _ _ _, fun i h => by simp at h, fun i j h => by simp at h, by simp, by simp⟩
theorem HR.blk_lt (h : HR w base F b e P R H) : ∀ g ∈ blk b, base ≤ g ∧ g < w.heap.size := fun g hg => World.ownsRow.lt h.own g (ownBlk.2 hg)
theorem HR.row_lt (h : HR w base F b e P R H) : ∀ g ∈ R, base ≤ g ∧ g < w.heap.size := fun g hg => by
  obtain ⟨i, hi, rfl⟩ := List.getElem_of_mem hg
  have := (h.row i hi).lt
  rw [show R.getD i 0 = R[i] by simp [hi]] at this
  exact ⟨(h.out _ hg).1, this⟩
theorem HR.keep (h : HR w base F b e P R H) (hf : Frm T w w') (hT : ∀ x ∈ T, x ∈ F ∨ w.heap.size ≤ x) (hF : ∀ x ∈ F', x ∈ F ∨ w.heap.size ≤ x) : HR w' base F' b e P R H := by
  have hb := h.blk_lt
  have hr := h.row_lt
  refine ⟨hf.own h.own (fun g hg hm => ?_), fun i hi => hf.whole (h.row i hi) (fun hm => ?_), h.nodup, fun g hg => ⟨(h.out g hg).1, (h.out g hg).2.1, fun hm => ?_⟩, fun g hg hm => ?_⟩
  · rcases hT g hm with h1 | h1
    · exact h.away g (ownBlk.1 hg) h1
    · have := (hb g (ownBlk.1 hg)).2; omega
  · rcases hT _ hm with h1 | h1
    · exact (h.out _ (getD_mem hi)).2.2 h1
    · have := (h.row i hi).lt; omega
  · rcases hF g hm with h1 | h1
    · exact (h.out g hg).2.2 h1
    · have := (hr g hg).2; omega
  · rcases hF g hm with h1 | h1
    · exact h.away g hg h1
    · have := (hb g hg).2; omega
theorem HR.here (h : HR w base F b e P R H) (hf : Frm [] w w') : HR w' base F b e P R H := h.keep hf (by simp) (fun x hx => .inl hx)
/-- One row turned. -/
theorem HR.set (h : HR w base F b e P R H) {i : Nat} (hi : i < R.length) {f : Nat → Bool} (hf : Frm [R.getD i 0] w w') (hw : Whole w' (R.getD i 0) 4 (brow P f)) : HR w' base F b e P R (fun k => if k = i then f else H k) := by
  refine ⟨hf.own h.own (fun g hg hm => ?_), fun k hk => ?_, h.nodup, h.out, h.away⟩
  · simp only [List.mem_singleton] at hm
    subst hm
    exact (h.out _ (getD_mem hi)).2.1 (ownBlk.1 hg)
  · by_cases hki : k = i
    · subst hki; rw [if_pos rfl]; exact hw
    · rw [if_neg hki]
      exact hf.whole (h.row k hk) (by simp only [List.mem_singleton]; exact fun he => hki (h.nodup k i hk hi he))
/-- The cell of one. -/
theorem HR.at (h : HR w base F b e P R H) {i : Nat} (hi : i < R.length) : ∃ g, b = some ⟨g, 0, none⟩ ∧ w.cell? ⟨g, i, none⟩ = some (.slice (some ⟨R.getD i 0, 0, none⟩) P P) := by
  rcases h.own.2 with ⟨_, h0⟩ | ⟨g, c, cur, hv, _⟩
  · omega
  · simp only [Value.slice.injEq] at hv
    obtain ⟨rfl, _, rfl⟩ := hv
    refine ⟨g, rfl, ?_⟩
    rw [World.ownsRow.cellAt h.own i (by omega)]
    exact hvs_at hi
theorem HR.bin (h : HR w base F b e P R H) {i : Nat} (hi : i < R.length) : BIn w (some ⟨R.getD i 0, 0, none⟩) ((List.range P).map (H i)) := fun j hj => by
  have hj' : j < P := by simpa using hj
  refine ⟨R.getD i 0, 0, rfl, ?_⟩
  rw [Nat.zero_add, (h.row i hi).cell j, brow_at hj']
  simp [hj']
/-- A row more. -/
theorem HR.app {n g : Nat} {b' : Option Addr} {e' : Nat} {f : Nat → Bool} (h : HR w base F b e P R H) (hn : n = R.length) (hg : Whole w g 4 (brow P f)) (hgo : base ≤ g ∧ g ∉ blk b ∧ g ∉ F ∧ g ∉ R) (hF : ∀ x ∈ F, x < w.heap.size)
    (ha : AppV w w' base 48 (.slice b n e) n 1 (hvs P R) [.slice (some ⟨g, 0, none⟩) P P] b' e') : HR w' base F b' e' P (R ++ [g]) (fun k => if k = R.length then f else H k) ∧ Frm (blk b) w w' ∧ (∀ x ∈ blk b', x ∈ blk b ∨ w.heap.size ≤ x) ∧ n + 1 = (R ++ [g]).length := by
  subst hn
  have hf : Frm (blk b) w w' := (Frm.refl _ _).grown ha.grown (fun g hg => .inl (ownBlk.1 hg))
  have hp : ∀ x ∈ blk b', x ∈ blk b ∨ w.heap.size ≤ x := by
    intro x hx
    have hx' : (Value.slice b' (R.length + 1) e').ownBlock = some x := ownBlk.2 hx
    rcases ha.place with h1 | h1
    · exact .inl (ownBlk.1 (h1 ▸ hx'))
    · rw [hx'] at h1
      cases h1
      exact .inr (Nat.le_refl _)
  have hrl := h.row_lt
  have hg1 := hg.lt
  refine ⟨⟨?_, fun i hi => ?_, fun i j hi hj he => ?_, fun x hx => ?_, fun x hx hm => ?_⟩, hf, hp, by simp⟩
  · have := ha.own
    rw [List.length_append]
    simpa [hvs] using this
  · by_cases hl : i < R.length
    · rw [if_neg (by omega)]
      have e1 : (R ++ [g]).getD i 0 = R.getD i 0 := by simp [List.getD, List.getElem?_append, hl]
      rw [e1]
      exact hf.whole (h.row i hl) (fun hm => (h.out _ (getD_mem hl)).2.1 hm)
    · obtain rfl : i = R.length := by simp at hi; omega
      rw [if_pos rfl]
      have e1 : (R ++ [g]).getD R.length 0 = g := by simp
      rw [e1]
      exact hf.whole hg hgo.2.1
  · have hE : ∀ i, i < (R ++ [g]).length → (i < R.length ∧ (R ++ [g]).getD i 0 = R.getD i 0) ∨ (i = R.length ∧ (R ++ [g]).getD i 0 = g) := fun i hi => by
      by_cases hl : i < R.length
      · exact .inl ⟨hl, by simp [List.getD, List.getElem?_append, hl]⟩
      · obtain rfl : i = R.length := by simp at hi; omega
        exact .inr ⟨rfl, by simp⟩
    rcases hE i hi with ⟨h1, h2⟩ | ⟨h1, h2⟩
    · rcases hE j hj with ⟨h3, h4⟩ | ⟨h3, h4⟩
      · rw [h2, h4] at he; exact h.nodup i j h1 h3 he
      · rw [h2, h4] at he; exact absurd (he ▸ getD_mem h1) hgo.2.2.2
    · rcases hE j hj with ⟨h3, h4⟩ | ⟨h3, h4⟩
      · rw [h2, h4] at he; exact absurd (he ▸ getD_mem h3) hgo.2.2.2
      · omega
  · rcases List.mem_append.1 hx with h1 | h1
    · refine ⟨(h.out x h1).1, fun hm => ?_, (h.out x h1).2.2⟩
      rcases hp x hm with h2 | h2
      · exact (h.out x h1).2.1 h2
      · have := (hrl x h1).2; omega
    · simp only [List.mem_singleton] at h1
      subst h1
      refine ⟨hgo.1, fun hm => ?_, hgo.2.2.1⟩
      rcases hp x hm with h2 | h2
      · exact hgo.2.1 h2
      · omega
  · rcases hp x hx with h1 | h1
    · exact h.away x h1 hm
    · have := hF x hm; omega
end
/-- The document's writer at pm; G: the blocks that its calls write to besides; nothing of it in the blocks F. -/
structure Dw (w : World) (B pm : Nat) (F G : List Nat) (P W A : Nat) (D : List (List Nat)) (H : Nat → Nat → Bool) (su : Nat) (cl : Bool) : Prop where
  box : ∃ a c b e R vs, Whole w pm 37 (dwC P W A D.length a c b e su cl) ∧ G = blk a ++ (blk b ++ R) ∧ R.length = D.length ∧ OwnL w B 38 (pm :: (blk b ++ (R ++ F))) a c D vs ∧ HR w B (pm :: (blk a ++ F)) b e P R H
  quo : 1 ≤ A ∧ A ≤ W ∧ W ≤ P ∧ P ≤ 7
  su_le : su ≤ D.length
  out : pm ∉ F
section
variable {w w' : World} {B pm : Nat} {F F' G T : List Nat} {P W A : Nat} {D : List (List Nat)} {H : Nat → Nat → Bool} {su : Nat} {cl : Bool}
theorem Dw.lt (m : Dw w B pm F G P W A D H su cl) : pm < w.heap.size := by obtain ⟨_, _, _, _, _, _, hv, _⟩ := m.box; exact hv.lt
theorem Dw.g_lt (m : Dw w B pm F G P W A D H su cl) : ∀ g ∈ G, B ≤ g ∧ g < w.heap.size ∧ g ≠ pm := by
  obtain ⟨a, c, b, e, R, vs, hv, rfl, hR, hL, hH⟩ := m.box
  intro g hg
  simp only [List.mem_append] at hg
  rcases hg with h1 | h1 | h1
  · exact ⟨(hL.blk_lt g h1).1, (hL.blk_lt g h1).2, fun he => hL.away g h1 (by simp [he])⟩
  · exact ⟨(hH.blk_lt g h1).1, (hH.blk_lt g h1).2, fun he => hH.away g h1 (by simp [he])⟩
  · exact ⟨(hH.row_lt g h1).1, (hH.row_lt g h1).2, fun he => (hH.out g h1).2.2 (by simp [he])⟩
theorem Dw.keep (m : Dw w B pm F G P W A D H su cl) (hf : Frm T w w') (hT : ∀ x ∈ T, x ∈ F ∨ w.heap.size ≤ x) (hF : ∀ x ∈ F', x ∈ F ∨ w.heap.size ≤ x) : Dw w' B pm F' G P W A D H su cl := by
  have hlt := m.lt
  obtain ⟨a, c, b, e, R, vs, hv, hG, hR, hL, hH⟩ := m.box
  refine ⟨⟨a, c, b, e, R, vs, hf.whole hv (fun hm => ?_), hG, hR, hL.keep hf (fun x hx => ?_) (fun x hx => ?_), hH.keep hf (fun x hx => ?_) (fun x hx => ?_)⟩, m.quo, m.su_le, fun hm => ?_⟩
  · rcases hT _ hm with h1 | h1
    · exact m.out h1
    · omega
  · rcases hT x hx with h1 | h1
    · exact .inl (by simp [h1])
    · exact .inr h1
  · simp only [List.mem_cons, List.mem_append] at hx ⊢
    rcases hx with h1 | h1 | h1 | h1
    · exact .inl (.inl h1)
    · exact .inl (.inr (.inl h1))
    · exact .inl (.inr (.inr (.inl h1)))
    · exact (hF x h1).imp (fun h => .inr (.inr (.inr h))) id
  · rcases hT x hx with h1 | h1
    · exact .inl (by simp [h1])
    · exact .inr h1
  · simp only [List.mem_cons, List.mem_append] at hx ⊢
    rcases hx with h1 | h1 | h1
    · exact .inl (.inl h1)
    · exact .inl (.inr (.inl h1))
    · exact (hF x h1).imp (fun h => .inr (.inr h)) id
  · rcases hF _ hm with h1 | h1
    · exact m.out h1
    · omega
theorem Dw.here (m : Dw w B pm F G P W A D H su cl) (hf : Frm [] w w') : Dw w' B pm F G P W A D H su cl := m.keep hf (by simp) (fun x hx => .inl hx)
end
end Go.Proofs.Ytecfoomjpjcldaa
