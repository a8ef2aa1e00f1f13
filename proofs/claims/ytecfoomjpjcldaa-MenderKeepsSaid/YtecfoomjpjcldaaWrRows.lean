/- Rows of lists of places, of the call's own (Waiting's second answer); Waiting's function. -/
import Derived.Test.YtecfoomjpjcldaaWrDel
import Derived.Test.YtecfoomjpjcldaaWrAwake
namespace Go.Proofs.Ytecfoomjpjcldaa
open Go.RowKit
set_option maxRecDepth 100000
/-- A slice of places; what isn't empty lies outside the blocks F. -/
def LRow (w : World) (F : List Nat) (u : Value) (l : List Nat) : Prop :=
  ∃ b c, u = .slice b l.length c ∧ IIn w b l ∧ (l ≠ [] → ∀ x, b = some x → x.block ∉ F)
theorem IIn.lt {w : World} {b : Option Addr} {l : List Nat} (h : IIn w b l) (hl : l ≠ []) : ∀ x, b = some x → x.block < w.heap.size := by
  intro x hx
  obtain ⟨g, off, h1, h2⟩ := h 0 (List.length_pos_iff.2 hl)
  rw [hx] at h1; cases h1
  exact block_lt_of_cell h2
theorem IIn.away {w w' : World} {T : List Nat} {b : Option Addr} {l : List Nat} (h : IIn w b l) (hf : Frm T w w') (hT : l ≠ [] → ∀ x, b = some x → x.block ∉ T) : IIn w' b l := fun i hi => by
  obtain ⟨g, off, h1, h2⟩ := h i hi
  exact ⟨g, off, h1, (hf.cell (p := ⟨g, off + i, none⟩) (block_lt_of_cell h2) (hT (by rintro rfl; simp at hi) ⟨g, off, none⟩ h1)).trans h2⟩
theorem LRow.keep {w w' : World} {F F' T : List Nat} {u : Value} {l : List Nat} (h : LRow w F u l) (hf : Frm T w w') (hT : ∀ x ∈ T, x ∈ F ∨ w.heap.size ≤ x) (hF : ∀ x ∈ F', x ∈ F ∨ w.heap.size ≤ x) : LRow w' F' u l := by
  obtain ⟨b, c, h1, h2, h3⟩ := h
  refine ⟨b, c, h1, h2.away hf (fun hne x hx hm => ?_), fun hne x hx hm => ?_⟩
  · rcases hT _ hm with h5 | h5
    · exact h3 hne x hx h5
    · have := h2.lt hne x hx; omega
  · rcases hF _ hm with h5 | h5
    · exact h3 hne x hx h5
    · have := h2.lt hne x hx; omega
theorem own_iinI {w : World} {base cap : Nat} {a : Option Addr} {l : List Nat} (h : OwnI w base a cap (l.map ivl)) : IIn w a l := by
  intro i hi
  rcases h.2 with ⟨_, h0⟩ | ⟨g, c, cur, hv, _⟩
  · simp at h0; subst h0; simp at hi
  · simp only [Value.slice.injEq] at hv
    obtain ⟨rfl, _, rfl⟩ := hv
    refine ⟨g, 0, rfl, ?_⟩
    rw [Nat.zero_add, World.ownsRow.cellAt h i (by simpa using hi)]
    simp [ivl, hi]
/-- A row of the call's own of slices of places. -/
structure LOwn (w : World) (base : Nat) (F : List Nat) (a : Option Addr) (cap : Nat) (L : List (List Nat)) (V : List Value) : Prop where
  own : w.ownsRow base 52 1 (.slice a L.length cap) L.length V
  len : V.length = L.length
  row : ∀ i, i < L.length → ∃ u, V[i]? = some u ∧ LRow w (blk a ++ F) u (L.getD i [])
  away : ∀ g ∈ blk a, g ∉ F
section
variable {w w' : World} {base : Nat} {F F' T : List Nat} {a : Option Addr} {cap : Nat} {L : List (List Nat)} {V : List Value}
theorem LOwn.nil (w : World) (base : Nat) (F : List Nat) : LOwn w base F none 0 [] [] := ⟨World.ownsRow_nil _ _ _ _, rfl, fun i h => by simp at h, by simp⟩
theorem LOwn.blk_lt (h : LOwn w base F a cap L V) : ∀ g ∈ blk a, base ≤ g ∧ g < w.heap.size := fun g hg => World.ownsRow.lt h.own g (ownBlk.2 hg)
theorem LOwn.keep (h : LOwn w base F a cap L V) (hf : Frm T w w') (hT : ∀ x ∈ T, x ∈ F ∨ w.heap.size ≤ x) (hF : ∀ x ∈ F', x ∈ F ∨ w.heap.size ≤ x) : LOwn w' base F' a cap L V := by
  have hb := h.blk_lt
  refine ⟨hf.own h.own (fun g hg hm => ?_), h.len, fun i hi => ?_, fun g hg hm => ?_⟩
  · rcases hT g hm with h1 | h1
    · exact h.away g (ownBlk.1 hg) h1
    · have := (hb g (ownBlk.1 hg)).2; omega
  · obtain ⟨u, hu, hr⟩ := h.row i hi
    refine ⟨u, hu, hr.keep hf (fun x hx => ?_) (fun x hx => ?_)⟩
    · rcases hT x hx with h1 | h1
      · exact .inl (by simp [h1])
      · exact .inr h1
    · rcases List.mem_append.1 hx with h1 | h1
      · exact .inl (by simp [h1])
      · rcases hF x h1 with h2 | h2
        · exact .inl (by simp [h2])
        · exact .inr h2
  · rcases hF g hm with h1 | h1
    · exact h.away g hg h1
    · have := (hb g hg).2; omega
theorem LOwn.one' (h : LOwn w base F a cap L V) : ∀ u ∈ V, u.oneCell' = true := by
  intro u hu
  obtain ⟨i, hi, e⟩ := List.getElem_of_mem hu
  obtain ⟨u', h1, b, c, h2, _⟩ := h.row i (by rw [← h.len]; exact hi)
  rw [List.getElem?_eq_getElem hi, e] at h1
  cases h1
  rw [h2]; rfl
/-- What is appended lies neither in the row's block nor in F. -/
theorem LOwn.app {n : Nat} {u : Value} {l : List Nat} {a' : Option Addr} {cap' : Nat} (h : LOwn w base F a cap L V) (hn : n = L.length) (k : LRow w (blk a ++ F) u l) (hF : ∀ x ∈ F, x < w.heap.size)
    (ha : AppV w w' base 52 (.slice a n cap) n 1 V [u] a' cap') : LOwn w' base F a' cap' (L ++ [l]) (V ++ [u]) ∧ Frm (blk a) w w' ∧ (∀ g ∈ blk a', g ∈ blk a ∨ w.heap.size ≤ g) ∧ n + 1 = (L ++ [l]).length := by
  subst hn
  have hf : Frm (blk a) w w' := (Frm.refl _ _).grown ha.grown (fun g hg => .inl (ownBlk.1 hg))
  have hp : ∀ g ∈ blk a', g ∈ blk a ∨ w.heap.size ≤ g := by
    intro g hg
    have hg' : (Value.slice a' (L.length + 1) cap').ownBlock = some g := ownBlk.2 hg
    rcases ha.place with h1 | h1
    · exact .inl (ownBlk.1 (h1 ▸ hg'))
    · rw [hg'] at h1
      cases h1
      exact .inr (Nat.le_refl _)
  have hq : ∀ x ∈ blk a' ++ F, x ∈ blk a ++ F ∨ w.heap.size ≤ x := by
    intro x hx
    rcases List.mem_append.1 hx with h1 | h1
    · rcases hp x h1 with h2 | h2
      · exact .inl (by simp [h2])
      · exact .inr h2
    · exact .inl (by simp [h1])
  refine ⟨⟨?_, by simp [h.len], fun i hi => ?_, fun g hg hm => ?_⟩, hf, hp, by simp⟩
  · have := ha.own
    rw [List.length_append]
    exact this
  · by_cases hl : i < L.length
    · obtain ⟨u', h1, h2⟩ := h.row i hl
      have e : (L ++ [l]).getD i [] = L.getD i [] := by simp [List.getD, List.getElem?_append, hl]
      rw [e]
      exact ⟨u', by rw [List.getElem?_append_left (by rw [h.len]; exact hl)]; exact h1, h2.keep hf (fun x hx => .inl (by simp [hx])) hq⟩
    · have : i = L.length := by simp at hi; omega
      subst this
      have e : (L ++ [l]).getD L.length [] = l := by simp
      rw [e]
      exact ⟨u, by rw [List.getElem?_append_right (by rw [h.len]; exact Nat.le_refl _), h.len]; simp, k.keep hf (fun x hx => .inl (by simp [hx])) hq⟩
  · rcases hp g hg with h1 | h1
    · exact h.away g h1 hm
    · have := hF g hm; omega
end
/-- Such a row, as it reads; nothing of it lies in F. -/
def PlIn (w : World) (F : List Nat) (a : Option Addr) (L : List (List Nat)) : Prop :=
  ∃ V : List Value, V.length = L.length ∧ ValsAt w a V ∧ (∀ i, i < L.length → ∃ u, V[i]? = some u ∧ LRow w F u (L.getD i [])) ∧ (L ≠ [] → ∀ x, a = some x → x.block ∉ F)
theorem LOwn.lin {w : World} {base : Nat} {F : List Nat} {a : Option Addr} {cap : Nat} {L : List (List Nat)} {V : List Value} (h : LOwn w base F a cap L V) : PlIn w F a L := by
  refine ⟨V, h.len, own_vals h.own, fun i hi => ?_, fun _ x hx => h.away x.block (by rw [hx]; simp)⟩
  obtain ⟨u, hu, hr⟩ := h.row i hi
  exact ⟨u, hu, hr.keep (T := []) (Frm.refl _ _) (by simp) (fun x hx => .inl (by simp [hx]))⟩
theorem PlIn.keep {w w' : World} {F F' T : List Nat} {a : Option Addr} {L : List (List Nat)} (h : PlIn w F a L) (hf : Frm T w w') (hT : ∀ x ∈ T, x ∈ F ∨ w.heap.size ≤ x) (hF : ∀ x ∈ F', x ∈ F ∨ w.heap.size ≤ x) : PlIn w' F' a L := by
  obtain ⟨V, h1, h2, h3, h4⟩ := h
  have hV : V ≠ [] → L ≠ [] := by rintro h0 rfl; exact h0 (List.eq_nil_of_length_eq_zero h1)
  have hlt : L ≠ [] → ∀ x, a = some x → x.block < w.heap.size := by
    intro h0 x hx
    rcases h2 with h | ⟨b, off, rfl, hc⟩
    · exact absurd (List.eq_nil_of_length_eq_zero (by rw [← h1, h]; rfl)) h0
    · cases hx
      obtain ⟨u, hu, _⟩ := h3 0 (List.length_pos_iff.2 h0)
      exact block_lt_of_cell (a := ⟨b, off + 0, none⟩) (hc 0 u hu)
  refine ⟨V, h1, h2.keep hf (fun h0 x hx hm => ?_), fun i hi => ?_, fun h0 x hx hm => ?_⟩
  · rcases hT _ hm with h | h
    · exact h4 (hV h0) x hx h
    · have := hlt (hV h0) x hx; omega
  · obtain ⟨u, hu, hr⟩ := h3 i hi
    exact ⟨u, hu, hr.keep hf hT hF⟩
  · rcases hF _ hm with h | h
    · exact h4 h0 x hx h
    · have := hlt h0 x hx; omega
/-- One of them. -/
theorem PlIn.at {w : World} {F : List Nat} {a : Option Addr} {L : List (List Nat)} (h : PlIn w F a L) {i : Nat} (hi : i < L.length) :
    ∃ b off, a = some ⟨b, off, none⟩ ∧ ∃ ai ci, w.cell? ⟨b, off + i, none⟩ = some (.slice ai (L.getD i []).length ci) ∧ IIn w ai (L.getD i []) := by
  obtain ⟨V, h1, h2, h3, h4⟩ := h
  obtain ⟨u, hu, ai, ci, rfl, hr, _⟩ := h3 i hi
  rcases h2 with h | ⟨b, off, rfl, hc⟩
  · rw [h] at hu; simp at hu
  · exact ⟨b, off, rfl, ai, ci, hc i _ hu, hr⟩
/-- What Waiting deletes: has the place it? -/
theorem waitf_any (g q : Nat) (b : Bool) (w : World) (hq : q < 7) (hc : w.cell? ⟨g, q, none⟩ = some (.bool b)) :
    Calls Try.prog 55 (#[.int .i64 (q : Nat)] ++ #[.pointer (some ⟨g, 0, none⟩)]) w fun e w' => e = .returned (.bool b) ∧ Frm [] w w' := by
  have hqi : (q : Int) < 7 := by omega
  have hc' : w.cell? ⟨g, 0 + q, none⟩ = some (.bool b) := by rw [Nat.zero_add]; exact hc
  show Calls Try.prog 55 #[.int .i64 (q : Nat), .pointer (some ⟨g, 0, none⟩)] w _
  go_enter Try.func55, Try.ntmps55
  go_wp2
  go_ret
  exact ⟨rfl, Frm.refl _ _⟩
end Go.Proofs.Ytecfoomjpjcldaa
