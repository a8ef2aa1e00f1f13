/- MetaWatch: the walk. -/
import Derived.Test.YtbdgldlblkflpaaGreatZMtKv
import Derived.Deep.LoopGhost
import Derived.Deep.RegionHeld3
import Derived.IntWalk
namespace Go.Proofs.YtbdgldlblkflpaaGreat
open Go.RowKit
set_option maxRecDepth 100000
def kK : ByteArray := ⟨#[107]⟩
/-- The key's value and version behind so many changes. -/
def wtS (d : Nat) : MS := { nodes := [⟨kK, [d], d + 1, 0⟩] }
def wtC (v want : Nat) : MC := { kind := 1, key := kK, val := [v], want := want }
theorem wt_first : doE {} (wtC 0 0) = 0 ∧ doS {} (wtC 0 0) = wtS 0 := ⟨by kernel_rfl, by kernel_rfl⟩
theorem u8_at8 (w : World) (x : Nat) (hx : x < 256) (t : TypeId) (m : Nat × Nat) : Bytes (w.alloc (.cells #[.int .u8 x] t m)) (some ⟨w.heap.size, 0, none⟩) [x] := by
  refine ⟨by simp [hx], by simp, .inr ⟨_, _, rfl, fun i hi => ?_⟩⟩
  rw [cell_of_row _ w.heap.size _ #[.int .u8 (x : Int)] t m (heap_alloc_new w _)]
  simp at hi
  subst hi
  simp
theorem wt_ix (d : Nat) : ixN (wtS d).nodes kK = 0 := by
  show ixN [⟨kK, [d], d + 1, 0⟩] kK = 0
  unfold ixN
  simp [kl_irr]
theorem wt_is (d : Nat) : isN (wtS d).nodes kK = true := by
  unfold isN
  rw [wt_ix]
  rfl
theorem wt_lenC : lenC kK.size 1 = 0 := by decide
theorem wt_put {d : Nat} (hd : d < 300) (x : Nat) : doE (wtS d) (wtC x (d + 1)) = 0 ∧ doS (wtS d) (wtC x (d + 1)) = ⟨0, [⟨kK, [x], d + 2, 0⟩], 0, []⟩ := by
  have hx : expS (wtS d) 0 = false := rfl
  have hu : unwC (wtS d).nodes kK (d + 1) = 0 := by
    unfold unwC
    rw [wt_is, if_pos rfl, wt_ix, if_neg (by omega)]
    exact if_neg (by show ¬ (d + 1 ≠ d + 1); omega)
  have hc : putNC (wtS d).nodes kK [x] (d + 1) = 0 := by
    unfold putNC
    rw [if_neg (by show ¬ lenC kK.size 1 ≠ 0; rw [wt_lenC]; simp)]
    exact hu
  refine ⟨?_, ?_⟩
  · unfold doE
    rw [if_pos (show (wtC x (d + 1)).kind = 1 from rfl), if_neg (by show ¬ expS (wtS d) 0 = true; rw [hx]; simp)]
    exact hc
  · unfold doS
    rw [if_pos (show (wtC x (d + 1)).kind = 1 from rfl), if_neg (by show ¬ expS (wtS d) 0 = true; rw [hx]; simp)]
    show (⟨0, putNL (wtS d).nodes kK [x] (d + 1) 0, 0, []⟩ : MS) = _
    unfold putNL
    rw [if_neg (by rw [hc]; simp), wt_is, if_pos rfl, wt_ix]
    show (⟨0, [⟨kK, [x], (d + 1 + 1) % 18446744073709551616, 0⟩], 0, []⟩ : MS) = _
    rw [Nat.mod_eq_of_lt (by omega)]
theorem wt_old {d v : Nat} (x : Nat) (hv : v ≠ d) : doE (wtS d) (wtC x (v + 1)) = 13 := by
  have hx : expS (wtS d) 0 = false := rfl
  have hu : unwC (wtS d).nodes kK (v + 1) = 13 := by
    unfold unwC
    rw [wt_is, if_pos rfl, wt_ix, if_neg (by omega)]
    exact if_pos (by show d + 1 ≠ v + 1; omega)
  unfold doE
  rw [if_pos (show (wtC x (v + 1)).kind = 1 from rfl), if_neg (by show ¬ expS (wtS d) 0 = true; rw [hx]; simp)]
  show putNC (wtS d).nodes kK [x] (v + 1) = 13
  unfold putNC
  rw [if_neg (by show ¬ lenC kK.size 1 ≠ 0; rw [wt_lenC]; simp)]
  exact hu
theorem wt_get (d : Nat) : getN (wtS d).nodes kK = ⟨kK, [d], d + 1, 0⟩ := by
  unfold getN
  rw [wt_is, if_pos rfl, wt_ix]
  rfl
theorem wt_ok (x want : Nat) (hx : x < 256) (hw : want < 1000) : MCOk (wtC x want) := ⟨by show 1 < 256; omega, by show kK.size ≤ 5000; decide, ⟨by show 1 ≤ 5000; omega, by intro y hy; simp [wtC] at hy; omega⟩, by show want < _; omega, by show 0 < _; omega, by show 0 < _; omega⟩
theorem wt_ver {d : Nat} : ∀ x ∈ (wtS d).nodes, x.ver ≠ 0 := by intro x hx; simp [wtS] at hx; subst hx; simp
theorem wt_mok {d : Nat} (hd : d < 300) : MOk (wtS d) := by
  refine ⟨by simp [wtS], ⟨?_, ?_⟩, by simp [wtS], ?_, ?_, by simp [wtS], ⟨by simp [wtS], fun i hi => absurd hi (Nat.not_lt_zero _)⟩, by simp [wtS]⟩
  · show Srt [_]
    exact List.pairwise_singleton _ _
  · intro x hx; simp [wtS] at hx; subst hx; exact ⟨by show 1 ≤ kK.size; decide, by show kK.size ≤ 64; decide, by simp⟩
  · intro x hx; simp [wtS] at hx; subst hx; show d + 1 < _; omega
  · intro x hx; simp [wtS] at hx; subst hx; show 0 < _; omega
/-- What one of the four has seen: nothing, or a value with its version. -/
structure Se (w : World) (cs : Array Value) (sb o d : Nat) (G : List Nat) (kx : ByteArray) (a : Option Addr) (n cp ver own : Nat) : Prop where
  c0 : cs[o]? = some (.string kx)
  c1 : cs[o + 1]? = some (.slice a n cp)
  c2 : cs[o + 2]? = some (.int .u64 (ver : Nat))
  c3 : cs[o + 3]? = some (.int .u64 (own : Nat))
  ok : n = 0 ∨ ∃ v, n = 1 ∧ v ≤ d ∧ ver = v + 1 ∧ Bytes w a [v] ∧ ∀ q, a = some q → q.block ∈ G ∧ q.block ≠ sb
theorem Se.keep {w w' : World} {cs : Array Value} {sb o d d' : Nat} {G G' T : List Nat} {kx : ByteArray} {a : Option Addr} {n cp ver own : Nat} (h : Se w cs sb o d G kx a n cp ver own) (hf : Frm T w w') (hT : ∀ x ∈ T, x ∉ G ∨ x = sb) (hG : ∀ x ∈ G, x ∈ G') (hd : d ≤ d') : Se w' cs sb o d' G' kx a n cp ver own := by
  refine ⟨h.c0, h.c1, h.c2, h.c3, ?_⟩
  rcases h.ok with h0 | ⟨v, h1, h2, h3, h4, h5⟩
  · exact .inl h0
  · exact .inr ⟨v, h1, by omega, h3, hf.bytes h4 (fun q hq hm => by
      rcases hT _ hm with h6 | h6
      · exact h6 (h5 q hq).1
      · exact (h5 q hq).2 h6), fun q hq => ⟨hG _ (h5 q hq).1, (h5 q hq).2⟩⟩
/-- All of them. -/
def Seen (w : World) (sb d : Nat) (G : List Nat) : Prop := ∃ cs, Whole w sb 85 cs ∧ cs.size = 16 ∧ ∀ c, c < 4 → ∃ kx a n cp ver own, Se w cs sb (c * 4) d G kx a n cp ver own
theorem Seen.keep {w w' : World} {sb d d' : Nat} {G G' T : List Nat} (h : Seen w sb d G) (hf : Frm T w w') (hT : ∀ x ∈ T, x ∉ G) (hs : sb ∈ G) (hG : ∀ x ∈ G, x ∈ G') (hd : d ≤ d') : Seen w' sb d' G' := by
  obtain ⟨cs, hw, hz, hc⟩ := h
  refine ⟨cs, hf.whole hw (fun hm => hT _ hm hs), hz, fun c hl => ?_⟩
  obtain ⟨kx, a, n, cp, ver, own, hse⟩ := hc c hl
  exact ⟨kx, a, n, cp, ver, own, hse.keep hf (fun x hx => .inl (hT x hx)) hG hd⟩
/-- The keeper, what is seen, behind so many changes. -/
structure Wt (w0 w : World) (k sb d : Nat) (l : List Nat) (room : Nat) : Prop where
  go : ∃ G jq dp Fd, Kp w w0.heap.size G k jq dp Fd (wtS d) l room ∧ sb ∈ G ∧ (∀ x ∈ G, x < w.heap.size ∧ w0.heap.size ≤ x) ∧ Seen w sb d G
  frm : Frm [] w0 w
theorem Wt.keep {w0 w w' : World} {k sb d : Nat} {l : List Nat} {room : Nat} (h : Wt w0 w k sb d l room) (hf : Frm [] w w') : Wt w0 w' k sb d l room := by
  obtain ⟨⟨G, jq, dp, Fd, hk, hs, hG, hse⟩, hfw⟩ := h
  exact ⟨⟨G, jq, dp, Fd, hk.here hf, hs, fun x hx => ⟨Nat.lt_of_lt_of_le (hG x hx).1 hf.size, (hG x hx).2⟩, hse.keep hf (by simp) hs (fun x hx => hx) (Nat.le_refl _)⟩, hfw.trans hf (by simp) (by simp)⟩
theorem Wt.start {w0 w : World} {k : Nat} {l : List Nat} {room : Nat} (h : Kv w0 w k (wtS 0) l room) : Wt w0 (w.alloc (.cells #[.string ⟨#[]⟩, .slice none 0 0, .int .u64 0, .int .u64 0, .string ⟨#[]⟩, .slice none 0 0, .int .u64 0, .int .u64 0, .string ⟨#[]⟩, .slice none 0 0, .int .u64 0, .int .u64 0, .string ⟨#[]⟩, .slice none 0 0, .int .u64 0, .int .u64 0] 85)) k w.heap.size 0 l room := by
  obtain ⟨jq, dp, Fd, hk, hf, _⟩ := h
  have hfa := (Frm.refl [] w).alloc (.cells #[.string ⟨#[]⟩, .slice none 0 0, .int .u64 0, .int .u64 0, .string ⟨#[]⟩, .slice none 0 0, .int .u64 0, .int .u64 0, .string ⟨#[]⟩, .slice none 0 0, .int .u64 0, .int .u64 0, .string ⟨#[]⟩, .slice none 0 0, .int .u64 0, .int .u64 0] 85)
  refine ⟨⟨[w.heap.size], jq, dp, Fd, hk.keep hfa (by simp) (by simp), by simp, by simp; exact hf.size, ⟨_, Whole.made _ _ _, rfl, fun c hc => ?_⟩⟩, hf.trans hfa (by simp) (by simp)⟩
  have h4 : c = 0 ∨ c = 1 ∨ c = 2 ∨ c = 3 := by omega
  rcases h4 with rfl | rfl | rfl | rfl <;> exact ⟨⟨#[]⟩, none, 0, 0, 0, 0, rfl, rfl, rfl, rfl, .inl rfl⟩
theorem wt_doE {w0 w : World} {k sb d : Nat} {l : List Nat} {room : Nat} (h : Wt w0 w k sb d l room) (hd : d < 250) (a : Option Addr) (cap : Nat) (hb : Bytes w a [d + 1]) (hnil : a = none → cap = 0) (hr : l.length + 5000 ≤ room) :
    Calls Tryz.prog 25 #[.pointer (some ⟨k, 0, none⟩), cmdV (wtC (d + 1) (d + 1)) a cap] w fun e w' => ∃ y ga gn gc l', e = .returned (.tuple #[.int .u64 (y : Nat), .slice ga gn gc, .int .i64 0]) ∧ Wt w0 w' k sb (d + 1) l' room ∧ l'.length ≤ l.length + 43 ∧ ∃ T, Frm T w w' := by
  obtain ⟨⟨G, jq, dp, Fd, hk, hs, hG, hse⟩, hfw⟩ := h
  have hp := wt_put (d := d) (by omega) (d + 1)
  have hlen := recB_len (wtS d) (wtC (d + 1) (d + 1)) (by show (1 : Nat) ≠ 7; omega)
  have hlen2 : (recB (wtS d) (wtC (d + 1) (d + 1))).length = 35 := hlen
  refine (kdo_ok (wtC (d + 1) (d + 1)) a cap hk (wt_mok (by omega)) wt_ver (wt_ok _ _ (by omega) (by omega)) (fun x hx => (hG x hx).1) hb hnil hp.1 (jc_small (by omega) (by omega))).mono ?_
  rintro e w' ⟨ga, gc, Fd', rfl, _, _, hk1, hf1, _⟩
  rw [hp.2] at hk1
  have hT : ∀ x ∈ k :: Fd, x ∉ G := fun x hx => (hk.out x (by simp only [List.mem_cons] at hx ⊢; rcases hx with h | h; exact .inl h; exact .inr (.inr h))).1
  refine ⟨_, ga, _, gc, _, rfl, ⟨⟨G, jq, dp, Fd', hk1, hs, fun x hx => ⟨Nat.lt_of_lt_of_le (hG x hx).1 hf1.size, (hG x hx).2⟩, hse.keep hf1 hT hs (fun x hx => hx) (Nat.le_succ _)⟩, hfw.trans hf1 (by simp) (fun x hx => .inr (hk.out x (by simp only [List.mem_cons] at hx ⊢; rcases hx with h | h; exact .inl h; exact .inr (.inr h))).2)⟩, ?_, _, hf1⟩
  rw [List.length_append, fr_length]
  omega
theorem wt_doB {w0 w : World} {k sb d v x : Nat} {l : List Nat} {room : Nat} (h : Wt w0 w k sb d l room) (hd : d < 250) (hv : v < d) (hx : x < 256) (a : Option Addr) (cap : Nat) (hb : Bytes w a [x]) (hnil : a = none → cap = 0) :
    Calls Tryz.prog 25 #[.pointer (some ⟨k, 0, none⟩), cmdV (wtC x (v + 1)) a cap] w fun e w' => ∃ ga gc, e = .returned (.tuple #[.int .u64 0, .slice ga 0 gc, .int .i64 13]) ∧ Wt w0 w' k sb d l room ∧ ∃ T, Frm T w w' := by
  obtain ⟨⟨G, jq, dp, Fd, hk, hs, hG, hse⟩, hfw⟩ := h
  refine (kdo_bad (wtC x (v + 1)) a cap hk (wt_mok (by omega)) wt_ver (wt_ok _ _ hx (by omega)) (fun x hx => (hG x hx).1) hb hnil (n := 13) (by unfold kE; rw [if_pos (by rw [wt_old x (by omega)]; omega)]; exact wt_old x (by omega)) (by omega)).mono ?_
  rintro e w' ⟨ga, gc, Fd', rfl, hk1, hf1, _⟩
  have hT : ∀ x ∈ k :: Fd, x ∉ G := fun x hx => (hk.out x (by simp only [List.mem_cons] at hx ⊢; rcases hx with h | h; exact .inl h; exact .inr (.inr h))).1
  exact ⟨ga, gc, rfl, ⟨⟨G, jq, dp, Fd', hk1, hs, fun x hx => ⟨Nat.lt_of_lt_of_le (hG x hx).1 hf1.size, (hG x hx).2⟩, hse.keep hf1 hT hs (fun x hx => hx) (Nat.le_refl _)⟩, hfw.trans hf1 (by simp) (fun x hx => .inr (hk.out x (by simp only [List.mem_cons] at hx ⊢; rcases hx with h | h; exact .inl h; exact .inr (.inr h))).2)⟩, _, hf1⟩
theorem wt_getk {w0 w : World} {k sb d : Nat} {l : List Nat} {room : Nat} (h : Wt w0 w k sb d l room) (hd : d < 250) :
    Calls Tryz.prog 18 #[.pointer (some ⟨k, 0, none⟩), .string kK] w fun e w' => ∃ q c, e = .returned (.tuple #[.agg #[.string kK, .slice (some q) 1 c, .int .u64 ((d + 1 : Nat) : Nat), .int .u64 0], .bool true]) ∧ Bytes w' (some q) [d] ∧ w.heap.size ≤ q.block ∧ Frm [] w w' := by
  obtain ⟨⟨G, jq, dp, Fd, hk, hs, hG, hse⟩, hfw⟩ := h
  refine (kget_any kK hk (wt_mok (by omega)).good).mono ?_
  rintro e w' ⟨a, c, rfl, hb, _, hl, hf⟩
  rw [wt_get] at hb ⊢
  rw [wt_is]
  simp only at hb
  rcases hb.2.2 with h0 | ⟨b, off, rfl, _⟩
  · cases h0
  · exact ⟨_, c, rfl, hb, hl _ rfl, hf⟩
theorem wt_see {w0 w w' : World} {k sb d c cp : Nat} {l : List Nat} {room : Nat} {q : Addr} (h : Wt w0 w k sb d l room) (hf : Frm [] w w') (hb : Bytes w' (some q) [d]) (hq : w.heap.size ≤ q.block) (hc : c < 4) :
    Wt w0 ((((w'.setCell ⟨sb, c * 4, none⟩ (.string kK)).setCell ⟨sb, c * 4 + 1, none⟩ (.slice (some q) 1 cp)).setCell ⟨sb, c * 4 + 2, none⟩ (.int .u64 ((d + 1 : Nat) : Nat))).setCell ⟨sb, c * 4 + 3, none⟩ (.int .u64 0)) k sb d l room := by
  obtain ⟨⟨G, jq, dp, Fd, hk, hs, hG, ⟨cs, hw, hz, hcs⟩⟩, hfw⟩ := h
  have hsl := (hG sb hs).1
  have hql : q.block < w'.heap.size := bytes_lt hb (by simp) q rfl
  have hw' := hf.whole hw (by simp)
  have hput := (((hw'.put (c * 4) (.string kK)).put (c * 4 + 1) (.slice (some q) 1 cp)).put (c * 4 + 2) (.int .u64 ((d + 1 : Nat) : Nat))).put (c * 4 + 3) (.int .u64 0)
  have hfs : Frm [sb] w' ((((w'.setCell ⟨sb, c * 4, none⟩ (.string kK)).setCell ⟨sb, c * 4 + 1, none⟩ (.slice (some q) 1 cp)).setCell ⟨sb, c * 4 + 2, none⟩ (.int .u64 ((d + 1 : Nat) : Nat))).setCell ⟨sb, c * 4 + 3, none⟩ (.int .u64 0)) := ((((Frm.refl _ _).setCell (.inl (by simp)) _).setCell (.inl (by simp)) _).setCell (.inl (by simp)) _).setCell (.inl (by simp)) _
  have hk1 := hk.keep (G' := q.block :: G) hf (by simp) (fun x hx => by
    rcases List.mem_cons.1 hx with rfl | hx
    · exact .inr hq
    · exact .inl hx)
  have hk2 := hk1.keep (G' := q.block :: G) hfs (fun x hx => by simp at hx; subst hx; exact .inl (by simp [hs])) (fun x hx => .inl hx)
  refine ⟨⟨q.block :: G, jq, dp, Fd, hk2, by simp [hs], fun x hx => ?_, ⟨_, hput, by simp [hz], fun c' hc' => ?_⟩⟩, (hfw.trans hf (U := []) (by simp) (by simp)).trans hfs (by simp) (fun x hx => by simp at hx; subst hx; exact .inr (hG _ hs).2)⟩
  · have h1 := hfs.size
    rcases List.mem_cons.1 hx with rfl | hx
    · exact ⟨by omega, by have := hfw.size; omega⟩
    · exact ⟨by have := (hG x hx).1; have := hf.size; omega, (hG x hx).2⟩
  · by_cases he : c' = c
    · subst he
      refine ⟨kK, some q, 1, cp, d + 1, 0, ?_, ?_, ?_, ?_, .inr ⟨d, rfl, Nat.le_refl _, rfl, hfs.bytes hb (fun y hy hm => by cases hy; simp at hm; omega), fun y hy => by cases hy; exact ⟨by simp, by omega⟩⟩⟩ <;> simp [hz, Array.getElem?_setIfInBounds] <;> omega
    · obtain ⟨kx, a, n, cp2, ver, own, hse⟩ := hcs c' hc'
      have h2 := (hse.keep (G' := q.block :: G) hf (by simp) (fun x hx => by simp [hx]) (Nat.le_refl _)).keep (G' := q.block :: G) hfs (fun x hx => by simp at hx; exact .inr hx) (fun x hx => hx) (Nat.le_refl _)
      refine ⟨kx, a, n, cp2, ver, own, ?_, ?_, ?_, ?_, h2.ok⟩
      · rw [Array.getElem?_setIfInBounds_ne (by omega), Array.getElem?_setIfInBounds_ne (by omega), Array.getElem?_setIfInBounds_ne (by omega), Array.getElem?_setIfInBounds_ne (by omega)]; exact h2.c0
      · rw [Array.getElem?_setIfInBounds_ne (by omega), Array.getElem?_setIfInBounds_ne (by omega), Array.getElem?_setIfInBounds_ne (by omega), Array.getElem?_setIfInBounds_ne (by omega)]; exact h2.c1
      · rw [Array.getElem?_setIfInBounds_ne (by omega), Array.getElem?_setIfInBounds_ne (by omega), Array.getElem?_setIfInBounds_ne (by omega), Array.getElem?_setIfInBounds_ne (by omega)]; exact h2.c2
      · rw [Array.getElem?_setIfInBounds_ne (by omega), Array.getElem?_setIfInBounds_ne (by omega), Array.getElem?_setIfInBounds_ne (by omega), Array.getElem?_setIfInBounds_ne (by omega)]; exact h2.c3
theorem Wt.cells {w0 w : World} {k sb d c : Nat} {l : List Nat} {room : Nat} (h : Wt w0 w k sb d l room) (hc : c < 4) : ∃ kx a n cp ver own, w.cell? ⟨sb, c * 4, none⟩ = some (.string kx) ∧ w.cell? ⟨sb, c * 4 + 1, none⟩ = some (.slice a n cp) ∧ w.cell? ⟨sb, c * 4 + 2, none⟩ = some (.int .u64 (ver : Nat)) ∧ w.cell? ⟨sb, c * 4 + 3, none⟩ = some (.int .u64 (own : Nat)) ∧ (∀ i, w.frozen? ⟨sb, i, none⟩ = false) ∧ (n = 0 ∨ ∃ v b off, n = 1 ∧ v ≤ d ∧ ver = v + 1 ∧ a = some ⟨b, off, none⟩ ∧ w.cell? ⟨b, off, none⟩ = some (.int .u8 (v : Nat)) ∧ b < w.heap.size) := by
  obtain ⟨⟨G, jq, dp, Fd, hk, hs, hG, ⟨cs, hw, hz, hcs⟩⟩, hfw⟩ := h
  obtain ⟨kx, a, n, cp, ver, own, hse⟩ := hcs c hc
  refine ⟨kx, a, n, cp, ver, own, by rw [hw.cell]; exact hse.c0, by rw [hw.cell]; exact hse.c1, by rw [hw.cell]; exact hse.c2, by rw [hw.cell]; exact hse.c3, hw.free, ?_⟩
  rcases hse.ok with h0 | ⟨v, h1, h2, h3, h4, _⟩
  · exact .inl h0
  · rcases h4.2.2 with h5 | ⟨b, off, rfl, hcc⟩
    · cases h5
    · have h6 := hcc 0 (by simp)
      simp at h6
      exact .inr ⟨v, b, off, h1, h2, h3, rfl, h6, block_lt_of_cell (a := ⟨b, off, none⟩) h6⟩
def WtRel (w0 : World) (k sb n : Nat) (s11 s41 : Value) (wr : World) : Prop :=
  ∃ (j d : Nat) (l : List Nat), j ≤ n ∧ j ≤ 201 ∧ d ≤ j ∧ s41 = .int .i64 (j : Nat) ∧ s11 = .int .u8 (d : Nat) ∧ l.length ≤ 100 + 100 * j ∧ Hid (Wt w0 wr k sb d l 1048576)

set_option maxHeartbeats 16000000 in
theorem metaWatch_walk (a0 : Option Addr) (n cap : Nat) (ws : List Nat) (w : World) (hn : n = ws.length) (hb : Bytes w a0 ws) (_hc : n ≤ cap) (_hnil : a0 = none → cap = 0) :
    Calls Tryz.prog 9 #[.slice a0 n cap] w fun e w' => e = .returned (.bool true) ∧ Below w.heap.size w w' := by
  have HAW := Lib.hid (awake8_any w)
  have HN := Lib.hid hn
  have H := Lib.hid hb
  have hn63 : n ≤ 9223372036854775807 := by rw [hn]; exact hb.2.1
  have HDN := Lib.hid (fun w1 => new_ok 1048576 w1 (by omega))
  rw [show ((1048576 : Nat) : Int) = 1048576 from rfl] at HDN
  clear hn hb _hc _hnil
  go_enter Tryz.func9, Tryz.ntmps9
  go_wp2_with fail
  (with_reducible refine HAW.out.mono ?_)
  rintro e w1 ⟨rfl, hb1⟩
  have HF1 := Lib.hid (Frm.ofBelow hb1); clear hb1 HAW
  go_wp2_with fail
  (with_reducible refine (HDN.out _).mono ?_)
  rintro e w2 ⟨rfl, hd2, hf2, hz2⟩
  obtain ⟨dp, hdp⟩ : ∃ dp, dp = w1.heap.size := ⟨_, rfl⟩
  rw [← hdp] at hd2 ⊢
  have HO := Lib.hid (kv_open w w2 dp 1048576 hd2 (HF1.out.trans hf2 (U := []) (by simp) (by simp)) (by rw [hdp]; exact HF1.out.size))
  clear hd2 hf2 hz2 hdp HF1 HDN
  go_wp2_with fail
  (with_reducible refine HO.out.mono ?_)
  rintro e w3 ⟨k, rfl, hk3⟩
  have O1 := kv_do (wtC 0 0) (some ⟨w3.heap.size, 0, none⟩) 1 (hk3.here ((Frm.refl [] w3).alloc (.cells #[.int .u8 ((0 : Nat) : Int)] 5))) (by simp) (wt_ok 0 0 (by omega) (by omega)) (u8_at8 w3 0 (by omega) 5 (0, 0)) (by simp) wt_first.1 rfl wt_first.2 (by show (1 : Nat) ≠ 7; omega) (by show kK.size + 1 ≤ 4000; decide) (by simp)
  rw [show cmdV (wtC 0 0) (some ⟨w3.heap.size, 0, none⟩) 1 = .agg #[.int .u8 1, .string ⟨#[107]⟩, .slice (some ⟨w3.heap.size, 0, none⟩) 1 1, .int .u64 0, .int .u64 0, .int .u64 0] from rfl, show ((0 : Nat) : Int) = 0 from rfl] at O1
  have HO1 := Lib.hid O1
  clear hk3 HO O1
  go_wp2_with fail
  (with_reducible refine HO1.out.mono ?_)
  rintro e w4 ⟨_, _, _, l4, rfl, hk4, hl4⟩
  have hl4 : l4.length ≤ 0 + 41 + (1 + 1) := hl4
  have hst := Wt.start hk4
  obtain ⟨sb, hsb⟩ : ∃ sb, sb = w4.heap.size := ⟨_, rfl⟩
  rw [← hsb] at hst
  obtain ⟨w5, hw5⟩ : ∃ w5, w5 = w4.alloc (.cells #[.string ⟨#[]⟩, .slice none 0 0, .int .u64 0, .int .u64 0, .string ⟨#[]⟩, .slice none 0 0, .int .u64 0, .int .u64 0, .string ⟨#[]⟩, .slice none 0 0, .int .u64 0, .int .u64 0, .string ⟨#[]⟩, .slice none 0 0, .int .u64 0, .int .u64 0] 85) := ⟨_, rfl⟩
  rw [← hw5] at hst
  have HR0 : Hid (WtRel w k sb n (.int .u8 (0 : Nat)) (.int .i64 (0 : Nat)) w5) := Lib.hid ⟨0, 0, l4, Nat.zero_le _, by omega, Nat.le_refl _, rfl, rfl, by omega, Lib.hid hst⟩
  have HSB := Lib.hid hsb
  have HW5 := Lib.hid hw5
  clear hk4 hl4 hst hsb hw5 HO1
  go_wp2
  rw [← HSB.out, ← HW5.out]
  go_loopw [11, 41] (fun s11 s41 wr => WtRel w k sb n s11 s41 wr) (fun _ s41 _ => n - (intOf s41).toNat)
  case atStart => exact HR0.out
  case round =>
    clear HR0
    obtain ⟨j, d, l, hj, hj201, hdj, rfl, rfl, hll, HK⟩ := hrel
    by_cases hlt : j < n
    · obtain ⟨b, off, rfl, p0, hx8⟩ : ∃ b off, a0 = some ⟨b, off, none⟩ ∧ wr.cell? ⟨b, off + j, none⟩ = some (.int .u8 (ws.getD j 0 : Nat)) ∧ ws.getD j 0 < 256 := by
        have h8 := H.out.1
        rcases (HK.out.frm.bytes H.out (by simp)).2.2 with h0 | ⟨b, off, rfl, hc⟩
        · have := HN.out; rw [h0] at this; simp at this; omega
        · exact ⟨b, off, rfl, hc j (by have := HN.out; omega), h8 _ (by have := HN.out; simp [show j < ws.length by omega])⟩
      generalize ws.getD j 0 = x at p0 hx8
      by_cases h200 : 200 < j
      · have hgt : decide ((200 : Int) < (j : Int)) = true := decide_eq_true (by omega)
        have GE := Lib.hid (wt_getk HK.out (by omega))
        rw [show kK = ⟨#[107]⟩ from rfl] at GE
        have hfx := HK.out.frm
        have HFX := Lib.hid hfx
        clear hfx
        go_wp2_with fail
        (with_reducible refine GE.out.mono ?_)
        rintro e w7 ⟨⟨qb, qo, qi⟩, qc, rfl, hb7, hq7, hf7⟩
        obtain ⟨b7, o7, hq, hc7⟩ : ∃ b off, (⟨qb, qo, qi⟩ : Addr) = ⟨b, off, none⟩ ∧ w7.cell? ⟨b, off, none⟩ = some (.int .u8 (d : Nat)) := by
          rcases hb7.2.2 with h0 | ⟨b, off, hq, hc⟩
          · cases h0
          · exact ⟨b, off, Option.some.inj hq, by simpa using hc 0 (by simp)⟩
        rw [hq]
        have hd1 : IntKind.u64.wrap (d : Int) = (d : Int) := by simp [IntKind.wrap, IntKind.bits, IntKind.signed]; omega
        have hd2 : (d : Int) % 18446744073709551616 = (d : Int) := by omega
        have hd3 : ((d : Int) + 1) % 18446744073709551616 = ((d + 1 : Nat) : Int) := by omega
        have hd4 : IntKind.u64.wrap ((d : Int) + 1) = ((d + 1 : Nat) : Int) := by rw [← hd3]; simp [IntKind.wrap, IntKind.bits, IntKind.signed]
        have hca : ∀ o, (w7.alloc o).cell? ⟨b7, o7, none⟩ = some (.int .u8 (d : Nat)) := fun o => by rw [((Frm.refl [] w7).alloc o).cell (p := ⟨b7, o7, none⟩) (block_lt_of_cell hc7) (by simp)]; exact hc7
        have HFZ := Lib.hid (HFX.out.trans hf7 (U := []) (by simp) (by simp))
        clear hb7 hf7 hq GE HK hq7
        go_wp2
        go_ret
        exact ⟨rfl, (HFZ.out.alloc _).below (by simp) (Nat.le_refl _)⟩
      · obtain ⟨c, hcx⟩ : ∃ c, c = x % 4 := ⟨_, rfl⟩
        obtain ⟨q4, hq4⟩ : ∃ q4, q4 = x / 4 := ⟨_, rfl⟩
        obtain ⟨q2, hq2⟩ : ∃ q2, q2 = q4 % 2 := ⟨_, rfl⟩
        have hc4 : c < 4 := by omega
        have e1 : IntKind.i64.wrap (x : Int) = (x : Int) := by simp [IntKind.wrap, IntKind.bits, IntKind.signed]; omega
        have e2 : (x : Int).tmod 4 = (c : Int) := by rw [hcx]; exact (Int.ofNat_tmod x 4).symm
        have e3 : (x : Int) % 4 = (c : Int) := by omega
        have e4 : (x : Int).tdiv 4 = (q4 : Int) := by rw [hq4]; exact (Int.ofNat_tdiv x 4).symm
        have e5 : (x : Int) / 4 = (q4 : Int) := by omega
        have e6 : (q4 : Int).tmod 2 = (q2 : Int) := by rw [hq2]; exact (Int.ofNat_tmod q4 2).symm
        have e7 : (q4 : Int) % 2 = (q2 : Int) := by omega
        have e8 : IntKind.u8.wrap (q4 : Int) = (q4 : Int) := IntWalk.u8_in _ (by omega)
        have e9 : (q4 : Int) % 256 = (q4 : Int) := by omega
        have hgt : decide ((200 : Int) < (j : Int)) = false := decide_eq_false (by omega)
        have hcb : (c : Int) < 4 := by omega
        by_cases hz : q2 = 0
        · have hz1 : ((q2 : Int) == 0) = true := by rw [beq_iff_eq]; omega
          have GE := Lib.hid (wt_getk HK.out (by omega))
          rw [show kK = ⟨#[107]⟩ from rfl] at GE
          clear hcx hq4 hq2
          go_wp2_with fail
          (with_reducible refine GE.out.mono ?_)
          rintro e w7 ⟨q, qc, rfl, hb7, hq7, hf7⟩
          obtain ⟨kx, sa, sn, sc, sv, so, i0, i1, i2, i3, ifz, _⟩ := (HK.out.keep hf7).cells hc4
          have SE := wt_see (cp := qc) HK.out hf7 hb7 hq7 hc4
          rw [show kK = ⟨#[107]⟩ from rfl, show (((d + 1 : Nat) : Nat) : Int) = (d : Int) + 1 by omega] at SE
          have SE := Lib.hid SE
          have z0 := ifz (c * 4)
          have z1 := ifz (c * 4 + 1)
          have z2 := ifz (c * 4 + 2)
          have z3 := ifz (c * 4 + 3)
          clear GE hb7 hq7 hf7 ifz HK p0
          go_wp2
          go_roundw
          case rel => exact ⟨j + 1, d, l, by omega, by omega, by omega, by go_num, rfl, by omega, SE⟩
          case measure => simp [intOf]; omega
        · have hz1 : ((q2 : Int) == 0) = false := by rw [beq_eq_false_iff_ne]; omega
          obtain ⟨kx, sa, sn, sc, sv, so, i0, i1, i2, i3, ifz, hcase⟩ := HK.out.cells hc4
          rcases hcase with rfl | ⟨v, vb, vo, rfl, hvd, rfl, rfl, hcv, hvb⟩
          · clear hcx hq4 hq2 ifz
            go_wp2
            go_roundw
            case rel => exact ⟨j + 1, d, l, by omega, by omega, by omega, by go_num, rfl, by omega, HK⟩
            case measure => simp [intOf]; omega
          · have hsbl : sb < wr.heap.size := block_lt_of_cell (a := ⟨sb, c * 4, none⟩) i0
            have i1a : ∀ o, (wr.alloc o).cell? ⟨sb, c * 4 + 1, none⟩ = some (.slice (some ⟨vb, vo, none⟩) 1 sc) := fun o => by rw [((Frm.refl [] wr).alloc o).cell (p := ⟨sb, c * 4 + 1, none⟩) hsbl (by simp)]; exact i1
            have i2a : ∀ o, (wr.alloc o).cell? ⟨sb, c * 4 + 2, none⟩ = some (.int .u64 ((v + 1 : Nat) : Nat)) := fun o => by rw [((Frm.refl [] wr).alloc o).cell (p := ⟨sb, c * 4 + 2, none⟩) hsbl (by simp)]; exact i2
            have v1 : ((v : Int) + 1) % 256 = ((v + 1 : Nat) : Int) := by omega
            have v2 : IntKind.u8.wrap ((v : Int) + 1) = ((v + 1 : Nat) : Int) := IntWalk.u8_in _ (by omega)
            have HDO : Hid (Calls Tryz.prog 25 #[.pointer (some ⟨k, 0, none⟩), .agg #[.int .u8 1, .string ⟨#[107]⟩, .slice (some ⟨wr.heap.size, 0, none⟩) 1 1, .int .u64 ((v : Int) + 1), .int .u64 0, .int .u64 0]] (wr.alloc (Obj.cells #[.int .u8 ((v : Int) + 1)] 5)).drew fun e w' => ∃ (y : Int) (ga : Option Addr) (gn gc ev : Nat), e = .returned (.tuple #[.int .u64 y, .slice ga gn gc, .int .i64 (ev : Nat)]) ∧ ((ev = 0 ∧ ∃ l', Wt w w' k sb (d + 1) l' 1048576 ∧ l'.length ≤ l.length + 43) ∨ (ev = 13 ∧ Wt w w' k sb d l 1048576))) := Lib.hid (by
              have hfa : Frm [] wr (wr.alloc (Obj.cells #[.int .u8 ((v : Int) + 1)] 5)).drew := ((Frm.refl [] wr).alloc _).drew
              have hkz := HK.out.keep hfa
              have hbz := u8_at8 wr (v + 1) (by omega) 5 (0, 0)
              rw [show (((v + 1 : Nat) : Nat) : Int) = (v : Int) + 1 by omega] at hbz
              have hbz2 : Bytes (wr.alloc (Obj.cells #[.int .u8 ((v : Int) + 1)] 5)).drew (some ⟨wr.heap.size, 0, none⟩) [v + 1] := (Frm.refl [] _).drew.bytes hbz (by simp)
              by_cases hvd2 : v = d
              · subst hvd2
                refine (wt_doE hkz (by omega) _ 1 hbz2 (by simp) (by omega)).mono ?_
                rintro e w' ⟨y, ga, gn, gc, l', he, hw, hl, _⟩
                exact ⟨_, ga, gn, gc, 0, he, .inl ⟨rfl, l', hw, hl⟩⟩
              · refine (wt_doB (v := v) (x := v + 1) hkz (by omega) (by omega) (by omega) _ 1 hbz2 (by simp)).mono ?_
                rintro e w' ⟨ga, gc, he, hw, _⟩
                exact ⟨_, ga, 0, gc, 13, he, .inr ⟨rfl, hw⟩⟩)
            clear hcx hq4 hq2 ifz HK
            go_wp2
            go_region_with (go_at_call 25; refine HDO.out.mono ?_; rintro e w8 ⟨y, ga, gn, gc, ev, rfl, hout⟩)
            all_goals
              rcases hout with ⟨rfl, l', hw8, hl8⟩ | ⟨rfl, hw8⟩
              · have HW8 := Lib.hid hw8
                have d1 : ((d : Int) + 1) % 256 = ((d + 1 : Nat) : Int) := by omega
                have d2 : IntKind.u8.wrap ((d : Int) + 1) = ((d + 1 : Nat) : Int) := IntWalk.u8_in _ (by omega)
                clear hw8 HDO i1a i2a
                go_wp2
                go_roundw
                case rel => exact ⟨j + 1, d + 1, l', by omega, by omega, by omega, by go_num, by first | rfl | (congr 1), by omega, HW8⟩
                case measure => simp [intOf]; omega
              · have HW8 := Lib.hid hw8
                clear hw8 HDO i1a i2a
                go_wp2
                go_roundw
                case rel => exact ⟨j + 1, d, l, by omega, by omega, by omega, by go_num, rfl, by omega, HW8⟩
                case measure => simp [intOf]; omega
    · have hge : decide ((j : Int) < (n : Int)) = false := decide_eq_false (by omega)
      have GE := Lib.hid (wt_getk HK.out (by omega))
      rw [show kK = ⟨#[107]⟩ from rfl] at GE
      have hfx := HK.out.frm
      have HFX := Lib.hid hfx
      clear hfx
      go_wp2_with fail
      (with_reducible refine GE.out.mono ?_)
      rintro e w7 ⟨⟨qb, qo, qi⟩, qc, rfl, hb7, hq7, hf7⟩
      obtain ⟨b7, o7, hq, hc7⟩ : ∃ b off, (⟨qb, qo, qi⟩ : Addr) = ⟨b, off, none⟩ ∧ w7.cell? ⟨b, off, none⟩ = some (.int .u8 (d : Nat)) := by
        rcases hb7.2.2 with h0 | ⟨b, off, hq, hc⟩
        · cases h0
        · exact ⟨b, off, Option.some.inj hq, by simpa using hc 0 (by simp)⟩
      rw [hq]
      have hd1 : IntKind.u64.wrap (d : Int) = (d : Int) := by simp [IntKind.wrap, IntKind.bits, IntKind.signed]; omega
      have hd2 : (d : Int) % 18446744073709551616 = (d : Int) := by omega
      have hd3 : ((d : Int) + 1) % 18446744073709551616 = ((d + 1 : Nat) : Int) := by omega
      have hd4 : IntKind.u64.wrap ((d : Int) + 1) = ((d + 1 : Nat) : Int) := by rw [← hd3]; simp [IntKind.wrap, IntKind.bits, IntKind.signed]
      have hca : ∀ o, (w7.alloc o).cell? ⟨b7, o7, none⟩ = some (.int .u8 (d : Nat)) := fun o => by rw [((Frm.refl [] w7).alloc o).cell (p := ⟨b7, o7, none⟩) (block_lt_of_cell hc7) (by simp)]; exact hc7
      have HFZ := Lib.hid (HFX.out.trans hf7 (U := []) (by simp) (by simp))
      clear hb7 hf7 hq GE HK hq7
      go_wp2
      go_ret
      exact ⟨rfl, (HFZ.out.alloc _).below (by simp) (Nat.le_refl _)⟩
end Go.Proofs.YtbdgldlblkflpaaGreat
