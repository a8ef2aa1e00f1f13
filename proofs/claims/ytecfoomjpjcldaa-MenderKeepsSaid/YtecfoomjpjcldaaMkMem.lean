/- What MenderKeeps holds in memory: writer, mender, places' maps, who is fenced, what is under way, what is written. -/
import Derived.Test.YtecfoomjpjcldaaMkWay
import Derived.Test.YtecfoomjpjcldaaMapV
import Derived.Test.YtecfoomjpjcldaaMkMath
namespace Go.Proofs.Ytecfoomjpjcldaa
open Go.RowKit
set_option maxRecDepth 100000
def mvC (P : Nat) (mb : Nat → Nat) : Array Value := ((List.range P).map fun i => Value.map (some (mb i))).toArray
theorem mvC_at {P : Nat} {mb : Nat → Nat} {i : Nat} (h : i < P) : (mvC P mb)[i]? = some (.map (some (mb i))) := by simp [mvC, h]
def fvM (L : Nat → Nat → Option (List Nat)) (db : Nat → Nat) (k : Nat) : Nat → Option Value := fun e => (L k e).map fun _ => dvV (db e)
def browK (P : Nat) (f : Nat → Bool) : Array Value := rowB ((List.range P).map f)
theorem browK_at {P : Nat} {f : Nat → Bool} {j : Nat} (h : j < P) : (browK P f)[j]? = some (.bool (f j)) := by
  unfold browK
  rw [rowB_at _ _ (by simpa using h)]
  simp [h]
theorem browK_set {P : Nat} {f : Nat → Bool} {j : Nat} : (browK P f).setIfInBounds j (.bool true) = browK P (hrd f j) := by
  unfold browK
  rw [rowB_set]
  congr 1
  apply List.ext_getElem?
  intro i
  rw [List.getElem?_set]
  unfold hrd
  by_cases hi : i < P
  · by_cases hj : j = i
    · subst hj; simp [hi]
    · rw [if_neg hj]; simp [hi, Ne.symm hj]
  · by_cases hj : j = i
    · subst hj; simp [hi]
    · rw [if_neg hj]; simp [hi]
/-- The blocks are apart. -/
structure Ap (px pm hb fb : Nat) (ms bw br : List Nat) : Prop where
  p1 : px ≠ pm ∧ px ≠ hb ∧ px ≠ fb ∧ px ∉ ms ∧ px ∉ bw ∧ px ∉ br
  p2 : pm ≠ hb ∧ pm ≠ fb ∧ pm ∉ ms ∧ pm ∉ bw ∧ pm ∉ br
  p3 : hb ≠ fb ∧ hb ∉ ms ∧ hb ∉ bw ∧ hb ∉ br
  p4 : fb ∉ ms ∧ fb ∉ bw ∧ fb ∉ br
  p5 : ∀ g ∈ ms, g ∉ bw ∧ g ∉ br
  p6 : ∀ g ∈ bw, g ∉ br
def zz (hb fb : Nat) (ms bw br : List Nat) : List Nat := hb :: fb :: (ms ++ (bw ++ br))
theorem mem_zz {hb fb x : Nat} {ms bw br : List Nat} : x ∈ zz hb fb ms bw br ↔ x = hb ∨ x = fb ∨ x ∈ ms ∨ x ∈ bw ∨ x ∈ br := by simp [zz]
theorem Ap.way {px pm hb fb : Nat} {ms bw bw' br : List Nat} {N : Nat} (h : Ap px pm hb fb ms bw br) (hp : ∀ g ∈ bw', g ∈ bw ∨ N ≤ g) (hl : ∀ y ∈ px :: pm :: zz hb fb ms bw br, y < N) : Ap px pm hb fb ms bw' br := by
  have hn : ∀ x, x ∉ bw → x < N → x ∉ bw' := fun x h1 h2 hm => by
    rcases hp x hm with h3 | h3
    · exact h1 h3
    · omega
  have hl' : ∀ x, (x = px ∨ x = pm ∨ x = hb ∨ x = fb ∨ x ∈ ms ∨ x ∈ bw ∨ x ∈ br) → x < N := fun x hx => hl x (by
    simp only [List.mem_cons, mem_zz]; exact hx)
  exact ⟨⟨h.p1.1, h.p1.2.1, h.p1.2.2.1, h.p1.2.2.2.1, hn _ h.p1.2.2.2.2.1 (hl' _ (.inl rfl)), h.p1.2.2.2.2.2⟩, ⟨h.p2.1, h.p2.2.1, h.p2.2.2.1, hn _ h.p2.2.2.2.1 (hl' _ (.inr (.inl rfl))), h.p2.2.2.2.2⟩, ⟨h.p3.1, h.p3.2.1, hn _ h.p3.2.2.1 (hl' _ (.inr (.inr (.inl rfl)))), h.p3.2.2.2⟩, ⟨h.p4.1, hn _ h.p4.2.1 (hl' _ (.inr (.inr (.inr (.inl rfl))))), h.p4.2.2⟩, fun g hg => ⟨hn _ (h.p5 g hg).1 (hl' _ (.inr (.inr (.inr (.inr (.inl hg)))))), (h.p5 g hg).2⟩, fun g hg hm => by
    rcases hp g hg with h1 | h1
    · exact h.p6 g h1 hm
    · have := hl' g (.inr (.inr (.inr (.inr (.inr (.inr hm)))))); omega⟩
theorem Ap.row {px pm hb fb : Nat} {ms bw br br' : List Nat} {N : Nat} (h : Ap px pm hb fb ms bw br) (hp : ∀ g ∈ br', g ∈ br ∨ N ≤ g) (hl : ∀ y ∈ px :: pm :: zz hb fb ms bw br, y < N) : Ap px pm hb fb ms bw br' := by
  have hn : ∀ x, x ∉ br → x < N → x ∉ br' := fun x h1 h2 hm => by
    rcases hp x hm with h3 | h3
    · exact h1 h3
    · omega
  have hl' : ∀ x, (x = px ∨ x = pm ∨ x = hb ∨ x = fb ∨ x ∈ ms ∨ x ∈ bw ∨ x ∈ br) → x < N := fun x hx => hl x (by
    simp only [List.mem_cons, mem_zz]; exact hx)
  exact ⟨⟨h.p1.1, h.p1.2.1, h.p1.2.2.1, h.p1.2.2.2.1, h.p1.2.2.2.2.1, hn _ h.p1.2.2.2.2.2 (hl' _ (.inl rfl))⟩, ⟨h.p2.1, h.p2.2.1, h.p2.2.2.1, h.p2.2.2.2.1, hn _ h.p2.2.2.2.2 (hl' _ (.inr (.inl rfl)))⟩, ⟨h.p3.1, h.p3.2.1, h.p3.2.2.1, hn _ h.p3.2.2.2 (hl' _ (.inr (.inr (.inl rfl))))⟩, ⟨h.p4.1, h.p4.2.1, hn _ h.p4.2.2 (hl' _ (.inr (.inr (.inr (.inl rfl)))))⟩, fun g hg => ⟨(h.p5 g hg).1, hn _ (h.p5 g hg).2 (hl' _ (.inr (.inr (.inr (.inr (.inl hg))))))⟩, fun g hg => hn _ (h.p6 g hg) (hl' _ (.inr (.inr (.inr (.inr (.inr (.inl hg)))))))⟩
def dvR (db : Nat → Nat) (n : Nat) : List Value := (List.range n).map fun e => dvV (db e)
structure Kz (w z : World) (B px pm hb fb : Nat) (mb : Nat → Nat) (wa : Option Addr) (wn wc : Nat) (ra : Option Addr) (rc : Nat) (db : Nat → Nat) (P W A : Nat) (D : List (List Nat)) (H : Nat → Nat → Bool) (su : Nat) (L : Nat → Nat → Option (List Nat)) (fe fh : Nat → Bool) (t : Tn) (Y : List (Nat × Nat)) (i : Nat) : Prop where
  wr : Wq z B px (pm :: zz hb fb ((List.range P).map mb) (blk wa) (blk ra)) P W A D H su false
  md : Md z pm (px :: zz hb fb ((List.range P).map mb) (blk wa) (blk ra)) P W A fh 0 t
  pl : Whole z hb 80 (mvC P mb)
  mp : ∀ k, k < P → MapV Try.prog 39 z (mb k) i (fvM L db k)
  mne : ∀ j k, j < P → k < P → mb j = mb k → j = k
  fn : Whole z fb 4 (browK P fe)
  way : WayAt z B wa wn wc db Y
  row : z.ownsRow B 38 1 (.slice ra D.length rc) D.length (dvR db D.length)
  dat : ∀ e, e < D.length → Whole z (db e) 5 ((D.getD e []).map u8v).toArray ∧ (D.getD e []).length = 2 ∧ (∀ c ∈ D.getD e [], c < 256) ∧ db e ∉ px :: pm :: zz hb fb ((List.range P).map mb) (blk wa) (blk ra)
  ap : Ap px pm hb fb ((List.range P).map mb) (blk wa) (blk ra)
  few : D.length ≤ i ∧ (keysT t).length ≤ i * 256 ∧ Y.length ≤ i * 7
  yok : ∀ x ∈ Y, x.1 < P ∧ x.2 < D.length
  low : B ≤ z.heap.size ∧ ∀ y ∈ px :: pm :: zz hb fb ((List.range P).map mb) (blk wa) (blk ra), w.heap.size ≤ y
  frm : Frm [] w z
section
variable {w z z' : World} {B px pm hb fb : Nat} {mb : Nat → Nat} {wa : Option Addr} {wn wc : Nat} {ra : Option Addr} {rc : Nat} {db : Nat → Nat} {P W A : Nat} {D : List (List Nat)} {H : Nat → Nat → Bool} {su : Nat} {L : Nat → Nat → Option (List Nat)} {fe fh : Nat → Bool} {t : Tn} {Y : List (Nat × Nat)} {i : Nat}
theorem Kz.lt (m : Kz w z B px pm hb fb mb wa wn wc ra rc db P W A D H su L fe fh t Y i) : ∀ y ∈ px :: pm :: zz hb fb ((List.range P).map mb) (blk wa) (blk ra), y < z.heap.size := by
  intro y hy
  simp only [List.mem_cons, mem_zz] at hy
  rcases hy with rfl | rfl | rfl | rfl | h | h | h
  · exact m.wr.lt
  · exact m.md.lt
  · exact m.pl.lt
  · exact m.fn.lt
  · obtain ⟨k, hk, rfl⟩ := List.mem_map.1 h
    exact (m.mp k (List.mem_range.1 hk)).lt
  · exact (m.way.lt y h).2
  · exact (World.ownsRow.lt m.row y (ownBlk.2 h)).2
theorem Kz.here (m : Kz w z B px pm hb fb mb wa wn wc ra rc db P W A D H su L fe fh t Y i) (hf : Frm [] z z') : Kz w z' B px pm hb fb mb wa wn wc ra rc db P W A D H su L fe fh t Y i :=
  ⟨m.wr.here hf, m.md.here hf, hf.whole m.pl (by simp), fun k hk => (m.mp k hk).keep hf (by simp), m.mne, hf.whole m.fn (by simp), m.way.here hf, hf.own m.row (by simp), fun e he => ⟨hf.whole (m.dat e he).1 (by simp), (m.dat e he).2⟩, m.ap, m.few, m.yok, ⟨Nat.le_trans m.low.1 hf.size, m.low.2⟩, m.frm.trans hf (by simp) (by simp)⟩
/-- The maps' bound. -/
theorem Kz.up (m : Kz w z B px pm hb fb mb wa wn wc ra rc db P W A D H su L fe fh t Y i) {j : Nat} (hj : i ≤ j) : Kz w z B px pm hb fb mb wa wn wc ra rc db P W A D H su L fe fh t Y j :=
  ⟨m.wr, m.md, m.pl, fun k hk => (m.mp k hk).mono hj, m.mne, m.fn, m.way, m.row, m.dat, m.ap, by have := m.few; omega, m.yok, m.low, m.frm⟩
/-- The writer's call. -/
theorem Kz.wrote (m : Kz w z B px pm hb fb mb wa wn wc ra rc db P W A D H su L fe fh t Y i) {H' : Nat → Nat → Bool} {s : Nat} (hf : Frm [px] z z') (hq : Wq z' B px (pm :: zz hb fb ((List.range P).map mb) (blk wa) (blk ra)) P W A D H' s false) : Kz w z' B px pm hb fb mb wa wn wc ra rc db P W A D H' s L fe fh t Y i := by
  have a := m.ap
  refine ⟨hq, m.md.keep hf (fun x hx => .inl (by simp at hx; simp [hx])) (fun x hx => .inl hx), hf.whole m.pl (by simp; exact Ne.symm a.p1.2.1), fun k hk => (m.mp k hk).keep hf (fun hm => ?_), m.mne, hf.whole m.fn (by simp; exact Ne.symm a.p1.2.2.1), m.way.keep hf (fun g hg hm => ?_), hf.own m.row (fun g hg hm => ?_), fun e he => ⟨hf.whole (m.dat e he).1 (fun hm => (m.dat e he).2.2.2 (by simp at hm; simp [hm])), (m.dat e he).2⟩, a, m.few, m.yok, ⟨Nat.le_trans m.low.1 hf.size, m.low.2⟩, m.frm.trans hf (by simp) (fun x hx => .inr (m.low.2 x (by simp at hx; simp [hx])))⟩
  · simp only [List.mem_singleton] at hm
    exact a.p1.2.2.2.1 (by rw [← hm]; exact List.mem_map.2 ⟨k, List.mem_range.2 hk, rfl⟩)
  · simp only [List.mem_singleton] at hm
    subst hm; exact a.p1.2.2.2.2.1 hg
  · simp only [List.mem_singleton] at hm
    subst hm; exact a.p1.2.2.2.2.2 (ownBlk.1 hg)
/-- The mender's call. -/
theorem Kz.heard (m : Kz w z B px pm hb fb mb wa wn wc ra rc db P W A D H su L fe fh t Y i) {fh' : Nat → Bool} {t' : Tn} {j : Nat} (hf : Frm [pm] z z') (hq : Md z' pm (px :: zz hb fb ((List.range P).map mb) (blk wa) (blk ra)) P W A fh' 0 t') (hj : i ≤ j) (hk : (keysT t').length ≤ j * 256) : Kz w z' B px pm hb fb mb wa wn wc ra rc db P W A D H su L fe fh' t' Y j := by
  have a := m.ap
  have m := m.up hj
  refine ⟨m.wr.keep hf (fun x hx => .inl (by simp at hx; simp [hx])) (fun x hx => .inl hx), hq, hf.whole m.pl (by simp; exact Ne.symm a.p2.1), fun k hk => (m.mp k hk).keep hf (fun hm => ?_), m.mne, hf.whole m.fn (by simp; exact Ne.symm a.p2.2.1), m.way.keep hf (fun g hg hm => ?_), hf.own m.row (fun g hg hm => ?_), fun e he => ⟨hf.whole (m.dat e he).1 (fun hm => (m.dat e he).2.2.2 (by simp at hm; simp [hm])), (m.dat e he).2⟩, a, ⟨m.few.1, hk, m.few.2.2⟩, m.yok, ⟨Nat.le_trans m.low.1 hf.size, m.low.2⟩, m.frm.trans hf (by simp) (fun x hx => .inr (m.low.2 x (by simp at hx; simp [hx])))⟩
  · simp only [List.mem_singleton] at hm
    exact a.p2.2.2.1 (by rw [← hm]; exact List.mem_map.2 ⟨k, List.mem_range.2 hk, rfl⟩)
  · simp only [List.mem_singleton] at hm
    subst hm; exact a.p2.2.2.2.1 hg
  · simp only [List.mem_singleton] at hm
    subst hm; exact a.p2.2.2.2.2 (ownBlk.1 hg)
/-- A place is fenced. -/
theorem Kz.fenced (m : Kz w z B px pm hb fb mb wa wn wc ra rc db P W A D H su L fe fh t Y i) (p : Nat) : Kz w (z.setCell ⟨fb, p, none⟩ (.bool true)) B px pm hb fb mb wa wn wc ra rc db P W A D H su L (hrd fe p) fh t Y i := by
  have a := m.ap
  have hf : Frm [fb] z (z.setCell ⟨fb, p, none⟩ (.bool true)) := (Frm.refl _ _).setCell (.inl (by simp)) _
  have h1 := m.fn.put p (.bool true)
  rw [browK_set] at h1
  refine ⟨m.wr.keep hf (fun x hx => .inl (by simp at hx; simp [hx, zz])) (fun x hx => .inl hx), m.md.keep hf (fun x hx => .inl (by simp at hx; simp [hx, zz])) (fun x hx => .inl hx), hf.whole m.pl (by simp; exact a.p3.1), fun k hk => (m.mp k hk).keep hf (fun hm => ?_), m.mne, h1, m.way.keep hf (fun g hg hm => ?_), hf.own m.row (fun g hg hm => ?_), fun e he => ⟨hf.whole (m.dat e he).1 (fun hm => (m.dat e he).2.2.2 (by simp at hm; simp [hm, zz])), (m.dat e he).2⟩, a, m.few, m.yok, ⟨Nat.le_trans m.low.1 hf.size, m.low.2⟩, m.frm.trans hf (by simp) (fun x hx => .inr (m.low.2 x (by simp at hx; simp [hx, zz])))⟩
  · simp only [List.mem_singleton] at hm
    exact a.p4.1 (by rw [← hm]; exact List.mem_map.2 ⟨k, List.mem_range.2 hk, rfl⟩)
  · simp only [List.mem_singleton] at hm
    subst hm; exact a.p4.2.1 hg
  · simp only [List.mem_singleton] at hm
    subst hm; exact a.p4.2.2 (ownBlk.1 hg)
/-- A place has an entry. -/
theorem Kz.put (m : Kz w z B px pm hb fb mb wa wn wc ra rc db P W A D H su L fe fh t Y i) {k e : Nat} {d : List Nat} (hk : k < P) (hf : Frm [mb k] z z') (hm : MapV Try.prog 39 z' (mb k) (i + 1) (updV (fvM L db k) e (dvV (db e)))) : Kz w z' B px pm hb fb mb wa wn wc ra rc db P W A D H su (putL L k e d) fe fh t Y (i + 1) := by
  have a := m.ap
  have hmm : mb k ∈ (List.range P).map mb := List.mem_map.2 ⟨k, List.mem_range.2 hk, rfl⟩
  have m := m.up (Nat.le_succ i)
  refine ⟨m.wr.keep hf (fun x hx => .inl (by simp only [List.mem_singleton] at hx; subst hx; simp only [List.mem_cons, mem_zz]; exact .inr (.inr (.inr (.inl hmm))))) (fun x hx => .inl hx), m.md.keep hf (fun x hx => .inl (by simp only [List.mem_singleton] at hx; subst hx; simp only [List.mem_cons, mem_zz]; exact .inr (.inr (.inr (.inl hmm))))) (fun x hx => .inl hx), hf.whole m.pl (fun h => a.p3.2.1 (by simp only [List.mem_singleton] at h; rw [h]; exact hmm)), fun j hj => ?_, m.mne, hf.whole m.fn (fun h => a.p4.1 (by simp only [List.mem_singleton] at h; rw [h]; exact hmm)), m.way.keep hf (fun g hg h => by simp only [List.mem_singleton] at h; subst h; exact (a.p5 _ hmm).1 hg), hf.own m.row (fun g hg h => by simp only [List.mem_singleton] at h; subst h; exact (a.p5 _ hmm).2 (ownBlk.1 hg)), fun e he => ⟨hf.whole (m.dat e he).1 (fun h => (m.dat e he).2.2.2 (by simp only [List.mem_singleton] at h; rw [h]; simp only [List.mem_cons, mem_zz]; exact .inr (.inr (.inr (.inr (.inl hmm)))))), (m.dat e he).2⟩, a, m.few, m.yok, ⟨Nat.le_trans m.low.1 hf.size, m.low.2⟩, m.frm.trans hf (by simp) (fun x hx => .inr (m.low.2 x (by simp only [List.mem_singleton] at hx; subst hx; simp only [List.mem_cons, mem_zz]; exact .inr (.inr (.inr (.inr (.inl hmm)))))))⟩
  by_cases hjk : j = k
  · subst hjk
    have e1 : fvM (putL L j e d) db j = updV (fvM L db j) e (dvV (db e)) := by
      funext q
      unfold fvM putL updV
      by_cases hq : q = e
      · subst hq; simp
      · simp [hq]
    rw [e1]; exact hm
  · have e1 : fvM (putL L k e d) db j = fvM L db j := by
      funext q
      unfold fvM putL
      simp [hjk]
    rw [e1]
    exact (m.mp j hj).keep hf (fun h => hjk (m.mne j k hj hk (by simpa using h)))
/-- What is under way, changed. -/
theorem Kz.ways (m : Kz w z B px pm hb fb mb wa wn wc ra rc db P W A D H su L fe fh t Y i) {wa' : Option Addr} {n c : Nat} {Y' : List (Nat × Nat)} {j : Nat} (hf : Frm (blk wa) z z') (hw : WayAt z' B wa' n c db Y') (hp : ∀ g ∈ blk wa', g ∈ blk wa ∨ z.heap.size ≤ g) (hy : ∀ x ∈ Y', x.1 < P ∧ x.2 < D.length) (hj : i ≤ j) (hl : Y'.length ≤ j * 7) : Kz w z' B px pm hb fb mb wa' n c ra rc db P W A D H su L fe fh t Y' j := by
  have a := m.ap
  have hlt := m.lt
  have m := m.up hj
  have hz : ∀ x, x ∈ zz hb fb ((List.range P).map mb) (blk wa') (blk ra) → x ∈ zz hb fb ((List.range P).map mb) (blk wa) (blk ra) ∨ z.heap.size ≤ x := fun x hx => by
    rw [mem_zz] at hx ⊢
    rcases hx with h | h | h | h | h
    · exact .inl (.inl h)
    · exact .inl (.inr (.inl h))
    · exact .inl (.inr (.inr (.inl h)))
    · exact (hp x h).imp (fun h => .inr (.inr (.inr (.inl h)))) id
    · exact .inl (.inr (.inr (.inr (.inr h))))
  have hwz : ∀ x ∈ blk wa, x ∈ zz hb fb ((List.range P).map mb) (blk wa) (blk ra) := fun x hx => by rw [mem_zz]; exact .inr (.inr (.inr (.inl hx)))
  refine ⟨m.wr.keep hf (fun x hx => .inl (List.mem_cons_of_mem _ (hwz x hx))) (fun x hx => ?_), m.md.keep hf (fun x hx => .inl (List.mem_cons_of_mem _ (hwz x hx))) (fun x hx => ?_), hf.whole m.pl a.p3.2.2.1, fun k hk => (m.mp k hk).keep hf (a.p5 _ (List.mem_map.2 ⟨k, List.mem_range.2 hk, rfl⟩)).1, m.mne, hf.whole m.fn a.p4.2.1, hw, hf.own m.row (fun g hg hm => a.p6 g hm (ownBlk.1 hg)), fun e he => ⟨hf.whole (m.dat e he).1 (fun h => (m.dat e he).2.2.2 (List.mem_cons_of_mem _ (List.mem_cons_of_mem _ (hwz _ h)))), (m.dat e he).2.1, (m.dat e he).2.2.1, fun hm => ?_⟩, a.way hp hlt, ⟨m.few.1, m.few.2.1, hl⟩, hy, ⟨Nat.le_trans m.low.1 hf.size, fun y hy => ?_⟩, m.frm.trans hf (by simp) (fun x hx => .inr (m.low.2 x (List.mem_cons_of_mem _ (List.mem_cons_of_mem _ (hwz x hx)))))⟩
  · rcases List.mem_cons.1 hx with h | h
    · exact .inl (by simp [h])
    · exact (hz x h).imp (List.mem_cons_of_mem _) id
  · rcases List.mem_cons.1 hx with h | h
    · exact .inl (by simp [h])
    · exact (hz x h).imp (List.mem_cons_of_mem _) id
  · have hd := (m.dat e he)
    have h3 := hd.1.lt
    rcases List.mem_cons.1 hm with h | h
    · exact hd.2.2.2 (by simp [h])
    · rcases List.mem_cons.1 h with h | h
      · exact hd.2.2.2 (by simp [h])
      · rcases hz _ h with h | h
        · exact hd.2.2.2 (List.mem_cons_of_mem _ (List.mem_cons_of_mem _ h))
        · omega
  · rcases List.mem_cons.1 hy with h | h
    · exact m.low.2 y (by simp [h])
    · rcases List.mem_cons.1 h with h | h
      · exact m.low.2 y (by simp [h])
      · rcases hz _ h with h | h
        · exact m.low.2 y (List.mem_cons_of_mem _ (List.mem_cons_of_mem _ h))
        · have := m.frm.size; omega
/-- An entry more is written. -/
theorem Kz.more (m : Kz w z B px pm hb fb mb wa wn wc ra rc db P W A D H su L fe fh t Y i) {z2 z3 z4 : World} {gl : Nat} {d : List Nat} {ra' : Option Addr} {rc' : Nat} {H' : Nat → Nat → Bool} (hf : Frm [px] z z2) (hgl : Whole z2 gl 5 (d.map u8v).toArray) (hgn : z.heap.size ≤ gl) (hd2 : d.length = 2) (hd8 : ∀ c ∈ d, c < 256)
    (hq : Wq z2 B px (pm :: zz hb fb ((List.range P).map mb) (blk wa) (blk ra)) P W A (D ++ [d]) H' su false) (hf3 : Frm [] z2 z3) (ha : AppV z3 z4 B 38 (.slice ra D.length rc) D.length 1 (dvR db D.length) [dvV gl] ra' rc') (hL : ∀ k, L k D.length = none) :
    Kz w z4 B px pm hb fb mb wa wn wc ra' rc' (fun e => if e = D.length then gl else db e) P W A (D ++ [d]) H' su L fe fh t Y (i + 1) := by
  have a := m.ap
  have hlt := m.lt
  have hfew := m.few.1
  have m := m.up (Nat.le_succ i)
  have hs2 := hf.size
  have hs3 := hf3.size
  have hf4 : Frm (blk ra) z3 z4 := (Frm.refl _ _).grown ha.grown (fun g hg => .inl (ownBlk.1 hg))
  have hp : ∀ g ∈ blk ra', g ∈ blk ra ∨ z3.heap.size ≤ g := by
    intro g hg
    have hg' : (Value.slice ra' (D.length + 1) rc').ownBlock = some g := ownBlk.2 hg
    rcases ha.place with h1 | h1
    · exact .inl (ownBlk.1 (h1 ▸ hg'))
    · rw [hg'] at h1; cases h1; exact .inr (Nat.le_refl _)
  have hrz : ∀ x ∈ blk ra, x ∈ zz hb fb ((List.range P).map mb) (blk wa) (blk ra) := fun x hx => by rw [mem_zz]; exact .inr (.inr (.inr (.inr hx)))
  have hfa : Frm (px :: blk ra) z z4 := (hf.trans hf3 (U := [px]) (fun x hx => hx) (by simp)).trans hf4 (fun x hx => by simp at hx; simp [hx]) (fun x hx => .inl (List.mem_cons_of_mem _ hx))
  have hz : ∀ x, x ∈ zz hb fb ((List.range P).map mb) (blk wa) (blk ra') → x ∈ zz hb fb ((List.range P).map mb) (blk wa) (blk ra) ∨ z3.heap.size ≤ x := fun x hx => by
    rw [mem_zz] at hx ⊢
    rcases hx with h | h | h | h | h
    · exact .inl (.inl h)
    · exact .inl (.inr (.inl h))
    · exact .inl (.inr (.inr (.inl h)))
    · exact .inl (.inr (.inr (.inr (.inl h))))
    · exact (hp x h).imp (fun h => .inr (.inr (.inr (.inr h)))) id
  have hne : ∀ e, e < D.length → (if e = D.length then gl else db e) = db e := fun e he => by rw [if_neg (by omega)]
  have hmp : ∀ k, fvM L (fun e => if e = D.length then gl else db e) k = fvM L db k := fun k => by
    funext e
    unfold fvM
    by_cases he : e = D.length
    · rw [he, hL k]; rfl
    · simp only [if_neg he]
  refine ⟨(hq.here hf3).keep hf4 (fun x hx => .inl (List.mem_cons_of_mem _ (hrz x hx))) (fun x hx => ?_), m.md.keep hfa (fun x hx => ?_) (fun x hx => ?_), hfa.whole m.pl (fun hm => ?_), fun k hk => ?_, m.mne, hfa.whole m.fn (fun hm => ?_), ?_, ?_, fun e he => ?_, a.row (N := z.heap.size) (fun g hg => (hp g hg).imp id (fun h => by omega)) hlt, ⟨by rw [List.length_append, List.length_singleton]; omega, m.few.2⟩, fun x hx => ⟨(m.yok x hx).1, by rw [List.length_append]; have := (m.yok x hx).2; omega⟩, ⟨by have := hfa.size; have := m.low.1; omega, fun y hy => ?_⟩, m.frm.trans hfa (by simp) (fun x hx => .inr ?_)⟩
  · rcases List.mem_cons.1 hx with h | h
    · exact .inl (by simp [h])
    · exact (hz x h).imp (List.mem_cons_of_mem _) id
  · rcases List.mem_cons.1 hx with h | h
    · exact .inl (by simp [h])
    · exact .inl (List.mem_cons_of_mem _ (hrz x h))
  · rcases List.mem_cons.1 hx with h | h
    · exact .inl (by simp [h])
    · exact (hz x h).imp (List.mem_cons_of_mem _) (fun h => by omega)
  · rcases List.mem_cons.1 hm with h | h
    · exact a.p1.2.1 h.symm
    · exact a.p3.2.2.2 h
  · rw [hmp k]
    refine (m.mp k hk).keep hfa (fun hm => ?_)
    have hmm : mb k ∈ (List.range P).map mb := List.mem_map.2 ⟨k, List.mem_range.2 hk, rfl⟩
    rcases List.mem_cons.1 hm with h | h
    · exact a.p1.2.2.2.1 (h ▸ hmm)
    · exact (a.p5 _ hmm).2 h
  · rcases List.mem_cons.1 hm with h | h
    · exact a.p1.2.2.1 h.symm
    · exact a.p4.2.2 h
  · have h1 := m.way.keep hfa (fun g hg hm => by
      rcases List.mem_cons.1 hm with h | h
      · subst h; exact a.p1.2.2.2.2.1 hg
      · exact a.p6 g hg h)
    have h2 : sc (fun e => if e = D.length then gl else db e) Y = sc db Y := sc_congr (fun x hx => hne _ (m.yok x hx).2)
    exact ⟨by rw [h2]; exact h1.own, h1.len, h1.lt⟩
  · have h1 := ha.own
    have h2 : dvR (fun e => if e = D.length then gl else db e) (D ++ [d]).length = dvR db D.length ++ [dvV gl] := by
      rw [List.length_append]
      unfold dvR
      rw [List.length_singleton, List.range_succ, List.map_append, List.map_singleton]
      have h5 : dvV ((fun e => if e = D.length then gl else db e) D.length) = dvV gl := by simp
      rw [h5]
      congr 1
      exact List.map_congr_left (fun e he => by have h6 := hne e (List.mem_range.1 he); simp only [h6])
    rw [h2, List.length_append, List.length_singleton]
    exact h1
  · rw [List.length_append, List.length_singleton] at he
    by_cases hel : e = D.length
    · subst hel
      rw [if_pos rfl]
      have e1 : (D ++ [d]).getD D.length [] = d := by simp
      rw [e1]
      refine ⟨(hf3.whole hgl (by simp) |> fun h => hf4.whole h (fun hm => ?_)), hd2, hd8, fun hm => ?_⟩
      · have := hlt gl (List.mem_cons_of_mem _ (List.mem_cons_of_mem _ (hrz _ hm))); omega
      · have hg2 := hgl.lt
        rcases List.mem_cons.1 hm with h | h
        · have := hlt gl (by simp [h]); omega
        · rcases List.mem_cons.1 h with h | h
          · have := hlt gl (by simp [h]); omega
          · rcases hz _ h with h | h
            · have := hlt gl (List.mem_cons_of_mem _ (List.mem_cons_of_mem _ h)); omega
            · omega
    · have he' : e < D.length := by omega
      have e1 : (D ++ [d]).getD e [] = D.getD e [] := by simp [List.getD, List.getElem?_append, he']
      simp only [if_neg hel]
      rw [e1]
      have hd := m.dat e he'
      have h3 := hd.1.lt
      refine ⟨hfa.whole hd.1 (fun hm => hd.2.2.2 ?_), hd.2.1, hd.2.2.1, fun hm => ?_⟩
      · rcases List.mem_cons.1 hm with h | h
        · simp [h]
        · exact List.mem_cons_of_mem _ (List.mem_cons_of_mem _ (hrz _ h))
      · rcases List.mem_cons.1 hm with h | h
        · exact hd.2.2.2 (by simp [h])
        · rcases List.mem_cons.1 h with h | h
          · exact hd.2.2.2 (by simp [h])
          · rcases hz _ h with h | h
            · exact hd.2.2.2 (List.mem_cons_of_mem _ (List.mem_cons_of_mem _ h))
            · omega
  · rcases List.mem_cons.1 hy with h | h
    · exact m.low.2 y (by simp [h])
    · rcases List.mem_cons.1 h with h | h
      · exact m.low.2 y (by simp [h])
      · rcases hz _ h with h | h
        · exact m.low.2 y (List.mem_cons_of_mem _ (List.mem_cons_of_mem _ h))
        · have := m.frm.size; omega
  · rcases List.mem_cons.1 hx with h | h
    · exact m.low.2 x (by simp [h])
    · exact m.low.2 x (List.mem_cons_of_mem _ (List.mem_cons_of_mem _ (hrz x h)))
end
end Go.Proofs.Ytecfoomjpjcldaa
