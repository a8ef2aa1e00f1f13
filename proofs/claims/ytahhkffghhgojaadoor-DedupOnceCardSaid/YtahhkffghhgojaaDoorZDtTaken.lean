/- (For a door seat.) Contracts of what the laws hand to pack.Read; of taken. -/
import Derived.Test.YtahhkffghhgojaaDoorZDtTake
import Derived.Test.YtahhkffghhgojaaDoorZPkRead8
namespace Go.Proofs.YtahhkffghhgojaaDoor
open Go.RowKit
set_option maxRecDepth 100000

theorem tabs_two {w : World} (h : Tabs w) : 2 ≤ w.heap.size := by have := block_lt_of_cell (h.2 0 (by decide)).1; simp at this; omega
theorem DdB.low {B B' : Nat} {w : World} {g : Nat} {X : List Ln} (h : DdB B w g X) (hb : B' ≤ B) : DdB B' w g X := by
  obtain ⟨m, Y, h1, h2, h3⟩ := h.row
  exact ⟨h.ok, Nat.le_trans hb h.hg, m, Y, h1, h2, fun b hb' => Nat.le_trans hb (h3 b hb')⟩
/-- What the law's first closure leaves where nothing is thrown. -/
def TkQ (w : World) (q : Nat) (out : List Ln) (l' : List Nat) (w2 : World) (rest : List Nat) : Prop :=
  rest = l' ∧ ∃ a c, Whole w2 q 39 #[.slice a out.length c] ∧ LnOwn w2 (w.heap.size + 2) 56 [] a c out ∧ Frm [q] w w2
def TbQ (w : World) (q : Nat) (out : List Ln) (l' : List Nat) (w2 : World) (rest : List Nat) : Prop :=
  rest = l' ∧ ∃ g, Whole w2 q 25 #[.pointer (some ⟨g, 0, none⟩)] ∧ DdB (w.heap.size + 2) w2 g out ∧ Frm [q] w w2
section
variable {V : List Nat → Bool} {w w1 : World} {rb cb db q : Nat} {l l' : List Nat} {out : List Ln}
set_option maxHeartbeats 4000000 in
theorem bytaken_ret (hV : VOk V) (h : Told w w1 rb cb db l) (hT : Tabs w) (hfit : l.length ≤ 100000) {v0 : Value} (hq : Whole w q 39 #[v0]) (hp : pTb V l = .inl (out, l')) :
    Calls Tryd.prog 26 (#[.pointer (some ⟨rb, 0, none⟩)] ++ #[.pointer (some ⟨q, 0, none⟩)]) w1 (ByRet w w1 rb cb db (TkQ w q out l')) := by
  have h2 := tabs_two hT
  have C1 := Lib.hid (dtake_any hV h.rdr (hT.keep h.frm (by simp)) (by have := h.hr; omega) h.dlt hfit)
  rw [hp] at C1
  have HH := Lib.hid h
  have HQ := Lib.hid hq
  have QL : Hid (q < w.heap.size ∧ q ≠ rb ∧ q ≠ cb ∧ q ≠ db) := Lib.hid (by have h1 := hq.lt; have h2 := h.hr; have h3 := h.hc; have h4 := h.hd; omega)
  have T2 := Lib.hid h.two
  clear h hT hfit hp hq h2
  go_enter Tryd.func26, Tryd.ntmps26
  go_wp2_with fail
  (with_reducible refine C1.out.mono ?_)
  rintro e w2 (⟨out', l'', g, he, rfl, hok, hd, hr, hf⟩ | ⟨c, he, _⟩)
  rotate_left
  · cases he
  simp only [Sum.inl.injEq, Prod.mk.injEq] at he
  obtain ⟨rfl, rfl⟩ := he
  have C2 := Lib.hid (ball_any hd)
  rw [allX_of_srt hok.srt] at C2
  have R2 := Lib.hid hr
  have F2 := Lib.hid hf
  clear hd hr hf hok
  go_wp2_with fail
  (with_reducible refine C2.out.mono ?_)
  rintro e w3 ⟨a, c, rfl, ho, hf3⟩
  have F13 : Hid (Frm [rb] w1 w3) := Lib.hid (F2.out.trans hf3 (fun x hx => hx) (by simp))
  have B3 := Lib.hid (F13.out.whole (HH.out.frm.whole HQ.out (by simp)) (by simp; exact QL.out.2.1))
  have O3 := Lib.hid ho
  have N3 : Hid (w.heap.size + 2 ≤ w2.heap.size ∧ w1.heap.size ≤ w2.heap.size) := Lib.hid (by have h1 := F2.out.size; have h2 := T2.out; omega)
  have R3 := Lib.hid (R2.out.keep hf3 (by simp) (by simp) (by simp))
  have x0 := B3.out.cell 0
  have k0 := B3.out.free 0
  simp at x0
  clear ho hf3
  go_wp2
  go_end0
  have hfs : Frm [q] w3 (w3.setCell ⟨q, 0, none⟩ (.slice a out.length c)) := (Frm.refl _ _).setCell (.inl (by simp)) _
  have hbl := O3.out.blk_lt
  refine ⟨rfl, l', [rb, q], ⟨rfl, a, c, ?_, ?_, ?_⟩, R3.out.keep hfs (by simp; exact fun e => QL.out.2.1 e.symm) (by simp; exact fun e => QL.out.2.2.1 e.symm) (by simp; exact fun e => QL.out.2.2.2 e.symm), F13.out.trans hfs (by simp) (fun x hx => .inl (by simp at hx; simp [hx])), fun x hx => ?_⟩
  · have := B3.out.put 0 (.slice a out.length c)
    simpa using this
  · have hk : LnOwn (w3.setCell ⟨q, 0, none⟩ (.slice a out.length c)) w2.heap.size 56 [] a c out := by
      refine ⟨hfs.own O3.out.own (fun g hg hm => ?_), O3.out.fits, by simp⟩
      have h1 := (hbl g (ownBlk3.1 hg)).1
      have h2 := QL.out.1
      have h3 := N3.out
      simp at hm
      omega
    exact ⟨own_low hk.own N3.out.1, hk.fits, hk.away⟩
  · have hw3 : Frm [] w w3 := HH.out.frm.trans F13.out (by simp) (fun x hx => .inr (by simp at hx; subst hx; exact HH.out.hr))
    exact hw3.trans hfs (by simp) (fun x hx => .inl hx)
  · simp at hx
    rcases hx with rfl | rfl
    · exact .inl rfl
    · exact .inr (.inr (.inl QL.out.1))
set_option maxHeartbeats 4000000 in
theorem bytaken_throw (hV : VOk V) (h : Told w w1 rb cb db l) (hT : Tabs w) (hfit : l.length ≤ 100000) {c : Nat} (hp : pTb V l = .inr c) :
    Calls Tryd.prog 26 (#[.pointer (some ⟨rb, 0, none⟩)] ++ #[.pointer (some ⟨q, 0, none⟩)]) w1 (ByThrow w w1 rb cb c (fun w2 => Frm [] w w2)) := by
  have h2 := tabs_two hT
  have C1 := Lib.hid (dtake_any hV h.rdr (hT.keep h.frm (by simp)) (by have := h.hr; omega) h.dlt hfit)
  rw [hp] at C1
  have HH := Lib.hid h
  clear h hT hfit hp h2
  go_enter Tryd.func26, Tryd.ntmps26
  go_wp2_with fail
  (with_reducible refine C1.out.mono ?_)
  rintro e w2 (⟨out', l'', g, he, _⟩ | ⟨d, he, ht⟩)
  · cases he
  simp only [Sum.inr.injEq] at he
  subst he
  obtain ⟨rfl, hw, hf⟩ := ht
  refine ⟨rfl, rfl, [rb, cb], ?_, hw, hf, fun x hx => by simp at hx; rcases hx with rfl | rfl <;> simp⟩
  exact HH.out.frm.trans hf (by simp) (fun x hx => .inr (by
    simp at hx
    rcases hx with rfl | rfl
    · exact HH.out.hr
    · exact HH.out.hc))
end
end Go.Proofs.YtahhkffghhgojaaDoor
