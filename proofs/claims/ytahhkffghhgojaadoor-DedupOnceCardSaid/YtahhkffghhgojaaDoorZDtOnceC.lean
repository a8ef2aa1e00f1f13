/- (For a door seat.) Contract of what DedupOnce hands to pack.Read. -/
import Derived.Test.YtahhkffghhgojaaDoorZDtTaken
namespace Go.Proofs.YtahhkffghhgojaaDoor
open Go.RowKit
set_option maxRecDepth 100000

theorem enters_once (args : Array Value) (w : World) : (callFunc 18 args).run Tryd.prog w = .ok (.enter 18 args) w := enters_of Tryd.func18 (by kernel_rfl) rfl args w
set_option maxHeartbeats 4000000 in
theorem byonce_ret {V : List Nat → Bool} {w w1 : World} {rb cb db q : Nat} {l l' : List Nat} {out : List Ln} (hV : VOk V) (h : Told w w1 rb cb db l) (hT : Tabs w) (hfit : l.length ≤ 100000) {v0 : Value} (hq : Whole w q 25 #[v0]) (hp : pTb V l = .inl (out, l')) :
    Calls Tryd.prog 18 (#[.pointer (some ⟨rb, 0, none⟩)] ++ #[.pointer (some ⟨q, 0, none⟩)]) w1 (ByRet w w1 rb cb db (TbQ w q out l')) := by
  have h2 := tabs_two hT
  have C1 := Lib.hid (dtake_any hV h.rdr (hT.keep h.frm (by simp)) (by have := h.hr; omega) h.dlt hfit)
  rw [hp] at C1
  have HH := Lib.hid h
  have HQ := Lib.hid hq
  have QL : Hid (q < w.heap.size ∧ q ≠ rb ∧ q ≠ cb ∧ q ≠ db) := Lib.hid (by have h1 := hq.lt; have h2 := h.hr; have h3 := h.hc; have h4 := h.hd; omega)
  have T2 := Lib.hid h.two
  clear h hT hfit hp hq h2
  go_enter Tryd.func18, Tryd.ntmps18
  go_wp2_with fail
  (with_reducible refine C1.out.mono ?_)
  rintro e w2 (⟨out', l'', g, he, rfl, hok, hd, hr, hf⟩ | ⟨c, he, _⟩)
  rotate_left
  · cases he
  simp only [Sum.inl.injEq, Prod.mk.injEq] at he
  obtain ⟨rfl, rfl⟩ := he
  have D2 := Lib.hid hd
  have R2 := Lib.hid hr
  have F2 := Lib.hid hf
  have B2 := Lib.hid (hf.whole (HH.out.frm.whole HQ.out (by simp)) (by simp; exact QL.out.2.1))
  have x0 := B2.out.cell 0
  have k0 := B2.out.free 0
  simp at x0
  clear hd hr hf hok
  go_wp2
  go_end0
  have hfs : Frm [q] w2 (w2.setCell ⟨q, 0, none⟩ (.pointer (some ⟨g, 0, none⟩))) := (Frm.refl _ _).setCell (.inl (by simp)) _
  refine ⟨rfl, l', [rb, q], ⟨rfl, g, ?_, ?_, ?_⟩, R2.out.keep hfs (by simp; exact fun e => QL.out.2.1 e.symm) (by simp; exact fun e => QL.out.2.2.1 e.symm) (by simp; exact fun e => QL.out.2.2.2 e.symm), F2.out.trans hfs (by simp) (fun x hx => .inl (by simp at hx; simp [hx])), fun x hx => ?_⟩
  · have := B2.out.put 0 (.pointer (some ⟨g, 0, none⟩))
    simpa using this
  · exact (D2.out.keep hfs (fun x hx => by simp at hx; subst hx; have h1 := QL.out.1; have h2 := T2.out; exact .inl (by omega))).low T2.out
  · have hw2 : Frm [] w w2 := HH.out.frm.trans F2.out (by simp) (fun x hx => .inr (by simp at hx; subst hx; exact HH.out.hr))
    exact hw2.trans hfs (by simp) (fun x hx => .inl hx)
  · simp at hx
    rcases hx with rfl | rfl
    · exact .inl rfl
    · exact .inr (.inr (.inl QL.out.1))
theorem DdB.gne {B : Nat} {w : World} {g q : Nat} {X : List Ln} {v : Value} (h : DdB B w g X) (hq : Whole w q 25 #[v]) : g ≠ q := by
  obtain ⟨m, Y, h1, _⟩ := h.row
  exact h1.tab.ne hq (by decide)
end Go.Proofs.YtahhkffghhgojaaDoor
