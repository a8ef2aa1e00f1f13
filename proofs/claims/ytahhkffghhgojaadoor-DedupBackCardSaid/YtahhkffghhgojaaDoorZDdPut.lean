/- Contracts of twin, put. -/
import Derived.Test.YtahhkffghhgojaaDoorZDdTab
namespace Go.Proofs.YtahhkffghhgojaaDoor
open Go.RowKit
set_option maxRecDepth 100000

theorem dtwin_any {w : World} {g : Nat} {m : Option Nat} {X : List Ln} (h : Dd w g m X) (hlen : X.length < 1000000) :
    Calls Tryd.prog 30 #[.pointer (some ⟨g, 0, none⟩)] w fun e w' => ∃ b, e = .returned (.map (some b)) ∧ w.heap.size ≤ b ∧ MapS Tryd.prog KS w' b X.length X ∧ Frm [] w w' := by
  have hlt := h.tab.lt
  have hmm := h.map
  have c0 := h.tab.cell 0
  simp at c0
  obtain ⟨w1, hw1⟩ : ∃ w1, w1 = w.alloc (.map #[] 0) := ⟨_, rfl⟩
  have hf1 : Frm [] w w1 := by rw [hw1]; exact (Frm.refl _ _).alloc _
  have c1 : w1.cell? ⟨g, 0, none⟩ = some (.map m) := (hf1.cell (p := ⟨g, 0, none⟩) hlt (by simp)).trans c0
  have hcp := dcopy_any w.heap.size m X w1 (by rw [hw1]; exact MapS.new w keyKS) (hmm.keep hf1 (by simp)) (fun e => by have := hmm.lt _ e; omega) hlen
  have HCP := Lib.hid hcp
  have HF1 := Lib.hid hf1
  have hmk : (Instr.makeMap 62 none).run Tryd.prog w = .ok (.map (some w.heap.size)) w1 := by rw [hw1]; kernel_rfl
  clear hcp hf1 hmm hlen h hw1
  go_enter Tryd.func30, Tryd.ntmps30
  go_wp2_with ((with_reducible refine HCP.out.mono ?_); rintro e w2 ⟨rfl, hm, hf2⟩)
  go_ret
  exact ⟨_, rfl, Nat.le_refl _, hm, HF1.out.trans hf2 (by simp) (fun x hx => by simp at hx; subst hx; exact .inr (Nat.le_refl _))⟩

/-- What a change of the table leaves. -/
def DdTo (w w' : World) (g : Nat) (m : Option Nat) (X : List Ln) : Prop := ∃ m', Dd w' g m' X ∧ Frm [g] w w' ∧ ∀ b, m' = some b → m = some b ∨ w.heap.size ≤ b
theorem Dd.same {w w' : World} {g : Nat} {m : Option Nat} {X : List Ln} (h : Dd w g m X) (hf : Frm [] w w') : DdTo w w' g m X :=
  ⟨m, h.keep hf (by simp) (by simp), hf.weak (by simp), fun b hb => .inl hb⟩

theorem DdTo.from' {w w1 w' : World} {g : Nat} {m : Option Nat} {X : List Ln} (h : DdTo w1 w' g m X) (hf : Frm [] w w1) : DdTo w w' g m X := by
  obtain ⟨m', h1, h2, h3⟩ := h
  refine ⟨m', h1, hf.trans h2 (by simp) (fun x hx => .inl hx), fun b hb => ?_⟩
  rcases h3 b hb with h | h
  · exact .inl h
  · exact .inr (Nat.le_trans hf.size h)

theorem dput_any {w : World} {g : Nat} {m : Option Nat} {X : List Ln} (h : Dd w g m X) (x : Ln) (hx : x.nm.size ≤ maxLen) (hfx : x.fits) (hlen : X.length < 1000000) :
    Calls Tryd.prog 23 #[.pointer (some ⟨g, 0, none⟩), x.val] w fun e w' => e = .returned (.tuple #[]) ∧ DdTo w w' g m (putL X x) := by
  obtain ⟨xn, xt, xd, xl, xe⟩ := x
  simp only [Ln.val] at hx ⊢
  have hlt := h.tab.lt
  obtain ⟨w1, hw1⟩ : ∃ w1, w1 = w.alloc (.cells #[.string xn, .int .u64 (xt : Nat), .int .u64 (xd : Nat), .int .u64 (xl : Nat), .int .u64 (xe : Nat)] 56) := ⟨_, rfl⟩
  have hf1 : Frm [] w w1 := by rw [hw1]; exact (Frm.refl _ _).alloc _
  have t1 : Whole w1 w.heap.size 56 #[.string xn, .int .u64 (xt : Nat), .int .u64 (xd : Nat), .int .u64 (xl : Nat), .int .u64 (xe : Nat)] := by rw [hw1]; exact Whole.made _ _ _
  have h1 := h.keep hf1 (by simp) (by simp)
  have htw := dtwin_any h1 hlen
  have hn1 : w1.heap.size = w.heap.size + 1 := by rw [hw1]; simp
  have HTW := Lib.hid htw
  have HF1 := Lib.hid hf1
  have HT1 := Lib.hid t1
  have H1 := Lib.hid h1
  have HX := Lib.hid hx
  have HFX := Lib.hid hfx
  have HL : Hid (X.length < maxLen) := Lib.hid (by unfold maxLen; omega)
  have HN1 := Lib.hid hn1
  clear htw hf1 t1 h1 hx hfx hlen h hn1
  go_enter Tryd.func23, Tryd.ntmps23
  go_wp2_with fail
  rw [← hw1]
  clear hw1
  (with_reducible refine HTW.out.mono ?_)
  rintro e w2 ⟨b, rfl, hb, hm, hf2⟩
  have HB := Lib.hid hb
  have HM := Lib.hid hm
  have HF2 := Lib.hid hf2
  have t2 := hf2.whole HT1.out (by simp)
  have T2 := Lib.hid t2
  have d0 := t2.cell 0
  have d1 := t2.cell 1
  have d2 := t2.cell 2
  have d3 := t2.cell 3
  have d4 := t2.cell 4
  simp at d0 d1 d2 d3 d4
  have hbg : Hid (b ≠ g ∧ b ≠ w.heap.size) := Lib.hid ⟨by have := HN1.out; omega, by have := HN1.out; omega⟩
  have TG := Lib.hid (hf2.whole H1.out.tab (by simp))
  clear hb hm hf2 t2
  go_wp2_with (first
    | (at_mapUpdate; refine wpList_putS _ rfl _ _ _ 62 56 rfl undDd b X.length X rfl HM.out HL.out ⟨xn, xt, xd, xl, xe⟩ HX.out rfl rfl ?_; intro w3 hm3 hf3; have HM3 := Lib.hid hm3; have HF3 := Lib.hid hf3; clear hm3 hf3; have T3 := HF3.out.whole TG.out (by simp; exact fun e => hbg.out.1 e.symm); have g0 := T3.cell 0; have f0 := T3.free 0; simp at g0; have HT3 := Lib.hid T3; clear T3; go_frame)
    | go_in)
  go_end0
  have hf : Frm [g] w (w3.setCell ⟨g, 0, none⟩ (.map (some b))) := by
    have h1 : Frm [] w w2 := HF1.out.trans HF2.out (by simp) (by simp)
    have h2 : Frm [g] w w3 := h1.trans HF3.out (by simp) (fun x hx => by simp at hx; subst hx; have := HB.out; have := HN1.out; exact .inr (by omega))
    exact h2.setCell (.inl (by simp)) _
  refine ⟨rfl, some b, ⟨?_, .inr ⟨b, rfl, (HM3.out.keep (S := [g]) ((Frm.refl _ _).setCell (.inl (by simp)) _) (by simp; exact hbg.out.1)).tight⟩, ?_⟩, hf, fun b' hb' => by cases hb'; have := HB.out; have := HN1.out; exact .inr (by omega)⟩
  · have h := HT3.out.put 0 (.map (some b))
    simpa using h
  · intro x hx
    rcases mem_putL.1 hx with rfl | ⟨h1, _⟩
    · exact HFX.out
    · exact H1.out.fits x h1
end Go.Proofs.YtahhkffghhgojaaDoor
