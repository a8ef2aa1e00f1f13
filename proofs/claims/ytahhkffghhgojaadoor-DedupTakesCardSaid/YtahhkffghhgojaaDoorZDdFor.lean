/- Contract of Forget. -/
import Derived.Test.YtahhkffghhgojaaDoorZDdCl
import Derived.Test.YtahhkffghhgojaaDoorZDdMath
namespace Go.Proofs.YtahhkffghhgojaaDoor
open Go.RowKit
set_option maxRecDepth 100000

/-- The lines behind some rounds: those that came are done with, the others as they were. -/
structure ForIn (X S Y : List Ln) : Prop where
  dist : Dist Y
  mem : ∀ y, y ∈ Y ↔ (y ∈ X ∧ y ∉ S) ∨ y ∈ forX S
theorem mem_forX {S : List Ln} {y : Ln} : y ∈ forX S ↔ ∃ x ∈ S, 0 < x.done ∧ x.wtop x.done = y := by
  unfold forX
  simp [and_assoc]
theorem forX_snoc (S : List Ln) (x : Ln) : forX (S ++ [x]) = forX S ++ if 0 < x.done then [x.wtop x.done] else [] := by
  unfold forX
  by_cases h : 0 < x.done <;> simp [h]
theorem wtop_nm (x : Ln) (q : Nat) : (x.wtop q).nm = x.nm := rfl
theorem forX_nm {S : List Ln} {y : Ln} (h : y ∈ forX S) : ∃ x ∈ S, x.nm = y.nm := by
  obtain ⟨x, h1, _, rfl⟩ := mem_forX.1 h
  exact ⟨x, h1, rfl⟩
theorem ForIn.start {X : List Ln} (d : Dist X) : ForIn X [] X := ⟨d, fun y => by simp [forX]⟩
theorem ForIn.gone {X S Y : List Ln} (h : ForIn X S Y) (dX : Dist X) {x : Ln} (hx : x ∈ X) (hnew : ∀ y ∈ S, y.nm ≠ x.nm) (h0 : x.done = 0) : ForIn X (S ++ [x]) (delL Y x.nm) := by
  refine ⟨delL_dist h.dist _, fun y => ?_⟩
  rw [forX_snoc, if_neg (by omega), List.append_nil]
  unfold delL
  rw [List.mem_filter, h.mem]
  simp only [List.mem_append, List.mem_singleton, not_or, decide_eq_true_eq]
  constructor
  · rintro ⟨h1 | h1, h2⟩
    · exact .inl ⟨h1.1, h1.2, fun e => h2 (by rw [e])⟩
    · exact .inr h1
  · rintro (⟨h1, h2, h3⟩ | h1)
    · exact ⟨.inl ⟨h1, h2⟩, fun e => h3 (dX.uniq h1 hx e)⟩
    · refine ⟨.inr h1, fun e => ?_⟩
      obtain ⟨z, hz, hzn⟩ := forX_nm h1
      exact hnew z hz (hzn.trans e)
theorem ForIn.stays {X S Y : List Ln} (h : ForIn X S Y) (dX : Dist X) {x : Ln} (hx : x ∈ X) (hnew : ∀ y ∈ S, y.nm ≠ x.nm) (h0 : x.done ≠ 0) : ForIn X (S ++ [x]) (putL Y (x.wtop x.done)) := by
  refine ⟨putL_dist h.dist _, fun y => ?_⟩
  rw [forX_snoc, if_pos (by omega), mem_putL, h.mem]
  simp only [List.mem_append, List.mem_singleton, not_or, wtop_nm]
  constructor
  · rintro (rfl | ⟨h1 | h1, h2⟩)
    · exact .inr (.inr rfl)
    · exact .inl ⟨h1.1, h1.2, fun e => h2 (by rw [e])⟩
    · exact .inr (.inl h1)
  · rintro (⟨h1, h2, h3⟩ | h1 | h1)
    · exact .inr ⟨.inl ⟨h1, h2⟩, fun e => h3 (dX.uniq h1 hx e)⟩
    · refine .inr ⟨.inr h1, fun e => ?_⟩
      obtain ⟨z, hz, hzn⟩ := forX_nm h1
      exact hnew z hz (hzn.trans e)
    · exact .inl h1
theorem forX_dist {X : List Ln} (d : Dist X) : Dist (forX X) := dist_names (forX_names X).symm (List.Pairwise.sublist (List.filter_sublist) d)
theorem ForIn.end' {X S Y : List Ln} (h : ForIn X S Y) (d : Dist X) (p : X.Perm S) : (forX X).Perm Y := by
  refine perm_same (forX_dist d) h.dist (fun y => ?_)
  rw [h.mem]
  have h1 : y ∈ forX X ↔ y ∈ forX S := (forX_perm p).mem_iff
  have h2 : y ∈ X ↔ y ∈ S := p.mem_iff
  rw [h1, h2]
  constructor
  · exact .inr
  · rintro (⟨h3, h4⟩ | h3)
    · exact absurd h3 h4
    · exact h3

/-- Another map is stored in the table. -/
theorem Dd.stored {w : World} {g b n : Nat} {c : Value} {Y : List Ln} (ht : Whole w g 64 #[c]) (hm : MapS Tryd.prog KS w b n Y) (hf : ∀ y ∈ Y, y.fits) : Dd (w.setCell ⟨g, 0, none⟩ (.map (some b))) g (some b) Y := by
  refine ⟨?_, .inr ⟨b, rfl, (hm.keep (S := [g]) ((Frm.refl _ _).setCell (.inl (by simp)) _) (by simp; exact hm.ne ht)).tight⟩, hf⟩
  have h := ht.put 0 (.map (some b))
  simpa using h
theorem forX_fits {X : List Ln} (h : ∀ x ∈ X, x.fits) : ∀ x ∈ forX X, x.fits := by
  intro x hx
  obtain ⟨y, hy, _, rfl⟩ := mem_forX.1 hx
  have := h y hy
  exact ⟨this.2.1, this.2⟩
set_option maxHeartbeats 8000000 in
theorem dfor_any {w : World} {g : Nat} {m : Option Nat} {X : List Ln} (h : Dd w g m X) (hlen : X.length < 1000000) :
    Calls Tryd.prog 16 #[.pointer (some ⟨g, 0, none⟩)] w fun e w' => e = .returned (.tuple #[]) ∧ DdTo w w' g m (forX X) := by
  have hlt := h.tab.lt
  have hd := h.map.dist
  have htw := dtwin_any h hlen
  have HTW := Lib.hid htw
  have HH := Lib.hid h
  have HD := Lib.hid hd
  have HL := Lib.hid hlen
  clear htw h hd hlen
  go_enter Tryd.func16, Tryd.ntmps16
  go_wp2_with (fail)
  (with_reducible refine HTW.out.mono ?_)
  rintro e w1 ⟨b, rfl, hb, hm, hf1⟩
  have HB := Lib.hid hb
  have HM := Lib.hid hm
  have HF1 := Lib.hid hf1
  have HT1 := Lib.hid (hf1.whole HH.out.tab (by simp))
  have hmm := HH.out.map.keep hf1 (by simp)
  have c0 := HT1.out.cell 0
  have f0 := HT1.out.free 0
  simp at c0
  clear hb hm hf1
  rcases hmm with ⟨rfl, hX⟩ | ⟨b0, rfl, hs⟩
  · have hrg := run_range_nilMap (P := Tryd.prog) w1 62 KS 56 undDd
    have hnx : ∀ ty, (Instr.next (.pointer (some ⟨w1.heap.size, 0, none⟩)) false ty).run Tryd.prog (w1.alloc (.mapIter none 0 #[] 0)) = _ := fun ty => run_next_nilMap _ ty 0 0 #[]
    have HX := Lib.hid hX
    have c1 : (w1.alloc (.mapIter none 0 #[] 0)).cell? ⟨g, 0, none⟩ = some (.map none) := by have := (HT1.out.alloc (.mapIter none 0 #[] 0)).cell 0; simpa using this
    have f1 : (w1.alloc (.mapIter none 0 #[] 0)).frozen? ⟨g, 0, none⟩ = false := (HT1.out.alloc (.mapIter none 0 #[] 0)).free 0
    clear hX
    go_wp2
    refine wp_loop_rounds 1 ?_
    rw [rounds_succ]
    go_wp2
    go_end0
    have hX := HX.out
    have hmX := HM.out
    rw [hX] at hmX ⊢
    refine ⟨rfl, some b, Dd.stored (HT1.out.alloc _) (hmX.keep (S := []) ((Frm.refl _ _).alloc _) (by simp)) (by simp [forX]), ?_, fun b' hb' => by cases hb'; exact .inr HB.out⟩
    exact ((HF1.out.alloc _).weak (U := [g]) (by simp)).setCell (.inl (by simp)) _
  · have HS := Lib.hid hs
    have HNE : Hid (b ≠ b0 ∧ b < w1.heap.size ∧ b0 < w1.heap.size ∧ b ≠ g ∧ b0 ≠ g) := Lib.hid ⟨by have := HH.out.map.lt b0 rfl; have := HB.out; omega, HM.out.lt, hs.lt, HM.out.ne HT1.out, hs.ne HT1.out⟩
    clear hs
    go_wp2_with (first
      | (at_range; refine wpList_rangeS _ rfl _ 62 56 rfl undDd b0 _ X rfl HS.out ?_; intro w0 hr0 hf0; have HR0 := Lib.hid hr0; have HF0 := Lib.hid hf0; clear hr0 hf0)
      | go_in)
    go_frame
    go_loopw [14] (fun _ wr => ∃ (S Y : List Ln) (cnt : Nat), Hid (RgS Tryd.prog KS wr b0 w1.heap.size X.length X S cnt) ∧ Hid (ForIn X S Y) ∧ Hid (MapS Tryd.prog KS wr b (X.length + S.length) Y) ∧ Hid (Frm [b] w1 wr)) (fun _ wr => wr.rangeLeft b0 w1.heap.size)
    case atStart => exact ⟨[], X, _, HR0, Lib.hid (ForIn.start HD.out), Lib.hid (HM.out.keep HF0.out (by simp)), Lib.hid (HF0.out.weak (by simp))⟩
    case round =>
      obtain ⟨S, Y, cnt, HR, HY, HMY, HF⟩ := hrel
      have HLE : Hid (wr.rangeLeft b0 w1.heap.size = cnt) := Lib.hid HR.out.left_eq
      go_wp2_with (first
        | (at_next; refine wpList_nextS _ rfl _ rfl b0 w1.heap.size X.length X S cnt rfl HR.out ?_ ?_)
        | go_in)
      · intro hp
        have HP := Lib.hid hp
        have HT := Lib.hid (HF.out.whole HT1.out (by have := HNE.out; simp; omega))
        have c1 := HT.out.cell 0
        have f1 := HT.out.free 0
        simp at c1
        clear hp c0 f0
        go_wp2
        go_end0
        refine ⟨rfl, some b, Dd.stored HT.out (HMY.out.perm (HY.out.end' HD.out HP.out).symm) (forX_fits HH.out.fits), ?_, fun b' hb' => by cases hb'; exact .inr HB.out⟩
        exact (HF1.out.trans HF.out (U := [g]) (by simp) (fun x hx => by simp at hx; subst hx; exact .inr HB.out)).setCell (.inl (by simp)) _
      · intro x w2 cnt1 hx hnew hrg1 hlt hf1 hen
        obtain ⟨xn, xt, xd, xl, xe⟩ := x
        have HX := Lib.hid hx
        have HNEW := Lib.hid hnew
        have HR1 := Lib.hid hrg1
        have HFW := Lib.hid hf1
        have HF1 : Hid (Frm [b] w1 w2) := Lib.hid (HF.out.trans hf1 (fun x h => h) (fun x h => by simp at h; subst h; exact .inr (Nat.le_refl _)))
        have HM1 : Hid (MapS Tryd.prog KS w2 b (X.length + S.length) Y) := Lib.hid (HMY.out.keep hf1 (by have := HNE.out; simp; omega))
        have hxm : xn.size ≤ maxLen := HR1.out.map.short _ hx
        have HXM := Lib.hid hxm
        have hcnt' : X.length + S.length < maxLen := by have := HR1.out.count; have := HL.out; unfold maxLen; simp at *; omega
        have HC := Lib.hid hcnt'
        clear hx hnew hrg1 hf1 hxm hcnt' c0 f0
        simp only [Ln.val] at hen ⊢
        by_cases hd0 : xd = 0
        · subst hd0
          go_wp2_with (first
            | (at_delete; refine wpList_delS _ rfl _ _ 62 56 rfl undDd b (X.length + S.length) Y rfl (HM1.out.keep (S := []) ((Frm.refl _ _).alloc _) (by simp)) xn HXM.out rfl ?_; intro w3 hm3 hf3; have HM3 := Lib.hid hm3; have HF3 := Lib.hid hf3; clear hm3 hf3; go_frame)
            | go_in)
          have hf23 : Frm [b] w2 w3 := Frm.trans (S := []) ((Frm.refl [] w2).alloc _) HF3.out (by simp) (fun x h => .inl h)
          have hr3 := HR1.out.keep hf23 (by have := HNE.out; simp; omega) (by have := HNE.out; simp; omega)
          have HR3 := Lib.hid hr3
          have HF23 := Lib.hid hf23
          have HYN := Lib.hid (HY.out.gone HD.out HX.out HNEW.out rfl)
          clear hf23 hr3
          go_roundw
          case rel => exact ⟨_, _, cnt1, HR3, HYN, Lib.hid (HM3.out.mono (by rw [List.length_append, List.length_singleton]; omega)), Lib.hid (HF1.out.trans HF23.out (fun x h => h) (fun x h => .inl h))⟩
          case measure => rw [HR3.out.left_eq, HLE.out]; exact hlt
        · have hd1 : ((xd : Int) == 0) = false := by rw [beq_eq_false_iff_ne]; omega
          go_wp2_with (first
            | (at_mapUpdate; refine wpList_putS _ rfl _ _ _ 62 56 rfl undDd b (X.length + S.length) Y rfl (HM1.out.keep (S := []) ((Frm.refl _ _).alloc _) (by simp)) HC.out ⟨xn, xd, xd, xl, xe⟩ HXM.out rfl rfl ?_; intro w3 hm3 hf3; have HM3 := Lib.hid hm3; have HF3 := Lib.hid hf3; clear hm3 hf3; go_frame)
            | go_in)
          have hf23 : Frm [b] w2 w3 := Frm.trans (S := []) ((Frm.refl [] w2).alloc _) HF3.out (by simp) (fun x h => .inl h)
          have hr3 := HR1.out.keep hf23 (by have := HNE.out; simp; omega) (by have := HNE.out; simp; omega)
          have HR3 := Lib.hid hr3
          have HF23 := Lib.hid hf23
          have HYN := Lib.hid (HY.out.stays HD.out HX.out HNEW.out hd0)
          clear hf23 hr3
          go_roundw
          case rel => exact ⟨_, _, cnt1, HR3, HYN, Lib.hid (HM3.out.mono (by rw [List.length_append, List.length_singleton]; omega)), Lib.hid (HF1.out.trans HF23.out (fun x h => h) (fun x h => .inl h))⟩
          case measure => rw [HR3.out.left_eq, HLE.out]; exact hlt
end Go.Proofs.YtahhkffghhgojaaDoor
