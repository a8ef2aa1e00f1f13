/- Contract of All. -/
import Derived.Test.YtahhkffghhgojaaDoorZDdSort
import Derived.Test.YtahhkffghhgojaaDoorZDdMath
import Derived.Shelf.SlSortCmp.NoneTotal
namespace Go.Proofs.YtahhkffghhgojaaDoor
open Go.RowKit
set_option maxRecDepth 100000

theorem infoDd : (Tryd.prog.info? 56).map (fun i => (i.zero, i.size, i.bytes)) = some (some (.agg #[.string ⟨#[]⟩, .int .u64 0, .int .u64 0, .int .u64 0, .int .u64 0]), 5, 48) := by kernel_rfl
theorem dsort_nil (w : World) : Calls Tryd.prog 38 #[.slice none 0 0, .func (.func 39) #[] #[]] w fun e w' => e = .returned (.tuple #[]) ∧ w' = w := by
  have h := AnyF.slices_SortFunc_none Tryd.sortLn none 0 (.func (.func 39) #[] #[]) w
  exact h
/-- Of either kind. -/
theorem dsort_all {w : World} {base cap : Nat} {a : Option Addr} {F : List Nat} {X : List Ln} (h : LnOwn w base 56 F a cap X) (d : Dist X) (hn : X.length < 1000000) :
    Calls Tryd.prog 38 #[.slice a X.length cap, .func (.func 39) #[] #[]] w fun e w' =>
      e = .returned (.tuple #[]) ∧ LnOwn w' base 56 F a cap (allX X) ∧ Frm (blk a) w w' := by
  rcases h.own.2 with ⟨hv, h0⟩ | ⟨g, c, cur, hv, _⟩
  · simp only [Value.slice.injEq] at hv
    obtain ⟨rfl, _, rfl⟩ := hv
    have hX : X = [] := List.eq_nil_of_length_eq_zero h0
    subst hX
    exact (dsort_nil w).mono fun e w' ⟨h1, h2⟩ => ⟨h1, by rw [h2]; exact h, by rw [h2]; exact Frm.refl _ _⟩
  · simp only [Value.slice.injEq] at hv
    obtain ⟨rfl, _, rfl⟩ := hv
    by_cases hX : X = []
    · subst hX
      have hc := AnyF.slices_SortFunc_none Tryd.sortLn (some ⟨g, 0, none⟩) cap (.func (.func 39) #[] #[]) w
      change Calls Tryd.prog 38 _ _ _ at hc
      exact hc.mono fun e w' ⟨h1, h2⟩ => ⟨h1, by rw [h2]; exact h, by rw [h2]; exact Frm.refl _ _⟩
    · exact dsort_any h hX d hn

theorem own_low {w : World} {base b' n size : Nat} {e : TypeId} {v : Value} {xs : List Value} (h : w.ownsRow base e size v n xs) (hb : b' ≤ base) : w.ownsRow b' e size v n xs := by
  refine ⟨h.1, ?_⟩
  rcases h.2 with h2 | ⟨g, cap, cur, h1, h2, h3⟩
  · exact .inl h2
  · exact .inr ⟨g, cap, cur, h1, Nat.le_trans hb h2, h3⟩
def DallEnd (w : World) (Y : List Ln) (e : Ending) (w' : World) : Prop :=
  ∃ a' c', e = .returned (.slice a' Y.length c') ∧ LnOwn w' w.heap.size 56 [] a' c' Y ∧ Frm [] w w'
set_option maxHeartbeats 8000000 in
theorem dall_any {w : World} {g : Nat} {m : Option Nat} {X : List Ln} (h : Dd w g m X) (hlen : X.length < 1000000) (hsz : ∀ x ∈ X, x.nm.size ≤ 281474976710656) :
    Calls Tryd.prog 21 #[.pointer (some ⟨g, 0, none⟩)] w (DallEnd w (allX X)) := by
  obtain ⟨i0, hi, hz0, hz1, hz2⟩ := info_parts infoDd
  have HI := Lib.hid hi; clear hi
  have HZ0 := Lib.hid hz0; clear hz0
  have HZ1 := Lib.hid hz1; clear hz1
  have HZ2 := Lib.hid hz2; clear hz2
  have c0 := h.tab.cell 0
  simp at c0
  have hmm := h.map
  have hd := h.map.dist
  have HD := Lib.hid hd
  have HL := Lib.hid hlen
  have HSZ := Lib.hid hsz
  have HFIT := Lib.hid h.fits
  clear h hd hlen hsz
  rcases hmm with ⟨rfl, hX⟩ | ⟨b0, rfl, hs⟩
  · have hrg := run_range_nilMap (P := Tryd.prog) w 62 KS 56 undDd
    have hnx : ∀ ty, (Instr.next (.pointer (some ⟨w.heap.size, 0, none⟩)) false ty).run Tryd.prog (w.alloc (.mapIter none 0 #[] 0)) = _ := fun ty => run_next_nilMap _ ty 0 0 #[]
    have HSN := Lib.hid (fun w => dsort_nil w)
    subst hX
    clear HFIT HSZ HL HD
    go_enter Tryd.func21, Tryd.ntmps21
    go_wp2
    refine wp_loop_rounds 1 ?_
    rw [rounds_succ]
    go_wp2_with ((with_reducible refine (HSN.out _).mono ?_); rintro e w' ⟨rfl, rfl⟩)
    go_ret
    exact ⟨none, 0, rfl, LnOwn.nil _ _ _ _, (Frm.refl _ _).alloc _⟩
  · have HS := Lib.hid hs
    clear hs
    go_enter Tryd.func21, Tryd.ntmps21
    go_wp2_with (first
      | (at_range; refine wpList_rangeS _ rfl _ 62 56 rfl undDd b0 _ X rfl HS.out ?_; intro w0 hr0 hf0; have HR0 := Lib.hid hr0; have HF0 := Lib.hid hf0; clear hr0 hf0)
      | go_in)
    go_frame
    go_loopw [3] (fun u3 wr => ∃ (S : List Ln) (cnt : Nat) (a : Option Addr) (c : Nat), u3 = .slice a S.length c ∧ Hid (RgS Tryd.prog KS wr b0 w.heap.size X.length X S cnt) ∧ Hid (LnOwn wr (w.heap.size + 1) 56 [] a c S) ∧ Hid (Frm [] w wr)) (fun _ wr => wr.rangeLeft b0 w.heap.size)
    case atStart => exact ⟨[], _, none, 0, rfl, HR0, Lib.hid (LnOwn.nil _ _ _ _), HF0⟩
    case round =>
      obtain ⟨S, cnt, a, c, rfl, HR, HO, HF⟩ := hrel
      have HLE : Hid (wr.rangeLeft b0 w.heap.size = cnt) := Lib.hid HR.out.left_eq
      obtain ⟨n, hn⟩ : ∃ n, n = S.length := ⟨_, rfl⟩
      rw [← hn]
      have HN := Lib.hid hn
      clear hn
      go_wp2_with (first
        | (at_next; refine wpList_nextS _ rfl _ rfl b0 w.heap.size X.length X S cnt rfl HR.out ?_ ?_)
        | go_in)
      · intro hp
        have HP := Lib.hid hp
        have hso := dsort_all HO.out (Dist.perm HD.out hp) (by have := hp.length_eq; have := HL.out; omega)
        rw [← HN.out] at hso
        have HSO := Lib.hid hso
        clear hp c0 hso
        go_wp2_with fail
        (with_reducible refine HSO.out.mono ?_)
        rintro e w' ⟨rfl, ho, hf⟩
        have hall : allX X = allX S := allX_eq HD.out HP.out
        have HALL := Lib.hid hall
        have HO2 := Lib.hid ho
        have HF2 := Lib.hid hf
        have HLN : Hid (n = (allX S).length) := Lib.hid (by rw [(allX_perm S).length_eq]; exact HN.out)
        clear hall ho hf
        go_wp2
        go_ret
        unfold DallEnd
        rw [HALL.out]
        refine ⟨a, c, (by rw [← HLN.out]; rfl), ?_, HF.out.trans HF2.out (by simp) (fun x hx => .inr (by have := (HO.out.blk_lt x hx).1; omega))⟩
        have h2 := HO2.out
        exact ⟨own_low h2.own (Nat.le_succ _), h2.fits, h2.away⟩
      · intro x w1 cnt1 hx hnew hrg1 hlt hf1 hen
        obtain ⟨xn, xt, xd, xl, xe⟩ := x
        have HX := Lib.hid hx
        have HR1 := Lib.hid hrg1
        have hcnt := hrg1.count
        rw [List.length_append, List.length_singleton, ← HN.out] at hcnt
        have hn1 : n + 1 ≤ 1000000000 := by have := HL.out; omega
        have HN1 := Lib.hid hn1
        have HF1 : Hid (Frm [] w w1) := Lib.hid (HF.out.trans hf1 (by simp) (fun x h => by simp at h; subst h; exact .inr (Nat.le_refl _)))
        have HO1 : Hid (LnOwn w1 (w.heap.size + 1) 56 [] a c S) := Lib.hid (by
          have hb := HO.out.blk_lt
          refine ⟨hf1.own HO.out.own (fun g hg hm => ?_), HO.out.fits, HO.out.away⟩
          have := (hb g (ownBlk3.1 hg)).1
          simp at hm
          omega)
        have hal := fun W => dalone_any ⟨xn, xt, xd, xl, xe⟩ W (HSZ.out _ hx)
        simp only [Ln.val] at hal hen ⊢
        have HAL := Lib.hid hal
        have HFX : Hid (Ln.fits ⟨xn, xt, xd, xl, xe⟩) := Lib.hid (HFIT.out _ hx)
        clear hx hnew hrg1 hf1 hal c0 hcnt hn1
        go_wp2_with ((with_reducible refine (HAL.out _).mono ?_))
        rintro e w2 ⟨rfl, hf2⟩
        have hf12 : Frm [] w1 w2 := Frm.trans (S := []) ((Frm.refl [] w1).alloc _) hf2 (by simp) (by simp)
        have HF12 := Lib.hid hf12
        have HO2 : Hid (LnOwn w2 (w.heap.size + 1) 56 [] a c S) := Lib.hid (HO1.out.keep hf12 (by simp) (by simp))
        have HF2 : Hid (Frm [] w w2) := Lib.hid (HF1.out.trans hf12 (by simp) (by simp))
        clear hf2 hf12
        have OWN : Hid ((w2.alloc (.cells #[.string xn, .int .u64 (xt : Nat), .int .u64 (xd : Nat), .int .u64 (xl : Nat), .int .u64 (xe : Nat)] 56)).ownsRow (w.heap.size + 1) 56 5 (.slice a n c) n (lnc S)) := Lib.hid (by
          have := (HO2.out.keep (S := []) (F' := []) ((Frm.refl [] w2).alloc (.cells #[.string xn, .int .u64 (xt : Nat), .int .u64 (xd : Nat), .int .u64 (xl : Nat), .int .u64 (xe : Nat)] 56)) (by simp) (by simp)).own
          rwa [← HN.out] at this)
        have ONE : Hid (ValsAt (w2.alloc (.cells #[.string xn, .int .u64 (xt : Nat), .int .u64 (xd : Nat), .int .u64 (xl : Nat), .int .u64 (xe : Nat)] 56)) (some ⟨w2.heap.size, 0, none⟩) (lnc [⟨xn, xt, xd, xl, xe⟩])) := Lib.hid (lncvals_one w2 ⟨xn, xt, xd, xl, xe⟩ 56)
        have hbz : w.heap.size + 1 ≤ (w2.alloc (.cells #[.string xn, .int .u64 (xt : Nat), .int .u64 (xd : Nat), .int .u64 (xl : Nat), .int .u64 (xe : Nat)] 56)).heap.size := by have := HF2.out.size; simp; omega
        have HBZ := Lib.hid hbz
        clear hbz
        go_wp2_with (at_builtin; refine wpList_appS (by rfl) (.tmp 17) (.tmp 20) 39 rfl (w.heap.size + 1) 56 i0 (.agg #[.string ⟨#[]⟩, .int .u64 0, .int .u64 0, .int .u64 0, .int .u64 0]) 5 48 Tryd.underlying39 HI.out HZ0.out rfl (by decide) HZ1.out HZ2.out (by decide) (.slice a n c) n _ rfl OWN.out _ 1 1 _ rfl ONE.out rfl (lnc_one _) (fun h => by cases h) HN1.out HBZ.out ?_)
        intro a3 c3 w3 happ
        have AL := (Frm.refl [] w2).alloc (.cells #[.string xn, .int .u64 (xt : Nat), .int .u64 (xd : Nat), .int .u64 (xl : Nat), .int .u64 (xe : Nat)] 56)
        obtain ⟨g1, g2, g3, g4⟩ := (HO2.out.keep (S := []) (F' := []) AL (by simp) (by simp)).app (Y := [⟨xn, xt, xd, xl, xe⟩]) HN.out (by intro z hz; simp at hz; subst hz; exact HFX.out) (m := 1) rfl (by simp) happ
        have hf23 : Frm (blk a) w2 w3 := (AL.trans g2 (by simp) (fun x hx => .inl hx))
        have hf13 : Frm (blk a) w1 w3 := HF12.out.trans hf23 (by simp) (fun x hx => .inl hx)
        have hr3 := HR1.out.keep hf13 (fun hm => by have h1 := (HO1.out.blk_lt b0 hm).1; have h2 := HS.out.lt; omega) (fun hm => by have h1 := (HO1.out.blk_lt _ hm).1; omega)
        have hf03 : Frm [] w w3 := HF1.out.trans hf13 (by simp) (fun x hx => .inr (by have := (HO1.out.blk_lt x hx).1; omega))
        have HR3 := Lib.hid hr3
        have HO3 := Lib.hid g1
        have HF3 := Lib.hid hf03
        have HN3 := Lib.hid g4
        clear happ g1 g2 g3 g4 AL OWN ONE HBZ hf23 hf13 hr3 hf03
        go_wp2
        go_roundw
        case rel => exact ⟨_, cnt1, a3, c3, by rw [← HN3.out], HR3, HO3, HF3⟩
        case measure => rw [HR3.out.left_eq, HLE.out]; exact hlt
end Go.Proofs.YtahhkffghhgojaaDoor
