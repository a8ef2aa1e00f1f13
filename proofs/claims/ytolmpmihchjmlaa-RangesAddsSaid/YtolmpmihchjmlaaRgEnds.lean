/- Contract of 'ends'. -/
import Derived.Test.YtolmpmihchjmlaaRgAdd2
import Derived.Deep.DeepCutAuto
namespace Go.Proofs.Ytolmpmihchjmlaa
open Go.RowKit

/-- A range that was just laid. -/
theorem one_rg {W : World} (s : Rg) (hs : s.1 < 18446744073709551616 ∧ s.2 < 18446744073709551616) : Rr (W.alloc (.cells #[.int .u64 (s.1 : Nat), .int .u64 (s.2 : Nat)] 51)) (some ⟨W.heap.size, 0, none⟩) [s] := by
  have hw := Whole.made W 51 #[.int .u64 (s.1 : Nat), .int .u64 (s.2 : Nat)]
  refine ⟨by simp; exact hs, fun _ => ⟨W.heap.size, 0, rfl, fun i hi => ?_⟩⟩
  simp at hi
  subst hi
  exact ⟨hw.cell 0, hw.cell 1⟩

theorem own_app {w w' : World} {base : Nat} {v : Value} {n m : Nat} {l l2 : List Rg} {a' : Option Addr} {c' : Nat} (h : AppR w w' base 51 v n m (fl l) l2 a' c') (hn : n = l.length) (hm : m = l2.length) : OwnR w' base a' c' (l ++ l2) := by
  subst hn hm
  have h1 := h.own
  rw [← fl_append] at h1
  unfold OwnR
  rw [List.length_append]; exact h1

set_option maxHeartbeats 2000000 in
theorem ends_any {lo hi r1 r2 : Nat} (hlo : lo < 18446744073709551616) (hhi : hi < 18446744073709551616) (h1 : r1 < 18446744073709551616) (h2 : r2 < 18446744073709551616) (w : World) :
    Calls Try.prog 59 #[.int .u64 lo, .int .u64 hi, .agg #[.int .u64 r1, .int .u64 r2]] w (RetR w (endsL lo hi (r1, r2))) := by
  obtain ⟨i0, hi0, hz0, hz1, hz2⟩ := info_parts Try.info51
  have HI := Lib.hid hi0; clear hi0
  have HZ0 := Lib.hid hz0; clear hz0
  have HZ1 := Lib.hid hz1; clear hz1
  have HZ2 := Lib.hid hz2; clear hz2
  obtain ⟨W0, hW0⟩ : ∃ W0, W0 = w.alloc (.cells #[.int .u64 r1, .int .u64 r2] 51) := ⟨_, rfl⟩
  have hw0 : Whole W0 w.heap.size 51 #[.int .u64 r1, .int .u64 r2] := by rw [hW0]; exact Whole.made _ _ _
  have hf0 : Frm [] w W0 := by rw [hW0]; exact (Frm.refl _ _).alloc _
  obtain ⟨g, hg⟩ : ∃ g, g = w.heap.size := ⟨_, rfl⟩
  rw [← hg] at hw0
  have hs0 : w.heap.size ≤ W0.heap.size := hf0.size
  have HW0 := Lib.hid hW0; clear hW0
  have HG := Lib.hid hg; clear hg
  have HWH := Lib.hid hw0; clear hw0
  have HF0 := Lib.hid hf0; clear hf0
  have k0 := HWH.out.cell 0
  have k1 := HWH.out.cell 1
  simp only [List.getElem?_toArray] at k0 k1
  by_cases hA : lo < r1
  · have EA : Hid ((if lo < r1 then [((lo, r1) : Rg)] else []) = [((lo, r1) : Rg)]) := if_pos hA
    by_cases hB : r2 < hi
    · have EB : Hid ((if r2 < hi then [((r2, hi) : Rg)] else []) = [((r2, hi) : Rg)]) := if_pos hB
      go_enter Try.func59, Try.ntmps59
      go_upto_region 1 with (fail)
      rw [← HW0.out, ← HG.out]
      go_wp2_with (at_builtin; refine wpList_appR rfl (.tmp 12) (.tmp 17) 44 rfl w.heap.size 51 i0 Try.underlying44 HI.out HZ0.out HZ1.out HZ2.out _ 0 (fl []) rfl (World.ownsRow_nil _ _ _ _) _ 1 1 [(lo, r1)] rfl (one_rg (lo, r1) ⟨hlo, h1⟩) rfl (by intro h; cases h) (by omega) (by simp; omega) ?_)
      intro a1 c1 w1 happ
      have hf1 : Frm [] W0 w1 := frm_app ((Frm.refl _ _).alloc _) happ (by intro x hx; cases hx)
      have ho1 : OwnR w1 w.heap.size a1 c1 [(lo, r1)] := own_app happ rfl rfl
      have hs1 : w.heap.size ≤ w1.heap.size := Nat.le_trans hs0 hf1.size
      have HO1 := Lib.hid ho1
      have HF1 := Lib.hid hf1
      have k2 := (HF1.out.whole HWH.out (by simp)).cell 0
      have k3 := (HF1.out.whole HWH.out (by simp)).cell 1
      simp only [List.getElem?_toArray] at k2 k3
      clear happ ho1 hf1 k0 k1
      go_wp2_with (at_builtin; refine wpList_appR rfl (.tmp 23) (.tmp 28) 44 rfl w.heap.size 51 i0 Try.underlying44 HI.out HZ0.out HZ1.out HZ2.out _ 1 (fl [(lo, r1)]) rfl (HO1.out.keep ((Frm.refl [] w1).alloc _) (by simp)) _ 1 1 [(r2, hi)] rfl (one_rg (r2, hi) ⟨h2, hhi⟩) rfl (by intro h; cases h) (by omega) (by simp; omega) ?_)
      intro a2 c2 w2 happ
      have HF2 := Lib.hid (frm_app ((HF0.out.trans HF1.out (U := []) (by simp) (by simp)).alloc _) happ (fun x hx => .inr (HO1.out.lt x hx).1))
      have HO2 := Lib.hid (own_app happ rfl rfl)
      have FIN : Hid (RetR w (endsL lo hi (r1, r2)) (.returned (.slice a2 2 c2)) w2) := by
        show RetR _ _ _ _
        unfold endsL
        simp only
        rw [EA.out, EB.out]
        exact ⟨a2, c2, rfl, HO2.out, HF2.out⟩
      clear happ k2 k3
      go_wp2
      go_ret
      exact FIN.out
    · have EB : Hid ((if r2 < hi then [((r2, hi) : Rg)] else []) = []) := if_neg hB
      go_enter Try.func59, Try.ntmps59
      go_upto_region 1 with (fail)
      rw [← HW0.out, ← HG.out]
      go_wp2_with (at_builtin; refine wpList_appR rfl (.tmp 12) (.tmp 17) 44 rfl w.heap.size 51 i0 Try.underlying44 HI.out HZ0.out HZ1.out HZ2.out _ 0 (fl []) rfl (World.ownsRow_nil _ _ _ _) _ 1 1 [(lo, r1)] rfl (one_rg (lo, r1) ⟨hlo, h1⟩) rfl (by intro h; cases h) (by omega) (by simp; omega) ?_)
      intro a1 c1 w1 happ
      have hf1 : Frm [] W0 w1 := frm_app ((Frm.refl _ _).alloc _) happ (by intro x hx; cases hx)
      have HO1 := Lib.hid (own_app happ rfl rfl)
      have HF1 := Lib.hid hf1
      have k2 := (HF1.out.whole HWH.out (by simp)).cell 0
      have k3 := (HF1.out.whole HWH.out (by simp)).cell 1
      simp only [List.getElem?_toArray] at k2 k3
      have FIN : Hid (RetR w (endsL lo hi (r1, r2)) (.returned (.slice a1 1 c1)) w1) := by
        show RetR _ _ _ _
        unfold endsL
        simp only
        rw [EA.out, EB.out]
        exact ⟨a1, c1, rfl, HO1.out, HF0.out.trans HF1.out (by simp) (by simp)⟩
      clear happ hf1 k0 k1
      go_wp2
      go_ret
      exact FIN.out
  · have EA : Hid ((if lo < r1 then [((lo, r1) : Rg)] else []) = []) := if_neg hA
    by_cases hB : r2 < hi
    · have EB : Hid ((if r2 < hi then [((r2, hi) : Rg)] else []) = [((r2, hi) : Rg)]) := if_pos hB
      go_enter Try.func59, Try.ntmps59
      go_upto_region 1 with (fail)
      rw [← HW0.out, ← HG.out]
      go_wp2_with (at_builtin; refine wpList_appR rfl (.tmp 23) (.tmp 28) 44 rfl w.heap.size 51 i0 Try.underlying44 HI.out HZ0.out HZ1.out HZ2.out _ 0 (fl []) rfl (World.ownsRow_nil _ _ _ _) _ 1 1 [(r2, hi)] rfl (one_rg (r2, hi) ⟨h2, hhi⟩) rfl (by intro h; cases h) (by omega) (by simp; omega) ?_)
      intro a1 c1 w1 happ
      have hf1 : Frm [] W0 w1 := frm_app ((Frm.refl _ _).alloc _) happ (by intro x hx; cases hx)
      have HO1 := Lib.hid (own_app happ rfl rfl)
      have HF1 := Lib.hid hf1
      have FIN : Hid (RetR w (endsL lo hi (r1, r2)) (.returned (.slice a1 1 c1)) w1) := by
        show RetR _ _ _ _
        unfold endsL
        simp only
        rw [EA.out, EB.out]
        exact ⟨a1, c1, rfl, HO1.out, HF0.out.trans HF1.out (by simp) (by simp)⟩
      clear happ hf1 k0 k1
      go_wp2
      go_ret
      exact FIN.out
    · have EB : Hid ((if r2 < hi then [((r2, hi) : Rg)] else []) = []) := if_neg hB
      go_enter Try.func59, Try.ntmps59
      go_upto_region 1 with (fail)
      rw [← HW0.out, ← HG.out]
      have FIN : Hid (RetR w (endsL lo hi (r1, r2)) (.returned (.slice none 0 0)) W0) := by
        show RetR _ _ _ _
        unfold endsL
        simp only
        rw [EA.out, EB.out]
        exact ⟨none, 0, rfl, OwnR.nil _ _, HF0.out⟩
      go_wp2
      go_ret
      exact FIN.out
end Go.Proofs.Ytolmpmihchjmlaa
