/- The walks of the laws RangesJoins and RangesGaps. -/
import Derived.Test.YtolmpmihchjmlaaRgChecks
namespace Go.Proofs.Ytolmpmihchjmlaa
open Go.RowKit

set_option maxRecDepth 100000 in
set_option maxHeartbeats 4000000 in
theorem rangesJoins_walk (a : Option Addr) (n cap : Nat) (l : List Rg) (b : Option Addr) (n' cap' : Nat) (l' : List Rg) (w : World) (h : SlIn w ⟨a, cap, l⟩) (hn : n = l.length) (h' : SlIn w ⟨b, cap', l'⟩) (hn' : n' = l'.length) :
    Calls Try.prog 6 #[.slice a n cap, .slice b n' cap'] w (TrueOf w) := by
  obtain ⟨i0, hi0, hz0, hz1, hz2⟩ := info_parts Try.info51
  have HI0 := Lib.hid hi0; clear hi0
  have HZ0 := Lib.hid hz0; clear hz0
  have HZ1 := Lib.hid hz1; clear hz1
  have HZ2 := Lib.hid hz2; clear hz2
  have H := Lib.hid h; clear h
  have H' := Lib.hid h'; clear h'
  have HN := Lib.hid hn; clear hn
  have HN' := Lib.hid hn'; clear hn'
  go_enter Try.func6, Try.ntmps6
  go_wp2_with fail
  refine (awake3_any w).mono ?_
  rintro e w1 ⟨rfl, hf⟩
  have F1 := Lib.hid hf; clear hf
  go_wp2_with fail
  refine (rightL_any (H.out.keep F1.out) HN.out).mono ?_
  rintro e w2 ⟨ax, mx, cx, x, rfl, XM, XS, XR, _, hmx, hf⟩
  have F2 : Hid (Frm [] w w2) := frm_tr F1.out hf.out
  clear hf
  go_wp2_with fail
  refine (rightL_any (H'.out.keep F2.out) HN'.out).mono ?_
  rintro e w3 ⟨ay, my, cy, y, rfl, YM, YS, YR, _, hmy, hf⟩
  have F3 : Hid (Frm [] w w3) := frm_tr F2.out hf.out
  have XS3 : Hid (SlIn w3 ⟨ax, cx, x⟩) := XS.out.keep hf.out
  clear hf XS
  go_wp2_with fail
  refine (join_any (n := mx) (n' := my) XS3.out XM.out YS.out YM.out XR.out YR.out (by omega)).mono ?_
  rintro e w4 hgot
  obtain ⟨aj, mj, cj, j, rfl, JM, JS, JR, JMEM, hmj, hf⟩ := hgot.n
  have F4 : Hid (Frm [] w w4) := frm_tr F3.out hf.out
  have XS4 : Hid (SlIn w4 ⟨ax, cx, x⟩) := XS3.out.keep hf.out
  have YS4 : Hid (SlIn w4 ⟨ay, cy, y⟩) := YS.out.keep hf.out
  clear hf hgot XS3 YS
  have OWN : Hid ((w4.alloc (.cells #[] 51)).ownsRow w4.heap.size 51 2 (.slice (some ⟨w4.heap.size, 0, none⟩) 0 0) 0 (fl [])) := World.ownsRow_lit w4 #[] 0 (Nat.le_refl _) (by unfold maxLen; omega) rfl
  have A4 : Hid (Frm [] w4 (w4.alloc (.cells #[] 51))) := (Frm.refl _ _).alloc _
  go_wp2_with (at_builtin; refine wpList_appR rfl (.tmp 16) (.tmp 17) 44 rfl w4.heap.size 51 i0 Try.underlying44 HI0.out HZ0.out HZ1.out HZ2.out _ 0 (fl []) rfl OWN.out _ mx _ x rfl (XS4.out.keep A4.out).1 XM.out XS4.out.2.1 (by omega) (by simp) ?_)
  intro a5 c5 w5 happ
  have F5 : Hid (Frm [] w4 w5) := frm_app A4.out happ (fun x hx => .inr (by cases hx; simp))
  have O5 := Lib.hid (own_app happ rfl XM.out)
  rw [List.nil_append] at O5
  clear happ
  have hb5 : w4.heap.size ≤ w5.heap.size := F5.out.size
  go_wp2_with (at_builtin; refine wpList_appR rfl (.tmp 18) (.tmp 19) 44 rfl w4.heap.size 51 i0 Try.underlying44 HI0.out HZ0.out HZ1.out HZ2.out _ mx (fl x) rfl ?own2 _ my _ y rfl (YS4.out.keep F5.out).1 YM.out YS4.out.2.1 (by omega) hb5 ?_)
  case own2 => have h := O5.out; unfold OwnR at h; rw [← XM.out] at h; exact h
  intro a6 c6 w6 happ
  have F6 : Hid (Frm [] w4 w6) := frm_app F5.out happ (fun x hx => .inr (O5.out.lt x hx).1)
  have O6 := Lib.hid (own_app happ XM.out YM.out)
  clear happ hb5
  have BD : Hid (Bd (x ++ y)) := Bd.append XS4.out.1.1 YS4.out.1.1
  go_wp2_with fail
  refine (set_any (n := mx + my) (cap := c6) (l := x ++ y) (n' := 0) (cap' := 0) (a' := none) (O6.out.rr BD.out).1 (by rw [List.length_append, ← XM.out, ← YM.out]) (O6.out.rr BD.out).2.1 (Rr.nil w6 none) rfl (fun _ => rfl) (by omega)).mono ?_
  rintro e w7 hgot
  obtain ⟨az, ms, cz, s, rfl, SM, SS, SR, SMEM, hms, hf⟩ := hgot.n
  have F7 : Hid (Frm [] w4 w7) := frm_tr F6.out hf.out
  clear hf hgot
  have EQ : j = s := rt_uniq JR.out SR.out (fun z => by rw [JMEM.out z, SMEM.out z]; show _ ↔ (Mem (x ++ y) z ∧ ¬ Mem [] z); rw [mem_append]; simp [Mem.nil])
  go_wp2_with fail
  refine (same_any (JS.out.keep F7.out).1 SS.out.1 JM.out SM.out (by omega) (by omega)).mono ?_
  rintro e w8 hbo
  obtain ⟨rfl, hf⟩ := hbo.yes EQ
  have F8 : Hid (Frm [] w w8) := frm_tr F4.out (frm_tr F7.out hf)
  clear hf hbo EQ
  go_wp2
  go_ret
  exact trueOf F8.out

theorem below_le (l : List Rg) (N : Nat) : below l N ≤ N := by
  induction N with
  | zero => simp [below]
  | succ N ih => simp only [below]; split <;> omega
theorem cnt_le {l : List Rg} {N : Nat} (h : Rt l) (hN : ∀ p ∈ l, p.2 ≤ N) : cnt l ≤ N := by
  rw [cnt_below h hN]; exact below_le _ _
theorem gap_cnt {y r : List Rg} {g : Nat} (hy : Rt y) (hr : Rt r) (hm : ∀ z, Mem y z ↔ Mem r z ∨ (g ≤ z ∧ z < g + 1)) (hng : ¬ Mem r g) (hby : ∀ p ∈ y, p.2 < 18446744073709551616) (hbr : ∀ p ∈ r, p.2 < 18446744073709551616) (hg : g < 18446744073709551616) : cnt y = cnt r + 1 := by
  have h := cnt_more (a := y) (b := r) (r := (g, g + 1)) hy hr (Nat.le_succ _) hm (fun z hz => by
    obtain ⟨h1, h2, h3⟩ := hz
    simp only at h2 h3
    rw [show z = g by omega] at h1
    exact hng h1) (N := 18446744073709551616) (fun p hp => Nat.le_of_lt (hby p hp)) (fun p hp => Nat.le_of_lt (hbr p hp)) (by show g + 1 ≤ _; omega)
  rw [h]
  simp only
  omega
/-- A gap behind x is x itself, or an end. -/
theorem gap_ahead {l : List Rg} {x g : Nat} (h : GapOf l x g) (hlt : x < g) : Mem l x ∧ Mem l (g - 1) := ⟨h.2.2 x (Nat.le_refl _) hlt, h.2.2 (g - 1) (by omega) (by omega)⟩

set_option maxRecDepth 100000 in
set_option maxHeartbeats 4000000 in
theorem rangesGaps_walk (a : Option Addr) (n cap : Nat) (l : List Rg) (x : Nat) (w : World) (h : SlIn w ⟨a, cap, l⟩) (hn : n = l.length) (hx : x < 18446744073709551616) :
    Calls Try.prog 8 #[.slice a n cap, .int .u64 x] w (TrueOf w) := by
  have H := Lib.hid h; clear h
  have HN := Lib.hid hn; clear hn
  go_enter Try.func8, Try.ntmps8
  go_wp2_with fail
  refine (awake3_any w).mono ?_
  rintro e w1 ⟨rfl, hf⟩
  have F1 := Lib.hid hf; clear hf
  go_wp2_with fail
  refine (rightL_any (H.out.keep F1.out) HN.out).mono ?_
  rintro e w2 ⟨ax, m, cx, r, rfl, XM, XS, XR, _, hm, hf⟩
  have F2 : Hid (Frm [] w w2) := frm_tr F1.out hf.out
  clear hf
  obtain ⟨g, hg, hg64⟩ := gap_ex XR.out XS.out.1.1 x hx
  have HG := Lib.hid hg
  have hxg : x ≤ g := hg.1
  have hng : ¬ Mem r g := hg.2.1
  have HAH : Hid (x < g → Mem r x ∧ Mem r (g - 1)) := gap_ahead hg
  clear hg
  go_wp2_with fail
  refine (gap_any XS.out.1 XR.out XM.out (by omega) HG.out).mono ?_
  rintro e w3 ⟨rfl, hf⟩
  have F3 : Hid (Frm [] w w3) := frm_tr F2.out hf
  have G3 : Hid (Frm [] w2 w3) := hf
  clear hf
  have t1 : ¬ (g : Int) < (x : Int) := by omega
  go_wp2_with fail
  refine (has_any (x := g) (XS.out.keep G3.out).1 XR.out XM.out (by omega)).mono ?_
  rintro e w4 hbo
  obtain ⟨rfl, hf⟩ := hbo.no hng
  have F4 : Hid (Frm [] w w4) := frm_tr F3.out hf
  have G4 : Hid (Frm [] w2 w4) := frm_tr G3.out hf
  clear hf hbo t1 F3 G3
  by_cases hlt : x < g
  · have t2 : (x : Int) < (g : Int) := by omega
    obtain ⟨q1, q2⟩ := HAH.out hlt
    obtain ⟨g1, hg1⟩ : ∃ g1, g1 = g - 1 := ⟨_, rfl⟩
    rw [← hg1] at q2
    have hw : IntKind.u64.wrap ((g : Int) - 1) = (g1 : Int) := by simp [IntKind.wrap, IntKind.bits, IntKind.signed]; omega
    have hw' : (g : Int) - 1 = (g1 : Int) := by omega
    clear hg1
    go_wp2_with fail
    refine (has_any (x := x) (XS.out.keep G4.out).1 XR.out XM.out (by omega)).mono ?_
    rintro e w5 hbo
    obtain ⟨rfl, hf⟩ := hbo.yes q1
    have F5 : Hid (Frm [] w w5) := frm_tr F4.out hf
    have G5 : Hid (Frm [] w2 w5) := frm_tr G4.out hf
    clear hf hbo
    go_wp2_with fail
    refine (has_any (x := g1) (XS.out.keep G5.out).1 XR.out XM.out (by omega)).mono ?_
    rintro e w6 hbo
    obtain ⟨rfl, hf⟩ := hbo.yes q2
    have F6 : Hid (Frm [] w w6) := frm_tr F5.out hf
    have G6 : Hid (Frm [] w2 w6) := frm_tr G5.out hf
    clear hf hbo hw hw' q1 q2 t2 hlt F4 G4 F5 G5
    by_cases hmax : g = 18446744073709551615
    · have t3 : ((g : Int) == 18446744073709551615) = true := beq_iff_eq.2 (by omega)
      clear hmax
      go_wp2
      go_ret
      exact trueOf F6.out
    · have t3 : ((g : Int) == 18446744073709551615) = false := beq_false_of_ne (by omega)
      obtain ⟨gp, hgp⟩ : ∃ gp, gp = g + 1 := ⟨_, rfl⟩
      have hwp : IntKind.u64.wrap ((g : Int) + 1) = (gp : Int) := by simp [IntKind.wrap, IntKind.bits, IntKind.signed]; omega
      have ADD := Lib.hid ((add_some (n := m) (cap := cx) (r1 := g) (r2 := gp) (XS.out.keep G6.out).1 XR.out XM.out (by have := XM.out; have := XS.out.2.2.1; simp only at *; omega) XS.out.2.2.2 XS.out.2.1 (by omega) (by omega) (by omega)).mono fun e w' hg => hg.n)
      have GP := Lib.hid hgp
      clear hmax hgp
      go_wp2_with fail
      refine ADD.out.mono ?_
      rintro e w7 ⟨ay, my, cy, y, rfl, YM, YS, YR, YMEM, hmy, hf⟩
      have F7 : Hid (Frm [] w w7) := frm_tr F6.out hf.out
      have G7 : Hid (Frm [] w2 w7) := frm_tr G6.out hf.out
      clear hf ADD
      have CNT : Hid (cnt y = cnt r + 1) := gap_cnt YR.out XR.out (fun z => by rw [← GP.out]; exact YMEM.out z) hng (fun p hp => (YS.out.1.1 p hp).2) (fun p hp => (XS.out.1.1 p hp).2) hg64
      have CB : Hid (cnt y < 18446744073709551616) := Nat.lt_succ_of_le (cnt_le (N := 18446744073709551615) YR.out (fun p hp => Nat.le_of_lt_succ (YS.out.1.1 p hp).2))
      go_wp2_with fail
      refine (count_any YS.out.1 YR.out YM.out (by omega)).mono ?_
      rintro e w8 ⟨rfl, hf⟩
      have F8 : Hid (Frm [] w w8) := frm_tr F7.out hf
      have G8 : Hid (Frm [] w2 w8) := frm_tr G7.out hf
      have Y8 : Hid (SlIn w8 ⟨ay, cy, y⟩) := YS.out.keep hf
      clear hf
      go_wp2_with fail
      refine (count_any (XS.out.keep G8.out).1 XR.out XM.out (by omega)).mono ?_
      rintro e w9 ⟨rfl, hf⟩
      have F9 : Hid (Frm [] w w9) := frm_tr F8.out hf
      have Y9 : Hid (SlIn w9 ⟨ay, cy, y⟩) := Y8.out.keep hf
      clear hf
      obtain ⟨c1, hc1⟩ : ∃ c1, c1 = cnt y := ⟨_, rfl⟩
      obtain ⟨c2, hc2⟩ : ∃ c2, c2 = cnt r := ⟨_, rfl⟩
      rw [← hc1, ← hc2]
      have hcc : c1 = c2 + 1 := by rw [hc1, hc2]; exact CNT.out
      have hcb : c1 < 18446744073709551616 := by rw [hc1]; exact CB.out
      have hws : IntKind.u64.wrap ((c2 : Int) + 1) = (c1 : Int) := by simp [IntKind.wrap, IntKind.bits, IntKind.signed]; omega
      have hws2 : (c2 : Int) + 1 = (c1 : Int) := by omega
      clear hc1 hc2 hcc
      obtain ⟨g2, hg2, hg264⟩ := gap_ex YR.out YS.out.1.1 x hx
      have HG2 := Lib.hid hg2
      have hgg : (g : Int) < (g2 : Int) := by
        have h1 : ¬ g2 ≤ g := fun hle => by
          rcases Nat.lt_or_eq_of_le hle with h2 | h2
          · exact hg2.2.1 ((YMEM.out g2).2 (.inl (HG.out.2.2 g2 hg2.1 h2)))
          · exact hg2.2.1 ((YMEM.out g2).2 (.inr ⟨by omega, by have := GP.out; omega⟩))
        omega
      clear hg2
      go_wp2_with fail
      refine (gap_any Y9.out.1 YR.out YM.out (by omega) HG2.out).mono ?_
      rintro e w10 ⟨rfl, hf⟩
      have F10 : Hid (Frm [] w w10) := frm_tr F9.out hf
      clear hf
      go_wp2
      go_ret
      exact trueOf F10.out
  · have t2 : ¬ (x : Int) < (g : Int) := by omega
    obtain ⟨w6, rfl⟩ : ∃ w6, w6 = w4 := ⟨_, rfl⟩
    have F6 := F4
    have G6 := G4
    clear hlt F4 G4
    by_cases hmax : g = 18446744073709551615
    · have t3 : ((g : Int) == 18446744073709551615) = true := beq_iff_eq.2 (by omega)
      clear hmax
      go_wp2
      go_ret
      exact trueOf F6.out
    · have t3 : ((g : Int) == 18446744073709551615) = false := beq_false_of_ne (by omega)
      obtain ⟨gp, hgp⟩ : ∃ gp, gp = g + 1 := ⟨_, rfl⟩
      have hwp : IntKind.u64.wrap ((g : Int) + 1) = (gp : Int) := by simp [IntKind.wrap, IntKind.bits, IntKind.signed]; omega
      have ADD := Lib.hid ((add_some (n := m) (cap := cx) (r1 := g) (r2 := gp) (XS.out.keep G6.out).1 XR.out XM.out (by have := XM.out; have := XS.out.2.2.1; simp only at *; omega) XS.out.2.2.2 XS.out.2.1 (by omega) (by omega) (by omega)).mono fun e w' hg => hg.n)
      have GP := Lib.hid hgp
      clear hmax hgp
      go_wp2_with fail
      refine ADD.out.mono ?_
      rintro e w7 ⟨ay, my, cy, y, rfl, YM, YS, YR, YMEM, hmy, hf⟩
      have F7 : Hid (Frm [] w w7) := frm_tr F6.out hf.out
      have G7 : Hid (Frm [] w2 w7) := frm_tr G6.out hf.out
      clear hf ADD
      have CNT : Hid (cnt y = cnt r + 1) := gap_cnt YR.out XR.out (fun z => by rw [← GP.out]; exact YMEM.out z) hng (fun p hp => (YS.out.1.1 p hp).2) (fun p hp => (XS.out.1.1 p hp).2) hg64
      have CB : Hid (cnt y < 18446744073709551616) := Nat.lt_succ_of_le (cnt_le (N := 18446744073709551615) YR.out (fun p hp => Nat.le_of_lt_succ (YS.out.1.1 p hp).2))
      go_wp2_with fail
      refine (count_any YS.out.1 YR.out YM.out (by omega)).mono ?_
      rintro e w8 ⟨rfl, hf⟩
      have F8 : Hid (Frm [] w w8) := frm_tr F7.out hf
      have G8 : Hid (Frm [] w2 w8) := frm_tr G7.out hf
      have Y8 : Hid (SlIn w8 ⟨ay, cy, y⟩) := YS.out.keep hf
      clear hf
      go_wp2_with fail
      refine (count_any (XS.out.keep G8.out).1 XR.out XM.out (by omega)).mono ?_
      rintro e w9 ⟨rfl, hf⟩
      have F9 : Hid (Frm [] w w9) := frm_tr F8.out hf
      have Y9 : Hid (SlIn w9 ⟨ay, cy, y⟩) := Y8.out.keep hf
      clear hf
      obtain ⟨c1, hc1⟩ : ∃ c1, c1 = cnt y := ⟨_, rfl⟩
      obtain ⟨c2, hc2⟩ : ∃ c2, c2 = cnt r := ⟨_, rfl⟩
      rw [← hc1, ← hc2]
      have hcc : c1 = c2 + 1 := by rw [hc1, hc2]; exact CNT.out
      have hcb : c1 < 18446744073709551616 := by rw [hc1]; exact CB.out
      have hws : IntKind.u64.wrap ((c2 : Int) + 1) = (c1 : Int) := by simp [IntKind.wrap, IntKind.bits, IntKind.signed]; omega
      have hws2 : (c2 : Int) + 1 = (c1 : Int) := by omega
      clear hc1 hc2 hcc
      obtain ⟨g2, hg2, hg264⟩ := gap_ex YR.out YS.out.1.1 x hx
      have HG2 := Lib.hid hg2
      have hgg : (g : Int) < (g2 : Int) := by
        have h1 : ¬ g2 ≤ g := fun hle => by
          rcases Nat.lt_or_eq_of_le hle with h2 | h2
          · exact hg2.2.1 ((YMEM.out g2).2 (.inl (HG.out.2.2 g2 hg2.1 h2)))
          · exact hg2.2.1 ((YMEM.out g2).2 (.inr ⟨by omega, by have := GP.out; omega⟩))
        omega
      clear hg2
      go_wp2_with fail
      refine (gap_any Y9.out.1 YR.out YM.out (by omega) HG2.out).mono ?_
      rintro e w10 ⟨rfl, hf⟩
      have F10 : Hid (Frm [] w w10) := frm_tr F9.out hf
      clear hf
      go_wp2
      go_ret
      exact trueOf F10.out
end Go.Proofs.Ytolmpmihchjmlaa
