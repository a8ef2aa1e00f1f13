/- The walk of the law RangesChecks. -/
import Derived.Test.YtolmpmihchjmlaaRgRight
namespace Go.Proofs.Ytolmpmihchjmlaa
open Go.RowKit

theorem frm_tr {a b c : World} (h : Frm [] a b) (k : Frm [] b c) : Frm [] a c := h.trans k (by simp) (by simp)
def TrueOf (w : World) (e : Ending) (w' : World) : Prop := e = .returned (.bool true) ∧ Below w.heap.size w w'
theorem trueOf {w w' : World} (h : Frm [] w w') : TrueOf w (.returned (.bool true)) w' := ⟨rfl, h.below (by simp) (Nat.le_refl _)⟩

set_option maxRecDepth 100000 in
set_option maxHeartbeats 4000000 in
theorem rangesChecks_walk (a : Option Addr) (n cap : Nat) (l : List Rg) (x : Nat) (w : World) (h : SlIn w ⟨a, cap, l⟩) (hn : n = l.length) (hx : x < 18446744073709551616) :
    Calls Try.prog 4 #[.slice a n cap, .int .u64 x] w (TrueOf w) := by
  have hcm : n ≤ 9223372036854775807 := by have := h.2.2.1; have := h.2.2.2; simp only at *; omega
  have H := Lib.hid h; clear h
  have HN := Lib.hid hn; clear hn
  have F0 : Hid (Frm [] w w) := Frm.refl _ _
  go_enter Try.func4, Try.ntmps4
  go_wp2_with fail
  refine (awake3_any w).mono ?_
  rintro e w1 ⟨rfl, hf⟩
  have F1 := Lib.hid hf; clear hf
  by_cases hbig : 100 < n
  · have hb' : (100 : Int) < (n : Int) := by omega
    go_wp2
    go_ret
    exact trueOf F1.out
  · have hb' : ¬ (100 : Int) < (n : Int) := by omega
    go_wp2_with fail
    refine (rightL_any (H.out.keep F1.out) HN.out).mono ?_
    rintro e w2 ⟨ar, m, cr, r, rfl, HM, HS, HR, HMEM, hm, hf⟩
    have F2 : Hid (Frm [] w w2) := frm_tr F1.out hf.out
    clear hf
    by_cases hrt : RtI l
    · go_wp2_with fail
      refine (check_any (H.out.keep F2.out).1 HN.out (by omega)).mono ?_
      rintro e w3 hbo
      obtain ⟨rfl, hf⟩ := hbo.yes hrt
      have F3 : Hid (Frm [] w w3) := frm_tr F2.out hf
      have G3 : Hid (Frm [] w2 w3) := hf
      clear hf hbo
      go_wp2_with fail
      refine (right_any (H.out.keep F3.out).1 HN.out (by omega)).mono ?_
      rintro e w4 hbo
      obtain ⟨rfl, hf⟩ := hbo.yes hrt
      have F4 : Hid (Frm [] w w4) := frm_tr F3.out hf
      have G4 : Hid (Frm [] w2 w4) := frm_tr G3.out hf
      clear hf hbo
      go_wp2_with fail
      refine (check_any (HS.out.keep G4.out).1 HM.out (by omega)).mono ?_
      rintro e w5 hbo
      obtain ⟨rfl, hf⟩ := hbo.yes (RtI.of HR.out)
      have F5 : Hid (Frm [] w w5) := frm_tr F4.out hf
      have G5 : Hid (Frm [] w2 w5) := frm_tr G4.out hf
      clear hf hbo F3 G3 F4 G4
      obtain ⟨g, hg, hg64⟩ := gap_ex HR.out HS.out.1.1 x hx
      have HG := Lib.hid hg; clear hg
      by_cases hin : Mem r x
      · go_wp2_with fail
        refine (has_any (HS.out.keep G5.out).1 HR.out HM.out (by omega)).mono ?_
        rintro e w6 hbo
        obtain ⟨rfl, hf⟩ := hbo.yes hin
        have F6 : Hid (Frm [] w w6) := frm_tr F5.out hf
        have G6 : Hid (Frm [] w2 w6) := frm_tr G5.out hf
        clear hf hbo
        go_wp2_with fail
        refine (in_any (HS.out.keep G6.out).1 HM.out (by omega)).mono ?_
        rintro e w7 ⟨hbo, rfl⟩
        obtain ⟨rfl, _⟩ := hbo.yes hin
        clear hbo
        go_wp2_with fail
        refine (count_any (HS.out.keep G6.out).1 HR.out HM.out (by omega)).mono ?_
        rintro e w8 ⟨rfl, hf⟩
        have F8 : Hid (Frm [] w w8) := frm_tr F6.out hf
        have G8 : Hid (Frm [] w2 w8) := frm_tr G6.out hf
        clear hf
        go_wp2_with fail
        refine (rcount_any (HS.out.keep G8.out).1 HR.out HM.out (by omega)).mono ?_
        rintro e w9 ⟨rfl, hf⟩
        have F9 : Hid (Frm [] w w9) := frm_tr F8.out hf
        have G9 : Hid (Frm [] w2 w9) := frm_tr G8.out hf
        clear hf
        go_wp2_with fail
        refine (gap_any (HS.out.keep G9.out).1 HR.out HM.out (by omega) HG.out).mono ?_
        rintro e w10 ⟨rfl, hf⟩
        have F10 : Hid (Frm [] w w10) := frm_tr F9.out hf
        have G10 : Hid (Frm [] w2 w10) := frm_tr G9.out hf
        clear hf
        go_wp2_with fail
        refine (rgap_any (HS.out.keep G10.out).1 HR.out HM.out (by omega) hx HG.out hg64).mono ?_
        rintro e w11 ⟨rfl, hf⟩
        have F11 : Hid (Frm [] w w11) := frm_tr F10.out hf
        clear hf
        go_wp2
        go_ret
        exact trueOf F11.out
      · go_wp2_with fail
        refine (has_any (HS.out.keep G5.out).1 HR.out HM.out (by omega)).mono ?_
        rintro e w6 hbo
        obtain ⟨rfl, hf⟩ := hbo.no hin
        have F6 : Hid (Frm [] w w6) := frm_tr F5.out hf
        have G6 : Hid (Frm [] w2 w6) := frm_tr G5.out hf
        clear hf hbo
        go_wp2_with fail
        refine (in_any (HS.out.keep G6.out).1 HM.out (by omega)).mono ?_
        rintro e w7 ⟨hbo, rfl⟩
        obtain ⟨rfl, _⟩ := hbo.no hin
        clear hbo
        go_wp2_with fail
        refine (count_any (HS.out.keep G6.out).1 HR.out HM.out (by omega)).mono ?_
        rintro e w8 ⟨rfl, hf⟩
        have F8 : Hid (Frm [] w w8) := frm_tr F6.out hf
        have G8 : Hid (Frm [] w2 w8) := frm_tr G6.out hf
        clear hf
        go_wp2_with fail
        refine (rcount_any (HS.out.keep G8.out).1 HR.out HM.out (by omega)).mono ?_
        rintro e w9 ⟨rfl, hf⟩
        have F9 : Hid (Frm [] w w9) := frm_tr F8.out hf
        have G9 : Hid (Frm [] w2 w9) := frm_tr G8.out hf
        clear hf
        go_wp2_with fail
        refine (gap_any (HS.out.keep G9.out).1 HR.out HM.out (by omega) HG.out).mono ?_
        rintro e w10 ⟨rfl, hf⟩
        have F10 : Hid (Frm [] w w10) := frm_tr F9.out hf
        have G10 : Hid (Frm [] w2 w10) := frm_tr G9.out hf
        clear hf
        go_wp2_with fail
        refine (rgap_any (HS.out.keep G10.out).1 HR.out HM.out (by omega) hx HG.out hg64).mono ?_
        rintro e w11 ⟨rfl, hf⟩
        have F11 : Hid (Frm [] w w11) := frm_tr F10.out hf
        clear hf
        go_wp2
        go_ret
        exact trueOf F11.out
    · go_wp2_with fail
      refine (check_any (H.out.keep F2.out).1 HN.out (by omega)).mono ?_
      rintro e w3 hbo
      obtain ⟨rfl, hf⟩ := hbo.no hrt
      have F3 : Hid (Frm [] w w3) := frm_tr F2.out hf
      have G3 : Hid (Frm [] w2 w3) := hf
      clear hf hbo
      go_wp2_with fail
      refine (right_any (H.out.keep F3.out).1 HN.out (by omega)).mono ?_
      rintro e w4 hbo
      obtain ⟨rfl, hf⟩ := hbo.no hrt
      have F4 : Hid (Frm [] w w4) := frm_tr F3.out hf
      have G4 : Hid (Frm [] w2 w4) := frm_tr G3.out hf
      clear hf hbo
      go_wp2_with fail
      refine (check_any (HS.out.keep G4.out).1 HM.out (by omega)).mono ?_
      rintro e w5 hbo
      obtain ⟨rfl, hf⟩ := hbo.yes (RtI.of HR.out)
      have F5 : Hid (Frm [] w w5) := frm_tr F4.out hf
      have G5 : Hid (Frm [] w2 w5) := frm_tr G4.out hf
      clear hf hbo F3 G3 F4 G4
      obtain ⟨g, hg, hg64⟩ := gap_ex HR.out HS.out.1.1 x hx
      have HG := Lib.hid hg; clear hg
      by_cases hin : Mem r x
      · go_wp2_with fail
        refine (has_any (HS.out.keep G5.out).1 HR.out HM.out (by omega)).mono ?_
        rintro e w6 hbo
        obtain ⟨rfl, hf⟩ := hbo.yes hin
        have F6 : Hid (Frm [] w w6) := frm_tr F5.out hf
        have G6 : Hid (Frm [] w2 w6) := frm_tr G5.out hf
        clear hf hbo
        go_wp2_with fail
        refine (in_any (HS.out.keep G6.out).1 HM.out (by omega)).mono ?_
        rintro e w7 ⟨hbo, rfl⟩
        obtain ⟨rfl, _⟩ := hbo.yes hin
        clear hbo
        go_wp2_with fail
        refine (count_any (HS.out.keep G6.out).1 HR.out HM.out (by omega)).mono ?_
        rintro e w8 ⟨rfl, hf⟩
        have F8 : Hid (Frm [] w w8) := frm_tr F6.out hf
        have G8 : Hid (Frm [] w2 w8) := frm_tr G6.out hf
        clear hf
        go_wp2_with fail
        refine (rcount_any (HS.out.keep G8.out).1 HR.out HM.out (by omega)).mono ?_
        rintro e w9 ⟨rfl, hf⟩
        have F9 : Hid (Frm [] w w9) := frm_tr F8.out hf
        have G9 : Hid (Frm [] w2 w9) := frm_tr G8.out hf
        clear hf
        go_wp2_with fail
        refine (gap_any (HS.out.keep G9.out).1 HR.out HM.out (by omega) HG.out).mono ?_
        rintro e w10 ⟨rfl, hf⟩
        have F10 : Hid (Frm [] w w10) := frm_tr F9.out hf
        have G10 : Hid (Frm [] w2 w10) := frm_tr G9.out hf
        clear hf
        go_wp2_with fail
        refine (rgap_any (HS.out.keep G10.out).1 HR.out HM.out (by omega) hx HG.out hg64).mono ?_
        rintro e w11 ⟨rfl, hf⟩
        have F11 : Hid (Frm [] w w11) := frm_tr F10.out hf
        clear hf
        go_wp2
        go_ret
        exact trueOf F11.out
      · go_wp2_with fail
        refine (has_any (HS.out.keep G5.out).1 HR.out HM.out (by omega)).mono ?_
        rintro e w6 hbo
        obtain ⟨rfl, hf⟩ := hbo.no hin
        have F6 : Hid (Frm [] w w6) := frm_tr F5.out hf
        have G6 : Hid (Frm [] w2 w6) := frm_tr G5.out hf
        clear hf hbo
        go_wp2_with fail
        refine (in_any (HS.out.keep G6.out).1 HM.out (by omega)).mono ?_
        rintro e w7 ⟨hbo, rfl⟩
        obtain ⟨rfl, _⟩ := hbo.no hin
        clear hbo
        go_wp2_with fail
        refine (count_any (HS.out.keep G6.out).1 HR.out HM.out (by omega)).mono ?_
        rintro e w8 ⟨rfl, hf⟩
        have F8 : Hid (Frm [] w w8) := frm_tr F6.out hf
        have G8 : Hid (Frm [] w2 w8) := frm_tr G6.out hf
        clear hf
        go_wp2_with fail
        refine (rcount_any (HS.out.keep G8.out).1 HR.out HM.out (by omega)).mono ?_
        rintro e w9 ⟨rfl, hf⟩
        have F9 : Hid (Frm [] w w9) := frm_tr F8.out hf
        have G9 : Hid (Frm [] w2 w9) := frm_tr G8.out hf
        clear hf
        go_wp2_with fail
        refine (gap_any (HS.out.keep G9.out).1 HR.out HM.out (by omega) HG.out).mono ?_
        rintro e w10 ⟨rfl, hf⟩
        have F10 : Hid (Frm [] w w10) := frm_tr F9.out hf
        have G10 : Hid (Frm [] w2 w10) := frm_tr G9.out hf
        clear hf
        go_wp2_with fail
        refine (rgap_any (HS.out.keep G10.out).1 HR.out HM.out (by omega) hx HG.out hg64).mono ?_
        rintro e w11 ⟨rfl, hf⟩
        have F11 : Hid (Frm [] w w11) := frm_tr F10.out hf
        clear hf
        go_wp2
        go_ret
        exact trueOf F11.out
end Go.Proofs.Ytolmpmihchjmlaa
