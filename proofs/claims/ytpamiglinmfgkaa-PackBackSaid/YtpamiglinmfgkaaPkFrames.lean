/- PackFrames: for every slice of bytes the law answers true and writes nothing that was there. No condition. -/
import Derived.Test.YtpamiglinmfgkaaPkUnfAll
namespace Go.Proofs.Ytpamiglinmfgkaa
open Go.RowKit

theorem to_string {w : World} {a : Option Addr} {n c : Nat} {l : List Nat} (hl : Bytes w a l) (hn : n = l.length) : (convert 26 9 (.slice a n c)).run Try.prog w = .ok (.string (strOf l)) w :=
  run_to_string (P := Try.prog) (e := 5) Try.underlying26 Try.underlying5 Try.underlying9 hl hn

theorem rows {w : World} {a : Option Addr} {len cap : Nat} {zs : List Int} (h : RowIn .u8 w a len cap zs) : ∃ l : List Nat, len = l.length ∧ Bytes w a l ∧ len ≤ cap ∧ (a = none → cap = 0) := by
  obtain ⟨l, h1, h2⟩ := bytes_of_row h
  exact ⟨l, h1, h2, row_cap h, row_nil h⟩

set_option maxHeartbeats 2000000 in
theorem packFrames_walk (a0 : Option Addr) (len0 cap0 : Nat) (z0 : List Int) (w : World) (w0 : RowIn .u8 w a0 len0 cap0 z0) (s0 : cap0 ≤ 140737488351232) :
    Calls Try.prog 6 #[.slice a0 len0 cap0] w fun e w' => e = .returned (.bool true) ∧ Below w.heap.size w w' := by
  obtain ⟨l, hn, hl, hlc, hnil⟩ := rows w0
  clear w0
  have h63 : len0 ≤ 140737488351232 := by omega
  by_cases h6 : 6000 < len0
  · clear hl hn hnil
    go_enter Try.func6, Try.ntmps6
    go_wp2_with fail
    refine (awake2_any w).mono ?_
    rintro e w1 ⟨rfl, hb⟩
    go_wp2
    go_ret
    exact ⟨rfl, hb⟩
  have UN := Lib.hid (fun (w' : World) (hB : Bytes w' a0 l) => unframe_all a0 len0 cap0 l w' hB hn hlc hnil (by omega) (by omega))
  have RU := Lib.hid (fun (w' : World) (hB : Bytes w' a0 l) => ref_unframe_all a0 len0 cap0 l w' hB hn hlc hnil)
  have HL := Lib.hid hl; clear hl
  by_cases h4 : 4096 < len0
  · clear hn hnil
    go_enter Try.func6, Try.ntmps6
    go_wp2_with fail
    refine (awake2_any w).mono ?_
    rintro e w1 ⟨rfl, hb⟩
    have HB := Lib.hid hb; clear hb
    go_wp2_with fail
    refine (frame_long a0 len0 cap0 w1 h4 (by omega)).mono ?_
    rintro e w' ⟨rfl, rfl⟩
    go_wp2_with fail
    refine (UN.out _ (HL.out.later HB.out)).mono ?_
    rintro e w2 ⟨a1, c1, a2, c2, rfl, hx, hy, hf2⟩
    have HX := Lib.hid hx; clear hx
    have HY := Lib.hid hy; clear hy
    have HF2 := Lib.hid hf2; clear hf2
    obtain ⟨X, hX⟩ : ∃ X, X = uX l := ⟨_, rfl⟩
    obtain ⟨Y, hY⟩ : ∃ Y, Y = uY l := ⟨_, rfl⟩
    obtain ⟨C, hC⟩ : ∃ C, C = uC l := ⟨_, rfl⟩
    rw [← hX, ← hY, ← hC] at RU
    rw [← hX] at HX
    rw [← hY] at HY
    rw [← hX, ← hY, ← hC]
    clear hX hY hC
    go_wp2_with fail
    refine (RU.out _ (HF2.out.bytes (HL.out.later HB.out) (by simp))).mono ?_
    rintro e w3 ⟨a3, c3, a4, c4, rfl, hx3, hy3, hf3⟩
    have v1 := to_string (c := c1) (hf3.bytes HX.out (by simp)) rfl
    have v2 := to_string (c := c2) (hf3.bytes HY.out (by simp)) rfl
    have v3 := to_string (c := c3) hx3 rfl
    have v4 := to_string (c := c4) hy3 rfl
    have HF := Lib.hid ((HF2.out.trans hf3 (U := []) (by simp) (by simp)).below (B := w.heap.size) (by simp) HB.out.size)
    clear hx3 hy3 hf3
    go_wp2
    go_ret
    exact ⟨rfl, HB.out.trans HF.out⟩
  · have FR := Lib.hid (fun (w' : World) (hB : Bytes w' a0 l) => frame_ok a0 len0 cap0 l w' hB hn hnil (by omega))
    have RF := Lib.hid (fun (w' : World) (hB : Bytes w' a0 l) => ref_frame_any a0 len0 cap0 l w' hB hn hnil (by omega))
    unfold RFramed at RF
    have H8 := Lib.hid (fr_lt HL.out.1)
    clear hn hnil
    go_enter Try.func6, Try.ntmps6
    go_wp2_with fail
    refine (awake2_any w).mono ?_
    rintro e w0 ⟨rfl, hb0⟩
    have HB0 := Lib.hid hb0; clear hb0
    go_wp2_with fail
    refine (FR.out _ (HL.out.later HB0.out)).mono ?_
    rintro e w1 ⟨af, cf, rfl, hof, hff⟩
    obtain ⟨F, hF⟩ : ∃ F, F = fr l := ⟨_, rfl⟩
    rw [← hF] at hof RF H8
    rw [← hF]
    have hbf := (bytes_of_own hof H8.out).2.1
    clear hof hF
    have HBF := Lib.hid hbf; clear hbf
    have HB : Hid (Below w.heap.size w w1) := HB0.out.trans (hff.below (by simp) HB0.out.size)
    clear hff
    go_wp2
    have cv : ∀ w', Frm [] w1 w' → (convert 26 9 (.slice af F.length cf)).run Try.prog w' = .ok (.string (strOf F)) w' := fun w' hf => to_string (hf.bytes HBF.out (by simp)) rfl
    have f0 : Frm [] w1 w1.drew := (Frm.refl _ _).drew
    go_region_with ((go_at_call 23; refine (RF.out _ (HL.out.later HB.out.drew)).mono ?_; rintro e wr ⟨ar, cr, rfl, hbr, hfr⟩; have f1 : Frm [] w1 wr := hfr.undrew; have cv2 := to_string (c := cr) hbr rfl))
    all_goals
      have HBR : Hid (Below w.heap.size w wr) := HB.out.trans (f1.below (by simp) HB.out.size)
      clear cv cv2 f0 f1 hbr hfr
      go_wp2_with fail
      refine (UN.out _ (HL.out.later HBR.out)).mono ?_
      rintro e w2 ⟨a1, c1, a2, c2, rfl, hx, hy, hf2⟩
      have HX := Lib.hid hx; clear hx
      have HY := Lib.hid hy; clear hy
      have HF2 := Lib.hid hf2; clear hf2
      obtain ⟨X, hX⟩ : ∃ X, X = uX l := ⟨_, rfl⟩
      obtain ⟨Y, hY⟩ : ∃ Y, Y = uY l := ⟨_, rfl⟩
      obtain ⟨C, hC⟩ : ∃ C, C = uC l := ⟨_, rfl⟩
      rw [← hX, ← hY, ← hC] at RU
      rw [← hX] at HX
      rw [← hY] at HY
      rw [← hX, ← hY, ← hC]
      clear hX hY hC
      go_wp2_with fail
      refine (RU.out _ (HF2.out.bytes (HL.out.later HBR.out) (by simp))).mono ?_
      rintro e w3 ⟨a3, c3, a4, c4, rfl, hx3, hy3, hf3⟩
      have v1 := to_string (c := c1) (hf3.bytes HX.out (by simp)) rfl
      have v2 := to_string (c := c2) (hf3.bytes HY.out (by simp)) rfl
      have v3 := to_string (c := c3) hx3 rfl
      have v4 := to_string (c := c4) hy3 rfl
      have HF := Lib.hid ((HF2.out.trans hf3 (U := []) (by simp) (by simp)).below (B := w.heap.size) (by simp) HBR.out.size)
      clear hx3 hy3 hf3
      go_wp2
      go_ret
      exact ⟨rfl, HBR.out.trans HF.out⟩
end Go.Proofs.Ytpamiglinmfgkaa
