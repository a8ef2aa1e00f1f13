/- The walk of the law RangesBack. -/
import Derived.Test.YtolmpmihchjmlaaRgLaws1
import Derived.Lib.QuietBelow
import Derived.Deep.RegionHeld3
namespace Go.Proofs.Ytolmpmihchjmlaa
open Go.RowKit

theorem add_any {w : World} {a : Option Addr} {l : List Rg} {n cap r1 r2 : Nat} (h : SlIn w ⟨a, cap, l⟩) (hr : Rt l) (hn : n = l.length) (hsz : n ≤ 1000) (_hb1 : r1 < 18446744073709551616) (hb2 : r2 < 18446744073709551616) :
    Calls Try.prog 31 #[.slice a n cap, .agg #[.int .u64 r1, .int .u64 r2]] w (GotN w (fun x => Mem l x ∨ (r1 ≤ x ∧ x < r2)) (n + 1)) := by
  by_cases he : r1 < r2
  · exact (add_some h.1 hr hn (by rw [hn]; exact h.2.2.1) h.2.2.2 h.2.1 hsz he hb2).mono fun _ _ hg => hg.n
  · exact (add_empty h.1 hr hn h.2.1 hsz (by omega)).mono fun _ _ hg => hg.n
theorem remove_any {w : World} {a : Option Addr} {l : List Rg} {n cap r1 r2 : Nat} (h : SlIn w ⟨a, cap, l⟩) (hr : Rt l) (hn : n = l.length) (hsz : n ≤ 1000) (_hb1 : r1 < 18446744073709551616) (hb2 : r2 < 18446744073709551616) :
    Calls Try.prog 32 #[.slice a n cap, .agg #[.int .u64 r1, .int .u64 r2]] w (GotN w (fun x => Mem l x ∧ ¬ (r1 ≤ x ∧ x < r2)) (n + 1)) := by
  by_cases he : r1 < r2
  · exact (remove_some h.1 hr hn (by rw [hn]; exact h.2.2.1) h.2.2.2 h.2.1 hsz he hb2).mono fun _ _ hg => hg.n
  · exact (remove_empty h.1 hr hn h.2.1 hsz (by omega)).mono fun _ _ hg => hg.n

theorem back1 {x le mo y : List Rg} {r1 r2 : Nat} (h1 : ∀ z, Mem le z ↔ Mem x z ∧ ¬ (r1 ≤ z ∧ z < r2)) (h2 : ∀ z, Mem mo z ↔ Mem x z ∨ (r1 ≤ z ∧ z < r2)) (h3 : ∀ z, Mem y z ↔ Mem le z ∨ (r1 ≤ z ∧ z < r2)) (hy : Rt y) (hm : Rt mo) : y = mo :=
  rt_uniq hy hm (fun z => by rw [h3 z, h1 z, h2 z]; by_cases h : r1 ≤ z ∧ z < r2 <;> simp [h])
theorem back2 {x le mo y : List Rg} {r1 r2 : Nat} (h1 : ∀ z, Mem le z ↔ Mem x z ∧ ¬ (r1 ≤ z ∧ z < r2)) (h2 : ∀ z, Mem mo z ↔ Mem x z ∨ (r1 ≤ z ∧ z < r2)) (h3 : ∀ z, Mem y z ↔ Mem mo z ∧ ¬ (r1 ≤ z ∧ z < r2)) (hy : Rt y) (hm : Rt le) : y = le :=
  rt_uniq hy hm (fun z => by rw [h3 z, h1 z, h2 z]; by_cases h : r1 ≤ z ∧ z < r2 <;> simp [h])
theorem back3 {x le mo : List Rg} {r1 r2 : Nat} (h1 : ∀ z, Mem le z ↔ Mem x z ∧ ¬ (r1 ≤ z ∧ z < r2)) (h2 : ∀ z, Mem mo z ↔ Mem x z ∨ (r1 ≤ z ∧ z < r2)) (hl : Rt le) (hm : Rt mo) (hlt : r1 ≤ r2) (bl : Bd le) (bm : Bd mo) (b2 : r2 < 18446744073709551616) : cnt mo = cnt le + (r2 - r1) :=
  cnt_more (r := (r1, r2)) hm hl hlt (fun z => by rw [h1 z, h2 z]; by_cases h : r1 ≤ z ∧ z < r2 <;> simp [h]) (fun z hz => by rw [h1 z] at hz; exact hz.1.2 hz.2) (N := 18446744073709551616) (fun p hp => Nat.le_of_lt (bm p hp).2) (fun p hp => Nat.le_of_lt (bl p hp).2) (Nat.le_of_lt b2)
theorem back0 {x y : List Rg} {P : Nat → Prop} (h : ∀ z, Mem y z ↔ P z) (h2 : ∀ z, P z ↔ Mem x z) (hy : Rt y) (hx : Rt x) : y = x := rt_uniq hy hx (fun z => (h z).trans (h2 z))

theorem same_sl {w : World} {a a' : Option Addr} {l l' : List Rg} {n cap n' cap' : Nat} (h : SlIn w ⟨a, cap, l⟩) (h' : SlIn w ⟨a', cap', l'⟩) (hn : n = l.length) (hn' : n' = l'.length) (hsz : n ≤ 1000) (hsz' : n' ≤ 1000) (he : l = l') :
    Calls Try.prog 33 #[.slice a n cap, .slice a' n' cap'] w (fun e w' => e = .returned (.bool true) ∧ Frm [] w w') :=
  (same_any h.1 h'.1 hn hn' (by omega) (by omega)).mono fun _ _ hb => hb.yes he

set_option maxRecDepth 100000 in
set_option maxHeartbeats 8000000 in
theorem rangesBack_walk (a : Option Addr) (n cap : Nat) (l : List Rg) (r1 r2 : Nat) (w : World) (h : SlIn w ⟨a, cap, l⟩) (hn : n = l.length) (hb1 : r1 < 18446744073709551616) (hb2 : r2 < 18446744073709551616) :
    Calls Try.prog 9 #[.slice a n cap, .agg #[.int .u64 r1, .int .u64 r2]] w (TrueOf w) := by
  obtain ⟨W0, hW0⟩ : ∃ W0, W0 = w.alloc (.cells #[.int .u64 r1, .int .u64 r2] 51) := ⟨_, rfl⟩
  obtain ⟨g3, hg3⟩ : ∃ g3, g3 = w.heap.size := ⟨_, rfl⟩
  have h3 : Whole W0 g3 51 #[.int .u64 r1, .int .u64 r2] := by rw [hW0, hg3]; exact Whole.made _ _ _
  have F0 : Hid (Frm [] w W0) := by rw [hW0]; exact (Frm.refl _ _).alloc _
  have CEL : Hid (∀ w', Frm [] W0 w' → w'.cell? ⟨g3, 0, none⟩ = some (.int .u64 (r1 : Nat)) ∧ w'.cell? ⟨g3, 1, none⟩ = some (.int .u64 (r2 : Nat))) := fun w' hf => ⟨(hf.whole h3 (by simp)).cell 0, (hf.whole h3 (by simp)).cell 1⟩
  have H : Hid (∀ w', Frm [] W0 w' → SlIn w' ⟨a, cap, l⟩) := fun w' hf => (h.keep F0.out).keep hf
  have HN := Lib.hid hn
  have HW0 := Lib.hid hW0
  have HG3 := Lib.hid hg3
  have HB1 := Lib.hid hb1
  have HB2 := Lib.hid hb2
  clear h hn hW0 hg3 h3
  go_enter Try.func9, Try.ntmps9
  go_wp2_with fail
  rw [← HW0.out, ← HG3.out]
  refine (awake3_any W0).mono ?_
  rintro e w1 ⟨rfl, hf⟩
  have F1 := Lib.hid hf; clear hf
  go_wp2_with fail
  refine (rightL_any (H.out _ F1.out) HN.out).mono ?_
  rintro e w2 ⟨ax, m, cx, x, rfl, XM, XS, XR, _, hm, hf⟩
  have F2 : Hid (Frm [] W0 w2) := frm_tr F1.out hf.out
  clear hf F1
  have c0 := (CEL.out w2 F2.out).1
  have c1 := (CEL.out w2 F2.out).2
  have RM := Lib.hid (fun (W : World) (hf : Frm [] w2 W) => remove_any (r1 := r1) (r2 := r2) (XS.out.keep hf) XR.out XM.out (by omega) HB1.out HB2.out)
  have AD := Lib.hid (fun (W : World) (hf : Frm [] w2 W) => add_any (r1 := r1) (r2 := r2) (XS.out.keep hf) XR.out XM.out (by omega) HB1.out HB2.out)
  go_wp2
  go_region_held3 (fun w' => w'.cell? ⟨g3, 0, none⟩ = some (.int .u64 (r1 : Nat)) ∧ w'.cell? ⟨g3, 1, none⟩ = some (.int .u64 (r2 : Nat))) (first | go_keep | exact CEL.out _ (frm_tr F2.out T2.out) | exact CEL.out _ (frm_tr F2.out T1.out)) ((first
    | (go_at_call 32; (with_reducible refine (RM.out _ (Frm.drew1 w2)).mono ?_); rintro e u1 ⟨al, ml, cl, le, rfl, LM, LS, LR, LQ, hml, E1⟩; have T1 : Hid (Frm [] w2 u1) := frm_tr (Frm.drew1 w2) E1.out)
    | (go_at_call 31; (with_reducible refine (AD.out _ T1.out).mono ?_); rintro e u2 ⟨am, mm, cm, mo, rfl, MM, MS, MR, MQ, hmm, E2⟩; have T2 : Hid (Frm [] w2 u2) := frm_tr T1.out E2.out)))
  have D0 := (CEL.out u2 (frm_tr F2.out T2.out)).1
  have D1 := (CEL.out u2 (frm_tr F2.out T2.out)).2
  have LS2 : Hid (SlIn u2 ⟨al, cl, le⟩) := LS.out.keep E2.out
  have XS2 : Hid (SlIn u2 ⟨ax, cx, x⟩) := XS.out.keep T2.out
  have F3 : Hid (Frm [] W0 u2) := frm_tr F2.out T2.out
  clear E1 E2 T1 T2 LS XS RM AD c0 c1 F2
  by_cases hlt : r2 ≤ r1
  · have hi : (r2 : Int) ≤ (r1 : Int) := by omega
    have EL : Hid (le = x) := back0 LQ.out (fun z => ⟨fun h => h.1, fun h => ⟨h, by omega⟩⟩) LR.out XR.out
    have EM : Hid (mo = x) := back0 MQ.out (fun z => ⟨fun h => h.resolve_right (by omega), .inl⟩) MR.out XR.out
    clear hlt
    go_wp2_with fail
    refine (same_any LS2.out.1 XS2.out.1 LM.out XM.out (by omega) (by omega)).mono ?_
    rintro e w4 hbo
    obtain ⟨rfl, hf⟩ := hbo.yes EL.out
    have F4 : Hid (Frm [] u2 w4) := hf
    clear hf hbo
    go_wp2_with fail
    refine (same_any (MS.out.keep F4.out).1 (XS2.out.keep F4.out).1 MM.out XM.out (by omega) (by omega)).mono ?_
    rintro e w5 hbo
    obtain ⟨rfl, hf⟩ := hbo.yes EM.out
    have F5 : Hid (Frm [] w w5) := frm_tr F0.out (frm_tr F3.out (frm_tr F4.out hf))
    clear hf hbo
    go_wp2
    go_ret
    exact trueOf F5.out
  · have hi : ¬ (r2 : Int) ≤ (r1 : Int) := by omega
    obtain ⟨c1, hc1⟩ : ∃ c1, c1 = cnt mo := ⟨_, rfl⟩
    obtain ⟨c2, hc2⟩ : ∃ c2, c2 = cnt le := ⟨_, rfl⟩
    obtain ⟨d, hd⟩ : ∃ d, d = r2 - r1 := ⟨_, rfl⟩
    have hcc : c1 = c2 + d := by rw [hc1, hc2, hd]; exact back3 LQ.out MQ.out LR.out MR.out (by omega) LS2.out.1.1 MS.out.1.1 HB2.out
    have hcb : c1 ≤ 18446744073709551615 := by rw [hc1]; exact cnt_le MR.out (fun p hp => Nat.le_of_lt_succ (MS.out.1.1 p hp).2)
    have hwr : IntKind.u64.wrap ((r2 : Int) - (r1 : Int)) = (d : Int) := by simp [IntKind.wrap, IntKind.bits, IntKind.signed]; omega
    have hwr' : (r2 : Int) - (r1 : Int) = (d : Int) := by omega
    have hwc : IntKind.u64.wrap ((c1 : Int) - (c2 : Int)) = (d : Int) := by simp [IntKind.wrap, IntKind.bits, IntKind.signed]; omega
    have hwc' : (c1 : Int) - (c2 : Int) = (d : Int) := by omega
    have A1 := Lib.hid (fun (W : World) (hf : Frm [] u2 W) => add_any (r1 := r1) (r2 := r2) (LS2.out.keep hf) LR.out LM.out (by omega) HB1.out HB2.out)
    have A2 := Lib.hid (fun (W : World) (hf : Frm [] u2 W) => remove_any (r1 := r1) (r2 := r2) (MS.out.keep hf) MR.out MM.out (by omega) HB1.out HB2.out)
    have C1 := Lib.hid (fun (W : World) (hf : Frm [] u2 W) => count_any (cap := cm) (MS.out.keep hf).1 MR.out MM.out (by omega))
    have C2 := Lib.hid (fun (W : World) (hf : Frm [] u2 W) => count_any (cap := cl) (LS2.out.keep hf).1 LR.out LM.out (by omega))
    rw [← hc1] at C1
    rw [← hc2] at C2
    clear hlt hc1 hc2 hd hcc hcb
    go_wp2
    go_region_held3 (fun w' => w'.cell? ⟨g3, 0, none⟩ = some (.int .u64 (r1 : Nat)) ∧ w'.cell? ⟨g3, 1, none⟩ = some (.int .u64 (r2 : Nat))) (first | go_keep | exact CEL.out _ (frm_tr F3.out T6.out) | exact CEL.out _ (frm_tr F3.out T5.out) | exact CEL.out _ (frm_tr F3.out T4.out) | exact CEL.out _ (frm_tr F3.out T3.out) | exact CEL.out _ (frm_tr F3.out T2.out) | exact CEL.out _ (frm_tr F3.out T1.out)) ((first
      | (go_at_call 31; (with_reducible refine (A1.out _ (Frm.drew1 u2)).mono ?_); rintro e v1 ⟨ay, my, cy, y, rfl, YM, YS, YR, YQ, hmy, E1⟩; have T1 : Hid (Frm [] u2 v1) := frm_tr (Frm.drew1 u2) E1.out)
      | (go_at_call 33; (with_reducible refine (same_sl YS.out (MS.out.keep T1.out) YM.out MM.out (by omega) (by omega) (back1 LQ.out MQ.out YQ.out YR.out MR.out)).mono ?_); rintro e v2 ⟨rfl, E2⟩; have T2 : Hid (Frm [] u2 v2) := frm_tr T1.out E2; clear E2)
      | (go_at_call 32; (with_reducible refine (A2.out _ T2.out).mono ?_); rintro e v3 ⟨az, mz, cz, z, rfl, ZM, ZS, ZR, ZQ, hmz, E3⟩; have T3 : Hid (Frm [] u2 v3) := frm_tr T2.out E3.out)
      | (go_at_call 33; (with_reducible refine (same_sl ZS.out (LS2.out.keep T3.out) ZM.out LM.out (by omega) (by omega) (back2 LQ.out MQ.out ZQ.out ZR.out LR.out)).mono ?_); rintro e v4 ⟨rfl, E4⟩; have T4 : Hid (Frm [] u2 v4) := frm_tr T3.out E4; clear E4)
      | (go_at_call 27; (with_reducible refine (C1.out _ T4.out).mono ?_); rintro e v5 ⟨rfl, E5⟩; have T5 : Hid (Frm [] u2 v5) := frm_tr T4.out E5; clear E5)
      | (go_at_call 27; (with_reducible refine (C2.out _ T5.out).mono ?_); rintro e v6 ⟨rfl, E6⟩; have T6 : Hid (Frm [] u2 v6) := frm_tr T5.out E6; clear E6)))
    go_wp2
    go_ret
    exact trueOf (frm_tr F0.out (frm_tr F3.out T6.out))
end Go.Proofs.Ytolmpmihchjmlaa
