/- The walk of the law RangesAny. -/
import Derived.Test.YtolmpmihchjmlaaRgLaws2
import Derived.Lib.QuietBelow
import Derived.BigQuiet
namespace Go.Proofs.Ytolmpmihchjmlaa
open Go.RowKit

set_option maxHeartbeats 1000000 in
/-- The law's own 'in'. -/
theorem inq_any {w : World} {q1 q2 x g : Nat} (hc : w.cell? ⟨g, 0, none⟩ = some (.int .u64 (x : Nat))) :
    Calls Try.prog 36 #[.agg #[.int .u64 q1, .int .u64 q2], .pointer (some ⟨g, 0, none⟩)] w fun e w' => e = .returned (.bool (decide (q1 ≤ x ∧ x < q2))) ∧ Frm [] w w' := by
  have F : Hid (Frm [] w (w.alloc (.cells #[.int .u64 q1, .int .u64 q2] 51))) := (Frm.refl _ _).alloc _
  have h0 := F.out.cell (block_lt_of_cell hc) (by simp)
  rw [hc] at h0
  clear hc
  by_cases h : q1 ≤ x
  · have h1 : (q1 : Int) ≤ (x : Int) := by omega
    go_enter Try.func36, Try.ntmps36
    go_wp2
    go_ret
    exact ⟨ret_dec (by omega), F.out⟩
  · have h1 : ¬ (q1 : Int) ≤ (x : Int) := by omega
    rw [decide_eq_false (fun hh => h hh.1)]
    go_enter Try.func36, Try.ntmps36
    go_wp2
    go_ret
    exact ⟨rfl, F.out⟩

theorem any1 {x y z o : List Rg} {P Q : Nat → Prop} (h1 : ∀ k, Mem y k ↔ Mem x k ∨ P k) (h2 : ∀ k, Mem o k ↔ Mem y k ∨ Q k) {t : List Rg} (h3 : ∀ k, Mem z k ↔ Mem x k ∨ Q k) (h4 : ∀ k, Mem t k ↔ Mem z k ∨ P k) (ho : Rt o) (ht : Rt t) : o = t :=
  rt_uniq ho ht (fun k => by rw [h2 k, h1 k, h4 k, h3 k]; by_cases a : P k <;> by_cases b : Q k <;> simp [a, b])
theorem check_sl {w : World} {a : Option Addr} {l : List Rg} {n cap : Nat} (h : SlIn w ⟨a, cap, l⟩) (hr : Rt l) (hn : n = l.length) (hsz : n ≤ 1000) :
    Calls Try.prog 23 #[.slice a n cap] w (fun e w' => e = .returned (.bool true) ∧ Frm [] w w') :=
  (check_any h.1 hn (by omega)).mono fun _ _ hb => hb.yes (RtI.of hr)
theorem has_sl {w : World} {a : Option Addr} {l : List Rg} {n cap x : Nat} {b : Bool} (h : SlIn w ⟨a, cap, l⟩) (hr : Rt l) (hn : n = l.length) (hsz : n ≤ 1000) (hb : b = true ↔ Mem l x) :
    Calls Try.prog 25 #[.slice a n cap, .int .u64 x] w (fun e w' => e = .returned (.bool b) ∧ Frm [] w w') :=
  (has_any (x := x) h.1 hr hn (by omega)).mono fun _ _ hq => by
    cases b with
    | true => exact hq.yes (hb.1 rfl)
    | false => exact hq.no (fun hm => by have := hb.2 hm; cases this)

open Go.Sort in
theorem quietly {u : World} {f : FuncId} {args : Array Value} {v : Value} (h : ∀ W, Frm [] u W → Calls Try.prog f args W (fun e w' => e = .returned v ∧ Frm [] W w')) (d : Nat) (os : Array Obj) :
    Calls Try.prog f args (grow (redrawn u d) os) fun e w'' => e = .returned v ∧ ∃ p : Regrown, w'' = grow (redrawn u p.d) p.os :=
  Calls.regrown_of ((h _ (Frm.ofBelow (below_regrown u d os))).mono fun _ _ hh => ⟨hh.1, hh.2.below (by simp) (Nat.le_refl _)⟩)

set_option maxRecDepth 100000 in
set_option maxHeartbeats 16000000 in
theorem rangesAny_walk (a : Option Addr) (n cap : Nat) (l : List Rg) (r1 r2 s1 s2 k : Nat) (w : World) (h : SlIn w ⟨a, cap, l⟩) (hn : n = l.length) (hb1 : r1 < 18446744073709551616) (hb2 : r2 < 18446744073709551616) (hb3 : s1 < 18446744073709551616) (hb4 : s2 < 18446744073709551616) (_hb5 : k < 18446744073709551616) :
    Calls Try.prog 7 #[.slice a n cap, .agg #[.int .u64 r1, .int .u64 r2], .agg #[.int .u64 s1, .int .u64 s2], .int .u64 k] w (TrueOf w) := by
  have hmf : ∀ (fn : Fn) (first cap : Array Value) (w : World), (Instr.makeFunc fn first cap).run Try.prog w = .ok (.func fn first cap) w := fun _ _ _ _ => rfl
  obtain ⟨g5, hg5⟩ : ∃ g5, g5 = w.heap.size := ⟨_, rfl⟩
  obtain ⟨g6, hg6⟩ : ∃ g6, g6 = w.heap.size + 1 := ⟨_, rfl⟩
  obtain ⟨g7, hg7⟩ : ∃ g7, g7 = w.heap.size + 1 + 1 := ⟨_, rfl⟩
  obtain ⟨W0, hW0⟩ : ∃ W0, W0 = ((w.alloc (.cells #[.int .u64 r1, .int .u64 r2] 51)).alloc (.cells #[.int .u64 s1, .int .u64 s2] 51)).alloc (.cells #[.int .u64 k] 33) := ⟨_, rfl⟩
  have h5 : Whole W0 g5 51 #[.int .u64 r1, .int .u64 r2] := by rw [hW0, hg5]; exact ((Whole.made w _ _).alloc _).alloc _
  have h6 : Whole W0 g6 51 #[.int .u64 s1, .int .u64 s2] := by
    rw [hW0, hg6]
    have := (Whole.made (w.alloc (.cells #[.int .u64 r1, .int .u64 r2] 51)) 51 #[.int .u64 s1, .int .u64 s2]).alloc (.cells #[.int .u64 k] 33)
    simpa using this
  have h7 : Whole W0 g7 33 #[.int .u64 k] := by
    rw [hW0, hg7]
    have := Whole.made ((w.alloc (.cells #[.int .u64 r1, .int .u64 r2] 51)).alloc (.cells #[.int .u64 s1, .int .u64 s2] 51)) 33 #[.int .u64 k]
    simpa using this
  have F0 : Hid (Frm [] w W0) := by rw [hW0]; exact (((Frm.refl _ _).alloc _).alloc _).alloc _
  have CEL : Hid (∀ w', Frm [] W0 w' → w'.cell? ⟨g5, 0, none⟩ = some (.int .u64 (r1 : Nat)) ∧ w'.cell? ⟨g5, 1, none⟩ = some (.int .u64 (r2 : Nat)) ∧ w'.cell? ⟨g6, 0, none⟩ = some (.int .u64 (s1 : Nat)) ∧ w'.cell? ⟨g6, 1, none⟩ = some (.int .u64 (s2 : Nat)) ∧ w'.cell? ⟨g7, 0, none⟩ = some (.int .u64 (k : Nat))) :=
    fun w' hf => ⟨(hf.whole h5 (by simp)).cell 0, (hf.whole h5 (by simp)).cell 1, (hf.whole h6 (by simp)).cell 0, (hf.whole h6 (by simp)).cell 1, (hf.whole h7 (by simp)).cell 0⟩
  have H : Hid (∀ w', Frm [] W0 w' → SlIn w' ⟨a, cap, l⟩) := fun w' hf => (h.keep F0.out).keep hf
  have HN := Lib.hid hn
  have HW0 := Lib.hid hW0
  have HG5 := Lib.hid hg5
  have HG6 := Lib.hid hg6
  have HG7 := Lib.hid hg7
  have HB1 := Lib.hid hb1
  have HB2 := Lib.hid hb2
  have HB3 := Lib.hid hb3
  have HB4 := Lib.hid hb4
  clear h hn hW0 hg5 hg6 hg7 h5 h6 h7 hb1 hb2 hb3 hb4
  go_enter Try.func7, Try.ntmps7
  go_wp2_with fail
  rw [← HW0.out, ← HG7.out, ← HG6.out, ← HG5.out]
  refine (awake3_any W0).mono ?_
  rintro e w1 ⟨rfl, hf⟩
  have F1 := Lib.hid hf; clear hf
  go_wp2_with fail
  refine (rightL_any (H.out _ F1.out) HN.out).mono ?_
  rintro e w2 ⟨ax, m, cx, x, rfl, XM, XS, XR, _, hm, hf⟩
  have F2 : Hid (Frm [] W0 w2) := frm_tr F1.out hf.out
  clear hf F1
  have c0 := CEL.out w2 F2.out
  have AX1 := Lib.hid (fun (W : World) (hf : Frm [] w2 W) => add_any (r1 := r1) (r2 := r2) (XS.out.keep hf) XR.out XM.out (by omega) HB1.out HB2.out)
  have AX2 := Lib.hid (fun (W : World) (hf : Frm [] w2 W) => add_any (r1 := s1) (r2 := s2) (XS.out.keep hf) XR.out XM.out (by omega) HB3.out HB4.out)
  go_wp2
  go_region_held3 (fun w' => w'.cell? ⟨g5, 0, none⟩ = some (.int .u64 (r1 : Nat)) ∧ w'.cell? ⟨g5, 1, none⟩ = some (.int .u64 (r2 : Nat)) ∧ w'.cell? ⟨g6, 0, none⟩ = some (.int .u64 (s1 : Nat)) ∧ w'.cell? ⟨g6, 1, none⟩ = some (.int .u64 (s2 : Nat)) ∧ w'.cell? ⟨g7, 0, none⟩ = some (.int .u64 (k : Nat))) (first | go_keep | with_reducible exact CEL.out _ (frm_tr F2.out T4.out) | with_reducible exact CEL.out _ (frm_tr F2.out T3.out) | with_reducible exact CEL.out _ (frm_tr F2.out T2.out) | with_reducible exact CEL.out _ (frm_tr F2.out T1.out)) ((first
    | (go_at_call 31; (with_reducible refine (AX1.out _ (Frm.drew1 w2)).mono ?_); rintro e u1 ⟨ay, my, cy, y, rfl, YM, YS, YR, YQ, hmy, E1⟩; have T1 : Hid (Frm [] w2 u1) := frm_tr (Frm.drew1 w2) E1.out)
    | (go_at_call 31; (with_reducible refine (add_any (r1 := s1) (r2 := s2) YS.out YR.out YM.out (by omega) HB3.out HB4.out).mono ?_); rintro e u2 ⟨ao, mo, co, o, rfl, OM, OS, OR, OQ, hmo, E2⟩; have T2 : Hid (Frm [] w2 u2) := frm_tr T1.out E2.out)
    | (go_at_call 31; (with_reducible refine (AX2.out _ T2.out).mono ?_); rintro e u3 ⟨az, mz, cz, z, rfl, ZM, ZS, ZR, ZQ, hmz, E3⟩; have T3 : Hid (Frm [] w2 u3) := frm_tr T2.out E3.out)
    | (go_at_call 31; (with_reducible refine (add_any (r1 := r1) (r2 := r2) ZS.out ZR.out ZM.out (by omega) HB1.out HB2.out).mono ?_); rintro e u4 ⟨at', mt, ct, t, rfl, TM, TS, TR, TQ, hmt, E4⟩; have T4 : Hid (Frm [] w2 u4) := frm_tr T3.out E4.out)))
  have EQ : Hid (o = t) := any1 YQ.out OQ.out ZQ.out TQ.out OR.out TR.out
  have OS4 : Hid (SlIn u4 ⟨ao, co, o⟩) := (OS.out.keep E3.out).keep E4.out
  have XS4 : Hid (SlIn u4 ⟨ax, cx, x⟩) := XS.out.keep T4.out
  have F4 : Hid (Frm [] W0 u4) := frm_tr F2.out T4.out
  have OQ' : Hid (∀ q, Mem o q ↔ (Mem x q ∨ (r1 ≤ q ∧ q < r2)) ∨ (s1 ≤ q ∧ q < s2)) := fun q => by rw [OQ.out q, YQ.out q]
  have c4 := CEL.out u4 F4.out
  clear E1 E2 E3 E4 T1 T2 T3 T4 OS XS F2 c0 AX1 AX2 YQ OQ ZQ TQ YS ZS YM ZM YR ZR
  obtain ⟨_, _, c4, c5, _⟩ := c4
  go_wp2_with fail
  refine (remove_any (r1 := s1) (r2 := s2) OS4.out OR.out OM.out (by omega) HB3.out HB4.out).mono ?_
  rintro e u5 ⟨al, ml, cl, le, rfl, LM, LS, LR, LQ, hml, E5⟩
  have OS5 : Hid (SlIn u5 ⟨ao, co, o⟩) := OS4.out.keep E5.out
  have TS5 : Hid (SlIn u5 ⟨at', ct, t⟩) := TS.out.keep E5.out
  have XS5 : Hid (SlIn u5 ⟨ax, cx, x⟩) := XS4.out.keep E5.out
  have F5 : Hid (Frm [] W0 u5) := frm_tr F4.out E5.out
  clear OS4 TS XS4 F4 E5 c4 c5
  obtain ⟨bx, hbx⟩ : ∃ b : Bool, (b = true ↔ Mem x k) := ⟨decide (Mem x k), decide_eq_true_iff⟩
  obtain ⟨br, hbr⟩ : ∃ b : Bool, b = decide (r1 ≤ k ∧ k < r2) := ⟨_, rfl⟩
  obtain ⟨bs, hbs⟩ : ∃ b : Bool, b = decide (s1 ≤ k ∧ k < s2) := ⟨_, rfl⟩
  have hbo : (bx || br || bs) = true ↔ Mem o k := by
    rw [OQ'.out k, hbr, hbs, Bool.or_eq_true, Bool.or_eq_true, hbx, decide_eq_true_iff, decide_eq_true_iff]
  have hbl : ((bx || br || bs) && !bs) = true ↔ Mem le k := by
    rw [LQ.out k, Bool.and_eq_true, hbo, hbs, Bool.not_eq_true', decide_eq_false_iff_not]
  have SAME := Lib.hid (fun (W : World) (hf : Frm [] u5 W) => same_sl (OS5.out.keep hf) (TS5.out.keep hf) OM.out TM.out (by omega) (by omega) EQ.out)
  have CH1 := Lib.hid (fun (W : World) (hf : Frm [] u5 W) => check_sl (OS5.out.keep hf) OR.out OM.out (by omega))
  have CH2 := Lib.hid (fun (W : World) (hf : Frm [] u5 W) => check_sl (LS.out.keep hf) LR.out LM.out (by omega))
  have HO := Lib.hid (fun (W : World) (hf : Frm [] u5 W) => has_sl (OS5.out.keep hf) OR.out OM.out (by omega) hbo)
  have HX := Lib.hid (fun (W : World) (hf : Frm [] u5 W) => has_sl (XS5.out.keep hf) XR.out XM.out (by omega) hbx)
  have HL := Lib.hid (fun (W : World) (hf : Frm [] u5 W) => has_sl (LS.out.keep hf) LR.out LM.out (by omega) hbl)
  have INR := Lib.hid (fun (W : World) (hf : Frm [] u5 W) => inq_any (q1 := r1) (q2 := r2) (CEL.out W (frm_tr F5.out hf)).2.2.2.2)
  have INS := Lib.hid (fun (W : World) (hf : Frm [] u5 W) => inq_any (q1 := s1) (q2 := s2) (CEL.out W (frm_tr F5.out hf)).2.2.2.2)
  rw [← hbr] at INR
  rw [← hbs] at INS
  obtain ⟨c0, c1, c2, c3, c4⟩ := CEL.out u5 F5.out
  have k0 := cell_regrown c0
  have k1 := cell_regrown c1
  have k2 := cell_regrown c2
  have k3 := cell_regrown c3
  have k4 := cell_regrown c4
  have SAME := Lib.hid (quietly SAME.out)
  have CH1 := Lib.hid (quietly CH1.out)
  have CH2 := Lib.hid (quietly CH2.out)
  have HO := Lib.hid (quietly HO.out)
  have HX := Lib.hid (quietly HX.out)
  have HL := Lib.hid (quietly HL.out)
  have INR := Lib.hid (quietly INR.out)
  have INS := Lib.hid (quietly INS.out)
  clear hbx hbr hbs hbo hbl OS5 TS5 XS5 LS OM TM XM LM OR TR XR LR OQ' LQ EQ H HN c0 c1 c2 c3 c4 CEL
  go_wp2
  cases bx <;> cases br <;> cases bs <;> simp only [Bool.or_true, Bool.or_false, Bool.and_true, Bool.and_false, Bool.not_true, Bool.not_false] at HO HL
  all_goals
    refine wp_region_quiet_below (by kernel_rfl) (by kernel_rfl) ?_
    repeat (go_big_quiet_step (first | with_reducible exact SAME.out _ _ | with_reducible exact CH1.out _ _ | with_reducible exact CH2.out _ _ | with_reducible exact HO.out _ _ | with_reducible exact HX.out _ _ | with_reducible exact HL.out _ _ | with_reducible exact INR.out _ _ | with_reducible exact INS.out _ _))
    refine wpQuiet_nil ?_
    intro _ hw'
    obtain ⟨⟨dq, osq⟩, hw''⟩ := hw'
    subst hw''
    go_wp2
    go_ret
    exact trueOf (frm_tr F0.out (frm_tr F5.out (Frm.ofBelow (below_regrown _ _ _))))
end Go.Proofs.Ytolmpmihchjmlaa
