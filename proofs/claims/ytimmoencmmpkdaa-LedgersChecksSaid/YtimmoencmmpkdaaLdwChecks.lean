/- The walk of LedgersChecks. -/
import Derived.Test.YtimmoencmmpkdaaLdwBetween
import Derived.Test.YtimmoencmmpkdaaLdSame
import Derived.Test.YtimmoencmmpkdaaLdMath3
import Derived.Test.YtimmoencmmpkdaaLdMade
import Derived.Deep.DeepCutAuto
namespace Go.Proofs.Ytimmoencmmpkdaa
open Go.RowKit
set_option maxRecDepth 100000

set_option maxHeartbeats 16000000 in
theorem ledgersChecks_walk (a0 : Option Addr) (n0 cap0 : Nat) (R : List Ld) (ac : Option Addr) (n capc : Nat) (cs : List Nat) (op : Bool) (id ct : Nat) (w : World) (h0 : LdL w [] a0 R ∧ R.length ≤ cap0 ∧ (a0 = none → cap0 = 0)) (hn0 : n0 = R.length) (hsz : n0 ≤ 9223372036854775807)
    (hn : n = cs.length) (hb : Bytes w ac cs) (_hc1 : n ≤ capc) (_hc2 : ac = none → capc = 0) (hid : id < 18446744073709551616) (hct : ct < 18446744073709551616) :
    Calls Try.prog 3 #[.slice a0 n0 cap0, .slice ac n capc, .bool op, .int .u64 (id : Nat), .int .u64 (ct : Nat)] w (LTrue w) := by
  have AW := Lib.hid (fun z => awake13_any z)
  have CK := Lib.hid (fun z (hz : Frm [] w z) => ldcheck_any a0 n0 cap0 R z (h0.1.sub hz) hn0 hsz)
  have RK := Lib.hid (fun z (hz : Frm [] w z) => rlright_any a0 n0 cap0 R z (h0.1.sub hz) hn0 hsz)
  have MD := Lib.hid (fun z (hz : Frm [] w z) => made_any ac n capc cs op z hn (hz.bytes hb (by simp)))
  clear h0 hn0 hn hb _hc1 _hc2
  unfold LRet at AW
  go_enter Try.func3, Try.ntmps3
  go_wp2_with fail
  (with_reducible refine (AW.out _).mono ?_)
  rintro e w1 ⟨rfl, hf1⟩
  have F1 := Lib.hid hf1; clear hf1 AW
  by_cases h200 : 200 < n0
  · have d1 : decide (200 < n0) = true := decide_eq_true h200
    have d1' : decide ((200 : Int) < (n0 : Int)) = true := decide_eq_true (by omega)
    go_wp2
    go_ret
    exact lTrue F1.out
  have d1 : decide (200 < n0) = false := decide_eq_false h200
  have d1' : decide ((200 : Int) < (n0 : Int)) = false := decide_eq_false (by omega)
  go_wp2_with fail
  (with_reducible refine (CK.out _ F1.out).mono ?_)
  rintro e w2 ⟨b, rfl, hb1, hf2⟩
  have F2 : Hid (Frm [] w w2) := Lib.hid (F1.out.trans hf2 (by simp) (by simp))
  clear hf2
  go_wp2_with fail
  (with_reducible refine (RK.out _ F2.out).mono ?_)
  rintro e w3 ⟨b', rfl, hb2, hf3⟩
  have F3 : Hid (Frm [] w w3) := Lib.hid (F2.out.trans hf3 (by simp) (by simp))
  obtain rfl : b = b' := by rw [Bool.eq_iff_iff, hb1, hb2]
  have hbb : (b != b) = false := by simp
  clear hf3 hb1 hb2 CK RK
  go_wp2_with fail
  (with_reducible refine (MD.out _ F3.out).mono ?_)
  rintro e w5 ⟨a, k, cap, X, rfl, hk, hk13, _, ho, hf5⟩
  have FW5 : Hid (Frm [] w w5) := Lib.hid (F3.out.trans hf5 (by simp) (by simp))
  have O5 : Hid (LdOwn w5 w.heap.size 32 [] a cap X) := Lib.hid (ldown_base ho F3.out.size)
  clear hf5 ho hbb MD d1 d1' h200
  have HK := Lib.hid hk
  have OPX : Hid (∀ z, Frm [] w5 z → Calls Try.prog 13 #[.slice a k cap, .int .u64 (id : Nat)] z (LdTo z (openC X id) (X ++ [⟨id, false, 0⟩]))) := Lib.hid (fun z hz => by
    have hcp := O5.out.caps
    exact ldopen_any a k cap X id z (O5.out.sl.sub hz) (by rw [hk]; exact hcp.1) (by have := hcp.2.1; unfold maxLen at this; omega) hcp.2.2 hk (by omega) hid (by omega))
  have CLX : Hid (∀ z, Frm [] w5 z → Calls Try.prog 14 #[.slice a k cap, .int .u64 (ct : Nat)] z (LdTo z (closeC9 X ct) (closeL9 X ct))) := Lib.hid (fun z hz => ldclose_any a k cap X ct z (O5.out.sl.sub hz) hk (by omega))
  unfold openC at OPX
  unfold closeC9 at CLX
  rw [← hk] at OPX CLX
  have OPR : Hid (∀ ce : Nat, ce ≠ 0 → (if (decide (0 < k) && !(lastL X).cl) = true then 23 else if id ≤ (lastL X).id then 30 else if 64 ≤ k then 14 else 0) = ce → ∀ z, Frm [] w5 z → Calls Try.prog 13 #[.slice a k cap, .int .u64 (id : Nat)] z (fun e w' => e = .returned (.tuple #[.slice none 0 0, .int .i64 (ce : Nat)]) ∧ Frm [] z w')) := Lib.hid (fun ce h1 h2 z hz => (OPX.out z hz).mono fun e w' hh => by rw [h2] at hh; exact hh.refused h1)
  have CLR : Hid (∀ ce : Nat, ce ≠ 0 → (if (decide (0 < k) && !(lastL X).cl) = true then if 1048576 < ct then 14 else 0 else 23) = ce → ∀ z, Frm [] w5 z → Calls Try.prog 14 #[.slice a k cap, .int .u64 (ct : Nat)] z (fun e w' => e = .returned (.tuple #[.slice none 0 0, .int .i64 (ce : Nat)]) ∧ Frm [] z w')) := Lib.hid (fun ce h1 h2 z hz => (CLX.out z hz).mono fun e w' hh => by rw [h2] at hh; exact hh.refused h1)
  have OPO : Hid ((decide (0 < k) && !(lastL X).cl) = false → ¬ id ≤ (lastL X).id → ∀ z, Frm [] w5 z → Calls Try.prog 13 #[.slice a k cap, .int .u64 (id : Nat)] z (LdDone z (k + 1) (X ++ [⟨id, false, 0⟩]))) := Lib.hid (fun h1 h2 z hz => (OPX.out z hz).mono fun e w' hh => by
    rw [h1, if_neg (by simp), if_neg h2, if_neg (by omega)] at hh
    exact hh.done (by rw [List.length_append, ← hk]; rfl))
  have CLO : Hid ((decide (0 < k) && !(lastL X).cl) = true → ¬ 1048576 < ct → ∀ z, Frm [] w5 z → Calls Try.prog 14 #[.slice a k cap, .int .u64 (ct : Nat)] z (LdDone z k (closeL9 X ct))) := Lib.hid (fun h1 h2 z hz => (CLX.out z hz).mono fun e w' hh => by
    rw [if_pos h1, if_neg h2] at hh
    exact hh.done (by rw [closeL9_length]; exact hk))
  have HID := Lib.hid hid
  have HCT := Lib.hid hct
  have K13 := Lib.hid hk13
  clear OPX CLX hk hct
  rcases Nat.eq_zero_or_pos k with hk0 | hk0
  · -- none
    have hX : X = [] := List.eq_nil_of_length_eq_zero (by have := HK.out; omega)
    have hl0 : (lastL X).id = 0 := by rw [hX]; rfl
    have hb0 : (decide (0 < k) && !(lastL X).cl) = false := by rw [hk0]; rfl
    have CL := Lib.hid (CLR.out 23 (by decide) (by rw [hb0, if_neg (by simp)]))
    have dk : ((k : Int) == 0) = true := by rw [beq_iff_eq]; omega
    have dk' : decide ((0 : Int) < (k : Int)) = false := decide_eq_false (by omega)
    have dk2 : decide (0 < k) = false := decide_eq_false (by omega)
    by_cases hi0 : id = 0
    · have OP := Lib.hid (OPR.out 30 (by decide) (by rw [hb0, if_neg (by simp), if_pos (by omega)]))
      have di : ((id : Int) == 0) = true := by rw [beq_iff_eq]; omega
      clear OPR CLR OPO CLO hi0 hk0 hX hl0 hb0 hid hk13
      go_wp2_with fail
      (with_reducible refine (OP.out _ (Frm.refl _ _)).mono ?_)
      rintro e w6 ⟨rfl, hf6⟩
      have F6 : Hid (Frm [] w5 w6) := Lib.hid hf6
      clear hf6
      go_wp2_with fail
      (with_reducible refine (CL.out _ F6.out).mono ?_)
      rintro e w7 ⟨rfl, hf7⟩
      have F7 : Hid (Frm [] w5 w7) := Lib.hid (F6.out.trans hf7 (by simp) (by simp))
      clear hf7
      go_wp2
      refine wp_region_held_drew (S := fun w' => Frm [] w7 w') (by kernel_rfl) (Frm.drew (Frm.refl _ _)) (fun hHeld => ?_)
      refine wpAnyH_take (i := 0) (oi := ⟨some 134, _, _, _, _, _⟩) (v := ?_) rfl (by kernel_rfl) (by kernel_rfl) (by kernel_rfl) (fun _ _ _ h => h) (Or.inl ⟨by rfl, ?_⟩) (by assumption) ?_
      rotate_left 1
      · (intro w hSw; (try dsimp only at hSw); go_simp; all_goals with_reducible rfl)
      try simp only [Act.put, List.setIfInBounds_toArray, List.set_cons_zero, List.set_cons_succ]
      refine wpAnyH_take (i := 1) (oi := ⟨some 135, _, _, _, _, _⟩) (v := ?_) rfl (by kernel_rfl) (by kernel_rfl) (by kernel_rfl) (fun _ _ _ h => h) (Or.inl ⟨by rfl, ?_⟩) (by assumption) ?_
      rotate_left 1
      · (intro w hSw; (try dsimp only at hSw); go_simp; all_goals with_reducible rfl)
      try simp only [Act.put, List.setIfInBounds_toArray, List.set_cons_zero, List.set_cons_succ]
      refine wpAnyH_take (i := 2) (oi := ⟨some 136, _, _, _, _, _⟩) (v := ?_) rfl (by kernel_rfl) (by kernel_rfl) (by kernel_rfl) (fun _ _ _ h => h) (Or.inl ⟨by rfl, ?_⟩) (by assumption) ?_
      rotate_left 1
      · (intro w hSw; (try dsimp only at hSw); go_simp; all_goals with_reducible rfl)
      try simp only [Act.put, List.setIfInBounds_toArray, List.set_cons_zero, List.set_cons_succ]
      refine wpAnyH_take (i := 3) (oi := ⟨some 137, _, _, _, _, _⟩) (v := undef) rfl (by kernel_rfl) (by kernel_rfl) (by kernel_rfl) (fun _ _ _ h => h) (Or.inr ⟨by rfl, rfl⟩) (by assumption) ?_
      try simp only [Act.put, List.setIfInBounds_toArray, List.set_cons_zero, List.set_cons_succ]
      refine wpAnyH_take (i := 4) (oi := ⟨some 138, _, _, _, _, _⟩) (v := undef) rfl (by kernel_rfl) (by kernel_rfl) (by kernel_rfl) (fun _ _ _ h => h) (Or.inr ⟨by rfl, rfl⟩) (by assumption) ?_
      try simp only [Act.put, List.setIfInBounds_toArray, List.set_cons_zero, List.set_cons_succ]
      refine wpAnyH_take (i := 5) (oi := ⟨some 139, _, _, _, _, _⟩) (v := undef) rfl (by kernel_rfl) (by kernel_rfl) (by kernel_rfl) (fun _ _ _ h => h) (Or.inr ⟨by rfl, rfl⟩) (by assumption) ?_
      try simp only [Act.put, List.setIfInBounds_toArray, List.set_cons_zero, List.set_cons_succ]
      refine wpAnyH_take (i := 6) (oi := ⟨some 140, _, _, _, _, _⟩) (v := undef) rfl (by kernel_rfl) (by kernel_rfl) (by kernel_rfl) (fun _ _ _ h => h) (Or.inr ⟨by rfl, rfl⟩) (by assumption) ?_
      try simp only [Act.put, List.setIfInBounds_toArray, List.set_cons_zero, List.set_cons_succ]
      refine wpAnyH_take (i := 7) (oi := ⟨some 141, _, _, _, _, _⟩) (v := undef) rfl (by kernel_rfl) (by kernel_rfl) (by kernel_rfl) (fun _ _ _ h => h) (Or.inr ⟨by rfl, rfl⟩) (by assumption) ?_
      try simp only [Act.put, List.setIfInBounds_toArray, List.set_cons_zero, List.set_cons_succ]
      refine wpAnyH_take (i := 8) (oi := ⟨some 142, _, _, _, _, _⟩) (v := undef) rfl (by kernel_rfl) (by kernel_rfl) (by kernel_rfl) (fun _ _ _ h => h) (Or.inr ⟨by rfl, rfl⟩) (by assumption) ?_
      try simp only [Act.put, List.setIfInBounds_toArray, List.set_cons_zero, List.set_cons_succ]
      refine wpAnyH_take (i := 9) (oi := ⟨some 143, _, _, _, _, _⟩) (v := undef) rfl (by kernel_rfl) (by kernel_rfl) (by kernel_rfl) (fun _ _ _ h => h) (Or.inr ⟨by rfl, rfl⟩) (by assumption) ?_
      try simp only [Act.put, List.setIfInBounds_toArray, List.set_cons_zero, List.set_cons_succ]
      refine wpAnyH_take (i := 10) (oi := ⟨some 144, _, _, _, _, _⟩) (v := undef) rfl (by kernel_rfl) (by kernel_rfl) (by kernel_rfl) (fun _ _ _ h => h) (Or.inr ⟨by rfl, rfl⟩) (by assumption) ?_
      try simp only [Act.put, List.setIfInBounds_toArray, List.set_cons_zero, List.set_cons_succ]
      refine wpAnyH_take (i := 11) (oi := ⟨some 145, _, _, _, _, _⟩) (v := undef) rfl (by kernel_rfl) (by kernel_rfl) (by kernel_rfl) (fun _ _ _ h => h) (Or.inr ⟨by rfl, rfl⟩) (by assumption) ?_
      try simp only [Act.put, List.setIfInBounds_toArray, List.set_cons_zero, List.set_cons_succ]
      refine wpAnyH_take (i := 12) (oi := ⟨some 146, _, _, _, _, _⟩) (v := undef) rfl (by kernel_rfl) (by kernel_rfl) (by kernel_rfl) (fun _ _ _ h => h) (Or.inr ⟨by rfl, rfl⟩) (by assumption) ?_
      try simp only [Act.put, List.setIfInBounds_toArray, List.set_cons_zero, List.set_cons_succ]
      refine wpAnyH_take (i := 13) (oi := ⟨some 147, _, _, _, _, _⟩) (v := undef) rfl (by kernel_rfl) (by kernel_rfl) (by kernel_rfl) (fun _ _ _ h => h) (Or.inr ⟨by rfl, rfl⟩) (by assumption) ?_
      try simp only [Act.put, List.setIfInBounds_toArray, List.set_cons_zero, List.set_cons_succ]
      refine wpAnyH_take (i := 14) (oi := ⟨some 148, _, _, _, _, _⟩) (v := undef) rfl (by kernel_rfl) (by kernel_rfl) (by kernel_rfl) (fun _ _ _ h => h) (Or.inr ⟨by rfl, rfl⟩) (by assumption) ?_
      try simp only [Act.put, List.setIfInBounds_toArray, List.set_cons_zero, List.set_cons_succ]
      refine wpAnyH_take (i := 15) (oi := ⟨some 149, _, _, _, _, _⟩) (v := undef) rfl (by kernel_rfl) (by kernel_rfl) (by kernel_rfl) (fun _ _ _ h => h) (Or.inr ⟨by rfl, rfl⟩) (by assumption) ?_
      try simp only [Act.put, List.setIfInBounds_toArray, List.set_cons_zero, List.set_cons_succ]
      refine wpAnyH_take (i := 16) (oi := ⟨some 150, _, _, _, _, _⟩) (v := undef) rfl (by kernel_rfl) (by kernel_rfl) (by kernel_rfl) (fun _ _ _ h => h) (Or.inr ⟨by rfl, rfl⟩) (by assumption) ?_
      try simp only [Act.put, List.setIfInBounds_toArray, List.set_cons_zero, List.set_cons_succ]
      refine wpAnyH_take (i := 17) (oi := ⟨some 151, _, _, _, _, _⟩) (v := undef) rfl (by kernel_rfl) (by kernel_rfl) (by kernel_rfl) (fun _ _ _ h => h) (Or.inr ⟨by rfl, rfl⟩) (by assumption) ?_
      try simp only [Act.put, List.setIfInBounds_toArray, List.set_cons_zero, List.set_cons_succ]
      refine wpAnyH_take (i := 18) (oi := ⟨some 152, _, _, _, _, _⟩) (v := undef) rfl (by kernel_rfl) (by kernel_rfl) (by kernel_rfl) (fun _ _ _ h => h) (Or.inr ⟨by rfl, rfl⟩) (by assumption) ?_
      try simp only [Act.put, List.setIfInBounds_toArray, List.set_cons_zero, List.set_cons_succ]
      refine wpAnyH_take (i := 19) (oi := ⟨some 153, _, _, _, _, _⟩) (v := undef) rfl (by kernel_rfl) (by kernel_rfl) (by kernel_rfl) (fun _ _ _ h => h) (Or.inr ⟨by rfl, rfl⟩) (by assumption) ?_
      try simp only [Act.put, List.setIfInBounds_toArray, List.set_cons_zero, List.set_cons_succ]
      refine wpAnyH_take (i := 20) (oi := ⟨some 154, _, _, _, _, _⟩) (v := undef) rfl (by kernel_rfl) (by kernel_rfl) (by kernel_rfl) (fun _ _ _ h => h) (Or.inr ⟨by rfl, rfl⟩) (by assumption) ?_
      try simp only [Act.put, List.setIfInBounds_toArray, List.set_cons_zero, List.set_cons_succ]
      refine wpAnyH_take (i := 21) (oi := ⟨some 155, _, _, _, _, _⟩) (v := ?_) rfl (by kernel_rfl) (by kernel_rfl) (by kernel_rfl) (fun _ _ _ h => h) (Or.inl ⟨by rfl, ?_⟩) (by assumption) ?_
      rotate_left 1
      · (intro w hSw; (try dsimp only at hSw); go_simp; all_goals with_reducible rfl)
      try simp only [Act.put, List.setIfInBounds_toArray, List.set_cons_zero, List.set_cons_succ]
      refine wpAnyH_take (i := 22) (oi := ⟨some 10, _, _, _, _, _⟩) (v := ?_) rfl (by kernel_rfl) (by kernel_rfl) (by kernel_rfl) (fun _ _ _ h => h) (Or.inl ⟨by rfl, ?_⟩) (by assumption) ?_
      rotate_left 1
      · (intro w hSw; (try dsimp only at hSw); go_simp; all_goals with_reducible rfl)
      try simp only [Act.put, List.setIfInBounds_toArray, List.set_cons_zero, List.set_cons_succ]
      refine wpAnyH_done (by kernel_rfl) ?_ _
      have FX : Hid (Frm [] w _) := Lib.hid ((FW5.out.trans F7.out (U := []) (by simp) (by simp)).trans hHeld (by simp) (by simp))
      go_wp2
      go_ret
      exact lTrue FX.out
    · have OP := Lib.hid (OPO.out hb0 (by omega))
      have di : ((id : Int) == 0) = false := by rw [beq_eq_false_iff_ne]; omega
      clear OPR CLR OPO CLO hi0 hk0 hX hl0 hb0
      go_wp2_with fail
      (with_reducible refine (OP.out _ (Frm.refl _ _)).mono ?_)
      rintro e w6 ⟨a6, c6, rfl, ho6, hf6⟩
      have F6 : Hid (Frm [] w5 w6) := Lib.hid hf6
      have L6 : Hid (LdL w6 [] a6 (X ++ [⟨id, false, 0⟩])) := Lib.hid ho6.sl
      clear hf6 ho6
      go_wp2_with fail
      (with_reducible refine (CL.out _ F6.out).mono ?_)
      rintro e w7 ⟨rfl, hf7⟩
      have F7 : Hid (Frm [] w5 w7) := Lib.hid (F6.out.trans hf7 (by simp) (by simp))
      have L7 : Hid (LdL w7 [] a6 (X ++ [⟨id, false, 0⟩])) := Lib.hid (L6.out.sub hf7)
      clear hf7 L6
      obtain ⟨i0, hi, hz0, hz1, hz2⟩ := info_parts infoLd
      have HI := Lib.hid hi; clear hi
      have HZ0 := Lib.hid hz0; clear hz0
      have HZ1 := Lib.hid hz1; clear hz1
      have HZ2 := Lib.hid hz2; clear hz2
      have HLIT : Hid (LdOwn (w7.alloc (.cells #[] 32)) w7.heap.size 32 [] (some ⟨w7.heap.size, 0, none⟩) 0 []) := Lib.hid ⟨World.ownsRow_lit w7 #[] 0 (Nat.le_refl _) (by unfold maxLen; omega) rfl, by simp, by simp⟩
      have HV := Lib.hid ((O5.out.sl.sub F7.out).sub ((Frm.refl [] w7).alloc (.cells #[] 32))).vals
      have HLX : Hid ((ldc X).length = k * 3) := Lib.hid (by rw [ldc_length, HK.out])
      have HNIL := Lib.hid O5.out.caps.2.2
      have hfit1 : 0 + k ≤ 1000000000 := by omega
      have hfit2 : k + 1 ≤ 1000000000 := by omega
      go_wp2_with (at_builtin; refine wpList_appS (by rfl) (.tmp 124) (.tmp 125) 22 rfl w7.heap.size 32 i0 (.agg #[.int .u64 0, .bool false, .int .u64 0]) 3 24 Try.underlying22 HI.out HZ0.out rfl (by decide) HZ1.out HZ2.out (by decide) (.slice (some ⟨w7.heap.size, 0, none⟩) 0 0) 0 _ rfl HLIT.out.own _ k cap _ rfl HV.out HLX.out (ldc_one _) HNIL.out hfit1 (by simp) ?_)
      intro a8 c8 w8 happ
      have g3 := HLIT.out.app (X := []) (Y := X) rfl O5.out.fits HK.out (by simp) happ
      have F8 : Hid (Frm [] w7 w8) := Lib.hid (((Frm.refl [] w7).alloc (.cells #[] 32)).grown happ.grown (fun k hk => .inr (by cases hk; exact Nat.le_refl _)))
      have ho8 := g3.1
      rw [List.nil_append] at ho8
      have O8 := Lib.hid ho8
      clear happ g3 ho8 HV HLIT
      have ONE : Hid (ValsAt (w8.alloc (.cells #[.int .u64 (id : Nat), .bool false, .int .u64 0] 32)) (some ⟨w8.heap.size, 0, none⟩) (ldc [⟨id, false, 0⟩])) := Lib.hid (ldcvals_one w8 ⟨id, false, 0⟩ 32)
      have O9 : Hid (LdOwn (w8.alloc (.cells #[.int .u64 (id : Nat), .bool false, .int .u64 0] 32)) w7.heap.size 32 [] a8 c8 X) := Lib.hid (O8.out.keep (S := []) ((Frm.refl _ _).alloc _) (by simp) (by simp))
      have OWN9 : Hid ((w8.alloc (.cells #[.int .u64 (id : Nat), .bool false, .int .u64 0] 32)).ownsRow w7.heap.size 32 3 (.slice a8 k c8) k (ldc X)) := Lib.hid (by have := O9.out.own; rwa [← HK.out] at this)
      have hbz : w7.heap.size ≤ (w8.alloc (.cells #[.int .u64 (id : Nat), .bool false, .int .u64 0] 32)).heap.size := by have := F8.out.size; simp; omega
      have h0k : 0 + k = k := Nat.zero_add k
      go_wp2_with (at_builtin; refine wpList_appS (by rfl) (.tmp 126) (.tmp 129) 22 rfl w7.heap.size 32 i0 (.agg #[.int .u64 0, .bool false, .int .u64 0]) 3 24 Try.underlying22 HI.out HZ0.out rfl (by decide) HZ1.out HZ2.out (by decide) (.slice a8 k c8) k _ (by simp [Act.eval]) OWN9.out _ 1 1 _ rfl ONE.out rfl (ldc_one _) (fun h => by cases h) hfit2 hbz ?_)
      intro a10 c10 w10 happ
      have g3 := O9.out.app (Y := [⟨id, false, 0⟩]) HK.out (by intro y hy; simp at hy; subst hy; exact ⟨hid, by show 0 < 18446744073709551616; omega⟩) rfl (by simp) happ
      have F10 : Hid (Frm [] w7 w10) := Lib.hid ((F8.out.alloc (.cells #[.int .u64 (id : Nat), .bool false, .int .u64 0] 32)).trans g3.2.1 (by simp) (fun x hx => .inr (O9.out.blk_lt x hx).1))
      have L10 := Lib.hid g3.1.sl
      clear happ g3 ONE OWN9 O9 hbz
      have SM : Hid (Calls Try.prog 15 #[.slice a6 (k + 1 : Nat) c6, .slice a10 (k + 1 : Nat) c10] w10 fun e w' => e = .returned (.bool true) ∧ Frm [] w10 w') := Lib.hid ((rlsame_any a6 a10 (k + 1) c6 (k + 1) c10 _ _ w10 (L7.out.sub F10.out) L10.out (by rw [List.length_append, ← HK.out]; rfl) (by rw [List.length_append, ← HK.out]; rfl) (by omega) (by omega)).mono fun e w' hh => hh.yes rfl)
      go_wp2_with fail
      (with_reducible refine SM.out.mono ?_)
      rintro e w11 ⟨rfl, hf11⟩
      have F11 : Hid (Frm [] w5 w11) := Lib.hid (F7.out.trans (F10.out.trans hf11 (U := []) (by simp) (by simp)) (by simp) (by simp))
      clear hf11
      go_wp2
      refine wp_region_held_drew (S := fun w' => Frm [] w11 w') (by kernel_rfl) (Frm.drew (Frm.refl _ _)) (fun hHeld => ?_)
      refine wpAnyH_take (i := 0) (oi := ⟨some 134, _, _, _, _, _⟩) (v := ?_) rfl (by kernel_rfl) (by kernel_rfl) (by kernel_rfl) (fun _ _ _ h => h) (Or.inl ⟨by rfl, ?_⟩) (by assumption) ?_
      rotate_left 1
      · (intro w hSw; (try dsimp only at hSw); go_simp; all_goals with_reducible rfl)
      try simp only [Act.put, List.setIfInBounds_toArray, List.set_cons_zero, List.set_cons_succ]
      refine wpAnyH_take (i := 1) (oi := ⟨some 135, _, _, _, _, _⟩) (v := ?_) rfl (by kernel_rfl) (by kernel_rfl) (by kernel_rfl) (fun _ _ _ h => h) (Or.inl ⟨by rfl, ?_⟩) (by assumption) ?_
      rotate_left 1
      · (intro w hSw; (try dsimp only at hSw); go_simp; all_goals with_reducible rfl)
      try simp only [Act.put, List.setIfInBounds_toArray, List.set_cons_zero, List.set_cons_succ]
      refine wpAnyH_take (i := 2) (oi := ⟨some 136, _, _, _, _, _⟩) (v := ?_) rfl (by kernel_rfl) (by kernel_rfl) (by kernel_rfl) (fun _ _ _ h => h) (Or.inl ⟨by rfl, ?_⟩) (by assumption) ?_
      rotate_left 1
      · (intro w hSw; (try dsimp only at hSw); go_simp; all_goals with_reducible rfl)
      try simp only [Act.put, List.setIfInBounds_toArray, List.set_cons_zero, List.set_cons_succ]
      refine wpAnyH_take (i := 3) (oi := ⟨some 137, _, _, _, _, _⟩) (v := undef) rfl (by kernel_rfl) (by kernel_rfl) (by kernel_rfl) (fun _ _ _ h => h) (Or.inr ⟨by rfl, rfl⟩) (by assumption) ?_
      try simp only [Act.put, List.setIfInBounds_toArray, List.set_cons_zero, List.set_cons_succ]
      refine wpAnyH_take (i := 4) (oi := ⟨some 138, _, _, _, _, _⟩) (v := undef) rfl (by kernel_rfl) (by kernel_rfl) (by kernel_rfl) (fun _ _ _ h => h) (Or.inr ⟨by rfl, rfl⟩) (by assumption) ?_
      try simp only [Act.put, List.setIfInBounds_toArray, List.set_cons_zero, List.set_cons_succ]
      refine wpAnyH_take (i := 5) (oi := ⟨some 139, _, _, _, _, _⟩) (v := undef) rfl (by kernel_rfl) (by kernel_rfl) (by kernel_rfl) (fun _ _ _ h => h) (Or.inr ⟨by rfl, rfl⟩) (by assumption) ?_
      try simp only [Act.put, List.setIfInBounds_toArray, List.set_cons_zero, List.set_cons_succ]
      refine wpAnyH_take (i := 6) (oi := ⟨some 140, _, _, _, _, _⟩) (v := undef) rfl (by kernel_rfl) (by kernel_rfl) (by kernel_rfl) (fun _ _ _ h => h) (Or.inr ⟨by rfl, rfl⟩) (by assumption) ?_
      try simp only [Act.put, List.setIfInBounds_toArray, List.set_cons_zero, List.set_cons_succ]
      refine wpAnyH_take (i := 7) (oi := ⟨some 141, _, _, _, _, _⟩) (v := undef) rfl (by kernel_rfl) (by kernel_rfl) (by kernel_rfl) (fun _ _ _ h => h) (Or.inr ⟨by rfl, rfl⟩) (by assumption) ?_
      try simp only [Act.put, List.setIfInBounds_toArray, List.set_cons_zero, List.set_cons_succ]
      refine wpAnyH_take (i := 8) (oi := ⟨some 142, _, _, _, _, _⟩) (v := undef) rfl (by kernel_rfl) (by kernel_rfl) (by kernel_rfl) (fun _ _ _ h => h) (Or.inr ⟨by rfl, rfl⟩) (by assumption) ?_
      try simp only [Act.put, List.setIfInBounds_toArray, List.set_cons_zero, List.set_cons_succ]
      refine wpAnyH_take (i := 9) (oi := ⟨some 143, _, _, _, _, _⟩) (v := undef) rfl (by kernel_rfl) (by kernel_rfl) (by kernel_rfl) (fun _ _ _ h => h) (Or.inr ⟨by rfl, rfl⟩) (by assumption) ?_
      try simp only [Act.put, List.setIfInBounds_toArray, List.set_cons_zero, List.set_cons_succ]
      refine wpAnyH_take (i := 10) (oi := ⟨some 144, _, _, _, _, _⟩) (v := undef) rfl (by kernel_rfl) (by kernel_rfl) (by kernel_rfl) (fun _ _ _ h => h) (Or.inr ⟨by rfl, rfl⟩) (by assumption) ?_
      try simp only [Act.put, List.setIfInBounds_toArray, List.set_cons_zero, List.set_cons_succ]
      refine wpAnyH_take (i := 11) (oi := ⟨some 145, _, _, _, _, _⟩) (v := undef) rfl (by kernel_rfl) (by kernel_rfl) (by kernel_rfl) (fun _ _ _ h => h) (Or.inr ⟨by rfl, rfl⟩) (by assumption) ?_
      try simp only [Act.put, List.setIfInBounds_toArray, List.set_cons_zero, List.set_cons_succ]
      refine wpAnyH_take (i := 12) (oi := ⟨some 146, _, _, _, _, _⟩) (v := undef) rfl (by kernel_rfl) (by kernel_rfl) (by kernel_rfl) (fun _ _ _ h => h) (Or.inr ⟨by rfl, rfl⟩) (by assumption) ?_
      try simp only [Act.put, List.setIfInBounds_toArray, List.set_cons_zero, List.set_cons_succ]
      refine wpAnyH_take (i := 13) (oi := ⟨some 147, _, _, _, _, _⟩) (v := undef) rfl (by kernel_rfl) (by kernel_rfl) (by kernel_rfl) (fun _ _ _ h => h) (Or.inr ⟨by rfl, rfl⟩) (by assumption) ?_
      try simp only [Act.put, List.setIfInBounds_toArray, List.set_cons_zero, List.set_cons_succ]
      refine wpAnyH_take (i := 14) (oi := ⟨some 148, _, _, _, _, _⟩) (v := undef) rfl (by kernel_rfl) (by kernel_rfl) (by kernel_rfl) (fun _ _ _ h => h) (Or.inr ⟨by rfl, rfl⟩) (by assumption) ?_
      try simp only [Act.put, List.setIfInBounds_toArray, List.set_cons_zero, List.set_cons_succ]
      refine wpAnyH_take (i := 15) (oi := ⟨some 149, _, _, _, _, _⟩) (v := undef) rfl (by kernel_rfl) (by kernel_rfl) (by kernel_rfl) (fun _ _ _ h => h) (Or.inr ⟨by rfl, rfl⟩) (by assumption) ?_
      try simp only [Act.put, List.setIfInBounds_toArray, List.set_cons_zero, List.set_cons_succ]
      refine wpAnyH_take (i := 16) (oi := ⟨some 150, _, _, _, _, _⟩) (v := undef) rfl (by kernel_rfl) (by kernel_rfl) (by kernel_rfl) (fun _ _ _ h => h) (Or.inr ⟨by rfl, rfl⟩) (by assumption) ?_
      try simp only [Act.put, List.setIfInBounds_toArray, List.set_cons_zero, List.set_cons_succ]
      refine wpAnyH_take (i := 17) (oi := ⟨some 151, _, _, _, _, _⟩) (v := undef) rfl (by kernel_rfl) (by kernel_rfl) (by kernel_rfl) (fun _ _ _ h => h) (Or.inr ⟨by rfl, rfl⟩) (by assumption) ?_
      try simp only [Act.put, List.setIfInBounds_toArray, List.set_cons_zero, List.set_cons_succ]
      refine wpAnyH_take (i := 18) (oi := ⟨some 152, _, _, _, _, _⟩) (v := undef) rfl (by kernel_rfl) (by kernel_rfl) (by kernel_rfl) (fun _ _ _ h => h) (Or.inr ⟨by rfl, rfl⟩) (by assumption) ?_
      try simp only [Act.put, List.setIfInBounds_toArray, List.set_cons_zero, List.set_cons_succ]
      refine wpAnyH_take (i := 19) (oi := ⟨some 153, _, _, _, _, _⟩) (v := undef) rfl (by kernel_rfl) (by kernel_rfl) (by kernel_rfl) (fun _ _ _ h => h) (Or.inr ⟨by rfl, rfl⟩) (by assumption) ?_
      try simp only [Act.put, List.setIfInBounds_toArray, List.set_cons_zero, List.set_cons_succ]
      refine wpAnyH_take (i := 20) (oi := ⟨some 154, _, _, _, _, _⟩) (v := undef) rfl (by kernel_rfl) (by kernel_rfl) (by kernel_rfl) (fun _ _ _ h => h) (Or.inr ⟨by rfl, rfl⟩) (by assumption) ?_
      try simp only [Act.put, List.setIfInBounds_toArray, List.set_cons_zero, List.set_cons_succ]
      refine wpAnyH_take (i := 21) (oi := ⟨some 155, _, _, _, _, _⟩) (v := ?_) rfl (by kernel_rfl) (by kernel_rfl) (by kernel_rfl) (fun _ _ _ h => h) (Or.inl ⟨by rfl, ?_⟩) (by assumption) ?_
      rotate_left 1
      · (intro w hSw; (try dsimp only at hSw); go_simp; all_goals with_reducible rfl)
      try simp only [Act.put, List.setIfInBounds_toArray, List.set_cons_zero, List.set_cons_succ]
      refine wpAnyH_take (i := 22) (oi := ⟨some 10, _, _, _, _, _⟩) (v := ?_) rfl (by kernel_rfl) (by kernel_rfl) (by kernel_rfl) (fun _ _ _ h => h) (Or.inl ⟨by rfl, ?_⟩) (by assumption) ?_
      rotate_left 1
      · (intro w hSw; (try dsimp only at hSw); go_simp; all_goals with_reducible rfl)
      try simp only [Act.put, List.setIfInBounds_toArray, List.set_cons_zero, List.set_cons_succ]
      refine wpAnyH_done (by kernel_rfl) ?_ _
      have FX : Hid (Frm [] w _) := Lib.hid ((FW5.out.trans F11.out (U := []) (by simp) (by simp)).trans hHeld (by simp) (by simp))
      go_wp2
      go_ret
      exact lTrue FX.out
  · obtain ⟨j, hj⟩ : ∃ j, j = k - 1 := ⟨_, rfl⟩
    obtain ⟨g, rfl⟩ := O5.out.zero (by have := HK.out; omega)
    have hjX : j < X.length := by have := HK.out; omega
    have ell : X.getD j default = lastL X := by unfold lastL; rw [← HK.out, hj]
    have LC : Hid (∀ z, Frm [] w5 z → z.cell? ⟨g, j * 3, none⟩ = some (.int .u64 ((lastL X).id : Nat)) ∧ z.cell? ⟨g, j * 3 + 1, none⟩ = some (.bool (lastL X).cl)) := Lib.hid (fun z hz => by
      have o := O5.out.keep (S := []) (F' := []) hz (by simp) (by simp)
      obtain ⟨v0, v1, _⟩ := ldc_at X j hjX
      rw [ell] at v0 v1
      exact ⟨(o.own.cellAt (j * 3) (by omega)).trans v0, (o.own.cellAt (j * 3 + 1) (by omega)).trans v1⟩)
    have CLL : Hid (closeL9 X ct = X.take j ++ [⟨(lastL X).id, true, ct⟩]) := Lib.hid (by
      unfold closeL9
      rw [← HK.out, ← hj]
      generalize (⟨(lastL X).id, true, ct⟩ : Ld) = yv
      have h1 := ld_split hjX
      have hl : (X.take j).length = j := by rw [List.length_take]; omega
      have hd : X.drop (j + 1) = [] := List.drop_eq_nil_of_le (by have := HK.out; omega)
      rw [hd] at h1
      conv => lhs; rw [h1]
      rw [List.set_append_right _ _ (by omega), hl, Nat.sub_self]
      rfl)
    have LF : Hid ((lastL X).id < 18446744073709551616) := Lib.hid (by rw [← ell]; exact (ld_fits_at O5.out.fits j).1)
    have s1 : (k : Int) - 1 = (j : Int) := by omega
    have s2 : (j : Int) < (k : Int) := by omega
    have s3 : j < k := by omega
    have hwj : IntKind.i64.wrap (j : Int) = (j : Int) := by simp [IntKind.wrap, IntKind.bits, IntKind.signed]; omega
    have dk : ((k : Int) == 0) = false := by rw [beq_eq_false_iff_ne]; omega
    have dk' : decide ((0 : Int) < (k : Int)) = true := decide_eq_true (by omega)
    have dk2 : decide (0 < k) = true := decide_eq_true hk0
    have hbx : (decide (0 < k) && !(lastL X).cl) = !(lastL X).cl := by rw [dk2]; rfl
    rw [hbx] at OPR CLR OPO CLO
    have HJ := Lib.hid hj
    clear hbx hj ell hk0
    generalize lastL X = x at OPR CLR OPO CLO LC CLL LF
    obtain ⟨li, lc, ln⟩ := x
    simp only at OPR CLR OPO CLO LC CLL LF
    cases lc
    · have OP := Lib.hid (OPR.out 23 (by decide) (by rw [if_pos (by rfl)]))
      by_cases h20 : 1048576 < ct
      · have CL := Lib.hid (CLR.out 14 (by decide) (by rw [if_pos (by rfl), if_pos h20]))
        have d20 : decide (1048576 < ct) = true := decide_eq_true h20
        have d20' : (1048576 : Int) < (ct : Int) := by omega
        clear OPR CLR OPO CLO hid hk13 h20 hjX
        go_wp2_with fail
        (with_reducible refine (OP.out _ (Frm.refl _ _)).mono ?_)
        rintro e w6 ⟨rfl, hf6⟩
        have F6 : Hid (Frm [] w5 w6) := Lib.hid hf6
        clear hf6
        go_wp2_with fail
        (with_reducible refine (CL.out _ F6.out).mono ?_)
        rintro e w7 ⟨rfl, hf7⟩
        have F7 : Hid (Frm [] w5 w7) := Lib.hid (F6.out.trans hf7 (by simp) (by simp))
        clear hf7
        obtain ⟨y0, y1⟩ := LC.out _ F7.out
        go_wp2
        refine wp_region_held_drew (S := fun w' => Frm [] w7 w') (by kernel_rfl) (Frm.drew (Frm.refl _ _)) (fun hHeld => ?_)
        refine wpAnyH_take (i := 0) (oi := ⟨some 134, _, _, _, _, _⟩) (v := ?_) rfl (by kernel_rfl) (by kernel_rfl) (by kernel_rfl) (fun _ _ _ h => h) (Or.inl ⟨by rfl, ?_⟩) (by assumption) ?_
        rotate_left 1
        · (intro w hSw; (try dsimp only at hSw); go_simp; all_goals with_reducible rfl)
        try simp only [Act.put, List.setIfInBounds_toArray, List.set_cons_zero, List.set_cons_succ]
        refine wpAnyH_take (i := 1) (oi := ⟨some 135, _, _, _, _, _⟩) (v := ?_) rfl (by kernel_rfl) (by kernel_rfl) (by kernel_rfl) (fun _ _ _ h => h) (Or.inl ⟨by rfl, ?_⟩) (by assumption) ?_
        rotate_left 1
        · (intro w hSw; (try dsimp only at hSw); go_simp; all_goals with_reducible rfl)
        try simp only [Act.put, List.setIfInBounds_toArray, List.set_cons_zero, List.set_cons_succ]
        refine wpAnyH_take (i := 2) (oi := ⟨some 136, _, _, _, _, _⟩) (v := ?_) rfl (by kernel_rfl) (by kernel_rfl) (by kernel_rfl) (fun _ _ _ h => h) (Or.inl ⟨by rfl, ?_⟩) (by assumption) ?_
        rotate_left 1
        · (intro w hSw; (try dsimp only at hSw); go_simp; all_goals with_reducible rfl)
        try simp only [Act.put, List.setIfInBounds_toArray, List.set_cons_zero, List.set_cons_succ]
        refine wpAnyH_take (i := 3) (oi := ⟨some 137, _, _, _, _, _⟩) (v := undef) rfl (by kernel_rfl) (by kernel_rfl) (by kernel_rfl) (fun _ _ _ h => h) (Or.inr ⟨by rfl, rfl⟩) (by assumption) ?_
        try simp only [Act.put, List.setIfInBounds_toArray, List.set_cons_zero, List.set_cons_succ]
        refine wpAnyH_take (i := 4) (oi := ⟨some 138, _, _, _, _, _⟩) (v := undef) rfl (by kernel_rfl) (by kernel_rfl) (by kernel_rfl) (fun _ _ _ h => h) (Or.inr ⟨by rfl, rfl⟩) (by assumption) ?_
        try simp only [Act.put, List.setIfInBounds_toArray, List.set_cons_zero, List.set_cons_succ]
        refine wpAnyH_take (i := 5) (oi := ⟨some 139, _, _, _, _, _⟩) (v := undef) rfl (by kernel_rfl) (by kernel_rfl) (by kernel_rfl) (fun _ _ _ h => h) (Or.inr ⟨by rfl, rfl⟩) (by assumption) ?_
        try simp only [Act.put, List.setIfInBounds_toArray, List.set_cons_zero, List.set_cons_succ]
        refine wpAnyH_take (i := 6) (oi := ⟨some 140, _, _, _, _, _⟩) (v := undef) rfl (by kernel_rfl) (by kernel_rfl) (by kernel_rfl) (fun _ _ _ h => h) (Or.inr ⟨by rfl, rfl⟩) (by assumption) ?_
        try simp only [Act.put, List.setIfInBounds_toArray, List.set_cons_zero, List.set_cons_succ]
        refine wpAnyH_take (i := 7) (oi := ⟨some 141, _, _, _, _, _⟩) (v := undef) rfl (by kernel_rfl) (by kernel_rfl) (by kernel_rfl) (fun _ _ _ h => h) (Or.inr ⟨by rfl, rfl⟩) (by assumption) ?_
        try simp only [Act.put, List.setIfInBounds_toArray, List.set_cons_zero, List.set_cons_succ]
        refine wpAnyH_take (i := 8) (oi := ⟨some 142, _, _, _, _, _⟩) (v := undef) rfl (by kernel_rfl) (by kernel_rfl) (by kernel_rfl) (fun _ _ _ h => h) (Or.inr ⟨by rfl, rfl⟩) (by assumption) ?_
        try simp only [Act.put, List.setIfInBounds_toArray, List.set_cons_zero, List.set_cons_succ]
        refine wpAnyH_take (i := 9) (oi := ⟨some 143, _, _, _, _, _⟩) (v := undef) rfl (by kernel_rfl) (by kernel_rfl) (by kernel_rfl) (fun _ _ _ h => h) (Or.inr ⟨by rfl, rfl⟩) (by assumption) ?_
        try simp only [Act.put, List.setIfInBounds_toArray, List.set_cons_zero, List.set_cons_succ]
        refine wpAnyH_take (i := 10) (oi := ⟨some 144, _, _, _, _, _⟩) (v := undef) rfl (by kernel_rfl) (by kernel_rfl) (by kernel_rfl) (fun _ _ _ h => h) (Or.inr ⟨by rfl, rfl⟩) (by assumption) ?_
        try simp only [Act.put, List.setIfInBounds_toArray, List.set_cons_zero, List.set_cons_succ]
        refine wpAnyH_take (i := 11) (oi := ⟨some 145, _, _, _, _, _⟩) (v := undef) rfl (by kernel_rfl) (by kernel_rfl) (by kernel_rfl) (fun _ _ _ h => h) (Or.inr ⟨by rfl, rfl⟩) (by assumption) ?_
        try simp only [Act.put, List.setIfInBounds_toArray, List.set_cons_zero, List.set_cons_succ]
        refine wpAnyH_take (i := 12) (oi := ⟨some 146, _, _, _, _, _⟩) (v := undef) rfl (by kernel_rfl) (by kernel_rfl) (by kernel_rfl) (fun _ _ _ h => h) (Or.inr ⟨by rfl, rfl⟩) (by assumption) ?_
        try simp only [Act.put, List.setIfInBounds_toArray, List.set_cons_zero, List.set_cons_succ]
        refine wpAnyH_take (i := 13) (oi := ⟨some 147, _, _, _, _, _⟩) (v := undef) rfl (by kernel_rfl) (by kernel_rfl) (by kernel_rfl) (fun _ _ _ h => h) (Or.inr ⟨by rfl, rfl⟩) (by assumption) ?_
        try simp only [Act.put, List.setIfInBounds_toArray, List.set_cons_zero, List.set_cons_succ]
        refine wpAnyH_take (i := 14) (oi := ⟨some 148, _, _, _, _, _⟩) (v := undef) rfl (by kernel_rfl) (by kernel_rfl) (by kernel_rfl) (fun _ _ _ h => h) (Or.inr ⟨by rfl, rfl⟩) (by assumption) ?_
        try simp only [Act.put, List.setIfInBounds_toArray, List.set_cons_zero, List.set_cons_succ]
        refine wpAnyH_take (i := 15) (oi := ⟨some 149, _, _, _, _, _⟩) (v := undef) rfl (by kernel_rfl) (by kernel_rfl) (by kernel_rfl) (fun _ _ _ h => h) (Or.inr ⟨by rfl, rfl⟩) (by assumption) ?_
        try simp only [Act.put, List.setIfInBounds_toArray, List.set_cons_zero, List.set_cons_succ]
        refine wpAnyH_take (i := 16) (oi := ⟨some 150, _, _, _, _, _⟩) (v := undef) rfl (by kernel_rfl) (by kernel_rfl) (by kernel_rfl) (fun _ _ _ h => h) (Or.inr ⟨by rfl, rfl⟩) (by assumption) ?_
        try simp only [Act.put, List.setIfInBounds_toArray, List.set_cons_zero, List.set_cons_succ]
        refine wpAnyH_take (i := 17) (oi := ⟨some 151, _, _, _, _, _⟩) (v := undef) rfl (by kernel_rfl) (by kernel_rfl) (by kernel_rfl) (fun _ _ _ h => h) (Or.inr ⟨by rfl, rfl⟩) (by assumption) ?_
        try simp only [Act.put, List.setIfInBounds_toArray, List.set_cons_zero, List.set_cons_succ]
        refine wpAnyH_take (i := 18) (oi := ⟨some 152, _, _, _, _, _⟩) (v := undef) rfl (by kernel_rfl) (by kernel_rfl) (by kernel_rfl) (fun _ _ _ h => h) (Or.inr ⟨by rfl, rfl⟩) (by assumption) ?_
        try simp only [Act.put, List.setIfInBounds_toArray, List.set_cons_zero, List.set_cons_succ]
        refine wpAnyH_take (i := 19) (oi := ⟨some 153, _, _, _, _, _⟩) (v := undef) rfl (by kernel_rfl) (by kernel_rfl) (by kernel_rfl) (fun _ _ _ h => h) (Or.inr ⟨by rfl, rfl⟩) (by assumption) ?_
        try simp only [Act.put, List.setIfInBounds_toArray, List.set_cons_zero, List.set_cons_succ]
        refine wpAnyH_take (i := 20) (oi := ⟨some 154, _, _, _, _, _⟩) (v := undef) rfl (by kernel_rfl) (by kernel_rfl) (by kernel_rfl) (fun _ _ _ h => h) (Or.inr ⟨by rfl, rfl⟩) (by assumption) ?_
        try simp only [Act.put, List.setIfInBounds_toArray, List.set_cons_zero, List.set_cons_succ]
        refine wpAnyH_take (i := 21) (oi := ⟨some 155, _, _, _, _, _⟩) (v := ?_) rfl (by kernel_rfl) (by kernel_rfl) (by kernel_rfl) (fun _ _ _ h => h) (Or.inl ⟨by rfl, ?_⟩) (by assumption) ?_
        rotate_left 1
        · (intro w hSw; (try dsimp only at hSw); go_simp; all_goals with_reducible rfl)
        try simp only [Act.put, List.setIfInBounds_toArray, List.set_cons_zero, List.set_cons_succ]
        refine wpAnyH_take (i := 22) (oi := ⟨some 10, _, _, _, _, _⟩) (v := ?_) rfl (by kernel_rfl) (by kernel_rfl) (by kernel_rfl) (fun _ _ _ h => h) (Or.inl ⟨by rfl, ?_⟩) (by assumption) ?_
        rotate_left 1
        · (intro w hSw; (try dsimp only at hSw); go_simp; all_goals with_reducible rfl)
        try simp only [Act.put, List.setIfInBounds_toArray, List.set_cons_zero, List.set_cons_succ]
        refine wpAnyH_done (by kernel_rfl) ?_ _
        have FX : Hid (Frm [] w _) := Lib.hid ((FW5.out.trans F7.out (U := []) (by simp) (by simp)).trans hHeld (by simp) (by simp))
        go_wp2
        go_ret
        exact lTrue FX.out
      · have CL := Lib.hid (CLO.out (by rfl) h20)
        have d20 : decide (1048576 < ct) = false := decide_eq_false h20
        have d20' : ¬ (1048576 : Int) < (ct : Int) := by omega
        clear OPR CLR OPO CLO hid hk13 h20
        go_wp2_with fail
        (with_reducible refine (OP.out _ (Frm.refl _ _)).mono ?_)
        rintro e w6 ⟨rfl, hf6⟩
        have F6 : Hid (Frm [] w5 w6) := Lib.hid hf6
        clear hf6
        go_wp2_with fail
        (with_reducible refine (CL.out _ F6.out).mono ?_)
        rintro e w7 ⟨a7, c7, rfl, ho7, hf7⟩
        have F7 : Hid (Frm [] w5 w7) := Lib.hid (F6.out.trans hf7 (by simp) (by simp))
        have L7 : Hid (LdL w7 [] a7 (X.take j ++ [⟨li, true, ct⟩])) := Lib.hid (by rw [← CLL.out]; exact ho7.sl)
        clear hf7 ho7
        obtain ⟨y0, y1⟩ := LC.out _ F7.out
        obtain ⟨i0, hi, hz0, hz1, hz2⟩ := info_parts infoLd
        have HI := Lib.hid hi; clear hi
        have HZ0 := Lib.hid hz0; clear hz0
        have HZ1 := Lib.hid hz1; clear hz1
        have HZ2 := Lib.hid hz2; clear hz2
        have JK : Hid (j + 1 = k) := Lib.hid (by have := HJ.out; omega)
        have hcp := O5.out.caps
        have hjc : j ≤ cap := by omega
        have hcut := fun w => run_head3 (P := Try.prog) Try.underlying22 sizeLd w (some ⟨g, 0, none⟩) k cap j hjc
        clear hcp
        have XV : Hid (∀ z, Frm [] w7 z → ValsAt z (some ⟨g, 0, none⟩) (ldc (X.take j))) := Lib.hid (fun z hz => (((O5.out.sl.sub F7.out).sub hz).take j).vals)
        have HTL : Hid ((X.take j).length = j) := Lib.hid (by rw [List.length_take]; omega)
        have HLX : Hid ((ldc (X.take j)).length = j * 3) := Lib.hid (by rw [ldc_length, HTL.out])
        have TF : Hid (∀ x ∈ X.take j, x.fits) := Lib.hid (fun x hx => O5.out.fits x (List.mem_of_mem_take hx))
        have YF : Hid (∀ y ∈ [(⟨li, true, ct⟩ : Ld)], y.fits) := Lib.hid (by intro y hy; simp at hy; subst hy; exact ⟨LF.out, HCT.out⟩)
        have hfit1 : 0 + j ≤ 1000000000 := by have := K13.out; omega
        have hfit2 : j + 1 ≤ 1000000000 := by have := K13.out; omega
        have LITF : Hid (∀ z, Frm [] w7 z → LdOwn (z.alloc (.cells #[] 32)) w7.heap.size 32 [] (some ⟨z.heap.size, 0, none⟩) 0 []) := Lib.hid (fun z hz => ⟨World.ownsRow_lit z #[] 0 hz.size (by unfold maxLen; omega) rfl, by simp, by simp⟩)
        have ONEF : Hid (∀ z, Frm [] w7 z → LdL (z.alloc (.cells #[.int .u64 (li : Nat), .bool true, .int .u64 (ct : Nat)] 32)) [] (some ⟨z.heap.size, 0, none⟩) [⟨li, true, ct⟩]) := Lib.hid (fun z _ => ⟨ldcvals_one z ⟨li, true, ct⟩ 32, YF.out, by simp⟩)
        have SMF : Hid (∀ z aa cc, Frm [] w7 z → LdL z [] aa (X.take j ++ [⟨li, true, ct⟩]) → Calls Try.prog 15 #[.slice a7 k c7, .slice aa k cc] z fun e w' => e = .returned (.bool true) ∧ Frm [] z w') := Lib.hid (fun z aa cc hz hl => (rlsame_any a7 aa k c7 k cc _ _ z (L7.out.sub hz) hl (by rw [List.length_append, HTL.out]; exact JK.out.symm) (by rw [List.length_append, HTL.out]; exact JK.out.symm) (by have := K13.out; omega) (by have := K13.out; omega)).mono fun e w' hh => hh.yes rfl)
        have yy : ∀ z, Frm [] w7 z → z.cell? ⟨g, j * 3, none⟩ = some (.int .u64 (li : Nat)) := fun z hz => (hz.cell (p := ⟨g, j * 3, none⟩) (block_lt_of_cell y0) (by simp)).trans y0
        go_wp2
        clear y0 y1
        refine wp_region_held_drew (S := fun w' => Frm [] w7 w') (by kernel_rfl) (Frm.drew (Frm.refl _ _)) (fun hHeld => ?_)
        refine wpAnyH_take (i := 0) (oi := ⟨some 134, _, _, _, _, _⟩) (v := ?_) rfl (by kernel_rfl) (by kernel_rfl) (by kernel_rfl) (fun _ _ _ h => h) (Or.inl ⟨by rfl, ?_⟩) (by assumption) ?_
        rotate_left 1
        · (intro w hSw; (try dsimp only at hSw); go_simp; all_goals with_reducible rfl)
        try simp only [Act.put, List.setIfInBounds_toArray, List.set_cons_zero, List.set_cons_succ]
        refine wpAnyH_take (i := 1) (oi := ⟨some 135, _, _, _, _, _⟩) (v := ?_) rfl (by kernel_rfl) (by kernel_rfl) (by kernel_rfl) (fun _ _ _ h => h) (Or.inl ⟨by rfl, ?_⟩) (by assumption) ?_
        rotate_left 1
        · (intro w hSw; (try dsimp only at hSw); go_simp; all_goals with_reducible rfl)
        try simp only [Act.put, List.setIfInBounds_toArray, List.set_cons_zero, List.set_cons_succ]
        refine wpAnyH_take (i := 2) (oi := ⟨some 136, _, _, _, _, _⟩) (v := ?_) rfl (by kernel_rfl) (by kernel_rfl) (by kernel_rfl) (fun _ _ _ h => h) (Or.inl ⟨by rfl, ?_⟩) (by assumption) ?_
        rotate_left 1
        · (intro w hSw; (try dsimp only at hSw); go_simp; all_goals with_reducible rfl)
        try simp only [Act.put, List.setIfInBounds_toArray, List.set_cons_zero, List.set_cons_succ]
        refine wpAnyH_take (i := 3) (oi := ⟨some 137, _, _, _, _, _⟩) (v := ?_) rfl (by kernel_rfl) (by kernel_rfl) (by kernel_rfl) (fun _ _ _ h => h) (Or.inl ⟨by rfl, ?_⟩) (by assumption) ?_
        rotate_left 1
        · (intro w hSw; (try dsimp only at hSw); go_simp; all_goals with_reducible rfl)
        try simp only [Act.put, List.setIfInBounds_toArray, List.set_cons_zero, List.set_cons_succ]
        refine wpAnyH_take (i := 5) (oi := ⟨some 139, _, _, _, _, _⟩) (v := ?_) rfl (by kernel_rfl) (by kernel_rfl) (by kernel_rfl) (fun _ _ _ h => h) (Or.inl ⟨by rfl, ?_⟩) (by assumption) ?_
        rotate_left 1
        · (intro w hSw; (try dsimp only at hSw); go_simp; all_goals with_reducible rfl)
        try simp only [Act.put, List.setIfInBounds_toArray, List.set_cons_zero, List.set_cons_succ]
        refine wpAnyH_take (i := 6) (oi := ⟨some 140, _, _, _, _, _⟩) (v := ?_) rfl (by kernel_rfl) (by kernel_rfl) (by kernel_rfl) (fun _ _ _ h => h) (Or.inl ⟨by rfl, ?_⟩) (by assumption) ?_
        rotate_left 1
        · (intro w hSw; (try dsimp only at hSw); go_simp; all_goals with_reducible rfl)
        try simp only [Act.put, List.setIfInBounds_toArray, List.set_cons_zero, List.set_cons_succ]
        refine wpAnyH_take (i := 7) (oi := ⟨some 141, _, _, _, _, _⟩) (v := ?_) rfl (by kernel_rfl) (by kernel_rfl) (by kernel_rfl) (fun _ _ _ h => h) (Or.inl ⟨by rfl, ?_⟩) (by assumption) ?_
        rotate_left 1
        · (intro w hSw; (try dsimp only at hSw); go_simp; all_goals with_reducible rfl)
        try simp only [Act.put, List.setIfInBounds_toArray, List.set_cons_zero, List.set_cons_succ]
        refine wpAnyH_take (i := 8) (oi := ⟨some 142, _, _, _, _, _⟩) (v := ?_) rfl (by kernel_rfl) (by kernel_rfl) (by kernel_rfl) (fun _ _ _ h => h) (Or.inl ⟨by rfl, ?_⟩) (by assumption) ?_
        rotate_left 1
        · (intro w hSw; (try dsimp only at hSw); go_simp; all_goals with_reducible rfl)
        try simp only [Act.put, List.setIfInBounds_toArray, List.set_cons_zero, List.set_cons_succ]
        refine wpAnyH_take (i := 10) (oi := ⟨some 144, _, _, _, _, _⟩) (v := ?_) rfl (by kernel_rfl) (by kernel_rfl) (by kernel_rfl) (fun _ _ _ h => h) (Or.inl ⟨by rfl, ?_⟩) (by assumption) ?_
        rotate_left 1
        · (intro w hSw; (try dsimp only at hSw); go_simp; all_goals with_reducible rfl)
        try simp only [Act.put, List.setIfInBounds_toArray, List.set_cons_zero, List.set_cons_succ]
        refine wpAnyH_take (i := 11) (oi := ⟨some 145, _, _, _, _, _⟩) (v := ?_) rfl (by kernel_rfl) (by kernel_rfl) (by kernel_rfl) (fun _ _ _ h => h) (Or.inl ⟨by rfl, ?_⟩) (by assumption) ?_
        rotate_left 1
        · (intro w hSw; (try dsimp only at hSw); go_simp; all_goals with_reducible rfl)
        try simp only [Act.put, List.setIfInBounds_toArray, List.set_cons_zero, List.set_cons_succ]
        refine wpAnyH_take (i := 12) (oi := ⟨some 146, _, _, _, _, _⟩) (v := ?_) rfl (by kernel_rfl) (by kernel_rfl) (by kernel_rfl) (fun _ _ _ h => h) (Or.inl ⟨by rfl, ?_⟩) (by assumption) ?_
        rotate_left 1
        · (intro w hSw; (try dsimp only at hSw); go_simp; all_goals with_reducible rfl)
        try simp only [Act.put, List.setIfInBounds_toArray, List.set_cons_zero, List.set_cons_succ]
        refine wpAnyH_take (i := 13) (oi := ⟨some 147, _, _, _, _, _⟩) (v := ?_) rfl (by kernel_rfl) (by kernel_rfl) (by kernel_rfl) (fun _ _ _ h => h) (Or.inl ⟨by rfl, ?_⟩) (by assumption) ?_
        rotate_left 1
        · (intro w hSw; (try dsimp only at hSw); go_simp; all_goals with_reducible rfl)
        try simp only [Act.put, List.setIfInBounds_toArray, List.set_cons_zero, List.set_cons_succ]
        refine wpAnyH_take (i := 14) (oi := ⟨some 148, _, _, _, _, _⟩) (v := ?_) rfl (by kernel_rfl) (by kernel_rfl) (by kernel_rfl) (fun _ _ _ h => h) (Or.inl ⟨by rfl, ?_⟩) (by assumption) ?_
        rotate_left 1
        · (intro w hSw; (try dsimp only at hSw); go_simp; all_goals with_reducible rfl)
        try simp only [Act.put, List.setIfInBounds_toArray, List.set_cons_zero, List.set_cons_succ]
        refine wpAnyH_take (i := 15) (oi := ⟨some 149, _, _, _, _, _⟩) (v := ?_) rfl (by kernel_rfl) (by kernel_rfl) (by kernel_rfl) (fun _ _ _ h => h) (Or.inl ⟨by rfl, ?_⟩) (by assumption) ?_
        rotate_left 1
        · (intro w hSw; (try dsimp only at hSw); go_simp; all_goals with_reducible rfl)
        try simp only [Act.put, List.setIfInBounds_toArray, List.set_cons_zero, List.set_cons_succ]
        refine wpAnyH_take (i := 16) (oi := ⟨some 150, _, _, _, _, _⟩) (v := ?_) rfl (by kernel_rfl) (by kernel_rfl) (by kernel_rfl) (fun _ _ _ h => h) (Or.inl ⟨by rfl, ?_⟩) (by assumption) ?_
        rotate_left 1
        · (intro w hSw; (try dsimp only at hSw); go_simp; all_goals with_reducible rfl)
        try simp only [Act.put, List.setIfInBounds_toArray, List.set_cons_zero, List.set_cons_succ]
        refine wpAnyH_take (i := 17) (oi := ⟨some 151, _, _, _, _, _⟩) (v := ?_) rfl (by kernel_rfl) (by kernel_rfl) (by kernel_rfl) (fun _ _ _ h => h) (Or.inl ⟨by rfl, ?_⟩) (by assumption) ?_
        rotate_left 1
        · (intro w hSw; (try dsimp only at hSw); go_simp; all_goals with_reducible rfl)
        try simp only [Act.put, List.setIfInBounds_toArray, List.set_cons_zero, List.set_cons_succ]
        refine wpAnyH_ready (rs := [4, 18]) (by kernel_rfl) (by simp) ?_
        refine AllReadyH.cons (o := ⟨some 138, _, _, _, _, _⟩) rfl (fun K hK => ?_) (AllReadyH.cons (o := ⟨some 152, _, _, _, _, _⟩) rfl (fun K hK => ?_) AllReadyH.nil)
        · go_simp
          refine hK.out _ _ (by repeat (first | assumption | apply Frm.alloc | apply Frm.drew | exact Frm.refl _ _)) (fun hHeld => ?_)
          clear hK K
          try simp only [Act.put, List.setIfInBounds_toArray, List.set_cons_zero, List.set_cons_succ]
          obtain ⟨z1, hz1⟩ : ∃ z, z = (w7.alloc (.cells #[] 32)).drew := ⟨_, rfl⟩
          obtain ⟨g1, hg1⟩ : ∃ q, q = w7.heap.size := ⟨_, rfl⟩
          have FZ1 : Hid (Frm [] w7 z1) := Lib.hid (by rw [hz1]; exact (((Frm.refl _ _).alloc _).drew))
          have FV1 : Hid (Frm [] w7 z1) := Lib.hid FZ1.out
          have OA1 : Hid (LdOwn z1 w7.heap.size 32 [] (some ⟨g1, 0, none⟩) 0 []) := Lib.hid (by rw [hz1, hg1]; exact (LITF.out _ (Frm.refl _ _)).keep (S := []) ((Frm.refl _ _).drew) (by simp) (by simp))
          rw [← hz1] at hHeld ⊢
          (try rw [← hg1])
          have HZZ1 := Lib.hid hz1; clear hz1
          have HGG1 := Lib.hid hg1; clear hg1
          refine wpAnyH_ready (rs := [9, 18]) (by kernel_rfl) (by simp) ?_
          refine AllReadyH.cons (o := ⟨some 143, _, _, _, _, _⟩) rfl (fun K hK => ?_) (AllReadyH.cons (o := ⟨some 152, _, _, _, _, _⟩) rfl (fun K hK => ?_) AllReadyH.nil)
          · have hbz : w7.heap.size ≤ z1.heap.size := FV1.out.size
            refine step_appS (by rfl) (.tmp 138) (.tmp 142) 22 rfl w7.heap.size 32 i0 (.agg #[.int .u64 0, .bool false, .int .u64 0]) 3 24 Try.underlying22 HI.out HZ0.out rfl (by decide) HZ1.out HZ2.out (by decide) (.slice (some ⟨g1, 0, none⟩) 0 0) 0 _ (by simp [Act.eval]) OA1.out.own _ j cap _ (by simp [Act.eval]) (XV.out _ FV1.out) HLX.out (ldc_one _) (fun h => by cases h) hfit1 hbz j (Nat.zero_add j) ?_
            intro a2 c2 z2 happ
            have g3 := OA1.out.app (X := []) (Y := X.take j) rfl TF.out HTL.out.symm (by simp) happ
            have FZ2 : Hid (Frm [g1] z1 z2) := Lib.hid (by have := g3.2.1; simpa using this)
            have GB2 : w7.heap.size ≤ g1 := (OA1.out.blk_lt g1 (by simp)).1
            have FV2 : Hid (Frm [] w7 z2) := Lib.hid (FV1.out.trans FZ2.out (by simp) (fun x hx => .inr (by simp at hx; omega)))
            have OR2 : Hid (LdOwn z2 w7.heap.size 32 [] a2 c2 (X.take j)) := Lib.hid (by have := g3.1; rwa [List.nil_append] at this)
            clear happ g3 hbz GB2
            refine hK.out _ _ FV2.out (fun hHeld => ?_)
            clear hK K
            try simp only [Act.put, List.setIfInBounds_toArray, List.set_cons_zero, List.set_cons_succ]
            refine wpAnyH_ready (rs := [18]) (by kernel_rfl) (by simp) ?_
            refine AllReadyH.cons (o := ⟨some 152, _, _, _, _, _⟩) rfl (fun K hK => ?_) AllReadyH.nil
            go_simp
            refine hK.out _ _ (by repeat (first | assumption | apply Frm.alloc | apply Frm.drew | exact Frm.refl _ _)) (fun hHeld => ?_)
            clear hK K
            try simp only [Act.put, List.setIfInBounds_toArray, List.set_cons_zero, List.set_cons_succ]
            obtain ⟨z3, hz3⟩ : ∃ z, z = (z2.alloc (.cells #[.int .u64 (li : Nat), .bool true, .int .u64 (ct : Nat)] 32)) := ⟨_, rfl⟩
            obtain ⟨g3, hg3⟩ : ∃ q, q = z2.heap.size := ⟨_, rfl⟩
            have FZ3 : Hid (Frm [] z2 z3) := Lib.hid (by rw [hz3]; exact ((Frm.refl _ _).alloc _))
            have FV3 : Hid (Frm [] w7 z3) := Lib.hid (FV2.out.trans FZ3.out (by simp) (by simp))
            have ON3 : Hid (LdL z3 [] (some ⟨g3, 0, none⟩) [⟨li, true, ct⟩]) := Lib.hid (by rw [hz3, hg3]; exact (ONEF.out _ FV2.out).sub (Frm.refl _ _))
            have OR3 : Hid (LdOwn z3 w7.heap.size 32 [] a2 c2 (X.take j)) := Lib.hid (OR2.out.keep FZ3.out (by simp) (by simp))
            rw [← hz3] at hHeld ⊢
            (try rw [← hg3])
            have HZZ3 := Lib.hid hz3; clear hz3
            have HGG3 := Lib.hid hg3; clear hg3
            refine wpAnyH_ready (rs := [19]) (by kernel_rfl) (by simp) ?_
            refine AllReadyH.cons (o := ⟨some 153, _, _, _, _, _⟩) rfl (fun K hK => ?_) AllReadyH.nil
            have hbz : w7.heap.size ≤ z3.heap.size := FV3.out.size
            have OWN : Hid (z3.ownsRow w7.heap.size 32 3 (.slice a2 j c2) j (ldc (X.take j))) := Lib.hid (by have := OR3.out.own; rwa [HTL.out] at this)
            refine step_appS (by rfl) (.tmp 143) (.tmp 152) 22 rfl w7.heap.size 32 i0 (.agg #[.int .u64 0, .bool false, .int .u64 0]) 3 24 Try.underlying22 HI.out HZ0.out rfl (by decide) HZ1.out HZ2.out (by decide) (.slice a2 j c2) j _ (by simp [Act.eval]) OWN.out _ 1 1 _ (by simp [Act.eval]) ON3.out.vals rfl (ldc_one _) (fun h => by cases h) hfit2 hbz k JK.out ?_
            intro a4 c4 z4 happ
            have happ2 : AppS z3 z4 w7.heap.size 32 3 (.slice a2 j c2) j 1 (ldc (X.take j)) (ldc [⟨li, true, ct⟩]) a4 c4 := happ
            have g3 := OR3.out.app (Y := [⟨li, true, ct⟩]) HTL.out.symm YF.out rfl (by simp) happ2
            have FV4 : Hid (Frm [] w7 z4) := Lib.hid (FV3.out.trans g3.2.1 (by simp) (fun x hx => .inr (OR3.out.blk_lt x hx).1))
            have L4 := Lib.hid g3.1.sl
            clear happ happ2 g3 hbz OWN
            refine hK.out _ _ FV4.out (fun hHeld => ?_)
            clear hK K
            try simp only [Act.put, List.setIfInBounds_toArray, List.set_cons_zero, List.set_cons_succ]
            refine wpAnyH_ready (rs := [20]) (by kernel_rfl) (by simp) ?_
            refine AllReadyH.cons (o := ⟨some 154, _, _, _, _, _⟩) rfl (fun K hK => ?_) AllReadyH.nil
            go_simp
            go_at_call 15; (with_reducible refine (SMF.out _ _ _ FV4.out L4.out).mono ?_); rintro e w9 ⟨rfl, hf9⟩; have hHeld9 : Frm [] w7 w9 := hHeld.trans hf9 (by simp) (by simp)
            go_wp2_with fail
            refine hK.out _ _ (by assumption) (fun hHeld => ?_)
            clear hK K
            try simp only [Act.put, List.setIfInBounds_toArray, List.set_cons_zero, List.set_cons_succ]
            refine wpAnyH_take (i := 21) (oi := ⟨some 155, _, _, _, _, _⟩) (v := ?_) rfl (by kernel_rfl) (by kernel_rfl) (by kernel_rfl) (fun _ _ _ h => h) (Or.inl ⟨by rfl, ?_⟩) (by assumption) ?_
            rotate_left 1
            · (intro w hSw; (try dsimp only at hSw); go_simp; all_goals with_reducible rfl)
            try simp only [Act.put, List.setIfInBounds_toArray, List.set_cons_zero, List.set_cons_succ]
            refine wpAnyH_take (i := 22) (oi := ⟨some 10, _, _, _, _, _⟩) (v := ?_) rfl (by kernel_rfl) (by kernel_rfl) (by kernel_rfl) (fun _ _ _ h => h) (Or.inl ⟨by rfl, ?_⟩) (by assumption) ?_
            rotate_left 1
            · (intro w hSw; (try dsimp only at hSw); go_simp; all_goals with_reducible rfl)
            try simp only [Act.put, List.setIfInBounds_toArray, List.set_cons_zero, List.set_cons_succ]
            refine wpAnyH_done (by kernel_rfl) ?_ _
            have FX : Hid (Frm [] w _) := Lib.hid ((FW5.out.trans F7.out (U := []) (by simp) (by simp)).trans hHeld (by simp) (by simp))
            clear yy hcut
            go_wp2
            go_ret
            exact lTrue FX.out
          · go_simp
            refine hK.out _ _ (by repeat (first | assumption | apply Frm.alloc | apply Frm.drew | exact Frm.refl _ _)) (fun hHeld => ?_)
            clear hK K
            try simp only [Act.put, List.setIfInBounds_toArray, List.set_cons_zero, List.set_cons_succ]
            obtain ⟨z5, hz5⟩ : ∃ z, z = (z1.alloc (.cells #[.int .u64 (li : Nat), .bool true, .int .u64 (ct : Nat)] 32)) := ⟨_, rfl⟩
            obtain ⟨g5, hg5⟩ : ∃ q, q = z1.heap.size := ⟨_, rfl⟩
            have FZ5 : Hid (Frm [] z1 z5) := Lib.hid (by rw [hz5]; exact ((Frm.refl _ _).alloc _))
            have FV5 : Hid (Frm [] w7 z5) := Lib.hid (FV1.out.trans FZ5.out (by simp) (by simp))
            have ON5 : Hid (LdL z5 [] (some ⟨g5, 0, none⟩) [⟨li, true, ct⟩]) := Lib.hid (by rw [hz5, hg5]; exact (ONEF.out _ FV1.out).sub (Frm.refl _ _))
            have OA5 : Hid (LdOwn z5 w7.heap.size 32 [] (some ⟨g1, 0, none⟩) 0 []) := Lib.hid (OA1.out.keep FZ5.out (by simp) (by simp))
            rw [← hz5] at hHeld ⊢
            (try rw [← hg5])
            have HZZ5 := Lib.hid hz5; clear hz5
            have HGG5 := Lib.hid hg5; clear hg5
            refine wpAnyH_ready (rs := [9]) (by kernel_rfl) (by simp) ?_
            refine AllReadyH.cons (o := ⟨some 143, _, _, _, _, _⟩) rfl (fun K hK => ?_) AllReadyH.nil
            have NEQ : g5 ≠ g1 := by have h1 := HGG1.out; have h2 := HGG5.out; have h3 := HZZ1.out; rw [h3] at h2; simp at h2; omega
            have AW6 : Hid (LdL z5 [g1] (some ⟨g5, 0, none⟩) [⟨li, true, ct⟩]) := Lib.hid ⟨ON5.out.vals, ON5.out.fits, fun _ y hy hm => by cases hy; simp at hm; exact absurd hm NEQ⟩
            have hbz : w7.heap.size ≤ z5.heap.size := FV5.out.size
            refine step_appS (by rfl) (.tmp 138) (.tmp 142) 22 rfl w7.heap.size 32 i0 (.agg #[.int .u64 0, .bool false, .int .u64 0]) 3 24 Try.underlying22 HI.out HZ0.out rfl (by decide) HZ1.out HZ2.out (by decide) (.slice (some ⟨g1, 0, none⟩) 0 0) 0 _ (by simp [Act.eval]) OA5.out.own _ j cap _ (by simp [Act.eval]) (XV.out _ FV5.out) HLX.out (ldc_one _) (fun h => by cases h) hfit1 hbz j (Nat.zero_add j) ?_
            intro a7 c7 z7 happ
            have g3 := OA5.out.app (X := []) (Y := X.take j) rfl TF.out HTL.out.symm (by simp) happ
            have FZ7 : Hid (Frm [g1] z5 z7) := Lib.hid (by have := g3.2.1; simpa using this)
            have GB7 : w7.heap.size ≤ g1 := (OA5.out.blk_lt g1 (by simp)).1
            have FV7 : Hid (Frm [] w7 z7) := Lib.hid (FV5.out.trans FZ7.out (by simp) (fun x hx => .inr (by simp at hx; omega)))
            have OR7 : Hid (LdOwn z7 w7.heap.size 32 [] a7 c7 (X.take j)) := Lib.hid (by have := g3.1; rwa [List.nil_append] at this)
            have ON7 : Hid (LdL z7 [] (some ⟨g5, 0, none⟩) [⟨li, true, ct⟩]) := Lib.hid (AW6.out.keep FZ7.out (fun x hx => .inl hx) (by simp))
            clear happ g3 hbz GB7
            refine hK.out _ _ FV7.out (fun hHeld => ?_)
            clear hK K
            try simp only [Act.put, List.setIfInBounds_toArray, List.set_cons_zero, List.set_cons_succ]
            refine wpAnyH_ready (rs := [19]) (by kernel_rfl) (by simp) ?_
            refine AllReadyH.cons (o := ⟨some 153, _, _, _, _, _⟩) rfl (fun K hK => ?_) AllReadyH.nil
            have hbz : w7.heap.size ≤ z7.heap.size := FV7.out.size
            have OWN : Hid (z7.ownsRow w7.heap.size 32 3 (.slice a7 j c7) j (ldc (X.take j))) := Lib.hid (by have := OR7.out.own; rwa [HTL.out] at this)
            refine step_appS (by rfl) (.tmp 143) (.tmp 152) 22 rfl w7.heap.size 32 i0 (.agg #[.int .u64 0, .bool false, .int .u64 0]) 3 24 Try.underlying22 HI.out HZ0.out rfl (by decide) HZ1.out HZ2.out (by decide) (.slice a7 j c7) j _ (by simp [Act.eval]) OWN.out _ 1 1 _ (by simp [Act.eval]) ON7.out.vals rfl (ldc_one _) (fun h => by cases h) hfit2 hbz k JK.out ?_
            intro a8 c8 z8 happ
            have happ2 : AppS z7 z8 w7.heap.size 32 3 (.slice a7 j c7) j 1 (ldc (X.take j)) (ldc [⟨li, true, ct⟩]) a8 c8 := happ
            have g3 := OR7.out.app (Y := [⟨li, true, ct⟩]) HTL.out.symm YF.out rfl (by simp) happ2
            have FV8 : Hid (Frm [] w7 z8) := Lib.hid (FV7.out.trans g3.2.1 (by simp) (fun x hx => .inr (OR7.out.blk_lt x hx).1))
            have L8 := Lib.hid g3.1.sl
            clear happ happ2 g3 hbz OWN
            refine hK.out _ _ FV8.out (fun hHeld => ?_)
            clear hK K
            try simp only [Act.put, List.setIfInBounds_toArray, List.set_cons_zero, List.set_cons_succ]
            refine wpAnyH_ready (rs := [20]) (by kernel_rfl) (by simp) ?_
            refine AllReadyH.cons (o := ⟨some 154, _, _, _, _, _⟩) rfl (fun K hK => ?_) AllReadyH.nil
            go_simp
            go_at_call 15; (with_reducible refine (SMF.out _ _ _ FV8.out L8.out).mono ?_); rintro e w9 ⟨rfl, hf9⟩; have hHeld9 : Frm [] w7 w9 := hHeld.trans hf9 (by simp) (by simp)
            go_wp2_with fail
            refine hK.out _ _ (by assumption) (fun hHeld => ?_)
            clear hK K
            try simp only [Act.put, List.setIfInBounds_toArray, List.set_cons_zero, List.set_cons_succ]
            refine wpAnyH_take (i := 21) (oi := ⟨some 155, _, _, _, _, _⟩) (v := ?_) rfl (by kernel_rfl) (by kernel_rfl) (by kernel_rfl) (fun _ _ _ h => h) (Or.inl ⟨by rfl, ?_⟩) (by assumption) ?_
            rotate_left 1
            · (intro w hSw; (try dsimp only at hSw); go_simp; all_goals with_reducible rfl)
            try simp only [Act.put, List.setIfInBounds_toArray, List.set_cons_zero, List.set_cons_succ]
            refine wpAnyH_take (i := 22) (oi := ⟨some 10, _, _, _, _, _⟩) (v := ?_) rfl (by kernel_rfl) (by kernel_rfl) (by kernel_rfl) (fun _ _ _ h => h) (Or.inl ⟨by rfl, ?_⟩) (by assumption) ?_
            rotate_left 1
            · (intro w hSw; (try dsimp only at hSw); go_simp; all_goals with_reducible rfl)
            try simp only [Act.put, List.setIfInBounds_toArray, List.set_cons_zero, List.set_cons_succ]
            refine wpAnyH_done (by kernel_rfl) ?_ _
            have FX : Hid (Frm [] w _) := Lib.hid ((FW5.out.trans F7.out (U := []) (by simp) (by simp)).trans hHeld (by simp) (by simp))
            clear yy hcut
            go_wp2
            go_ret
            exact lTrue FX.out
        · go_simp
          refine hK.out _ _ (by repeat (first | assumption | apply Frm.alloc | apply Frm.drew | exact Frm.refl _ _)) (fun hHeld => ?_)
          clear hK K
          try simp only [Act.put, List.setIfInBounds_toArray, List.set_cons_zero, List.set_cons_succ]
          obtain ⟨z9, hz9⟩ : ∃ z, z = (w7.alloc (.cells #[.int .u64 (li : Nat), .bool true, .int .u64 (ct : Nat)] 32)).drew := ⟨_, rfl⟩
          obtain ⟨g9, hg9⟩ : ∃ q, q = w7.heap.size := ⟨_, rfl⟩
          have FZ9 : Hid (Frm [] w7 z9) := Lib.hid (by rw [hz9]; exact (((Frm.refl _ _).alloc _).drew))
          have FV9 : Hid (Frm [] w7 z9) := Lib.hid FZ9.out
          have ON9 : Hid (LdL z9 [] (some ⟨g9, 0, none⟩) [⟨li, true, ct⟩]) := Lib.hid (by rw [hz9, hg9]; exact (ONEF.out _ (Frm.refl _ _)).sub ((Frm.refl _ _).drew))
          rw [← hz9] at hHeld ⊢
          (try rw [← hg9])
          have HZZ9 := Lib.hid hz9; clear hz9
          have HGG9 := Lib.hid hg9; clear hg9
          refine wpAnyH_ready (rs := [4]) (by kernel_rfl) (by simp) ?_
          refine AllReadyH.cons (o := ⟨some 138, _, _, _, _, _⟩) rfl (fun K hK => ?_) AllReadyH.nil
          go_simp
          refine hK.out _ _ (by repeat (first | assumption | apply Frm.alloc | apply Frm.drew | exact Frm.refl _ _)) (fun hHeld => ?_)
          clear hK K
          try simp only [Act.put, List.setIfInBounds_toArray, List.set_cons_zero, List.set_cons_succ]
          obtain ⟨z10, hz10⟩ : ∃ z, z = (z9.alloc (.cells #[] 32)) := ⟨_, rfl⟩
          obtain ⟨g10, hg10⟩ : ∃ q, q = z9.heap.size := ⟨_, rfl⟩
          have FZ10 : Hid (Frm [] z9 z10) := Lib.hid (by rw [hz10]; exact ((Frm.refl _ _).alloc _))
          have FV10 : Hid (Frm [] w7 z10) := Lib.hid (FV9.out.trans FZ10.out (by simp) (by simp))
          have OA10 : Hid (LdOwn z10 w7.heap.size 32 [] (some ⟨g10, 0, none⟩) 0 []) := Lib.hid (by rw [hz10, hg10]; exact (LITF.out _ FV9.out).keep (S := []) (Frm.refl _ _) (by simp) (by simp))
          have ON10 : Hid (LdL z10 [] (some ⟨g9, 0, none⟩) [⟨li, true, ct⟩]) := Lib.hid (ON9.out.sub FZ10.out)
          rw [← hz10] at hHeld ⊢
          (try rw [← hg10])
          have HZZ10 := Lib.hid hz10; clear hz10
          have HGG10 := Lib.hid hg10; clear hg10
          refine wpAnyH_ready (rs := [9]) (by kernel_rfl) (by simp) ?_
          refine AllReadyH.cons (o := ⟨some 143, _, _, _, _, _⟩) rfl (fun K hK => ?_) AllReadyH.nil
          have NEQ : g9 ≠ g10 := by have h1 := HGG9.out; have h2 := HGG10.out; have h3 := HZZ9.out; rw [h3] at h2; simp at h2; omega
          have AW11 : Hid (LdL z10 [g10] (some ⟨g9, 0, none⟩) [⟨li, true, ct⟩]) := Lib.hid ⟨ON10.out.vals, ON10.out.fits, fun _ y hy hm => by cases hy; simp at hm; exact absurd hm NEQ⟩
          have hbz : w7.heap.size ≤ z10.heap.size := FV10.out.size
          refine step_appS (by rfl) (.tmp 138) (.tmp 142) 22 rfl w7.heap.size 32 i0 (.agg #[.int .u64 0, .bool false, .int .u64 0]) 3 24 Try.underlying22 HI.out HZ0.out rfl (by decide) HZ1.out HZ2.out (by decide) (.slice (some ⟨g10, 0, none⟩) 0 0) 0 _ (by simp [Act.eval]) OA10.out.own _ j cap _ (by simp [Act.eval]) (XV.out _ FV10.out) HLX.out (ldc_one _) (fun h => by cases h) hfit1 hbz j (Nat.zero_add j) ?_
          intro a12 c12 z12 happ
          have g3 := OA10.out.app (X := []) (Y := X.take j) rfl TF.out HTL.out.symm (by simp) happ
          have FZ12 : Hid (Frm [g10] z10 z12) := Lib.hid (by have := g3.2.1; simpa using this)
          have GB12 : w7.heap.size ≤ g10 := (OA10.out.blk_lt g10 (by simp)).1
          have FV12 : Hid (Frm [] w7 z12) := Lib.hid (FV10.out.trans FZ12.out (by simp) (fun x hx => .inr (by simp at hx; omega)))
          have OR12 : Hid (LdOwn z12 w7.heap.size 32 [] a12 c12 (X.take j)) := Lib.hid (by have := g3.1; rwa [List.nil_append] at this)
          have ON12 : Hid (LdL z12 [] (some ⟨g9, 0, none⟩) [⟨li, true, ct⟩]) := Lib.hid (AW11.out.keep FZ12.out (fun x hx => .inl hx) (by simp))
          clear happ g3 hbz GB12
          refine hK.out _ _ FV12.out (fun hHeld => ?_)
          clear hK K
          try simp only [Act.put, List.setIfInBounds_toArray, List.set_cons_zero, List.set_cons_succ]
          refine wpAnyH_ready (rs := [19]) (by kernel_rfl) (by simp) ?_
          refine AllReadyH.cons (o := ⟨some 153, _, _, _, _, _⟩) rfl (fun K hK => ?_) AllReadyH.nil
          have hbz : w7.heap.size ≤ z12.heap.size := FV12.out.size
          have OWN : Hid (z12.ownsRow w7.heap.size 32 3 (.slice a12 j c12) j (ldc (X.take j))) := Lib.hid (by have := OR12.out.own; rwa [HTL.out] at this)
          refine step_appS (by rfl) (.tmp 143) (.tmp 152) 22 rfl w7.heap.size 32 i0 (.agg #[.int .u64 0, .bool false, .int .u64 0]) 3 24 Try.underlying22 HI.out HZ0.out rfl (by decide) HZ1.out HZ2.out (by decide) (.slice a12 j c12) j _ (by simp [Act.eval]) OWN.out _ 1 1 _ (by simp [Act.eval]) ON12.out.vals rfl (ldc_one _) (fun h => by cases h) hfit2 hbz k JK.out ?_
          intro a13 c13 z13 happ
          have happ2 : AppS z12 z13 w7.heap.size 32 3 (.slice a12 j c12) j 1 (ldc (X.take j)) (ldc [⟨li, true, ct⟩]) a13 c13 := happ
          have g3 := OR12.out.app (Y := [⟨li, true, ct⟩]) HTL.out.symm YF.out rfl (by simp) happ2
          have FV13 : Hid (Frm [] w7 z13) := Lib.hid (FV12.out.trans g3.2.1 (by simp) (fun x hx => .inr (OR12.out.blk_lt x hx).1))
          have L13 := Lib.hid g3.1.sl
          clear happ happ2 g3 hbz OWN
          refine hK.out _ _ FV13.out (fun hHeld => ?_)
          clear hK K
          try simp only [Act.put, List.setIfInBounds_toArray, List.set_cons_zero, List.set_cons_succ]
          refine wpAnyH_ready (rs := [20]) (by kernel_rfl) (by simp) ?_
          refine AllReadyH.cons (o := ⟨some 154, _, _, _, _, _⟩) rfl (fun K hK => ?_) AllReadyH.nil
          go_simp
          go_at_call 15; (with_reducible refine (SMF.out _ _ _ FV13.out L13.out).mono ?_); rintro e w9 ⟨rfl, hf9⟩; have hHeld9 : Frm [] w7 w9 := hHeld.trans hf9 (by simp) (by simp)
          go_wp2_with fail
          refine hK.out _ _ (by assumption) (fun hHeld => ?_)
          clear hK K
          try simp only [Act.put, List.setIfInBounds_toArray, List.set_cons_zero, List.set_cons_succ]
          refine wpAnyH_take (i := 21) (oi := ⟨some 155, _, _, _, _, _⟩) (v := ?_) rfl (by kernel_rfl) (by kernel_rfl) (by kernel_rfl) (fun _ _ _ h => h) (Or.inl ⟨by rfl, ?_⟩) (by assumption) ?_
          rotate_left 1
          · (intro w hSw; (try dsimp only at hSw); go_simp; all_goals with_reducible rfl)
          try simp only [Act.put, List.setIfInBounds_toArray, List.set_cons_zero, List.set_cons_succ]
          refine wpAnyH_take (i := 22) (oi := ⟨some 10, _, _, _, _, _⟩) (v := ?_) rfl (by kernel_rfl) (by kernel_rfl) (by kernel_rfl) (fun _ _ _ h => h) (Or.inl ⟨by rfl, ?_⟩) (by assumption) ?_
          rotate_left 1
          · (intro w hSw; (try dsimp only at hSw); go_simp; all_goals with_reducible rfl)
          try simp only [Act.put, List.setIfInBounds_toArray, List.set_cons_zero, List.set_cons_succ]
          refine wpAnyH_done (by kernel_rfl) ?_ _
          have FX : Hid (Frm [] w _) := Lib.hid ((FW5.out.trans F7.out (U := []) (by simp) (by simp)).trans hHeld (by simp) (by simp))
          clear yy hcut
          go_wp2
          go_ret
          exact lTrue FX.out
    · have CL := Lib.hid (CLR.out 23 (by decide) (by rw [if_neg (by simp)]))
      by_cases h1 : id ≤ li
      · have OP := Lib.hid (OPR.out 30 (by decide) (by rw [if_neg (by simp), if_pos h1]))
        have d1 : decide (id ≤ li) = true := decide_eq_true h1
        have d1' : decide ((id : Int) ≤ (li : Int)) = true := decide_eq_true (by omega)
        by_cases hi0 : id = 0
        · have di : ((id : Int) == 0) = true := by rw [beq_iff_eq]; omega
          clear OPR CLR OPO CLO hi0 hid hk13 h1 hjX
          go_wp2_with fail
          (with_reducible refine (OP.out _ (Frm.refl _ _)).mono ?_)
          rintro e w6 ⟨rfl, hf6⟩
          have F6 : Hid (Frm [] w5 w6) := Lib.hid hf6
          clear hf6
          go_wp2_with fail
          (with_reducible refine (CL.out _ F6.out).mono ?_)
          rintro e w7 ⟨rfl, hf7⟩
          have F7 : Hid (Frm [] w5 w7) := Lib.hid (F6.out.trans hf7 (by simp) (by simp))
          clear hf7
          obtain ⟨y0, y1⟩ := LC.out _ F7.out
          go_wp2
          refine wp_region_held_drew (S := fun w' => Frm [] w7 w') (by kernel_rfl) (Frm.drew (Frm.refl _ _)) (fun hHeld => ?_)
          refine wpAnyH_take (i := 0) (oi := ⟨some 134, _, _, _, _, _⟩) (v := ?_) rfl (by kernel_rfl) (by kernel_rfl) (by kernel_rfl) (fun _ _ _ h => h) (Or.inl ⟨by rfl, ?_⟩) (by assumption) ?_
          rotate_left 1
          · (intro w hSw; (try dsimp only at hSw); go_simp; all_goals with_reducible rfl)
          try simp only [Act.put, List.setIfInBounds_toArray, List.set_cons_zero, List.set_cons_succ]
          refine wpAnyH_take (i := 1) (oi := ⟨some 135, _, _, _, _, _⟩) (v := ?_) rfl (by kernel_rfl) (by kernel_rfl) (by kernel_rfl) (fun _ _ _ h => h) (Or.inl ⟨by rfl, ?_⟩) (by assumption) ?_
          rotate_left 1
          · (intro w hSw; (try dsimp only at hSw); go_simp; all_goals with_reducible rfl)
          try simp only [Act.put, List.setIfInBounds_toArray, List.set_cons_zero, List.set_cons_succ]
          refine wpAnyH_take (i := 2) (oi := ⟨some 136, _, _, _, _, _⟩) (v := ?_) rfl (by kernel_rfl) (by kernel_rfl) (by kernel_rfl) (fun _ _ _ h => h) (Or.inl ⟨by rfl, ?_⟩) (by assumption) ?_
          rotate_left 1
          · (intro w hSw; (try dsimp only at hSw); go_simp; all_goals with_reducible rfl)
          try simp only [Act.put, List.setIfInBounds_toArray, List.set_cons_zero, List.set_cons_succ]
          refine wpAnyH_take (i := 3) (oi := ⟨some 137, _, _, _, _, _⟩) (v := undef) rfl (by kernel_rfl) (by kernel_rfl) (by kernel_rfl) (fun _ _ _ h => h) (Or.inr ⟨by rfl, rfl⟩) (by assumption) ?_
          try simp only [Act.put, List.setIfInBounds_toArray, List.set_cons_zero, List.set_cons_succ]
          refine wpAnyH_take (i := 4) (oi := ⟨some 138, _, _, _, _, _⟩) (v := undef) rfl (by kernel_rfl) (by kernel_rfl) (by kernel_rfl) (fun _ _ _ h => h) (Or.inr ⟨by rfl, rfl⟩) (by assumption) ?_
          try simp only [Act.put, List.setIfInBounds_toArray, List.set_cons_zero, List.set_cons_succ]
          refine wpAnyH_take (i := 5) (oi := ⟨some 139, _, _, _, _, _⟩) (v := undef) rfl (by kernel_rfl) (by kernel_rfl) (by kernel_rfl) (fun _ _ _ h => h) (Or.inr ⟨by rfl, rfl⟩) (by assumption) ?_
          try simp only [Act.put, List.setIfInBounds_toArray, List.set_cons_zero, List.set_cons_succ]
          refine wpAnyH_take (i := 6) (oi := ⟨some 140, _, _, _, _, _⟩) (v := undef) rfl (by kernel_rfl) (by kernel_rfl) (by kernel_rfl) (fun _ _ _ h => h) (Or.inr ⟨by rfl, rfl⟩) (by assumption) ?_
          try simp only [Act.put, List.setIfInBounds_toArray, List.set_cons_zero, List.set_cons_succ]
          refine wpAnyH_take (i := 7) (oi := ⟨some 141, _, _, _, _, _⟩) (v := undef) rfl (by kernel_rfl) (by kernel_rfl) (by kernel_rfl) (fun _ _ _ h => h) (Or.inr ⟨by rfl, rfl⟩) (by assumption) ?_
          try simp only [Act.put, List.setIfInBounds_toArray, List.set_cons_zero, List.set_cons_succ]
          refine wpAnyH_take (i := 8) (oi := ⟨some 142, _, _, _, _, _⟩) (v := undef) rfl (by kernel_rfl) (by kernel_rfl) (by kernel_rfl) (fun _ _ _ h => h) (Or.inr ⟨by rfl, rfl⟩) (by assumption) ?_
          try simp only [Act.put, List.setIfInBounds_toArray, List.set_cons_zero, List.set_cons_succ]
          refine wpAnyH_take (i := 9) (oi := ⟨some 143, _, _, _, _, _⟩) (v := undef) rfl (by kernel_rfl) (by kernel_rfl) (by kernel_rfl) (fun _ _ _ h => h) (Or.inr ⟨by rfl, rfl⟩) (by assumption) ?_
          try simp only [Act.put, List.setIfInBounds_toArray, List.set_cons_zero, List.set_cons_succ]
          refine wpAnyH_take (i := 10) (oi := ⟨some 144, _, _, _, _, _⟩) (v := undef) rfl (by kernel_rfl) (by kernel_rfl) (by kernel_rfl) (fun _ _ _ h => h) (Or.inr ⟨by rfl, rfl⟩) (by assumption) ?_
          try simp only [Act.put, List.setIfInBounds_toArray, List.set_cons_zero, List.set_cons_succ]
          refine wpAnyH_take (i := 11) (oi := ⟨some 145, _, _, _, _, _⟩) (v := undef) rfl (by kernel_rfl) (by kernel_rfl) (by kernel_rfl) (fun _ _ _ h => h) (Or.inr ⟨by rfl, rfl⟩) (by assumption) ?_
          try simp only [Act.put, List.setIfInBounds_toArray, List.set_cons_zero, List.set_cons_succ]
          refine wpAnyH_take (i := 12) (oi := ⟨some 146, _, _, _, _, _⟩) (v := undef) rfl (by kernel_rfl) (by kernel_rfl) (by kernel_rfl) (fun _ _ _ h => h) (Or.inr ⟨by rfl, rfl⟩) (by assumption) ?_
          try simp only [Act.put, List.setIfInBounds_toArray, List.set_cons_zero, List.set_cons_succ]
          refine wpAnyH_take (i := 13) (oi := ⟨some 147, _, _, _, _, _⟩) (v := undef) rfl (by kernel_rfl) (by kernel_rfl) (by kernel_rfl) (fun _ _ _ h => h) (Or.inr ⟨by rfl, rfl⟩) (by assumption) ?_
          try simp only [Act.put, List.setIfInBounds_toArray, List.set_cons_zero, List.set_cons_succ]
          refine wpAnyH_take (i := 14) (oi := ⟨some 148, _, _, _, _, _⟩) (v := undef) rfl (by kernel_rfl) (by kernel_rfl) (by kernel_rfl) (fun _ _ _ h => h) (Or.inr ⟨by rfl, rfl⟩) (by assumption) ?_
          try simp only [Act.put, List.setIfInBounds_toArray, List.set_cons_zero, List.set_cons_succ]
          refine wpAnyH_take (i := 15) (oi := ⟨some 149, _, _, _, _, _⟩) (v := undef) rfl (by kernel_rfl) (by kernel_rfl) (by kernel_rfl) (fun _ _ _ h => h) (Or.inr ⟨by rfl, rfl⟩) (by assumption) ?_
          try simp only [Act.put, List.setIfInBounds_toArray, List.set_cons_zero, List.set_cons_succ]
          refine wpAnyH_take (i := 16) (oi := ⟨some 150, _, _, _, _, _⟩) (v := undef) rfl (by kernel_rfl) (by kernel_rfl) (by kernel_rfl) (fun _ _ _ h => h) (Or.inr ⟨by rfl, rfl⟩) (by assumption) ?_
          try simp only [Act.put, List.setIfInBounds_toArray, List.set_cons_zero, List.set_cons_succ]
          refine wpAnyH_take (i := 17) (oi := ⟨some 151, _, _, _, _, _⟩) (v := undef) rfl (by kernel_rfl) (by kernel_rfl) (by kernel_rfl) (fun _ _ _ h => h) (Or.inr ⟨by rfl, rfl⟩) (by assumption) ?_
          try simp only [Act.put, List.setIfInBounds_toArray, List.set_cons_zero, List.set_cons_succ]
          refine wpAnyH_take (i := 18) (oi := ⟨some 152, _, _, _, _, _⟩) (v := undef) rfl (by kernel_rfl) (by kernel_rfl) (by kernel_rfl) (fun _ _ _ h => h) (Or.inr ⟨by rfl, rfl⟩) (by assumption) ?_
          try simp only [Act.put, List.setIfInBounds_toArray, List.set_cons_zero, List.set_cons_succ]
          refine wpAnyH_take (i := 19) (oi := ⟨some 153, _, _, _, _, _⟩) (v := undef) rfl (by kernel_rfl) (by kernel_rfl) (by kernel_rfl) (fun _ _ _ h => h) (Or.inr ⟨by rfl, rfl⟩) (by assumption) ?_
          try simp only [Act.put, List.setIfInBounds_toArray, List.set_cons_zero, List.set_cons_succ]
          refine wpAnyH_take (i := 20) (oi := ⟨some 154, _, _, _, _, _⟩) (v := undef) rfl (by kernel_rfl) (by kernel_rfl) (by kernel_rfl) (fun _ _ _ h => h) (Or.inr ⟨by rfl, rfl⟩) (by assumption) ?_
          try simp only [Act.put, List.setIfInBounds_toArray, List.set_cons_zero, List.set_cons_succ]
          refine wpAnyH_take (i := 21) (oi := ⟨some 155, _, _, _, _, _⟩) (v := ?_) rfl (by kernel_rfl) (by kernel_rfl) (by kernel_rfl) (fun _ _ _ h => h) (Or.inl ⟨by rfl, ?_⟩) (by assumption) ?_
          rotate_left 1
          · (intro w hSw; (try dsimp only at hSw); go_simp; all_goals with_reducible rfl)
          try simp only [Act.put, List.setIfInBounds_toArray, List.set_cons_zero, List.set_cons_succ]
          refine wpAnyH_take (i := 22) (oi := ⟨some 10, _, _, _, _, _⟩) (v := ?_) rfl (by kernel_rfl) (by kernel_rfl) (by kernel_rfl) (fun _ _ _ h => h) (Or.inl ⟨by rfl, ?_⟩) (by assumption) ?_
          rotate_left 1
          · (intro w hSw; (try dsimp only at hSw); go_simp; all_goals with_reducible rfl)
          try simp only [Act.put, List.setIfInBounds_toArray, List.set_cons_zero, List.set_cons_succ]
          refine wpAnyH_done (by kernel_rfl) ?_ _
          have FX : Hid (Frm [] w _) := Lib.hid ((FW5.out.trans F7.out (U := []) (by simp) (by simp)).trans hHeld (by simp) (by simp))
          go_wp2
          go_ret
          exact lTrue FX.out
        · have di : ((id : Int) == 0) = false := by rw [beq_eq_false_iff_ne]; omega
          clear OPR CLR OPO CLO hi0 hid hk13 h1 hjX
          go_wp2_with fail
          (with_reducible refine (OP.out _ (Frm.refl _ _)).mono ?_)
          rintro e w6 ⟨rfl, hf6⟩
          have F6 : Hid (Frm [] w5 w6) := Lib.hid hf6
          clear hf6
          go_wp2_with fail
          (with_reducible refine (CL.out _ F6.out).mono ?_)
          rintro e w7 ⟨rfl, hf7⟩
          have F7 : Hid (Frm [] w5 w7) := Lib.hid (F6.out.trans hf7 (by simp) (by simp))
          clear hf7
          obtain ⟨y0, y1⟩ := LC.out _ F7.out
          go_wp2
          refine wp_region_held_drew (S := fun w' => Frm [] w7 w') (by kernel_rfl) (Frm.drew (Frm.refl _ _)) (fun hHeld => ?_)
          refine wpAnyH_take (i := 0) (oi := ⟨some 134, _, _, _, _, _⟩) (v := ?_) rfl (by kernel_rfl) (by kernel_rfl) (by kernel_rfl) (fun _ _ _ h => h) (Or.inl ⟨by rfl, ?_⟩) (by assumption) ?_
          rotate_left 1
          · (intro w hSw; (try dsimp only at hSw); go_simp; all_goals with_reducible rfl)
          try simp only [Act.put, List.setIfInBounds_toArray, List.set_cons_zero, List.set_cons_succ]
          refine wpAnyH_take (i := 1) (oi := ⟨some 135, _, _, _, _, _⟩) (v := ?_) rfl (by kernel_rfl) (by kernel_rfl) (by kernel_rfl) (fun _ _ _ h => h) (Or.inl ⟨by rfl, ?_⟩) (by assumption) ?_
          rotate_left 1
          · (intro w hSw; (try dsimp only at hSw); go_simp; all_goals with_reducible rfl)
          try simp only [Act.put, List.setIfInBounds_toArray, List.set_cons_zero, List.set_cons_succ]
          refine wpAnyH_take (i := 2) (oi := ⟨some 136, _, _, _, _, _⟩) (v := ?_) rfl (by kernel_rfl) (by kernel_rfl) (by kernel_rfl) (fun _ _ _ h => h) (Or.inl ⟨by rfl, ?_⟩) (by assumption) ?_
          rotate_left 1
          · (intro w hSw; (try dsimp only at hSw); go_simp; all_goals with_reducible rfl)
          try simp only [Act.put, List.setIfInBounds_toArray, List.set_cons_zero, List.set_cons_succ]
          refine wpAnyH_take (i := 3) (oi := ⟨some 137, _, _, _, _, _⟩) (v := undef) rfl (by kernel_rfl) (by kernel_rfl) (by kernel_rfl) (fun _ _ _ h => h) (Or.inr ⟨by rfl, rfl⟩) (by assumption) ?_
          try simp only [Act.put, List.setIfInBounds_toArray, List.set_cons_zero, List.set_cons_succ]
          refine wpAnyH_take (i := 4) (oi := ⟨some 138, _, _, _, _, _⟩) (v := undef) rfl (by kernel_rfl) (by kernel_rfl) (by kernel_rfl) (fun _ _ _ h => h) (Or.inr ⟨by rfl, rfl⟩) (by assumption) ?_
          try simp only [Act.put, List.setIfInBounds_toArray, List.set_cons_zero, List.set_cons_succ]
          refine wpAnyH_take (i := 5) (oi := ⟨some 139, _, _, _, _, _⟩) (v := undef) rfl (by kernel_rfl) (by kernel_rfl) (by kernel_rfl) (fun _ _ _ h => h) (Or.inr ⟨by rfl, rfl⟩) (by assumption) ?_
          try simp only [Act.put, List.setIfInBounds_toArray, List.set_cons_zero, List.set_cons_succ]
          refine wpAnyH_take (i := 6) (oi := ⟨some 140, _, _, _, _, _⟩) (v := undef) rfl (by kernel_rfl) (by kernel_rfl) (by kernel_rfl) (fun _ _ _ h => h) (Or.inr ⟨by rfl, rfl⟩) (by assumption) ?_
          try simp only [Act.put, List.setIfInBounds_toArray, List.set_cons_zero, List.set_cons_succ]
          refine wpAnyH_take (i := 7) (oi := ⟨some 141, _, _, _, _, _⟩) (v := undef) rfl (by kernel_rfl) (by kernel_rfl) (by kernel_rfl) (fun _ _ _ h => h) (Or.inr ⟨by rfl, rfl⟩) (by assumption) ?_
          try simp only [Act.put, List.setIfInBounds_toArray, List.set_cons_zero, List.set_cons_succ]
          refine wpAnyH_take (i := 8) (oi := ⟨some 142, _, _, _, _, _⟩) (v := undef) rfl (by kernel_rfl) (by kernel_rfl) (by kernel_rfl) (fun _ _ _ h => h) (Or.inr ⟨by rfl, rfl⟩) (by assumption) ?_
          try simp only [Act.put, List.setIfInBounds_toArray, List.set_cons_zero, List.set_cons_succ]
          refine wpAnyH_take (i := 9) (oi := ⟨some 143, _, _, _, _, _⟩) (v := undef) rfl (by kernel_rfl) (by kernel_rfl) (by kernel_rfl) (fun _ _ _ h => h) (Or.inr ⟨by rfl, rfl⟩) (by assumption) ?_
          try simp only [Act.put, List.setIfInBounds_toArray, List.set_cons_zero, List.set_cons_succ]
          refine wpAnyH_take (i := 10) (oi := ⟨some 144, _, _, _, _, _⟩) (v := undef) rfl (by kernel_rfl) (by kernel_rfl) (by kernel_rfl) (fun _ _ _ h => h) (Or.inr ⟨by rfl, rfl⟩) (by assumption) ?_
          try simp only [Act.put, List.setIfInBounds_toArray, List.set_cons_zero, List.set_cons_succ]
          refine wpAnyH_take (i := 11) (oi := ⟨some 145, _, _, _, _, _⟩) (v := undef) rfl (by kernel_rfl) (by kernel_rfl) (by kernel_rfl) (fun _ _ _ h => h) (Or.inr ⟨by rfl, rfl⟩) (by assumption) ?_
          try simp only [Act.put, List.setIfInBounds_toArray, List.set_cons_zero, List.set_cons_succ]
          refine wpAnyH_take (i := 12) (oi := ⟨some 146, _, _, _, _, _⟩) (v := undef) rfl (by kernel_rfl) (by kernel_rfl) (by kernel_rfl) (fun _ _ _ h => h) (Or.inr ⟨by rfl, rfl⟩) (by assumption) ?_
          try simp only [Act.put, List.setIfInBounds_toArray, List.set_cons_zero, List.set_cons_succ]
          refine wpAnyH_take (i := 13) (oi := ⟨some 147, _, _, _, _, _⟩) (v := undef) rfl (by kernel_rfl) (by kernel_rfl) (by kernel_rfl) (fun _ _ _ h => h) (Or.inr ⟨by rfl, rfl⟩) (by assumption) ?_
          try simp only [Act.put, List.setIfInBounds_toArray, List.set_cons_zero, List.set_cons_succ]
          refine wpAnyH_take (i := 14) (oi := ⟨some 148, _, _, _, _, _⟩) (v := undef) rfl (by kernel_rfl) (by kernel_rfl) (by kernel_rfl) (fun _ _ _ h => h) (Or.inr ⟨by rfl, rfl⟩) (by assumption) ?_
          try simp only [Act.put, List.setIfInBounds_toArray, List.set_cons_zero, List.set_cons_succ]
          refine wpAnyH_take (i := 15) (oi := ⟨some 149, _, _, _, _, _⟩) (v := undef) rfl (by kernel_rfl) (by kernel_rfl) (by kernel_rfl) (fun _ _ _ h => h) (Or.inr ⟨by rfl, rfl⟩) (by assumption) ?_
          try simp only [Act.put, List.setIfInBounds_toArray, List.set_cons_zero, List.set_cons_succ]
          refine wpAnyH_take (i := 16) (oi := ⟨some 150, _, _, _, _, _⟩) (v := undef) rfl (by kernel_rfl) (by kernel_rfl) (by kernel_rfl) (fun _ _ _ h => h) (Or.inr ⟨by rfl, rfl⟩) (by assumption) ?_
          try simp only [Act.put, List.setIfInBounds_toArray, List.set_cons_zero, List.set_cons_succ]
          refine wpAnyH_take (i := 17) (oi := ⟨some 151, _, _, _, _, _⟩) (v := undef) rfl (by kernel_rfl) (by kernel_rfl) (by kernel_rfl) (fun _ _ _ h => h) (Or.inr ⟨by rfl, rfl⟩) (by assumption) ?_
          try simp only [Act.put, List.setIfInBounds_toArray, List.set_cons_zero, List.set_cons_succ]
          refine wpAnyH_take (i := 18) (oi := ⟨some 152, _, _, _, _, _⟩) (v := undef) rfl (by kernel_rfl) (by kernel_rfl) (by kernel_rfl) (fun _ _ _ h => h) (Or.inr ⟨by rfl, rfl⟩) (by assumption) ?_
          try simp only [Act.put, List.setIfInBounds_toArray, List.set_cons_zero, List.set_cons_succ]
          refine wpAnyH_take (i := 19) (oi := ⟨some 153, _, _, _, _, _⟩) (v := undef) rfl (by kernel_rfl) (by kernel_rfl) (by kernel_rfl) (fun _ _ _ h => h) (Or.inr ⟨by rfl, rfl⟩) (by assumption) ?_
          try simp only [Act.put, List.setIfInBounds_toArray, List.set_cons_zero, List.set_cons_succ]
          refine wpAnyH_take (i := 20) (oi := ⟨some 154, _, _, _, _, _⟩) (v := undef) rfl (by kernel_rfl) (by kernel_rfl) (by kernel_rfl) (fun _ _ _ h => h) (Or.inr ⟨by rfl, rfl⟩) (by assumption) ?_
          try simp only [Act.put, List.setIfInBounds_toArray, List.set_cons_zero, List.set_cons_succ]
          refine wpAnyH_take (i := 21) (oi := ⟨some 155, _, _, _, _, _⟩) (v := ?_) rfl (by kernel_rfl) (by kernel_rfl) (by kernel_rfl) (fun _ _ _ h => h) (Or.inl ⟨by rfl, ?_⟩) (by assumption) ?_
          rotate_left 1
          · (intro w hSw; (try dsimp only at hSw); go_simp; all_goals with_reducible rfl)
          try simp only [Act.put, List.setIfInBounds_toArray, List.set_cons_zero, List.set_cons_succ]
          refine wpAnyH_take (i := 22) (oi := ⟨some 10, _, _, _, _, _⟩) (v := ?_) rfl (by kernel_rfl) (by kernel_rfl) (by kernel_rfl) (fun _ _ _ h => h) (Or.inl ⟨by rfl, ?_⟩) (by assumption) ?_
          rotate_left 1
          · (intro w hSw; (try dsimp only at hSw); go_simp; all_goals with_reducible rfl)
          try simp only [Act.put, List.setIfInBounds_toArray, List.set_cons_zero, List.set_cons_succ]
          refine wpAnyH_done (by kernel_rfl) ?_ _
          have FX : Hid (Frm [] w _) := Lib.hid ((FW5.out.trans F7.out (U := []) (by simp) (by simp)).trans hHeld (by simp) (by simp))
          go_wp2
          go_ret
          exact lTrue FX.out
      · have OP := Lib.hid (OPO.out (by rfl) h1)
        have d1 : decide (id ≤ li) = false := decide_eq_false h1
        have d1' : decide ((id : Int) ≤ (li : Int)) = false := decide_eq_false (by omega)
        have di : ((id : Int) == 0) = false := by rw [beq_eq_false_iff_ne]; omega
        clear OPR CLR OPO CLO h1 hjX
        go_wp2_with fail
        (with_reducible refine (OP.out _ (Frm.refl _ _)).mono ?_)
        rintro e w6 ⟨a6, c6, rfl, ho6, hf6⟩
        have F6 : Hid (Frm [] w5 w6) := Lib.hid hf6
        have L6 : Hid (LdL w6 [] a6 (X ++ [⟨id, false, 0⟩])) := Lib.hid ho6.sl
        clear hf6 ho6
        go_wp2_with fail
        (with_reducible refine (CL.out _ F6.out).mono ?_)
        rintro e w7 ⟨rfl, hf7⟩
        have F7 : Hid (Frm [] w5 w7) := Lib.hid (F6.out.trans hf7 (by simp) (by simp))
        have L7 : Hid (LdL w7 [] a6 (X ++ [⟨id, false, 0⟩])) := Lib.hid (L6.out.sub hf7)
        clear hf7 L6
        obtain ⟨y0, y1⟩ := LC.out _ F7.out
        obtain ⟨i0, hi, hz0, hz1, hz2⟩ := info_parts infoLd
        have HI := Lib.hid hi; clear hi
        have HZ0 := Lib.hid hz0; clear hz0
        have HZ1 := Lib.hid hz1; clear hz1
        have HZ2 := Lib.hid hz2; clear hz2
        have HLIT : Hid (LdOwn (w7.alloc (.cells #[] 32)) w7.heap.size 32 [] (some ⟨w7.heap.size, 0, none⟩) 0 []) := Lib.hid ⟨World.ownsRow_lit w7 #[] 0 (Nat.le_refl _) (by unfold maxLen; omega) rfl, by simp, by simp⟩
        have HV := Lib.hid ((O5.out.sl.sub F7.out).sub ((Frm.refl [] w7).alloc (.cells #[] 32))).vals
        have HLX : Hid ((ldc X).length = k * 3) := Lib.hid (by rw [ldc_length, HK.out])
        have HNIL := Lib.hid O5.out.caps.2.2
        have hfit1 : 0 + k ≤ 1000000000 := by omega
        have hfit2 : k + 1 ≤ 1000000000 := by omega
        go_wp2_with (at_builtin; refine wpList_appS (by rfl) (.tmp 124) (.tmp 125) 22 rfl w7.heap.size 32 i0 (.agg #[.int .u64 0, .bool false, .int .u64 0]) 3 24 Try.underlying22 HI.out HZ0.out rfl (by decide) HZ1.out HZ2.out (by decide) (.slice (some ⟨w7.heap.size, 0, none⟩) 0 0) 0 _ rfl HLIT.out.own _ k cap _ rfl HV.out HLX.out (ldc_one _) HNIL.out hfit1 (by simp) ?_)
        intro a8 c8 w8 happ
        have g3 := HLIT.out.app (X := []) (Y := X) rfl O5.out.fits HK.out (by simp) happ
        have F8 : Hid (Frm [] w7 w8) := Lib.hid (((Frm.refl [] w7).alloc (.cells #[] 32)).grown happ.grown (fun k hk => .inr (by cases hk; exact Nat.le_refl _)))
        have ho8 := g3.1
        rw [List.nil_append] at ho8
        have O8 := Lib.hid ho8
        clear happ g3 ho8 HV HLIT
        have ONE : Hid (ValsAt (w8.alloc (.cells #[.int .u64 (id : Nat), .bool false, .int .u64 0] 32)) (some ⟨w8.heap.size, 0, none⟩) (ldc [⟨id, false, 0⟩])) := Lib.hid (ldcvals_one w8 ⟨id, false, 0⟩ 32)
        have O9 : Hid (LdOwn (w8.alloc (.cells #[.int .u64 (id : Nat), .bool false, .int .u64 0] 32)) w7.heap.size 32 [] a8 c8 X) := Lib.hid (O8.out.keep (S := []) ((Frm.refl _ _).alloc _) (by simp) (by simp))
        have OWN9 : Hid ((w8.alloc (.cells #[.int .u64 (id : Nat), .bool false, .int .u64 0] 32)).ownsRow w7.heap.size 32 3 (.slice a8 k c8) k (ldc X)) := Lib.hid (by have := O9.out.own; rwa [← HK.out] at this)
        have hbz : w7.heap.size ≤ (w8.alloc (.cells #[.int .u64 (id : Nat), .bool false, .int .u64 0] 32)).heap.size := by have := F8.out.size; simp; omega
        have h0k : 0 + k = k := Nat.zero_add k
        go_wp2_with (at_builtin; refine wpList_appS (by rfl) (.tmp 126) (.tmp 129) 22 rfl w7.heap.size 32 i0 (.agg #[.int .u64 0, .bool false, .int .u64 0]) 3 24 Try.underlying22 HI.out HZ0.out rfl (by decide) HZ1.out HZ2.out (by decide) (.slice a8 k c8) k _ (by simp [Act.eval]) OWN9.out _ 1 1 _ rfl ONE.out rfl (ldc_one _) (fun h => by cases h) hfit2 hbz ?_)
        intro a10 c10 w10 happ
        have g3 := O9.out.app (Y := [⟨id, false, 0⟩]) HK.out (by intro y hy; simp at hy; subst hy; exact ⟨hid, by show 0 < 18446744073709551616; omega⟩) rfl (by simp) happ
        have F10 : Hid (Frm [] w7 w10) := Lib.hid ((F8.out.alloc (.cells #[.int .u64 (id : Nat), .bool false, .int .u64 0] 32)).trans g3.2.1 (by simp) (fun x hx => .inr (O9.out.blk_lt x hx).1))
        have L10 := Lib.hid g3.1.sl
        clear happ g3 ONE OWN9 O9 hbz
        have SM : Hid (Calls Try.prog 15 #[.slice a6 (k + 1 : Nat) c6, .slice a10 (k + 1 : Nat) c10] w10 fun e w' => e = .returned (.bool true) ∧ Frm [] w10 w') := Lib.hid ((rlsame_any a6 a10 (k + 1) c6 (k + 1) c10 _ _ w10 (L7.out.sub F10.out) L10.out (by rw [List.length_append, ← HK.out]; rfl) (by rw [List.length_append, ← HK.out]; rfl) (by omega) (by omega)).mono fun e w' hh => hh.yes rfl)
        go_wp2_with fail
        (with_reducible refine SM.out.mono ?_)
        rintro e w11 ⟨rfl, hf11⟩
        have F11 : Hid (Frm [] w5 w11) := Lib.hid (F7.out.trans (F10.out.trans hf11 (U := []) (by simp) (by simp)) (by simp) (by simp))
        clear hf11
        go_wp2
        refine wp_region_held_drew (S := fun w' => Frm [] w11 w') (by kernel_rfl) (Frm.drew (Frm.refl _ _)) (fun hHeld => ?_)
        refine wpAnyH_take (i := 0) (oi := ⟨some 134, _, _, _, _, _⟩) (v := ?_) rfl (by kernel_rfl) (by kernel_rfl) (by kernel_rfl) (fun _ _ _ h => h) (Or.inl ⟨by rfl, ?_⟩) (by assumption) ?_
        rotate_left 1
        · (intro w hSw; (try dsimp only at hSw); go_simp; all_goals with_reducible rfl)
        try simp only [Act.put, List.setIfInBounds_toArray, List.set_cons_zero, List.set_cons_succ]
        refine wpAnyH_take (i := 1) (oi := ⟨some 135, _, _, _, _, _⟩) (v := ?_) rfl (by kernel_rfl) (by kernel_rfl) (by kernel_rfl) (fun _ _ _ h => h) (Or.inl ⟨by rfl, ?_⟩) (by assumption) ?_
        rotate_left 1
        · (intro w hSw; (try dsimp only at hSw); go_simp; all_goals with_reducible rfl)
        try simp only [Act.put, List.setIfInBounds_toArray, List.set_cons_zero, List.set_cons_succ]
        refine wpAnyH_take (i := 2) (oi := ⟨some 136, _, _, _, _, _⟩) (v := ?_) rfl (by kernel_rfl) (by kernel_rfl) (by kernel_rfl) (fun _ _ _ h => h) (Or.inl ⟨by rfl, ?_⟩) (by assumption) ?_
        rotate_left 1
        · (intro w hSw; (try dsimp only at hSw); go_simp; all_goals with_reducible rfl)
        try simp only [Act.put, List.setIfInBounds_toArray, List.set_cons_zero, List.set_cons_succ]
        refine wpAnyH_take (i := 3) (oi := ⟨some 137, _, _, _, _, _⟩) (v := undef) rfl (by kernel_rfl) (by kernel_rfl) (by kernel_rfl) (fun _ _ _ h => h) (Or.inr ⟨by rfl, rfl⟩) (by assumption) ?_
        try simp only [Act.put, List.setIfInBounds_toArray, List.set_cons_zero, List.set_cons_succ]
        refine wpAnyH_take (i := 4) (oi := ⟨some 138, _, _, _, _, _⟩) (v := undef) rfl (by kernel_rfl) (by kernel_rfl) (by kernel_rfl) (fun _ _ _ h => h) (Or.inr ⟨by rfl, rfl⟩) (by assumption) ?_
        try simp only [Act.put, List.setIfInBounds_toArray, List.set_cons_zero, List.set_cons_succ]
        refine wpAnyH_take (i := 5) (oi := ⟨some 139, _, _, _, _, _⟩) (v := undef) rfl (by kernel_rfl) (by kernel_rfl) (by kernel_rfl) (fun _ _ _ h => h) (Or.inr ⟨by rfl, rfl⟩) (by assumption) ?_
        try simp only [Act.put, List.setIfInBounds_toArray, List.set_cons_zero, List.set_cons_succ]
        refine wpAnyH_take (i := 6) (oi := ⟨some 140, _, _, _, _, _⟩) (v := undef) rfl (by kernel_rfl) (by kernel_rfl) (by kernel_rfl) (fun _ _ _ h => h) (Or.inr ⟨by rfl, rfl⟩) (by assumption) ?_
        try simp only [Act.put, List.setIfInBounds_toArray, List.set_cons_zero, List.set_cons_succ]
        refine wpAnyH_take (i := 7) (oi := ⟨some 141, _, _, _, _, _⟩) (v := undef) rfl (by kernel_rfl) (by kernel_rfl) (by kernel_rfl) (fun _ _ _ h => h) (Or.inr ⟨by rfl, rfl⟩) (by assumption) ?_
        try simp only [Act.put, List.setIfInBounds_toArray, List.set_cons_zero, List.set_cons_succ]
        refine wpAnyH_take (i := 8) (oi := ⟨some 142, _, _, _, _, _⟩) (v := undef) rfl (by kernel_rfl) (by kernel_rfl) (by kernel_rfl) (fun _ _ _ h => h) (Or.inr ⟨by rfl, rfl⟩) (by assumption) ?_
        try simp only [Act.put, List.setIfInBounds_toArray, List.set_cons_zero, List.set_cons_succ]
        refine wpAnyH_take (i := 9) (oi := ⟨some 143, _, _, _, _, _⟩) (v := undef) rfl (by kernel_rfl) (by kernel_rfl) (by kernel_rfl) (fun _ _ _ h => h) (Or.inr ⟨by rfl, rfl⟩) (by assumption) ?_
        try simp only [Act.put, List.setIfInBounds_toArray, List.set_cons_zero, List.set_cons_succ]
        refine wpAnyH_take (i := 10) (oi := ⟨some 144, _, _, _, _, _⟩) (v := undef) rfl (by kernel_rfl) (by kernel_rfl) (by kernel_rfl) (fun _ _ _ h => h) (Or.inr ⟨by rfl, rfl⟩) (by assumption) ?_
        try simp only [Act.put, List.setIfInBounds_toArray, List.set_cons_zero, List.set_cons_succ]
        refine wpAnyH_take (i := 11) (oi := ⟨some 145, _, _, _, _, _⟩) (v := undef) rfl (by kernel_rfl) (by kernel_rfl) (by kernel_rfl) (fun _ _ _ h => h) (Or.inr ⟨by rfl, rfl⟩) (by assumption) ?_
        try simp only [Act.put, List.setIfInBounds_toArray, List.set_cons_zero, List.set_cons_succ]
        refine wpAnyH_take (i := 12) (oi := ⟨some 146, _, _, _, _, _⟩) (v := undef) rfl (by kernel_rfl) (by kernel_rfl) (by kernel_rfl) (fun _ _ _ h => h) (Or.inr ⟨by rfl, rfl⟩) (by assumption) ?_
        try simp only [Act.put, List.setIfInBounds_toArray, List.set_cons_zero, List.set_cons_succ]
        refine wpAnyH_take (i := 13) (oi := ⟨some 147, _, _, _, _, _⟩) (v := undef) rfl (by kernel_rfl) (by kernel_rfl) (by kernel_rfl) (fun _ _ _ h => h) (Or.inr ⟨by rfl, rfl⟩) (by assumption) ?_
        try simp only [Act.put, List.setIfInBounds_toArray, List.set_cons_zero, List.set_cons_succ]
        refine wpAnyH_take (i := 14) (oi := ⟨some 148, _, _, _, _, _⟩) (v := undef) rfl (by kernel_rfl) (by kernel_rfl) (by kernel_rfl) (fun _ _ _ h => h) (Or.inr ⟨by rfl, rfl⟩) (by assumption) ?_
        try simp only [Act.put, List.setIfInBounds_toArray, List.set_cons_zero, List.set_cons_succ]
        refine wpAnyH_take (i := 15) (oi := ⟨some 149, _, _, _, _, _⟩) (v := undef) rfl (by kernel_rfl) (by kernel_rfl) (by kernel_rfl) (fun _ _ _ h => h) (Or.inr ⟨by rfl, rfl⟩) (by assumption) ?_
        try simp only [Act.put, List.setIfInBounds_toArray, List.set_cons_zero, List.set_cons_succ]
        refine wpAnyH_take (i := 16) (oi := ⟨some 150, _, _, _, _, _⟩) (v := undef) rfl (by kernel_rfl) (by kernel_rfl) (by kernel_rfl) (fun _ _ _ h => h) (Or.inr ⟨by rfl, rfl⟩) (by assumption) ?_
        try simp only [Act.put, List.setIfInBounds_toArray, List.set_cons_zero, List.set_cons_succ]
        refine wpAnyH_take (i := 17) (oi := ⟨some 151, _, _, _, _, _⟩) (v := undef) rfl (by kernel_rfl) (by kernel_rfl) (by kernel_rfl) (fun _ _ _ h => h) (Or.inr ⟨by rfl, rfl⟩) (by assumption) ?_
        try simp only [Act.put, List.setIfInBounds_toArray, List.set_cons_zero, List.set_cons_succ]
        refine wpAnyH_take (i := 18) (oi := ⟨some 152, _, _, _, _, _⟩) (v := undef) rfl (by kernel_rfl) (by kernel_rfl) (by kernel_rfl) (fun _ _ _ h => h) (Or.inr ⟨by rfl, rfl⟩) (by assumption) ?_
        try simp only [Act.put, List.setIfInBounds_toArray, List.set_cons_zero, List.set_cons_succ]
        refine wpAnyH_take (i := 19) (oi := ⟨some 153, _, _, _, _, _⟩) (v := undef) rfl (by kernel_rfl) (by kernel_rfl) (by kernel_rfl) (fun _ _ _ h => h) (Or.inr ⟨by rfl, rfl⟩) (by assumption) ?_
        try simp only [Act.put, List.setIfInBounds_toArray, List.set_cons_zero, List.set_cons_succ]
        refine wpAnyH_take (i := 20) (oi := ⟨some 154, _, _, _, _, _⟩) (v := undef) rfl (by kernel_rfl) (by kernel_rfl) (by kernel_rfl) (fun _ _ _ h => h) (Or.inr ⟨by rfl, rfl⟩) (by assumption) ?_
        try simp only [Act.put, List.setIfInBounds_toArray, List.set_cons_zero, List.set_cons_succ]
        refine wpAnyH_take (i := 21) (oi := ⟨some 155, _, _, _, _, _⟩) (v := ?_) rfl (by kernel_rfl) (by kernel_rfl) (by kernel_rfl) (fun _ _ _ h => h) (Or.inl ⟨by rfl, ?_⟩) (by assumption) ?_
        rotate_left 1
        · (intro w hSw; (try dsimp only at hSw); go_simp; all_goals with_reducible rfl)
        try simp only [Act.put, List.setIfInBounds_toArray, List.set_cons_zero, List.set_cons_succ]
        refine wpAnyH_take (i := 22) (oi := ⟨some 10, _, _, _, _, _⟩) (v := ?_) rfl (by kernel_rfl) (by kernel_rfl) (by kernel_rfl) (fun _ _ _ h => h) (Or.inl ⟨by rfl, ?_⟩) (by assumption) ?_
        rotate_left 1
        · (intro w hSw; (try dsimp only at hSw); go_simp; all_goals with_reducible rfl)
        try simp only [Act.put, List.setIfInBounds_toArray, List.set_cons_zero, List.set_cons_succ]
        refine wpAnyH_done (by kernel_rfl) ?_ _
        have FX : Hid (Frm [] w _) := Lib.hid ((FW5.out.trans F11.out (U := []) (by simp) (by simp)).trans hHeld (by simp) (by simp))
        go_wp2
        go_ret
        exact lTrue FX.out
end Go.Proofs.Ytimmoencmmpkdaa
