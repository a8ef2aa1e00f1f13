/- Contracts of the document's Right. -/
import Derived.Test.YtimmoencmmpkdaaLdCheck
namespace Go.Proofs.Ytimmoencmmpkdaa
open Go.RowKit
set_option maxRecDepth 100000

set_option maxHeartbeats 4000000 in
theorem rlright_any (a : Option Addr) (n cap : Nat) (X : List Ld) (w : World) (h : LdL w [] a X) (hn : n = X.length) (hsz : n ≤ 9223372036854775807) :
    Calls Try.prog 11 #[.slice a n cap] w (LBool (RtLd X) w) := by
  by_cases h64 : 64 < n
  · have NO : Hid (¬ RtLd X) := Lib.hid (fun hr => by have := hr.1; omega)
    have d2 : decide ((64 : Int) < (n : Int)) = true := decide_eq_true (by omega)
    have d1 : decide (64 < n) = true := decide_eq_true h64
    have F0 : Hid (Frm [] w w) := Lib.hid (Frm.refl _ _)
    clear h hn
    go_enter Try.func11, Try.ntmps11
    go_wp2
    go_ret
    exact .f NO.out F0.out
  have d1 : ¬ ((64 : Int) < (n : Int)) := by omega
  have n64 : n ≤ 64 := by omega
  have HN := Lib.hid hn; clear hn
  have H := Lib.hid h; clear h
  clear h64
  go_enter Try.func11, Try.ntmps11
  go_wp2
  clear d1
  go_loopw [3] (fun s3 wr => ∃ k : Nat, k ≤ n ∧ s3 = .int .i64 k ∧ Hid (RtTo9 X k) ∧ Hid (Frm [] w wr)) (fun s3 _ => n - (intOf s3).toNat)
  case atStart => exact ⟨0, Nat.zero_le _, rfl, Lib.hid (fun i hi => by omega), Lib.hid (Frm.refl _ _)⟩
  case round =>
    obtain ⟨k, hk, rfl, HI, HF⟩ := hrel
    by_cases hlt : k < n
    · have hlt' : (k : Int) < (n : Int) := by omega
      have hkX : k < X.length := by have := HN.out; omega
      have LL := H.out.sub HF.out
      obtain ⟨b, off, rfl, d0, d1, d2, _⟩ := LL.at (i := k) hkX
      have AS := Lib.hid (fun (hr : RtLd X) => hr.2 k hkX)
      have ST := Lib.hid (fun h1 h2 h3 h4 => HI.out.next h1 h2 h3 h4)
      obtain ⟨x, hx⟩ : ∃ x, x = X.getD k default := ⟨_, rfl⟩
      rw [← hx] at d0 d1 d2 AS ST
      clear hx
      obtain ⟨xi, xc, xn⟩ := x
      simp only at d0 d1 d2 AS ST
      by_cases h1 : xi = 0
      · have e1 : ((xi : Int) == 0) = true := by simpa using h1
        have NO : Hid (¬ RtLd X) := Lib.hid (fun hr => (AS.out hr).1 h1)
        clear h1 LL
        go_wp2
        go_quiet (fail)
        go_wp2
        go_ret
        exact .f NO.out (HF.out.drewN _)
      · have e1 : ((xi : Int) == 0) = false := by simpa using h1
        by_cases h2 : 1048576 < xn
        · have e2 : (1048576 : Int) < (xn : Int) := by omega
          have e2' : decide (1048576 < xn) = true := decide_eq_true h2
          have NO : Hid (¬ RtLd X) := Lib.hid (fun hr => by have := (AS.out hr).2.1; omega)
          clear h1 LL
          go_wp2
          go_quiet (fail)
          go_wp2
          go_ret
          exact .f NO.out (HF.out.drewN _)
        · have e2 : ¬ (1048576 : Int) < (xn : Int) := by omega
          have e2' : decide (1048576 < xn) = false := decide_eq_false h2
          have e2d : decide ((1048576 : Int) < (xn : Int)) = false := decide_eq_false e2
          rcases Nat.eq_zero_or_pos k with hk0 | hk0
          · have k1 : decide (0 < k) = false := decide_eq_false (by omega)
            have k2 : decide ((0 : Int) < (k : Int)) = false := decide_eq_false (by omega)
            cases xc
            · by_cases h3 : k + 1 = n
              · have e3 : ((k : Int) != (n : Int) - 1) = false := by simp; omega
                by_cases h4 : xn = 0
                · have e4 : ((xn : Int) != 0) = false := by simpa using h4
                  have NX := Lib.hid (ST.out h1 (by omega) (fun h => by omega) (fun _ => ⟨by rw [← HN.out]; exact h3, h4⟩))
                  clear h1 h2 h3 h4 LL hk0
                  go_wp2
                  go_quiet (fail)
                  go_wp2
                  go_roundw
                  case rel => exact ⟨k + 1, by omega, by go_num, NX, Lib.hid (HF.out.drewN _)⟩
                  case measure => simp [intOf]; omega
                · have e4 : ((xn : Int) != 0) = true := by simpa using h4
                  have NO : Hid (¬ RtLd X) := Lib.hid (fun hr => h4 ((AS.out hr).2.2.2 rfl).2)
                  clear h1 h2 h3 h4 LL hk0
                  go_wp2
                  go_quiet (fail)
                  go_wp2
                  go_ret
                  exact .f NO.out (HF.out.drewN _)
              · have e3 : ((k : Int) != (n : Int) - 1) = true := by simp; omega
                have NO : Hid (¬ RtLd X) := Lib.hid (fun hr => h3 (by rw [HN.out]; exact ((AS.out hr).2.2.2 rfl).1))
                clear h1 h2 h3 LL hk0
                go_wp2
                go_quiet (fail)
                go_wp2
                go_ret
                exact .f NO.out (HF.out.drewN _)
            · have NX := Lib.hid (ST.out h1 (by omega) (fun h => by omega) (fun hh => by cases hh))
              clear h1 h2 LL hk0
              go_wp2
              go_quiet (fail)
              go_wp2
              go_roundw
              case rel => exact ⟨k + 1, by omega, by go_num, NX, Lib.hid (HF.out.drewN _)⟩
              case measure => simp [intOf]; omega
          · obtain ⟨j, hj⟩ : ∃ j, j = k - 1 := ⟨_, rfl⟩
            obtain ⟨b', off', hba, p0, _⟩ := LL.at (i := j) (by omega)
            injection hba with hba
            injection hba with hb1 hb2
            subst hb1 hb2
            rw [← hj] at AS ST
            obtain ⟨z, hz⟩ : ∃ z, z = (X.getD j default).id := ⟨_, rfl⟩
            rw [← hz] at p0 AS ST
            have k1 : decide (0 < k) = true := decide_eq_true (by omega)
            have k2 : decide ((0 : Int) < (k : Int)) = true := decide_eq_true (by omega)
            have e0 : (k : Int) - 1 = (j : Int) := by omega
            have hj1 : (j : Int) < (n : Int) := by omega
            have hk0' : 0 < k := hk0
            have K0 := Lib.hid hk0'
            clear hz LL hk0 hk0' hj
            by_cases h5 : xi ≤ z
            · have e5 : (xi : Int) ≤ (z : Int) := by omega
              have e5' : decide (xi ≤ z) = true := decide_eq_true h5
              have e5d : decide ((xi : Int) ≤ (z : Int)) = true := decide_eq_true e5
              have NO : Hid (¬ RtLd X) := Lib.hid (fun hr => by have := (AS.out hr).2.2.1 K0.out; omega)
              clear h1 h2 h5
              go_wp2
              go_quiet (fail)
              go_wp2
              go_ret
              exact .f NO.out (HF.out.drewN _)
            · have e5 : ¬ (xi : Int) ≤ (z : Int) := by omega
              have e5' : decide (xi ≤ z) = false := decide_eq_false h5
              have e5d : decide ((xi : Int) ≤ (z : Int)) = false := decide_eq_false e5
              cases xc
              · by_cases h3 : k + 1 = n
                · have e3 : ((k : Int) != (n : Int) - 1) = false := by simp; omega
                  by_cases h4 : xn = 0
                  · have e4 : ((xn : Int) != 0) = false := by simpa using h4
                    have NX := Lib.hid (ST.out h1 (by omega) (fun h => by omega) (fun _ => ⟨by rw [← HN.out]; exact h3, h4⟩))
                    clear h1 h2 h3 h4 h5
                    go_wp2
                    go_quiet (fail)
                    go_wp2
                    go_roundw
                    case rel => exact ⟨k + 1, by omega, by go_num, NX, Lib.hid (HF.out.drewN _)⟩
                    case measure => simp [intOf]; omega
                  · have e4 : ((xn : Int) != 0) = true := by simpa using h4
                    have NO : Hid (¬ RtLd X) := Lib.hid (fun hr => h4 ((AS.out hr).2.2.2 rfl).2)
                    clear h1 h2 h3 h4 h5
                    go_wp2
                    go_quiet (fail)
                    go_wp2
                    go_ret
                    exact .f NO.out (HF.out.drewN _)
                · have e3 : ((k : Int) != (n : Int) - 1) = true := by simp; omega
                  have NO : Hid (¬ RtLd X) := Lib.hid (fun hr => h3 (by rw [HN.out]; exact ((AS.out hr).2.2.2 rfl).1))
                  clear h1 h2 h3 h5
                  go_wp2
                  go_quiet (fail)
                  go_wp2
                  go_ret
                  exact .f NO.out (HF.out.drewN _)
              · have NX := Lib.hid (ST.out h1 (by omega) (fun h => by omega) (fun hh => by cases hh))
                clear h1 h2 h5
                go_wp2
                go_quiet (fail)
                go_wp2
                go_roundw
                case rel => exact ⟨k + 1, by omega, by go_num, NX, Lib.hid (HF.out.drewN _)⟩
                case measure => simp [intOf]; omega
    · obtain rfl : k = n := by omega
      have YES : Hid (RtLd X) := Lib.hid ⟨by have := HN.out; omega, by rw [← HN.out]; exact HI.out⟩
      go_wp2
      go_ret
      exact .t YES.out HF.out
end Go.Proofs.Ytimmoencmmpkdaa
