/- Package ledgers: contract of Check; of the document's Right. -/
import Derived.Test.YtimmoencmmpkdaaLdBase
import Derived.RegionTactic
import Derived.BigRegion
namespace Go.Proofs.Ytimmoencmmpkdaa
open Go.RowKit
set_option maxRecDepth 100000

/-- A call that answers whether P. -/
def LBool (P : Prop) (w : World) (e : Ending) (w' : World) : Prop := ∃ b : Bool, e = .returned (.bool b) ∧ (b = true ↔ P) ∧ Frm [] w w'
theorem LBool.t {P : Prop} {w w' : World} (hp : P) (hf : Frm [] w w') : LBool P w (.returned (.bool true)) w' := ⟨true, rfl, by simp [hp], hf⟩
theorem LBool.f {P : Prop} {w w' : World} (hp : ¬ P) (hf : Frm [] w w') : LBool P w (.returned (.bool false)) w' := ⟨false, rfl, by simp [hp], hf⟩
theorem LBool.yes {P : Prop} {w w' : World} {e : Ending} (h : LBool P w e w') (hp : P) : e = .returned (.bool true) ∧ Frm [] w w' := by
  obtain ⟨b, rfl, hb, hf⟩ := h
  exact ⟨by rw [hb.2 hp], hf⟩
theorem LBool.no {P : Prop} {w w' : World} {e : Ending} (h : LBool P w e w') (hp : ¬ P) : e = .returned (.bool false) ∧ Frm [] w w' := by
  obtain ⟨b, rfl, hb, hf⟩ := h
  exact ⟨by cases b with | false => rfl | true => exact absurd (hb.1 rfl) hp, hf⟩
/-- The number ahead of one. -/
def lowL (X : List Ld) (k : Nat) : Nat := if k = 0 then 0 else (X.getD (k - 1) default).id
theorem lowL_succ (X : List Ld) (k : Nat) : lowL X (k + 1) = (X.getD k default).id := by unfold lowL; simp
/-- What a round asks. -/
theorem RtTo9.step {X : List Ld} {k : Nat} (h : RtTo9 X k) (h1 : lowL X k < (X.getD k default).id) (h2 : (X.getD k default).n ≤ 1048576) (h4 : (X.getD k default).cl = false → k + 1 = X.length ∧ (X.getD k default).n = 0) : RtTo9 X (k + 1) := by
  refine h.next (by omega) h2 (fun h0 => ?_) h4
  unfold lowL at h1
  rwa [if_neg (by omega)] at h1
theorem RtLd.asks {X : List Ld} (h : RtLd X) {k : Nat} (hk : k < X.length) : lowL X k < (X.getD k default).id ∧ (X.getD k default).n ≤ 1048576 ∧ ((X.getD k default).cl = false → k + 1 = X.length ∧ (X.getD k default).n = 0) := by
  obtain ⟨h1, h2, h3, h4⟩ := h.2 k hk
  refine ⟨?_, h2, h4⟩
  unfold lowL
  split
  · omega
  · exact h3 (by omega)
set_option maxHeartbeats 4000000 in
theorem ldcheck_any (a : Option Addr) (n cap : Nat) (X : List Ld) (w : World) (h : LdL w [] a X) (hn : n = X.length) (hsz : n ≤ 9223372036854775807) :
    Calls Try.prog 10 #[.slice a n cap] w (LBool (RtLd X) w) := by
  by_cases h64 : 64 < n
  · have NO : Hid (¬ RtLd X) := Lib.hid (fun hr => by have := hr.1; omega)
    have d1 : decide (64 < n) = true := decide_eq_true h64
    have d2 : decide ((64 : Int) < (n : Int)) = true := decide_eq_true (by omega)
    have F0 : Hid (Frm [] w w) := Lib.hid (Frm.refl _ _)
    clear h hn
    go_enter Try.func10, Try.ntmps10
    go_wp2
    go_ret
    exact .f NO.out F0.out
  have d1 : ¬ ((64 : Int) < (n : Int)) := by omega
  have N64 : Hid (n ≤ 64) := Lib.hid (by omega)
  have HN := Lib.hid hn; clear hn
  have H := Lib.hid h; clear h
  clear h64
  go_enter Try.func10, Try.ntmps10
  go_wp2
  clear d1
  go_loopw [3, 11] (fun s3 s11 wr => ∃ k : Nat, k ≤ n ∧ s11 = .int .i64 k ∧ s3 = .int .u64 (lowL X k : Nat) ∧ Hid (RtTo9 X k) ∧ Hid (Frm [] w wr)) (fun _ s11 _ => n - (intOf s11).toNat)
  case atStart => exact ⟨0, Nat.zero_le _, rfl, rfl, Lib.hid (fun i hi => by omega), Lib.hid (Frm.refl _ _)⟩
  case round =>
    obtain ⟨k, hk, rfl, rfl, HI, HF⟩ := hrel
    by_cases hlt : k < n
    · have hlt' : (k : Int) < (n : Int) := by omega
      have hkX : k < X.length := by have := HN.out; omega
      obtain ⟨b, off, rfl, d0, d1, d2, _⟩ := (H.out.sub HF.out).at (i := k) hkX
      have AS := Lib.hid (fun (hr : RtLd X) => hr.asks hkX)
      have ST := Lib.hid (fun h1 h2 h4 => HI.out.step h1 h2 h4)
      obtain ⟨x, hx⟩ : ∃ x, x = X.getD k default := ⟨_, rfl⟩
      have LS : Hid (lowL X (k + 1) = x.id) := Lib.hid (by rw [lowL_succ, hx])
      rw [← hx] at d0 d1 d2 AS ST
      obtain ⟨bl, hbl⟩ : ∃ bl, bl = lowL X k := ⟨_, rfl⟩
      rw [← hbl] at AS ST ⊢
      clear hx hkX hbl
      obtain ⟨xi, xc, xn⟩ := x
      simp only at d0 d1 d2 AS ST LS
      have F2 : Hid (Frm [] w (wr.alloc (.cells #[.int .u64 (xi : Nat), .bool xc, .int .u64 (xn : Nat)] 32))) := Lib.hid (HF.out.alloc _)
      by_cases h1 : xi ≤ bl
      · have e1 : (xi : Int) ≤ (bl : Int) := by omega
        have e1' : decide (xi ≤ bl) = true := decide_eq_true h1
        have NO : Hid (¬ RtLd X) := Lib.hid (fun hr => by have := (AS.out hr).1; omega)
        go_wp2
        go_ret
        exact .f NO.out F2.out
      · have e1 : ¬ (xi : Int) ≤ (bl : Int) := by omega
        have e1' : decide (xi ≤ bl) = false := decide_eq_false h1
        by_cases h2 : 1048576 < xn
        · have e2 : (1048576 : Int) < (xn : Int) := by omega
          have e2' : decide (1048576 < xn) = true := decide_eq_true h2
          have NO : Hid (¬ RtLd X) := Lib.hid (fun hr => by have := (AS.out hr).2.1; omega)
          go_wp2
          go_ret
          exact .f NO.out F2.out
        · have e2 : ¬ (1048576 : Int) < (xn : Int) := by omega
          have e2' : decide (1048576 < xn) = false := decide_eq_false h2
          cases xc
          · by_cases h3 : k + 1 = n
            · have e3 : ¬ (k : Int) < (n : Int) - 1 := by omega
              by_cases h4 : xn = 0
              · have e4 : ((xn : Int) != 0) = false := by simpa using h4
                have NX := Lib.hid (ST.out (by omega) (by omega) (fun _ => ⟨by rw [← HN.out]; exact h3, h4⟩))
                clear h1 h2 h4
                go_wp2
                go_roundw
                case rel => exact ⟨k + 1, by omega, by go_num, by rw [LS.out], NX, F2⟩
                case measure => simp [intOf]; omega
              · have e4 : ((xn : Int) != 0) = true := by simpa using h4
                have NO : Hid (¬ RtLd X) := Lib.hid (fun hr => h4 ((AS.out hr).2.2 rfl).2)
                clear h1 h2 h4
                go_wp2
                go_ret
                exact .f NO.out F2.out
            · have e3 : (k : Int) < (n : Int) - 1 := by omega
              have NO : Hid (¬ RtLd X) := Lib.hid (fun hr => h3 (by rw [HN.out]; exact ((AS.out hr).2.2 rfl).1))
              clear h1 h2 h3
              go_wp2
              go_ret
              exact .f NO.out F2.out
          · have NX := Lib.hid (ST.out (by omega) (by omega) (fun hh => by cases hh))
            clear h1 h2
            go_wp2
            go_roundw
            case rel => exact ⟨k + 1, by omega, by go_num, by rw [LS.out], NX, F2⟩
            case measure => simp [intOf]; omega
    · obtain rfl : k = n := by omega
      have YES : Hid (RtLd X) := Lib.hid ⟨by have := N64.out; have := HN.out; omega, by rw [← HN.out]; exact HI.out⟩
      go_wp2
      go_ret
      exact .t YES.out HF.out
end Go.Proofs.Ytimmoencmmpkdaa
