/- Contract of the law's has. -/
import Derived.Test.YtahhkffghhgojaaDTbSame
namespace Go.Proofs.Ytahhkffghhgojaa
open Go.RowKit
set_option maxRecDepth 100000

set_option maxHeartbeats 4000000 in
theorem has_any {w : World} {B p : Nat} {F : List Nat} {a : Option Addr} {cap : Nat} {X : List Ln} (s : ByteArray) (h : Tb w B p F a cap X) :
    Calls Try.prog 21 #[.pointer (some ⟨p, 0, none⟩), .string s] w (TBool (atL X s < X.length) w) := by
  have c0 := h.tab.cell 0
  obtain ⟨n, hnn⟩ : ∃ n, n = X.length := ⟨_, rfl⟩
  have hn : n ≤ 16 := by have := h.few; omega
  rw [← hnn] at c0
  simp at c0
  have HL := Lib.hid (h.row.sl.keep (S := []) (F' := []) (Frm.refl _ _) (by simp) (by simp))
  have HN := Lib.hid hnn; clear hnn h
  obtain ⟨q, hq⟩ : ∃ q, q = atL X s := ⟨_, rfl⟩
  have HQ := Lib.hid hq
  have hqn : q ≤ n := by rw [hq, HN.out]; exact atL_le X s
  have YES : Hid (q < n → ∀ z, Frm [] w z → TBool (atL X s < X.length) w (.returned (.bool true)) z) := Lib.hid (fun h z hz => TBool.t (by rw [← hq, ← HN.out]; exact h) hz)
  have NO : Hid (¬ q < n → ∀ z, Frm [] w z → TBool (atL X s < X.length) w (.returned (.bool false)) z) := Lib.hid (fun h z hz => TBool.f (by rw [← hq, ← HN.out]; exact h) hz)
  obtain ⟨Q, hQ⟩ : ∃ Q, Q = TBool (atL X s < X.length) w := ⟨_, rfl⟩
  rw [← hQ] at YES NO ⊢
  clear hq hQ
  go_enter Try.func21, Try.ntmps21
  go_wp2
  go_loopw [12] (fun u12 wr => ∃ k : Nat, k ≤ n ∧ k ≤ q ∧ u12 = .int .i64 (k : Nat) ∧ Hid (Frm [] w wr)) (fun u12 _ => n - (intOf u12).toNat)
  case atStart => exact ⟨0, Nat.zero_le _, Nat.zero_le _, rfl, Lib.hid (Frm.refl _ _)⟩
  case round =>
    obtain ⟨k, hk, hkq, rfl, HF⟩ := hrel
    by_cases hlt : k < n
    · obtain ⟨b, off, rfl, p0, p1, p2, p3, p4, _⟩ := (HL.out.sub HF.out).at (i := k) (by have := HN.out; omega)
      by_cases hkq2 : k = q
      · subst hkq2
        have hkey : (X.getD k default).nm = s := by rw [HQ.out]; exact atL_key (by rw [← HQ.out, ← HN.out]; exact hlt)
        obtain ⟨x, hx⟩ : ∃ x, x = X.getD k default := ⟨_, rfl⟩
        rw [← hx] at p0 p1 p2 p3 p4 hkey
        obtain ⟨xn, xt, xd, xl, xe⟩ := x
        simp only at p0 p1 p2 p3 p4 hkey
        subst hkey
        have eq1 : (xn.toList == xn.toList) = true := by simp
        have FX : Hid (Frm [] w (wr.alloc (.cells #[.string xn, .int .u64 (xt : Nat), .int .u64 (xd : Nat), .int .u64 (xl : Nat), .int .u64 (xe : Nat)] 42))) := Lib.hid (HF.out.alloc _)
        have EH := Lib.hid (YES.out hlt _ FX.out)
        clear hx
        go_wp2
        exact EH.out
      · have hne : ¬ (X.getD k default).nm = s := atL_before (by rw [← HQ.out]; omega)
        obtain ⟨x, hx⟩ : ∃ x, x = X.getD k default := ⟨_, rfl⟩
        rw [← hx] at p0 p1 p2 p3 p4 hne
        obtain ⟨xn, xt, xd, xl, xe⟩ := x
        simp only at p0 p1 p2 p3 p4 hne
        have hnt := txt_ne hne
        have FX : Hid (Frm [] w (wr.alloc (.cells #[.string xn, .int .u64 (xt : Nat), .int .u64 (xd : Nat), .int .u64 (xl : Nat), .int .u64 (xe : Nat)] 42))) := Lib.hid (HF.out.alloc _)
        clear hx hne
        go_wp2
        go_roundw
        case rel => exact ⟨k + 1, by omega, by omega, by go_num, FX⟩
        case measure => simp [intOf]; omega
    · have EH := Lib.hid (NO.out (by omega) _ HF.out)
      go_wp2
      exact EH.out
end Go.Proofs.Ytahhkffghhgojaa
