/- Contracts of the document's Size, SameLedgers. -/
import Derived.Test.YtimmoencmmpkdaaLdCheck
import Derived.Test.YtimmoencmmpkdaaEqLd
namespace Go.Proofs.Ytimmoencmmpkdaa
open Go.RowKit
set_option maxRecDepth 100000

theorem rlsize_any (x : Ld) (o : Nat) (w : World) : Calls Try.prog 37 #[x.val, .int .u64 (o : Nat)] w (LRet w (.int .u64 (x.size o : Nat))) := by
  obtain ⟨i, c, n⟩ := x
  unfold Ld.val Ld.size LRet
  have HF : Hid (Frm [] w (w.alloc (.cells #[.int .u64 (i : Nat), .bool c, .int .u64 (n : Nat)] 32))) := (Frm.refl _ _).alloc _
  cases c
  · go_enter Try.func37, Try.ntmps37
    go_wp2
    go_ret
    exact ⟨rfl, HF.out⟩
  · go_enter Try.func37, Try.ntmps37
    go_wp2
    go_ret
    exact ⟨rfl, HF.out⟩
theorem ld_ext {X Y : List Ld} (hl : X.length = Y.length) (h : ∀ i, i < X.length → X.getD i default = Y.getD i default) : X = Y := by
  apply List.ext_getElem hl
  intro i h1 h2
  have := h i h1
  simpa [h1, h2] using this
set_option maxHeartbeats 2000000 in
theorem rlsame_any (a b : Option Addr) (n cap m cap' : Nat) (X Y : List Ld) (w : World) (h : LdL w [] a X) (h' : LdL w [] b Y) (hn : n = X.length) (hm : m = Y.length) (hsz : n < 4611686018427387904) (hsz' : m < 4611686018427387904) :
    Calls Try.prog 15 #[.slice a n cap, .slice b m cap'] w (LBool (X = Y) w) := by
  have HN := Lib.hid hn; clear hn
  have HM := Lib.hid hm; clear hm
  have H := Lib.hid h; clear h
  have H' := Lib.hid h'; clear h'
  by_cases hne : n = m
  · subst hne
    have hb : ((n : Int) != (n : Int)) = false := by simp
    go_enter Try.func15, Try.ntmps15
    go_wp2
    clear hb
    go_loopw [5] (fun s5 wr => ∃ k : Nat, k ≤ n ∧ s5 = .int .i64 k ∧ Hid (∀ i, i < k → X.getD i default = Y.getD i default) ∧ Hid (Frm [] w wr)) (fun s5 _ => n - (intOf s5).toNat)
    case atStart => exact ⟨0, Nat.zero_le _, rfl, Lib.hid (fun i hi => by omega), Lib.hid (Frm.refl _ _)⟩
    case round =>
      obtain ⟨k, hk, rfl, HI, HF⟩ := hrel
      by_cases hlt : k < n
      · have hlt' : (k : Int) < (n : Int) := by omega
        obtain ⟨b1, o1, rfl, d0, d1, d2, _⟩ := (H.out.sub HF.out).at (i := k) (by have := HN.out; omega)
        obtain ⟨b2, o2, rfl, f0, f1, f2, _⟩ := (H'.out.sub HF.out).at (i := k) (by have := HM.out; omega)
        obtain ⟨x, hx⟩ : ∃ x, x = X.getD k default := ⟨_, rfl⟩
        obtain ⟨y, hy⟩ : ∃ y, y = Y.getD k default := ⟨_, rfl⟩
        rw [← hx] at d0 d1 d2
        rw [← hy] at f0 f1 f2
        have NO : Hid (x ≠ y → X ≠ Y) := Lib.hid (fun hxy he => hxy (by rw [hx, hy, he]))
        have NX : Hid (x = y → ∀ i, i < k + 1 → X.getD i default = Y.getD i default) := Lib.hid (fun hxy i hi => by
          rcases Nat.lt_or_eq_of_le (Nat.le_of_lt_succ hi) with h1 | rfl
          · exact HI.out i h1
          · rw [← hx, ← hy]; exact hxy)
        clear hx hy
        obtain ⟨d, hd⟩ : ∃ d, d = decide (x = y) := ⟨_, rfl⟩
        have HD := Lib.hid hd; clear hd
        obtain ⟨xi, xc, xn⟩ := x
        obtain ⟨yi, yc, yn⟩ := y
        simp only at d0 d1 d2 f0 f1 f2
        have ee : ∀ w : World, (binOp .neq 32 (.agg #[.int .u64 (xi : Nat), .bool xc, .int .u64 (xn : Nat)]) (.agg #[.int .u64 (yi : Nat), .bool yc, .int .u64 (yn : Nat)])).run Try.prog w = .ok (.bool (!d)) w := fun w => by rw [HD.out]; exact neq_ld xi xc xn yi yc yn w
        cases d
        · have NO2 := Lib.hid (NO.out (of_decide_eq_false HD.out.symm))
          go_wp2
          go_quiet (fail)
          go_wp2
          go_ret
          exact .f NO2.out (HF.out.drewN _)
        · have NX2 := Lib.hid (NX.out (of_decide_eq_true HD.out.symm))
          go_wp2
          go_quiet (fail)
          go_wp2
          go_roundw
          case rel => exact ⟨k + 1, by omega, by go_num, NX2, Lib.hid (HF.out.drewN _)⟩
          case measure => simp [intOf]; omega
      · obtain rfl : k = n := by omega
        have E : Hid (X = Y) := Lib.hid (ld_ext (by rw [← HN.out, ← HM.out]) (by rw [← HN.out]; exact HI.out))
        go_wp2
        go_ret
        exact .t E.out HF.out
  · have hb : ((n : Int) != (m : Int)) = true := by simp; omega
    have NO : Hid (X ≠ Y) := Lib.hid (fun he => hne (by rw [HN.out, HM.out, he]))
    have F0 : Hid (Frm [] w w) := Lib.hid (Frm.refl _ _)
    go_enter Try.func15, Try.ntmps15
    go_wp2
    go_ret
    exact .f NO.out F0.out
end Go.Proofs.Ytimmoencmmpkdaa
