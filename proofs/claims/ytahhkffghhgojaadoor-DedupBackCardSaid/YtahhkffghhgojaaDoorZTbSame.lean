/- Contract of the document's SameLines. -/
import Derived.Test.YtahhkffghhgojaaDoorZTbOps
import Derived.Test.YtahhkffghhgojaaDoorMB
import Derived.BigQuiet
import Derived.Deep.QuietTactic
namespace Go.Proofs.YtahhkffghhgojaaDoor
open Go.RowKit
set_option maxRecDepth 100000

/-- Answers whether P, and turns nothing of old. -/
def TBool (P : Prop) (w : World) (e : Ending) (w' : World) : Prop := ∃ b : Bool, e = .returned (.bool b) ∧ (b = true ↔ P) ∧ Frm [] w w'
theorem TBool.t {P : Prop} {w w' : World} (hp : P) (hf : Frm [] w w') : TBool P w (.returned (.bool true)) w' := ⟨true, rfl, by simp [hp], hf⟩
theorem TBool.f {P : Prop} {w w' : World} (hp : ¬ P) (hf : Frm [] w w') : TBool P w (.returned (.bool false)) w' := ⟨false, rfl, by simp [hp], hf⟩
theorem ln_ext {X Y : List Ln} (hl : X.length = Y.length) (h : ∀ i, i < X.length → X.getD i default = Y.getD i default) : X = Y := by
  apply List.ext_getElem hl
  intro i h1 h2
  have := h i h1
  simpa [h1, h2] using this
set_option maxHeartbeats 2000000 in
theorem rtbsame_any (a b : Option Addr) (n cap m cap' : Nat) (X Y : List Ln) (w : World) (h : LnL w [] a X) (h' : LnL w [] b Y) (hn : n = X.length) (hm : m = Y.length) (hsz : n < 4611686018427387904) (hsz' : m < 4611686018427387904) :
    Calls Tryd.prog 15 #[.slice a n cap, .slice b m cap'] w (TBool (X = Y) w) := by
  have HN := Lib.hid hn; clear hn
  have HM := Lib.hid hm; clear hm
  have H := Lib.hid h; clear h
  have H' := Lib.hid h'; clear h'
  by_cases hne : n = m
  · subst hne
    have hb : ((n : Int) != (n : Int)) = false := by simp
    go_enter Tryd.func15, Tryd.ntmps15
    go_wp2
    clear hb
    go_loopw [5] (fun s5 wr => ∃ k : Nat, k ≤ n ∧ s5 = .int .i64 k ∧ Hid (∀ i, i < k → X.getD i default = Y.getD i default) ∧ Hid (Frm [] w wr)) (fun s5 _ => n - (intOf s5).toNat)
    case atStart => exact ⟨0, Nat.zero_le _, rfl, Lib.hid (fun i hi => by omega), Lib.hid (Frm.refl _ _)⟩
    case round =>
      obtain ⟨k, hk, rfl, HI, HF⟩ := hrel
      by_cases hlt : k < n
      · have hlt' : (k : Int) < (n : Int) := by omega
        obtain ⟨b1, o1, rfl, d0, d1, d2, d3, d4, _⟩ := (H.out.sub HF.out).at (i := k) (by have := HN.out; omega)
        obtain ⟨b2, o2, rfl, f0, f1, f2, f3, f4, _⟩ := (H'.out.sub HF.out).at (i := k) (by have := HM.out; omega)
        obtain ⟨x, hx⟩ : ∃ x, x = X.getD k default := ⟨_, rfl⟩
        obtain ⟨y, hy⟩ : ∃ y, y = Y.getD k default := ⟨_, rfl⟩
        rw [← hx] at d0 d1 d2 d3 d4
        rw [← hy] at f0 f1 f2 f3 f4
        have NO : Hid (x ≠ y → X ≠ Y) := Lib.hid (fun hxy he => hxy (by rw [hx, hy, he]))
        have NX : Hid (x = y → ∀ i, i < k + 1 → X.getD i default = Y.getD i default) := Lib.hid (fun hxy i hi => by
          rcases Nat.lt_or_eq_of_le (Nat.le_of_lt_succ hi) with h1 | rfl
          · exact HI.out i h1
          · rw [← hx, ← hy]; exact hxy)
        clear hx hy
        obtain ⟨d, hd⟩ : ∃ d, d = decide (x = y) := ⟨_, rfl⟩
        have HD := Lib.hid hd; clear hd
        obtain ⟨x0, x1, x2, x3, x4⟩ := x
        obtain ⟨y0, y1, y2, y3, y4⟩ := y
        simp only at d0 d1 d2 d3 d4 f0 f1 f2 f3 f4
        have ee : ∀ w : World, (binOp .neq 56 (.agg #[.string x0, .int .u64 (x1 : Nat), .int .u64 (x2 : Nat), .int .u64 (x3 : Nat), .int .u64 (x4 : Nat)]) (.agg #[.string y0, .int .u64 (y1 : Nat), .int .u64 (y2 : Nat), .int .u64 (y3 : Nat), .int .u64 (y4 : Nat)])).run Tryd.prog w = .ok (.bool (!d)) w := fun w => by rw [HD.out]; exact neq_ln x0 x1 x2 x3 x4 y0 y1 y2 y3 y4 w
        cases d
        · have NO2 := Lib.hid (NO.out (of_decide_eq_false HD.out.symm))
          go_wp2
          go_quiet (fail)
          go_wp2
          go_ret
          exact .f NO2.out (HF.out.drewN _)
        · have NX2 := Lib.hid (NX.out (of_decide_eq_true HD.out.symm))
          go_wp2
          go_quiet (fail)
          go_wp2
          go_roundw
          case rel => exact ⟨k + 1, by omega, by go_num, NX2, Lib.hid (HF.out.drewN _)⟩
          case measure => simp [intOf]; omega
      · obtain rfl : k = n := by omega
        have E : Hid (X = Y) := Lib.hid (ln_ext (by rw [← HN.out, ← HM.out]) (by rw [← HN.out]; exact HI.out))
        go_wp2
        go_ret
        exact .t E.out HF.out
  · have hb : ((n : Int) != (m : Int)) = true := by simp; omega
    have NO : Hid (X ≠ Y) := Lib.hid (fun he => hne (by rw [HN.out, HM.out, he]))
    have F0 : Hid (Frm [] w w) := Lib.hid (Frm.refl _ _)
    go_enter Tryd.func15, Tryd.ntmps15
    go_wp2
    go_ret
    exact .f NO.out F0.out
end Go.Proofs.YtahhkffghhgojaaDoor
