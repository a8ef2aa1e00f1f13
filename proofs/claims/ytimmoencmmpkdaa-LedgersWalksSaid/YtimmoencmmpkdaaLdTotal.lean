/- Contract of the document's Total. -/
import Derived.Test.YtimmoencmmpkdaaLdSame
namespace Go.Proofs.Ytimmoencmmpkdaa
open Go.RowKit
set_option maxRecDepth 100000

def totN (X : List Ld) (o : Nat) : Nat := if tot X o ≤ 1000 then tot X o else 1001
set_option maxHeartbeats 4000000 in
theorem rltotal_any (a : Option Addr) (n cap : Nat) (X : List Ld) (o : Nat) (w : World) (h : LdL w [] a X) (hn : n = X.length) (hsz : n < 4611686018427387904) :
    Calls Try.prog 29 #[.slice a n cap, .int .u64 (o : Nat)] w (LRet w (.int .u64 (totN X o : Nat))) := by
  have HSZ := Lib.hid (fun (x : Ld) z => rlsize_any x o z)
  have STEP := Lib.hid (fun k (hk : k < X.length) => And.intro (tot_take (k := k) o hk) (tot_take_le X o (k + 1)))
  have H := Lib.hid h; clear h
  have HN := Lib.hid hn; clear hn
  obtain ⟨T, hT⟩ : ∃ T, T = totN X o := ⟨_, rfl⟩
  rw [← hT]
  have HT := Lib.hid hT; clear hT
  obtain ⟨tt, htt⟩ : ∃ tt : Nat → Nat, tt = fun k => tot (X.take k) o := ⟨_, rfl⟩
  have T0 : Hid (tt 0 = 0) := Lib.hid (by rw [htt]; rfl)
  have TN : Hid (tt X.length = tot X o) := Lib.hid (by rw [htt]; show tot (X.take X.length) o = _; rw [List.take_length])
  have TS : Hid (∀ k, k < X.length → tt (k + 1) = tt k + (X.getD k default).size o ∧ tt (k + 1) ≤ tot X o) := Lib.hid (by rw [htt]; exact STEP.out)
  clear htt STEP
  unfold LRet
  go_enter Try.func29, Try.ntmps29
  go_wp2
  go_loopw [5, 6] (fun s5 s6 wr => ∃ k : Nat, k ≤ n ∧ s6 = .int .i64 k ∧ s5 = .int .u64 (tt k : Nat) ∧ tt k ≤ 1000 ∧ Hid (Frm [] w wr)) (fun _ s6 _ => n - (intOf s6).toNat)
  case atStart => exact ⟨0, Nat.zero_le _, rfl, by rw [T0.out]; rfl, by rw [T0.out]; omega, Lib.hid (Frm.refl _ _)⟩
  case round =>
    obtain ⟨k, hk, rfl, rfl, h1000, HF⟩ := hrel
    by_cases hlt : k < n
    · have hlt' : (k : Int) < (n : Int) := by omega
      have hkX : k < X.length := by have := HN.out; omega
      obtain ⟨b, off, rfl, d0, d1, d2, _⟩ := (H.out.sub HF.out).at (i := k) hkX
      obtain ⟨ts1, ts2⟩ := TS.out k hkX
      obtain ⟨x, hx⟩ : ∃ x, x = X.getD k default := ⟨_, rfl⟩
      rw [← hx] at d0 d1 d2 ts1
      clear hx hkX
      have SZ := Lib.hid (HSZ.out x)
      generalize x.size o = sz at SZ ts1
      obtain ⟨xi, xc, xn⟩ := x
      unfold Ld.val LRet at SZ
      simp only at d0 d1 d2 SZ
      obtain ⟨t2, ht2⟩ : ∃ t2, t2 = tt (k + 1) := ⟨_, rfl⟩
      obtain ⟨t1, ht1⟩ : ∃ t1, t1 = tt k := ⟨_, rfl⟩
      rw [← ht2, ← ht1] at ts1
      rw [← ht2] at ts2
      rw [← ht1] at h1000 ⊢
      have HT2 := Lib.hid ht2; clear ht2 ht1
      have BIG : Hid (1000 < t2 → T = 1001) := Lib.hid (fun hh => by rw [HT.out]; unfold totN; rw [if_neg (by omega)])
      go_wp2_with fail
      (with_reducible refine (SZ.out _).mono ?_)
      rintro e w2 ⟨rfl, hf2⟩
      have F2 : Hid (Frm [] w w2) := Lib.hid (HF.out.trans hf2 (by simp) (by simp))
      clear hf2 d0 d1 d2
      by_cases h1 : 1000 < sz
      · have e1 : decide (1000 < sz) = true := decide_eq_true h1
        have e1d : decide ((1000 : Int) < (sz : Int)) = true := decide_eq_true (by omega)
        have E : Hid (T = 1001) := Lib.hid (BIG.out (by omega))
        go_wp2
        go_ret
        exact ⟨by rw [E.out]; rfl, F2.out⟩
      · have e1 : decide (1000 < sz) = false := decide_eq_false h1
        have e1d : decide ((1000 : Int) < (sz : Int)) = false := decide_eq_false (by omega)
        have hw1 : IntKind.u64.wrap ((t1 : Int) + (sz : Int)) = (t2 : Int) := by simp [IntKind.wrap, IntKind.bits, IntKind.signed]; omega
        have hw2 : (t1 : Int) + (sz : Int) = (t2 : Int) := by omega
        by_cases h2 : 1000 < t2
        · have e2 : decide (1000 < t2) = true := decide_eq_true h2
          have e2d : decide ((1000 : Int) < (t2 : Int)) = true := decide_eq_true (by omega)
          have E : Hid (T = 1001) := Lib.hid (BIG.out h2)
          clear h1 h2 ts1 ts2
          have hw3 : IntKind.u64.wrap (t2 : Int) = (t2 : Int) := by simp [IntKind.wrap, IntKind.bits, IntKind.signed] at hw1 ⊢; omega
          go_wp2
          go_ret
          exact ⟨by rw [E.out]; rfl, F2.out⟩
        · have e2 : decide (1000 < t2) = false := decide_eq_false h2
          have e2d : decide ((1000 : Int) < (t2 : Int)) = false := decide_eq_false (by omega)
          have hw3 : IntKind.u64.wrap (t2 : Int) = (t2 : Int) := by simp [IntKind.wrap, IntKind.bits, IntKind.signed]; omega
          have L2 : Hid (t2 ≤ 1000) := Lib.hid (by omega)
          clear h1 h2 ts1 ts2
          go_wp2
          go_roundw
          case rel => exact ⟨k + 1, by omega, by go_num, by rw [HT2.out], by rw [← HT2.out]; exact L2.out, F2⟩
          case measure => simp [intOf]; omega
    · obtain rfl : k = n := by omega
      have E : Hid (tt k = T) := Lib.hid (by rw [HT.out, HN.out, TN.out]; unfold totN; rw [if_pos (by rw [← TN.out, ← HN.out]; exact h1000)])
      go_wp2
      go_ret
      exact ⟨by rw [← E.out]; rfl, HF.out⟩
end Go.Proofs.Ytimmoencmmpkdaa
