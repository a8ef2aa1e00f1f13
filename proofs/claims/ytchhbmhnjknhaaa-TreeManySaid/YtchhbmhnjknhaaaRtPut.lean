/- Contract of the reference's Put. -/
import Derived.Test.YtchhbmhnjknhaaaRtDrop
namespace Go.Proofs.Ytchhbmhnjknhaaa
open Go.RowKit

/-- Which error Put answers (0: none). -/
def putC (X : List Nx) (s : ByteArray) (v : List Nat) (want : Nat) : Nat :=
  if s.size < 1 ∨ 64 < s.size then 10 else if 3840 < v.length then 3 else if want = 0 ∧ atN X s < X.length then 12 else if want ≠ 0 ∧ ¬ atN X s < X.length then 11
  else if atN X s < X.length ∧ (X.getD (atN X s) default).t.ver ≠ want then 13 else if ¬ atN X s < X.length ∧ 256 ≤ X.length then 14 else 0

set_option maxRecDepth 100000 in
set_option maxHeartbeats 2000000 in
theorem rput_bad {w : World} {B p : Nat} {F : List Nat} {a : Option Addr} {cap : Nat} {X : List Nx} (s : ByteArray) (va : Option Addr) (vn vc : Nat) (v : List Nat) (want own : Nat) (h : Rt w B p F a cap X) (hv : vn = v.length) (hv63 : vn ≤ 9223372036854775807)
    (hs : s.size ≤ 9223372036854775807) (hc : putC X s v want ≠ 0) :
    Calls Try.prog 14 #[.pointer (some ⟨p, 0, none⟩), .string s, .slice va vn vc, .int .u64 (want : Nat), .int .u64 (own : Nat)] w fun e w' => e = .returned (.tuple #[.int .u64 0, .int .i64 (putC X s v want : Nat)]) ∧ w = w' := by
  have hR := Lib.hid (rat_any s h)
  have c0 := h.tree.cell 0
  simp at c0
  have hn := h.few
  have hat : atI X s = if atN X s < X.length then ((atN X s : Nat) : Int) else -1 := rfl
  have hrow := Lib.hid h.row.nl
  have hle := atN_le X s
  unfold putC at hc ⊢
  obtain ⟨q, hq⟩ : ∃ q, q = atN X s := ⟨_, rfl⟩
  obtain ⟨n, hnn⟩ : ∃ n, n = X.length := ⟨_, rfl⟩
  rw [← hq, ← hnn] at hc hat
  rw [← hq, ← hnn]
  rw [← hnn] at c0 hn
  rw [← hv] at hc ⊢
  rw [← hq, ← hnn] at hle
  have HNN := Lib.hid hnn
  clear h hq hnn hv
  by_cases e1 : s.size < 1 ∨ 64 < s.size
  · rw [if_pos e1]
    have hA := Lib.hid hat
    obtain ⟨i, hi⟩ : ∃ i, i = atI X s := ⟨_, rfl⟩
    rw [← hi] at hR
    clear hat hc hA hi hrow HNN
    have e1' : s.size < 1 ∨ (¬ s.size < 1 ∧ 64 < s.size) := by omega
    rcases e1' with e1 | ⟨e1, e2⟩
    all_goals
      go_enter Try.func14, Try.ntmps14
      go_wp2_with fail
      refine hR.out.mono ?_
      rintro e w' ⟨rfl, rfl⟩
      go_wp2
      go_ret2
      exact ⟨rfl, rfl⟩
  rw [if_neg e1] at hc ⊢
  have g1 : ¬ s.size < 1 := by omega
  have g2 : ¬ 64 < s.size := by omega
  by_cases e2 : 3840 < vn
  · rw [if_pos e2]
    obtain ⟨i, hi⟩ : ∃ i, i = atI X s := ⟨_, rfl⟩
    rw [← hi] at hR
    clear hat hc hi hrow HNN e1
    go_enter Try.func14, Try.ntmps14
    go_wp2_with fail
    refine hR.out.mono ?_
    rintro e w' ⟨rfl, rfl⟩
    go_wp2
    go_ret2
    exact ⟨rfl, rfl⟩
  rw [if_neg e2] at hc ⊢
  by_cases hin : q < n
  · rw [if_pos hin] at hat
    rw [hat] at hR
    by_cases e3 : want = 0
    · rw [if_pos ⟨e3, hin⟩]
      have e3' : ((want : Int) == 0) = true := by simp; omega
      clear hat hc hrow HNN e1 e3
      go_enter Try.func14, Try.ntmps14
      go_wp2_with fail
      refine hR.out.mono ?_
      rintro e w' ⟨rfl, rfl⟩
      go_wp2
      go_ret2
      exact ⟨rfl, rfl⟩
    · rw [if_neg (by omega), if_neg (by omega)] at hc ⊢
      obtain ⟨b, off, rfl, p0, p1, p2, p3, _⟩ := hrow.out.at (i := q) (by have := HNN.out; omega)
      generalize (X.getD q default).t.ver = ver at p2 hc ⊢
      by_cases e5 : ver = want
      · exfalso
        rw [if_neg (by omega), if_neg (by omega)] at hc
        exact hc rfl
      · rw [if_pos ⟨hin, e5⟩]
        have e3' : ((want : Int) == 0) = false := by simp; omega
        have e3'' : ((want : Int) != 0) = true := by simp; omega
        have e5' : ((ver : Int) != (want : Int)) = true := by simp; omega
        clear hat hc hrow HNN e1 e3 e5 p0 p1 p3
        go_enter Try.func14, Try.ntmps14
        go_wp2_with fail
        refine hR.out.mono ?_
        rintro e w' ⟨rfl, rfl⟩
        go_wp2
        go_ret2
        exact ⟨rfl, rfl⟩
  · rw [if_neg hin] at hat
    rw [hat] at hR
    rw [if_neg (by omega)] at hc ⊢
    by_cases e4 : want = 0
    · rw [if_neg (by omega), if_neg (by omega)] at hc ⊢
      by_cases e6 : 256 ≤ n
      · rw [if_pos ⟨hin, e6⟩]
        have e3' : ((want : Int) == 0) = true := by simp; omega
        have e3'' : ((want : Int) != 0) = false := by simp; omega
        clear hat hc hrow HNN e1 e4
        go_enter Try.func14, Try.ntmps14
        go_wp2_with fail
        refine hR.out.mono ?_
        rintro e w' ⟨rfl, rfl⟩
        go_wp2
        go_ret2
        exact ⟨rfl, rfl⟩
      · exfalso
        rw [if_neg (by omega)] at hc
        exact hc rfl
    · rw [if_pos ⟨e4, hin⟩]
      have e3' : ((want : Int) == 0) = false := by simp; omega
      have e3'' : ((want : Int) != 0) = true := by simp; omega
      clear hat hc hrow HNN e1 e4
      go_enter Try.func14, Try.ntmps14
      go_wp2_with fail
      refine hR.out.mono ?_
      rintro e w' ⟨rfl, rfl⟩
      go_wp2
      go_ret2
      exact ⟨rfl, rfl⟩
end Go.Proofs.Ytchhbmhnjknhaaa
