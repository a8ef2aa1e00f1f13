/- Contracts of many and Encode. -/
import Derived.Test.YtghadpihmhaepaaDCqWrite
import Derived.Test.YtghadpihmhaepaaDCqCheck
import Derived.Test.YtghadpihmhaepaaCC
namespace Go.Proofs.Ytghadpihmhaepaa
open Go.RowKit
set_option maxRecDepth 100000
set_option maxHeartbeats 8000000 in
theorem cqmany_any (m : Ps) (a : Option Addr) (n cap : Nat) (F : List Nat) (Y : List Hx) (w : World) (h : HxL w F a Y) (hn : n = Y.length) (hsz : n < 65536) (hr : ∀ x ∈ Y, x.t.2.length < 65536) :
    Calls Try.prog 57 #[crsV m a n cap] w (LRet w (.bool false)) := by
  obtain ⟨w1, hw1⟩ : ∃ w1, w1 = w.alloc (.cells #[.int .u64 (m.l : Nat), .int .u64 (m.e : Nat), .slice a n cap] 28) := ⟨_, rfl⟩
  have F1 : Hid (Frm [] w w1) := Lib.hid (by rw [hw1]; exact (Frm.refl _ _).alloc _)
  obtain ⟨g, hg⟩ : ∃ g, g = w.heap.size := ⟨_, rfl⟩
  have B1 : Hid (Whole w1 g 28 #[.int .u64 (m.l : Nat), .int .u64 (m.e : Nat), .slice a n cap]) := Lib.hid (by rw [hw1, hg]; exact Whole.made _ _ _)
  have H1 : Hid (HxL w1 F a Y) := Lib.hid (h.sub F1.out)
  have HN := Lib.hid hn; clear hn
  have HR := Lib.hid hr; clear hr
  have r2 : ∀ z, Frm [] w1 z → z.cell? ⟨g, 2, none⟩ = some (.slice a n cap) := fun z hz => (hz.whole B1.out (by simp)).cell 2
  unfold crsV
  have HW1 := Lib.hid hw1
  clear hw1 h
  have g1 : ¬ (65535 : Int) < (n : Int) := by omega
  have g2 : decide (65535 < n) = false := decide_eq_false (by omega)
  go_enter Try.func57, Try.ntmps57
  go_upto_region 1 with (fail)
  rw [← HW1.out, ← hg]
  have HG := Lib.hid hg; clear hg
  have x2 := r2 _ (Frm.refl _ _)
  go_wp2
  go_loopw [12] (fun s12 wr => ∃ k : Nat, k ≤ n ∧ s12 = .int .i64 (k : Nat) ∧ Hid (Frm [] w1 wr)) (fun s12 _ => n - (intOf s12).toNat)
  case atStart => exact ⟨0, Nat.zero_le _, rfl, Lib.hid (Frm.refl _ _)⟩
  case round =>
    obtain ⟨k, hk, rfl, HF⟩ := hrel
    by_cases hlt : k < n
    · have hlt' : (k : Int) < (n : Int) := by omega
      have kY : k < Y.length := by have := HN.out; omega
      obtain ⟨b, off, rfl, d0, d1, _⟩ := (H1.out.sub HF.out).at (i := k) kY
      obtain ⟨x, hx⟩ : ∃ x, x = Y.getD k default := ⟨_, rfl⟩
      have XL := HR.out x (by rw [hx]; simp [kY])
      rw [← hx] at d0 d1
      clear hx kY
      obtain ⟨⟨led, rs⟩, ra, rc⟩ := x
      simp only at d0 d1 XL
      obtain ⟨rn, hrn⟩ : ∃ rn, rn = rs.length := ⟨_, rfl⟩
      rw [← hrn] at d1 XL
      clear hrn
      have g3 : ¬ (65535 : Int) < (rn : Int) := by omega
      have g4 : decide (65535 < rn) = false := decide_eq_false (by omega)
      have NX : Hid (Frm [] w1 (wr.alloc (.cells #[.int .u64 (led : Nat), .slice ra rn rc] 55))) := Lib.hid (HF.out.alloc _)
      clear r2 x2
      go_wp2
      go_roundw
      case rel => exact ⟨k + 1, by omega, by go_num, NX⟩
      case measure => simp [intOf]; omega
    · obtain rfl : k = n := by omega
      have FX := Lib.hid (F1.out.trans HF.out (U := []) (by simp) (by simp))
      clear r2 x2
      go_wp2
      go_ret
      exact ⟨rfl, FX.out⟩
theorem own_baseC {w : World} {base base' : Nat} {e : TypeId} {size n : Nat} {v : Value} {xs : List Value} (h : w.ownsRow base e size v n xs) (hb : base' ≤ base) : w.ownsRow base' e size v n xs := by
  refine ⟨h.1, ?_⟩
  rcases h.2 with h2 | ⟨g, cap, cur, hv, hg, r⟩
  · exact .inl h2
  · exact .inr ⟨g, cap, cur, hv, by omega, r⟩
/-- What Encode answers. -/
def EncE (w : World) (c : Crs) (e : Ending) (w' : World) : Prop :=
  (RtC c ∧ ∃ (ar : Option Addr) (k cr : Nat), e = .returned (.tuple #[.slice ar k cr, .int .i64 0]) ∧ Hid (k = (encCrs c).length) ∧ Hid (w'.ownsRow w.heap.size 5 1 (.slice ar k cr) k ((encCrs c).map u8v)) ∧ Hid (∀ x ∈ encCrs c, x < 256) ∧ Hid (Frm [] w w')) ∨
  (¬ RtC c ∧ e = .returned (.tuple #[.slice none 0 0, .int .i64 23]) ∧ Hid (Frm [] w w'))
set_option maxHeartbeats 8000000 in
theorem cqencode_any (m : Ps) (a : Option Addr) (n cap : Nat) (F : List Nat) (Y : List Hx) (w : World) (h : HxL w F a Y) (hn : n = Y.length) (hsz : n < 65536) (hr : ∀ x ∈ Y, x.t.2.length < 65536) (hm : m.fits) :
    Calls Try.prog 29 #[crsV m a n cap] w (EncE w ⟨m, hels Y⟩) := by
  obtain ⟨w1, hw1⟩ : ∃ w1, w1 = w.alloc (.cells #[.int .u64 (m.l : Nat), .int .u64 (m.e : Nat), .slice a n cap] 28) := ⟨_, rfl⟩
  have F1 : Hid (Frm [] w w1) := Lib.hid (by rw [hw1]; exact (Frm.refl _ _).alloc _)
  obtain ⟨g, hg⟩ : ∃ g, g = w.heap.size := ⟨_, rfl⟩
  have B1 : Hid (Whole w1 g 28 #[.int .u64 (m.l : Nat), .int .u64 (m.e : Nat), .slice a n cap]) := Lib.hid (by rw [hw1, hg]; exact Whole.made _ _ _)
  have H1 : Hid (HxL w1 [] a Y) := Lib.hid (h.keep F1.out (by simp) (by simp))
  have CK := Lib.hid (fun z (hz : Frm [] w1 z) => cqcheck_any m a n cap [] Y z (H1.out.sub hz) hn (by omega) (fun x hx => by have := hr x hx; omega))
  have MN := Lib.hid (fun z (hz : Frm [] w1 z) => cqmany_any m a n cap [] Y z (H1.out.sub hz) hn hsz hr)
  have WRT := Lib.hid (fun z q (hz : Frm [] w1 z) (hq : Wr z q q [q] []) (hq1 : w1.heap.size ≤ q) => cqwrite_any (w := z) (B := q) (p := q) (F := [q]) (l := []) m a n cap Y hq (H1.out.keep hz (F' := [q]) (by simp) (fun x hx => .inr (by simp at hx; omega))) hn hsz hr hm (by simp))
  have LEN : Hid ((encCrs ⟨m, hels Y⟩).length ≤ 140737488355328) := Lib.hid (by
    have h1 := encHels_length (hels Y) (fun h hh => by
      obtain ⟨x, hx, rfl⟩ := List.mem_map.1 hh
      exact hr x hx)
    unfold encCrs
    simp only [List.length_append, be_length]
    rw [hels_length, ← hn] at h1
    omega)
  obtain ⟨C, hC⟩ : ∃ C, C = (⟨m, hels Y⟩ : Crs) := ⟨_, rfl⟩
  rw [← hC] at CK WRT LEN ⊢
  have k0 : ∀ z, Frm [] w1 z → z.cell? ⟨g, 0, none⟩ = some (.int .u64 (m.l : Nat)) := fun z hz => (hz.whole B1.out (by simp)).cell 0
  have k1 : ∀ z, Frm [] w1 z → z.cell? ⟨g, 1, none⟩ = some (.int .u64 (m.e : Nat)) := fun z hz => (hz.whole B1.out (by simp)).cell 1
  have k2 : ∀ z, Frm [] w1 z → z.cell? ⟨g, 2, none⟩ = some (.slice a n cap) := fun z hz => (hz.whole B1.out (by simp)).cell 2
  unfold crsV BoolOf at CK
  unfold crsV LRet at MN
  unfold crsV at WRT
  obtain ⟨ml, me⟩ := m
  unfold crsV
  simp only at hw1 B1 CK MN WRT k0 k1 ⊢
  clear hn hsz hr hm hC h
  have HW1 := Lib.hid hw1; clear hw1
  go_enter Try.func29, Try.ntmps29
  go_upto_region 1 with (fail)
  rw [← HW1.out, ← hg]
  have HG := Lib.hid hg; clear hg
  have x0 := k0 _ (Frm.refl _ _)
  have x1 := k1 _ (Frm.refl _ _)
  have x2 := k2 _ (Frm.refl _ _)
  go_wp2_with fail
  (with_reducible refine (CK.out _ (Frm.refl _ _)).mono ?_)
  rintro e w2 ⟨b, rfl, hb, hf2⟩
  clear x0 x1 x2
  have HB := Lib.hid hb; clear hb
  have F2 := Lib.hid hf2; clear hf2
  cases b
  · have FIN : Hid (EncE w C (.returned (.tuple #[.slice none 0 0, .int .i64 23])) w2) := Lib.hid (.inr ⟨fun h => (by have := HB.out.2 h; cases this), rfl, Lib.hid (F1.out.trans F2.out (by simp) (by simp))⟩)
    clear k0 k1 k2
    go_wp2
    go_ret2
    exact FIN.out
  have RT : Hid (RtC C) := Lib.hid (HB.out.1 rfl)
  clear HB
  have x0 := k0 _ F2.out
  have x1 := k1 _ F2.out
  have x2 := k2 _ F2.out
  go_wp2_with fail
  (with_reducible refine (MN.out _ F2.out).mono ?_)
  rintro e w3 ⟨rfl, hf3⟩
  clear x0 x1 x2
  have F3 := Lib.hid (F2.out.trans hf3 (U := []) (by simp) (by simp)); clear hf3
  obtain ⟨w4, hw4⟩ : ∃ W, W = w3.alloc (.cells #[.pointer none, .int .i64 0] 93) := ⟨_, rfl⟩
  obtain ⟨q, hq⟩ : ∃ q, q = w3.heap.size := ⟨_, rfl⟩
  have F4 : Hid (Frm [] w1 w4) := Lib.hid (by rw [hw4]; exact F3.out.alloc _)
  have hWr : Wr w4 q q [q] [] := ⟨by simp, Nat.le_refl _, .inl ⟨rfl, rfl, by rw [hw4, hq]; exact Whole.made _ _ _⟩⟩
  have WX := Lib.hid (WRT.out w4 q F4.out hWr (by rw [hq]; exact F3.out.size))
  have Q1 : Hid (w1.heap.size ≤ q) := Lib.hid (by rw [hq]; exact F3.out.size)
  have HW4 := Lib.hid hw4; clear hw4
  have HQ := Lib.hid hq; clear hq hWr
  have x0 := k0 _ F4.out
  have x1 := k1 _ F4.out
  have x2 := k2 _ F4.out
  go_upto_region 6 with (fail)
  rw [← HW4.out, ← HQ.out]
  go_wp2_with fail
  (with_reducible refine WX.out.mono ?_)
  rintro e w5 ⟨rfl, F5, hw5, hf5, hx5⟩
  clear x0 x1 x2
  rw [List.nil_append] at hw5
  have DN := Lib.hid (done_any hw5 LEN.out)
  have H8 := Lib.hid hw5.1
  have B5 := Lib.hid hf5
  clear hw5 hf5 hx5 k0 k1 k2
  go_wp2_with fail
  (with_reducible refine DN.out.mono ?_)
  rintro e w6 ⟨ar, cr, rfl, ho, hf6⟩
  have FIN : Hid (∀ k, k = (encCrs C).length → EncE w C (.returned (.tuple #[.slice ar k cr, .int .i64 0])) w6) := Lib.hid (fun k hk => by
    have h3 : Frm [] w w4 := F1.out.trans F4.out (by simp) (by simp)
    have h4 : Frm [] w w5 := h3.trans B5.out (by simp) (fun x hx => .inr (by simp at hx; have := Q1.out; have := F1.out.size; omega))
    subst hk
    exact .inl ⟨RT.out, ar, _, cr, rfl, Lib.hid rfl, Lib.hid (own_baseC ho h4.size), H8, Lib.hid (h4.trans hf6 (by simp) (by simp))⟩)
  obtain ⟨k, hk⟩ : ∃ k, k = (encCrs C).length := ⟨_, rfl⟩
  rw [← hk]
  have FIN2 := Lib.hid (FIN.out k hk)
  clear hk ho hf6 FIN
  go_wp2
  go_ret2
  exact FIN2.out
end Go.Proofs.Ytghadpihmhaepaa
