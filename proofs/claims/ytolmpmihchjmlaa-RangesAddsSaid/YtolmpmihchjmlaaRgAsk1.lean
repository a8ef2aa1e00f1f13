/- Contracts of what asks ranges: empty, Has, In, the two Counts. -/
import Derived.Test.YtolmpmihchjmlaaRgRead
namespace Go.Proofs.Ytolmpmihchjmlaa
open Go.RowKit

/-- A call that answers whether P, and turns nothing of old. -/
def BoolOf (P : Prop) (w : World) (e : Ending) (w' : World) : Prop := ∃ b : Bool, e = .returned (.bool b) ∧ (b = true ↔ P) ∧ Frm [] w w'
theorem BoolOf.yes {P : Prop} {w w' : World} {e : Ending} (h : BoolOf P w e w') (hp : P) : e = .returned (.bool true) ∧ Frm [] w w' := by
  obtain ⟨b, rfl, hb, hf⟩ := h
  exact ⟨by rw [hb.2 hp], hf⟩
theorem BoolOf.no {P : Prop} {w w' : World} {e : Ending} (h : BoolOf P w e w') (hp : ¬ P) : e = .returned (.bool false) ∧ Frm [] w w' := by
  obtain ⟨b, rfl, hb, hf⟩ := h
  exact ⟨by cases b with | false => rfl | true => exact absurd (hb.1 rfl) hp, hf⟩
theorem boolOf_t {P : Prop} {w w' : World} (hp : P) (hf : Frm [] w w') : BoolOf P w (.returned (.bool true)) w' := ⟨true, rfl, by simp [hp], hf⟩
theorem boolOf_f {P : Prop} {w w' : World} (hp : ¬ P) (hf : Frm [] w w') : BoolOf P w (.returned (.bool false)) w' := ⟨false, rfl, by simp [hp], hf⟩
theorem boolOf_d {P Q : Prop} [Decidable Q] {w w' : World} (hp : Q ↔ P) (hf : Frm [] w w') : BoolOf P w (.returned (.bool (decide Q))) w' := ⟨_, rfl, by rw [decide_eq_true_iff]; exact hp, hf⟩

theorem empty_any (lo hi : Nat) (w : World) : Calls Try.prog 51 #[.agg #[.int .u64 lo, .int .u64 hi]] w (BoolOf (hi ≤ lo) w) := by
  have HF : Hid (Frm [] w (w.alloc (.cells #[.int .u64 lo, .int .u64 hi] 51))) := (Frm.refl _ _).alloc _
  go_enter Try.func51, Try.ntmps51
  go_wp2
  go_ret
  exact boolOf_d (by omega) HF.out

theorem mem_behind {l : List Rg} (h : Rt l) {r x : Nat} (h1 : ∀ t, t < r → (l.getD t (0, 0)).2 ≤ x) (h2 : ∀ t, r ≤ t → t < l.length → x < (l.getD t (0, 0)).2) :
    Mem l x ↔ r < l.length ∧ (l.getD r (0, 0)).1 ≤ x := by
  rw [mem_iff_getD]
  constructor
  · rintro ⟨i, hi, h3, h4⟩
    have h5 : r ≤ i := by
      rcases Nat.lt_or_ge i r with h6 | h6
      · have := h1 i h6; omega
      · exact h6
    have := rt_le h h5 hi
    exact ⟨by omega, by omega⟩
  · rintro ⟨h3, h4⟩
    exact ⟨r, h3, h4, h2 r (Nat.le_refl _) h3⟩

theorem has_any {w : World} {a : Option Addr} {l : List Rg} (h : Rr w a l) (hr : Rt l) {n cap x : Nat} (hn : n = l.length) (hsz : n < 4611686018427387904) :
    Calls Try.prog 25 #[.slice a n cap, .int .u64 x] w (BoolOf (Mem l x) w) := by
  have B := Lib.hid (behind_any (cap := cap) (x := x) h hr hn hsz)
  have HN := Lib.hid hn; clear hn
  have H := Lib.hid h; clear h
  have HR := Lib.hid hr; clear hr
  go_enter Try.func25, Try.ntmps25
  go_wp2_with fail
  refine B.out.mono ?_
  rintro e w' ⟨r, rfl, h0, h1, h2, hf⟩
  have M := Lib.hid (mem_behind HR.out h1 h2)
  have HF := Lib.hid hf; clear h1 h2 hf
  by_cases hlt : r < l.length
  · obtain ⟨b, off, rfl, hc⟩ := (H.out.keep0 HF.out).2 (by omega)
    obtain ⟨d0, d1⟩ := hc r hlt
    clear hc d1
    obtain ⟨y, hy⟩ : ∃ y, y = (l.getD r (0, 0)).1 := ⟨_, rfl⟩
    rw [← hy] at d0
    have HY := Lib.hid hy; clear hy
    have hlt' : (r : Int) < (n : Int) := by have := HN.out; omega
    go_wp2
    go_ret
    exact boolOf_d (by rw [M.out, ← HY.out]; omega) HF.out
  · have hlt' : ¬ (r : Int) < (n : Int) := by have := HN.out; omega
    go_wp2
    go_ret
    exact boolOf_f (by rw [M.out]; omega) HF.out

/-- In none of the first i. -/
theorem in_any {w : World} {a : Option Addr} {l : List Rg} (h : Rr w a l) {n cap x : Nat} (hn : n = l.length) (hsz : n < 4611686018427387904) :
    Calls Try.prog 26 #[.slice a n cap, .int .u64 x] w fun e w' => BoolOf (Mem l x) w e w' ∧ w = w' := by
  have HN := Lib.hid hn; clear hn
  have H := Lib.hid h; clear h
  go_enter Try.func26, Try.ntmps26
  go_wp2
  go_loop [5] (fun i => ∃ k : Nat, k ≤ n ∧ i = .int .i64 k ∧ Hid (∀ t, t < k → ¬ ((l.getD t (0, 0)).1 ≤ x ∧ x < (l.getD t (0, 0)).2))) (fun i => n - (intOf i).toNat)
  case atStart => exact ⟨0, Nat.zero_le _, rfl, fun t ht => absurd ht (Nat.not_lt_zero _)⟩
  case round =>
    obtain ⟨k, hk, rfl, HI⟩ := hrel
    by_cases hlt : k < n
    · obtain ⟨b, off, rfl, hc⟩ := H.out.2 (by have := HN.out; omega)
      obtain ⟨d0, d1⟩ := hc k (by have := HN.out; omega)
      clear hc
      have M : Hid (∃ x0 y0, x0 = (l.getD k (0, 0)).1 ∧ y0 = (l.getD k (0, 0)).2) := ⟨_, _, rfl, rfl⟩
      obtain ⟨x0, hx0⟩ : ∃ y, y = (l.getD k (0, 0)).1 := ⟨_, rfl⟩
      obtain ⟨y0, hy0⟩ : ∃ y, y = (l.getD k (0, 0)).2 := ⟨_, rfl⟩
      rw [← hx0] at d0
      rw [← hy0] at d1
      have HX := Lib.hid hx0; clear hx0
      have HY := Lib.hid hy0; clear hy0
      have hlt' : (k : Int) < (n : Int) := by omega
      by_cases hin : x0 ≤ x ∧ x < y0
      · have e1 : (x0 : Int) ≤ (x : Int) := by omega
        have e2 : (x : Int) < (y0 : Int) := by omega
        go_wp2
        go_ret
        exact ⟨boolOf_t ((mem_iff_getD l x).2 ⟨k, by have := HN.out; omega, by rw [← HX.out]; omega, by rw [← HY.out]; omega⟩) (Frm.refl _ _), rfl⟩
      · have HI2 : Hid (∀ t, t < k + 1 → ¬ ((l.getD t (0, 0)).1 ≤ x ∧ x < (l.getD t (0, 0)).2)) := by
          intro t ht
          rcases Nat.lt_or_eq_of_le (Nat.le_of_lt_succ ht) with h1 | rfl
          · exact HI.out t h1
          · rw [← HX.out, ← HY.out]; exact hin
        by_cases e1 : (x0 : Int) ≤ (x : Int)
        · have e2 : ¬ (x : Int) < (y0 : Int) := by omega
          clear hin
          go_wp2
          go_round
          case rel => exact ⟨k + 1, by omega, by go_num, HI2⟩
          case measure => simp [intOf]; omega
        · clear hin
          go_wp2
          go_round
          case rel => exact ⟨k + 1, by omega, by go_num, HI2⟩
          case measure => simp [intOf]; omega
    · obtain rfl : k = n := by omega
      go_wp2
      go_ret
      refine ⟨boolOf_f (fun hm => ?_) (Frm.refl _ _), rfl⟩
      obtain ⟨i, hi, hm⟩ := (mem_iff_getD l x).1 hm
      exact HI.out i (by have := HN.out; omega) hm

theorem cnt_step {l : List Rg} (h : Rt l) {k : Nat} (hk : k < l.length) : (l.getD k (0, 0)).1 < (l.getD k (0, 0)).2 ∧ cnt (l.take k) ≤ (l.getD k (0, 0)).1 ∧ cnt (l.take (k + 1)) = cnt (l.take k) + ((l.getD k (0, 0)).2 - (l.getD k (0, 0)).1) :=
  ⟨rt_lt h hk, cnt_le_lo h hk, cnt_take hk⟩
theorem int_eq {k : IntKind} {a b : Int} (h : a = b) : Value.int k a = Value.int k b := by rw [h]

set_option maxHeartbeats 1000000 in
theorem count_any {w : World} {a : Option Addr} {l : List Rg} (h : Rr w a l) (hr : Rt l) {n cap : Nat} (hn : n = l.length) (hsz : n < 4611686018427387904) :
    Calls Try.prog 27 #[.slice a n cap] w fun e w' => e = .returned (.int .u64 (cnt l : Nat)) ∧ Frm [] w w' := by
  have HN := Lib.hid hn; clear hn
  have H := Lib.hid h; clear h
  have HR := Lib.hid hr; clear hr
  go_enter Try.func27, Try.ntmps27
  go_wp2
  go_loopw [3, 8] (fun c i wr => ∃ k : Nat, k ≤ n ∧ i = .int .i64 k ∧ c = .int .u64 (cnt (l.take k) : Nat) ∧ Frm [] w wr) (fun _ i _ => n - (intOf i).toNat)
  case atStart => exact ⟨0, Nat.zero_le _, rfl, rfl, Frm.refl _ _⟩
  case round =>
    obtain ⟨k, hk, rfl, rfl, hf⟩ := hrel
    have HF := Lib.hid hf; clear hf
    by_cases hlt : k < n
    · obtain ⟨b, off, rfl, hc⟩ := (H.out.keep0 HF.out).2 (by have := HN.out; omega)
      obtain ⟨d0, d1⟩ := hc k (by have := HN.out; omega)
      have bd := getD_bd H.out.1 k
      obtain ⟨s1, s2, s3⟩ := cnt_step HR.out (k := k) (by have := HN.out; omega)
      clear hc
      obtain ⟨x0, hx0⟩ : ∃ y, y = (l.getD k (0, 0)).1 := ⟨_, rfl⟩
      obtain ⟨y0, hy0⟩ : ∃ y, y = (l.getD k (0, 0)).2 := ⟨_, rfl⟩
      obtain ⟨c, hc⟩ : ∃ y, y = cnt (l.take k) := ⟨_, rfl⟩
      rw [← hx0] at d0 s1 s2 s3 bd
      rw [← hy0] at d1 s1 s3 bd
      rw [← hc] at s2 s3 ⊢
      have S3 := Lib.hid s3
      clear hx0 hy0 hc s3
      have hlt' : (k : Int) < (n : Int) := by omega
      have b1 : (y0 : Int) < 18446744073709551616 := by omega
      have b2 : (x0 : Int) < (y0 : Int) := by omega
      have b3 : (c : Int) ≤ (x0 : Int) := by omega
      clear bd s1 s2
      go_wp2
      go_roundw
      case rel => exact ⟨k + 1, by omega, by go_num, int_eq (by rw [S3.out]; omega), HF.out.alloc _⟩
      case measure => simp [intOf]; omega
    · obtain rfl : k = n := by omega
      go_wp2
      go_ret
      exact ⟨ret_same (by rw [List.take_of_length_le (by have := HN.out; omega)]), HF.out⟩

set_option maxHeartbeats 1000000 in
theorem rcount_any {w : World} {a : Option Addr} {l : List Rg} (h : Rr w a l) (hr : Rt l) {n cap : Nat} (hn : n = l.length) (hsz : n < 4611686018427387904) :
    Calls Try.prog 28 #[.slice a n cap] w fun e w' => e = .returned (.int .u64 (cnt l : Nat)) ∧ Frm [] w w' := by
  have HN := Lib.hid hn; clear hn
  have H := Lib.hid h; clear h
  have HR := Lib.hid hr; clear hr
  go_enter Try.func28, Try.ntmps28
  go_wp2
  go_loopw [3, 4] (fun c i wr => ∃ k : Nat, k ≤ n ∧ i = .int .i64 k ∧ c = .int .u64 (cnt (l.take k) : Nat) ∧ Frm [] w wr) (fun _ i _ => n - (intOf i).toNat)
  case atStart => exact ⟨0, Nat.zero_le _, rfl, rfl, Frm.refl _ _⟩
  case round =>
    obtain ⟨k, hk, rfl, rfl, hf⟩ := hrel
    have HF := Lib.hid hf; clear hf
    by_cases hlt : k < n
    · obtain ⟨b, off, rfl, hc⟩ := (H.out.keep0 HF.out).2 (by have := HN.out; omega)
      obtain ⟨d0, d1⟩ := hc k (by have := HN.out; omega)
      have bd := getD_bd H.out.1 k
      obtain ⟨s1, s2, s3⟩ := cnt_step HR.out (k := k) (by have := HN.out; omega)
      clear hc
      obtain ⟨x0, hx0⟩ : ∃ y, y = (l.getD k (0, 0)).1 := ⟨_, rfl⟩
      obtain ⟨y0, hy0⟩ : ∃ y, y = (l.getD k (0, 0)).2 := ⟨_, rfl⟩
      obtain ⟨c, hc⟩ : ∃ y, y = cnt (l.take k) := ⟨_, rfl⟩
      rw [← hx0] at d0 s1 s2 s3 bd
      rw [← hy0] at d1 s1 s3 bd
      rw [← hc] at s2 s3 ⊢
      have S3 := Lib.hid s3
      clear hx0 hy0 hc s3
      have hlt' : (k : Int) < (n : Int) := by omega
      obtain ⟨v, hv⟩ : ∃ v, v = (c + y0) % 18446744073709551616 := ⟨_, rfl⟩
      have hw1 : IntKind.u64.wrap ((c : Int) + (y0 : Int)) = (v : Int) := by simp [IntKind.wrap, IntKind.bits, IntKind.signed]; omega
      have hw2 : IntKind.u64.wrap ((v : Int) - (x0 : Int)) = ((c + (y0 - x0) : Nat) : Int) := by simp [IntKind.wrap, IntKind.bits, IntKind.signed]; omega
      clear bd s1 s2 hv
      go_wp2
      go_quiet (fail)
      go_wp2
      go_roundw
      case rel => exact ⟨k + 1, by omega, by go_num, int_eq (by rw [S3.out]; omega), HF.out.drewN _⟩
      case measure => simp [intOf]; omega
    · obtain rfl : k = n := by omega
      go_wp2
      go_ret
      exact ⟨ret_same (by rw [List.take_of_length_le (by have := HN.out; omega)]), HF.out⟩
end Go.Proofs.Ytolmpmihchjmlaa
