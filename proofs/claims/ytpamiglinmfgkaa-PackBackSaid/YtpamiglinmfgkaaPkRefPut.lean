/- Contracts of the reference's Put and PutBytes: a number's bytes, or how many and they, behind a row of the call's own. -/
import Derived.Test.YtpamiglinmfgkaaApp
import Derived.Test.YtpamiglinmfgkaaPkMath
import Derived.Test.YtpamiglinmfgkaaPkClone
namespace Go.Proofs.Ytpamiglinmfgkaa
open Go.RowKit

/-- The block of an address. -/
def ob : Option Addr → List Nat
  | some x => [x.block]
  | none => []
theorem ob_own (a : Option Addr) (n c : Nat) : (Value.slice a n c).ownBlock.toList = ob a := by cases a <;> rfl
theorem ob_some {a : Option Addr} {n c g : Nat} : (Value.slice a n c).ownBlock = some g ↔ g ∈ ob a := by cases a <;> simp [Value.ownBlock, ob, eq_comm]

/-- What putting the bytes b behind an own row leaves. -/
def RPut (w : World) (base : Nat) (a : Option Addr) (l b : List Nat) (e : Ending) (w' : World) : Prop :=
  ∃ a' cap', e = .returned (.slice a' (l ++ b).length cap') ∧ w'.ownsRow base 5 1 (.slice a' (l ++ b).length cap') (l ++ b).length ((l ++ b).map u8v) ∧ Frm (ob a) w w' ∧
    ∀ g ∈ ob a', g ∈ ob a ∨ w.heap.size ≤ g

theorem be_getD (k n m : Nat) (hm : m < k) : (be k n).getD m 0 = n / 256 ^ (k - 1 - m) % 256 := by
  induction k generalizing n with
  | zero => omega
  | succ k ih =>
    by_cases h : m < k
    · have e : (be (k + 1) n).getD m 0 = (be k (n / 256)).getD m 0 := by
        simp [be, List.getD, List.getElem?_append, be_length, h]
      rw [e, ih _ h, Nat.div_div_eq_div_mul, show k + 1 - 1 - m = (k - 1 - m) + 1 by omega, Nat.pow_succ, Nat.mul_comm]
    · have : m = k := by omega
      subst this
      simp [be, List.getD, be_length]
theorem be_take_succ (k n m : Nat) (hm : m < k) : (be k n).take (m + 1) = (be k n).take m ++ [n / 256 ^ (k - 1 - m) % 256] := by
  rw [take_snoc_getD (by rw [be_length]; exact hm), be_getD k n m hm]

theorem one_byte (w : World) (y : Nat) (t : TypeId) : Bytes (w.alloc (.cells #[.int .u8 ((y : Int) % 256)] t)) (some ⟨w.heap.size, 0, none⟩) [y % 256] := by
  refine ⟨fun c hc => by simp at hc; omega, by simp, .inr ⟨_, _, rfl, fun i hi => ?_⟩⟩
  simp at hi
  subst hi
  rw [(Whole.made w t _).cell]
  rfl
/-- What holds at the head of Put's loop: so many bytes are put. -/
def RpRel (base k ln n : Nat) (a : Option Addr) (l : List Nat) (w : World) (b i : Value) (wr : World) : Prop :=
  ∃ (m : Nat) (a' : Option Addr) (cap' : Nat), m ≤ k ∧ i = .int .i64 ((k : Int) - 1 - m) ∧ b = .slice a' (ln + m) cap' ∧
      wr.ownsRow base 5 1 (.slice a' (ln + m) cap') (ln + m) ((l ++ (be k n).take m).map u8v) ∧ Frm (ob a) w wr ∧ ∀ g ∈ ob a', g ∈ ob a ∨ w.heap.size ≤ g
theorem rp_step {base k ln n m : Nat} {a a' a2 : Option Addr} {cap' cap2 : Nat} {l : List Nat} {w wr wx w2 : World} {c : Nat} {b2 i2 : Value} (hm : m < k) (hc : c = n / 256 ^ (k - 1 - m) % 256)
    (hf : Frm (ob a) w wr) (hg : ∀ g ∈ ob a', g ∈ ob a ∨ w.heap.size ≤ g) (hx : Frm [] wr wx)
    (h : App wx w2 base 5 (.slice a' (ln + m) cap') (ln + m) 1 ((l ++ (be k n).take m).map u8v) [c] a2 cap2) (hi : i2 = .int .i64 ((k : Int) - 1 - (m + 1 : Nat))) (hb : b2 = .slice a2 (ln + m + 1) cap2) :
    RpRel base k ln n a l w b2 i2 w2 := by
  refine ⟨m + 1, a2, cap2, by omega, hi, by rw [hb]; rfl, ?_, ?_, ?_⟩
  · have := h.own
    rw [← List.map_append, List.append_assoc, hc, ← be_take_succ k n m hm] at this
    exact this
  · refine (hf.trans hx (fun x h => h) (by simp)).grown h.grown ?_
    intro g hgg
    exact hg g (ob_some.1 hgg)
  · intro g hgg
    rcases h.place with hp | hp
    · exact hg g (ob_some.1 (hp ▸ ob_some.2 hgg))
    · have := (ob_some (n := ln + m + 1) (c := cap2)).2 hgg
      rw [hp] at this
      right
      have h1 := hx.size
      have h2 := hf.size
      simp at this
      omega

set_option maxHeartbeats 2000000 in
theorem ref_put_any (base : Nat) (a : Option Addr) (cap : Nat) (l : List Nat) (n k : Nat) (w : World) (hown : w.ownsRow base 5 1 (.slice a l.length cap) l.length (l.map u8v)) (hbase : base ≤ w.heap.size)
    (hn : n < 18446744073709551616) (hk : k ≤ 8) (hfit : l.length + k ≤ 140737488355328) :
    Calls Try.prog 31 #[.slice a l.length cap, .int .u64 n, .int .i64 k] w (RPut w base a l (be k n)) := by
  obtain ⟨i0, hi, hz0, hz1, hz2⟩ := info_parts Try.info5
  have HI := Lib.hid hi; clear hi
  have HZ0 := Lib.hid hz0; clear hz0
  have HZ1 := Lib.hid hz1; clear hz1
  have HZ2 := Lib.hid hz2; clear hz2
  obtain ⟨ln, hln⟩ : ∃ ln, ln = l.length := ⟨_, rfl⟩
  rw [← hln] at hown hfit ⊢
  have HO := Lib.hid hown; clear hown
  have HL := Lib.hid hln; clear hln
  go_enter Try.func31, Try.ntmps31
  go_wp2
  go_loopw [0, 7, 8, 9] (fun b i _ _ wr => RpRel base k ln n a l w b i wr) (fun _ i _ _ _ => (intOf i + 1).toNat)
  case atStart => exact ⟨0, a, cap, Nat.zero_le _, by simp, by simp, by simpa using HO.out, Frm.refl _ _, fun g hg => .inl hg⟩
  case round =>
    obtain ⟨m, a', cap', hm, rfl, rfl, hown, hf, hg⟩ := hrel
    have HF := Lib.hid hf; clear hf
    have HG := Lib.hid hg; clear hg
    obtain ⟨xs, hxs⟩ : ∃ xs, xs = (l ++ (be k n).take m).map u8v := ⟨_, rfl⟩
    rw [← hxs] at hown
    have HXS := Lib.hid hxs; clear hxs
    have HO1 := Lib.hid hown; clear hown
    by_cases hlt : m < k
    · obtain ⟨t, ht⟩ : ∃ t : Nat, t = k - 1 - m := ⟨_, rfl⟩
      have et : (k : Int) - 1 - m = (t : Int) := by omega
      have hkb : (k : Int) ≤ 8 := by omega
      have hmt : Hid (m + t + 1 = k) := by show m + t + 1 = k; omega
      have HT := Lib.hid ht; clear ht
      rw [et]
      clear et
      have htk : t < 8 := by have := hmt.out; omega
      go_wp2
      go_loop [8, 9] (fun x j => ∃ q : Nat, q ≤ t ∧ j = .int .i64 q ∧ x = .int .u64 (n / 256 ^ q : Nat)) (fun _ j => t - (intOf j).toNat)
      case atStart => exact ⟨0, Nat.zero_le _, rfl, by simp⟩
      case round =>
        obtain ⟨q, hq, rfl, rfl⟩ := hrel
        have hx : n / 256 ^ q < 18446744073709551616 := Nat.lt_of_le_of_lt (Nat.div_le_self _ _) hn
        have hd : n / 256 ^ (q + 1) = n / 256 ^ q / 256 := by rw [Nat.pow_succ, Nat.div_div_eq_div_mul]
        obtain ⟨y, hy⟩ : ∃ y, y = n / 256 ^ q := ⟨_, rfl⟩
        rw [← hy] at hx hd ⊢
        have HY := Lib.hid hy; clear hy
        have HD := Lib.hid hd; clear hd
        by_cases hqt : q < t
        · go_wp2
          go_round
          case rel => exact ⟨q + 1, by omega, by go_num, same_int (by rw [HD.out]; omega)⟩
          case measure => simp [intOf]; omega
        · obtain rfl : q = t := by omega
          go_wp2_with (at_builtin; refine wpList_app rfl (.tmp 24) (.tmp 28) 26 rfl base 5 i0 Try.underlying26 HI.out HZ0.out HZ1.out HZ2.out (.slice a' (ln + m) cap') (ln + m) xs rfl ?own1 _ _ _ [y % 256] rfl ?b1 rfl (by simp) ?fit1 ?base1 ?_)
          case own1 => exact HO1.out.alloc _
          case b1 => exact one_byte wr y 5
          case fit1 => omega
          case base1 => have := HF.out.size; simp; omega
          intro a2 cap2 w2 happ
          have HAPP := Lib.hid happ; clear happ
          go_wp2
          go_roundw
          case rel =>
            have e : q = k - 1 - m := HT.out
            refine rp_step (c := y % 256) hlt (by rw [HY.out, e]) HF.out HG.out ((Frm.refl [] wr).alloc _) (by rw [← HXS.out]; exact HAPP.out) ?_ rfl
            have := hmt.out
            congr 1
            omega
          case measure => simp [intOf]
    · obtain rfl : m = k := by omega
      have e1 : (m : Int) - 1 - m = -1 := by omega
      rw [e1]
      clear e1
      go_wp2
      go_ret
      have e : (be m n).take m = be m n := List.take_of_length_le (by rw [be_length]; exact Nat.le_refl _)
      have e2 : (l ++ be m n).length = ln + m := by rw [List.length_append, be_length, HL.out]
      have h1 := HO1.out
      rw [HXS.out, e] at h1
      exact ⟨a', cap', by rw [e2]; rfl, by rw [e2]; exact h1, HF.out, HG.out⟩

theorem RPut.mk {w w1 w2 : World} {base : Nat} {a a1 a2 : Option Addr} {cap1 cap2 : Nat} {l b c : List Nat}
    (hf1 : Frm (ob a) w w1) (hg1 : ∀ g ∈ ob a1, g ∈ ob a ∨ w.heap.size ≤ g)
    (h : App w1 w2 base 5 (.slice a1 (l ++ b).length cap1) (l ++ b).length c.length ((l ++ b).map u8v) c a2 cap2) :
    RPut w base a l (b ++ c) (.returned (.slice a2 ((l ++ b).length + c.length) cap2)) w2 := by
  have e : (l ++ (b ++ c)).length = (l ++ b).length + c.length := by simp; omega
  refine ⟨a2, cap2, by rw [e], ?_, hf1.grown h.grown ?_, ?_⟩
  · have := h.own
    rw [← List.map_append] at this
    rw [e, ← List.append_assoc]; exact this
  · intro g hg; exact hg1 g (ob_some.1 hg)
  · intro g hgg
    rcases h.place with hp | hp
    · exact hg1 g (ob_some.1 (hp ▸ ob_some.2 hgg))
    · have := (ob_some (n := (l ++ b).length + c.length) (c := cap2)).2 hgg
      rw [hp] at this
      right
      have h1 := hf1.size
      simp at this
      omega

set_option maxHeartbeats 1000000 in
theorem ref_putbytes_any (base : Nat) (a : Option Addr) (cap : Nat) (l : List Nat) (ca : Option Addr) (cn ccap : Nat) (c : List Nat) (w : World) (hown : w.ownsRow base 5 1 (.slice a l.length cap) l.length (l.map u8v)) (hbase : base ≤ w.heap.size)
    (hc : Bytes w ca c) (hca : c ≠ [] → ∀ x, ca = some x → x.block ∉ ob a) (hcn : cn = c.length) (hnil : ca = none → ccap = 0) (hfit : l.length + 4 + cn ≤ 140737488355328) :
    Calls Try.prog 35 #[.slice a l.length cap, .slice ca cn ccap] w (RPut w base a l (be 4 cn ++ c)) := by
  obtain ⟨i0, hi, hz0, hz1, hz2⟩ := info_parts Try.info5
  have HI := Lib.hid hi; clear hi
  have HZ0 := Lib.hid hz0; clear hz0
  have HZ1 := Lib.hid hz1; clear hz1
  have HZ2 := Lib.hid hz2; clear hz2
  have HPUT := Lib.hid (ref_put_any base a cap l cn 4 w hown hbase (by omega) (by omega) (by omega))
  clear hown
  obtain ⟨ln, hln⟩ : ∃ ln, ln = l.length := ⟨_, rfl⟩
  rw [← hln] at hfit HPUT ⊢
  have HL := Lib.hid hln; clear hln
  have HC := Lib.hid hc; clear hc
  have HCA := Lib.hid hca; clear hca
  have HCN := Lib.hid hcn; clear hcn
  go_enter Try.func35, Try.ntmps35
  go_wp2_with fail
  refine HPUT.out.mono ?_
  rintro e w1 ⟨a1, cap1, rfl, hown1, hf1, hg1⟩
  have HF := Lib.hid hf1; clear hf1
  have HG := Lib.hid hg1; clear hg1
  obtain ⟨xs, hxs⟩ : ∃ xs, xs = (l ++ be 4 cn).map u8v := ⟨_, rfl⟩
  obtain ⟨m, hm⟩ : ∃ m, m = (l ++ be 4 cn).length := ⟨_, rfl⟩
  rw [← hxs, ← hm] at hown1
  rw [← hm]
  have hm4 : m = ln + 4 := by rw [hm, List.length_append, be_length, HL.out]
  have hfit1 : m + cn ≤ 140737488355328 := by omega
  have HXS := Lib.hid hxs; clear hxs
  have HM := Lib.hid hm; clear hm hm4
  have HO1 := Lib.hid hown1; clear hown1
  go_wp2_with (at_builtin; refine wpList_app rfl (.tmp 9) (.tmp 10) 26 rfl base 5 i0 Try.underlying26 HI.out HZ0.out HZ1.out HZ2.out (.slice a1 m cap1) m xs rfl HO1.out _ _ _ c rfl ?b1 HCN.out hnil hfit1 ?base1 ?_)
  case b1 => exact HF.out.bytes' HC.out HCA.out
  case base1 => have := HF.out.size; omega
  intro a2 cap2 w2 happ
  have HAPP := Lib.hid happ; clear happ
  go_wp2
  go_ret
  have h := HAPP.out
  rw [HXS.out, HM.out, HCN.out] at h
  rw [HM.out, HCN.out]
  exact RPut.mk HF.out HG.out h
end Go.Proofs.Ytpamiglinmfgkaa
