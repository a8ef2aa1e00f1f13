/- Contract of turn: a bit of the last byte. -/
import Derived.Test.YtibaloloheakpaaDkLay
import Derived.Laws.BitsAllLaws
namespace Go.Proofs.Ytibaloloheakpaa
open Go.RowKit

/-- All but the last byte, and the last byte with a bit turned. -/
def flipLast (l : List Nat) (bit : Nat) : List Nat := l.take (l.length - 1) ++ [l.getD (l.length - 1) 0 ^^^ 2 ^ bit]

theorem flip_byte (x t : Nat) (hx : x < 256) (ht : t < 8) : bits .xor .u8 (x : Int) ((2 : Int) ^ t % 256) = ((x ^^^ 2 ^ t : Nat) : Int) ∧ x ^^^ 2 ^ t < 256 := by
  have h2 : 2 ^ t < 256 := Nat.pow_lt_pow_right (by omega) (by omega : t < 8)
  have e : ((2 : Int) ^ t % 256) = ((2 ^ t : Nat) : Int) := by
    have : ((2 : Int) ^ t) = ((2 ^ t : Nat) : Int) := by simp
    rw [this]; exact Int.emod_eq_of_lt (Int.natCast_nonneg _) (Int.ofNat_lt.2 h2)
  rw [e]
  exact ⟨u8_xor_nat x _ hx h2, Nat.xor_lt_two_pow (n := 8) hx h2⟩

theorem one_u8 (w : World) (x : Nat) (hx : x < 256) (t : TypeId) : Bytes (w.alloc (.cells #[.int .u8 x] t)) (some ⟨w.heap.size, 0, none⟩) [x] := by
  refine ⟨by simpa using hx, by simp, .inr ⟨_, _, rfl, fun i hi => ?_⟩⟩
  simp at hi
  subst hi
  rw [(Whole.made w t #[.int .u8 (x : Int)]).cell]
  simp

theorem DkTo.trans {w w1 w2 : World} {B p : Nat} {F l1 l2 : List Nat} {s1 s2 room : Nat} (h1 : DkTo w w1 B p F l1 s1 room) (h2 : ∀ F1, Dk w1 B p F1 l1 s1 room → DkTo w1 w2 B p F1 l2 s2 room) : DkTo w w2 B p F l2 s2 room := by
  obtain ⟨F1, hd1, hf1, hF1⟩ := h1
  obtain ⟨F2, hd2, hf2, hF2⟩ := h2 F1 hd1
  refine ⟨F2, hd2, hf1.trans hf2 (fun x h => h) (fun x hx => hF1 x hx), fun x hx => ?_⟩
  rcases hF2 x hx with h | h
  · exact hF1 x h
  · right; have := hf1.size; omega
theorem DkTo.early {w0 w w' : World} {B p : Nat} {F l : List Nat} {s room : Nat} (h : DkTo w w' B p F l s room) (hf : Frm [] w0 w) : DkTo w0 w' B p F l s room := by
  obtain ⟨F', hd, hF, hx⟩ := h
  refine ⟨F', hd, hf.trans hF (by simp) (fun x hx => .inl hx), fun x h => ?_⟩
  rcases hx x h with h1 | h1
  · exact .inl h1
  · right; have := hf.size; omega
theorem Dk.lt {w : World} {B p : Nat} {F l : List Nat} {s room : Nat} (h : Dk w B p F l s room) : ∀ x ∈ F, B ≤ x ∧ x < w.heap.size := by
  obtain ⟨hs, ⟨rfl, rfl, hp⟩ | ⟨r, a, cap, hon, rfl⟩⟩ := h
  · intro x hx; simp at hx; subst hx; exact ⟨hs.2.1, hp.lt⟩
  · intro x hx
    simp only [List.mem_cons] at hx
    rcases hx with rfl | rfl | hx
    · exact ⟨hs.2.1, hon.disk.lt⟩
    · exact ⟨hon.hr, hon.row.lt⟩
    · exact hon.head.blk_lt x hx
theorem Dk.keep {w w' : World} {B p : Nat} {F S l : List Nat} {s room : Nat} (h : Dk w B p F l s room) (hf : Frm S w w') (hS : ∀ x ∈ F, x ∉ S) : Dk w' B p F l s room := by
  obtain ⟨hs, ⟨rfl, rfl, hp⟩ | ⟨r, a, cap, hon, rfl⟩⟩ := h
  · exact ⟨hs, .inl ⟨rfl, rfl, hf.whole hp (hS p (by simp))⟩⟩
  · exact ⟨hs, .inr ⟨r, a, cap, ⟨hf.whole hon.disk (hS p (by simp)), hf.whole hon.row (hS r (by simp)), hon.head.keep hf (fun g hg => hS g (by simp [hg])), hon.hr⟩, rfl⟩⟩
/-- The disk's size, as the Disk has it. -/
theorem Dk.size {w : World} {B p : Nat} {F l : List Nat} {s room : Nat} (h : Dk w B p F l s room) :
    ∃ x0, Whole w p 49 #[x0, .int .i64 (l.length : Nat), .int .i64 (s : Nat), .int .i64 (room : Nat)] := by
  obtain ⟨hs, ⟨rfl, rfl, hp⟩ | ⟨r, a, cap, hon, rfl⟩⟩ := h
  · have hs0 : s = 0 := by simpa using hs.2.2.1
    subst hs0
    exact ⟨_, hp⟩
  · exact ⟨_, hon.disk⟩

set_option maxHeartbeats 1000000 in
theorem turn_any {w : World} {B p : Nat} {F l : List Nat} {s room : Nat} (bit : Nat) (h : Dk w B p F l s room) (hl : l ≠ []) (hbit : bit < 8) :
    Calls Try.prog 20 #[.pointer (some ⟨p, 0, none⟩), .int .i64 (bit : Nat)] w (DkEnd w B p F (flipLast l bit) (min s (l.length - 1)) room) := by
  have HH := Lib.hid h
  obtain ⟨hs, ⟨rfl, rfl, hp⟩ | ⟨r, a, cap, hon, rfl⟩⟩ := h
  · exact absurd rfl hl
  have hcl := hon.head.cap_le
  have hpos : 0 < l.length := List.length_pos_iff.2 hl
  obtain ⟨k, hk⟩ : ∃ k, k + 1 = l.length := ⟨l.length - 1, by omega⟩
  have hp := hon.disk
  have hr := hon.row
  rw [← hk] at hp hr
  have hk2 : k + 1 ≤ 16777216 := by omega
  obtain ⟨g, rfl⟩ : ∃ g, a = some ⟨g, 0, none⟩ := by
    rcases hon.head with ⟨_, h, _⟩ | ⟨g, cur, h, _⟩
    · exact absurd h hl
    · exact ⟨g, h⟩
  have hx : l.getD k 0 < 256 := getD_lt hs.1 k
  obtain ⟨x, hxe⟩ : ∃ x, x = l.getD k 0 := ⟨_, rfl⟩
  have hcell := hon.head.cellAt (i := k) (by omega)
  rw [← hxe] at hx hcell
  unfold u8v at hcell
  have c0 := hp.cell 0
  have c1 := hp.cell 1
  have cr := hr.cell 0
  simp at c0 c1 cr
  have hfl := flip_byte x bit hx hbit
  have hsub : IntKind.i64.wrap (((k + 1 : Nat) : Int) - 1) = (k : Int) := by rw [show (((k + 1 : Nat) : Int) - 1) = (k : Int) by omega]; exact IntWalk.i64_in _ (by omega)
  have hlt1 : decide ((k : Int) < ((k + 1 : Nat) : Int)) = true := by simp; omega
  have ALL := Lib.hid (fun (q : Nat) => all_on p r (some ⟨g, 0, none⟩) (k + 1) cap s room (w.drewN q) (by exact hp) (by exact hr) (by omega))
  have HS := Lib.hid hs; clear hs
  have HK := Lib.hid hk; clear hk
  have HX := Lib.hid hxe; clear hxe
  clear hp hr hon hl
  go_enter Try.func20, Try.ntmps20
  go_wp2_with fail
  go_quiet ((go_at_call 22; exact Calls.quiet_of (ALL.out _)))
  go_wp2_with fail
  have hfq : Frm [] w (w.drewN nq) := (Frm.refl [] w).drewN nq
  refine (cut_any k (HH.out.keep hfq (by simp)) (by have := HK.out; omega)).mono ?_
  rintro e w1 ⟨rfl, hd1⟩
  have HD1 := Lib.hid (hd1.early hfq); clear hd1 hfq c0 c1 cr hcell hlt1 hsub
  obtain ⟨F1, hd1, hf1, hF1⟩ := HD1.out
  have HK1 := Lib.hid hd1
  have HF1 := Lib.hid hf1
  have HG1 := Lib.hid hF1
  clear hd1 hf1 hF1
  have hfe := hfl.1
  have HX8 := Lib.hid hfl.2; clear hfl
  go_wp2_with fail
  have hb2 := one_u8 w1 (x ^^^ 2 ^ bit) HX8.out 5
  have hf2 : Frm [] w1 (w1.alloc (.cells #[.int .u8 ((x ^^^ 2 ^ bit : Nat) : Int)] 5)) := (Frm.refl [] w1).alloc _
  refine (lay_any _ _ _ [x ^^^ 2 ^ bit] (HK1.out.keep hf2 (by simp)) hb2 rfl (by simp) (by have := HK.out; have := HS.out.2.2.2; simp; omega)).mono ?_
  rintro e w3 ⟨rfl, hd3⟩
  have HD3 := Lib.hid (hd3.early hf2); clear hd3 hb2 hf2
  go_wp2
  go_end0
  refine ⟨rfl, ?_⟩
  obtain ⟨F3, hd3, hf3, hF3⟩ := HD3.out
  have e1 : l.take k ++ [x ^^^ 2 ^ bit] = flipLast l bit := by
    have h1 := HK.out
    have h2 := HX.out
    unfold flipLast
    rw [show l.length - 1 = k by omega, ← h2]
  have e2 : min s k = min s (l.length - 1) := by have := HK.out; congr 1; omega
  rw [e1, e2] at hd3
  refine ⟨F3, hd3, HF1.out.trans hf3 (fun x h => h) HG1.out, fun x h => ?_⟩
  rcases hF3 x h with h1 | h1
  · exact HG1.out x h1
  · right; have := HF1.out.size; omega
end Go.Proofs.Ytibaloloheakpaa
