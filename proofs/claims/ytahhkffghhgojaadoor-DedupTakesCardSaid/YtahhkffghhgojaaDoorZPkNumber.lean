/- Contracts of Writer.number, U8, U16, U32, U64, Bytes, Text. -/
import Derived.Test.YtahhkffghhgojaaDoorZPkPutAny
namespace Go.Proofs.YtahhkffghhgojaaDoor
open Go.RowKit

theorem own_block_lt {w : World} {base : Nat} {e : TypeId} {size n : Nat} {v : Value} {xs : List Value} (h : w.ownsRow base e size v n xs) {g : Nat} (hg : v.ownBlock = some g) : base ≤ g ∧ g < w.heap.size := h.lt g hg

theorem Wr.keep {w w' : World} {B p : Nat} {F S : List Nat} {l : List Nat} (h : Wr w B p F l) (hf : Frm S w w') (hS : ∀ x ∈ F, x ∉ S) : Wr w' B p F l := by
  obtain ⟨h8, hBp, h⟩ := h
  refine ⟨h8, hBp, ?_⟩
  rcases h with ⟨rfl, rfl, hp⟩ | ⟨r, a, cap, hp, hr, hown, hBr, rfl⟩
  · exact .inl ⟨rfl, rfl, hf.whole hp (hS p (by simp))⟩
  · exact .inr ⟨r, a, cap, hf.whole hp (hS p (by simp)), hf.whole hr (hS r (by simp)), hf.own hown (fun g hg => hS g (by rw [hg]; simp)), hBr, rfl⟩
theorem Wr.lt {w : World} {B p : Nat} {F : List Nat} {l : List Nat} (h : Wr w B p F l) : ∀ x ∈ F, B ≤ x ∧ x < w.heap.size := by
  obtain ⟨h8, hBp, h⟩ := h
  rcases h with ⟨rfl, rfl, hp⟩ | ⟨r, a, cap, hp, hr, hown, hBr, rfl⟩
  · intro x hx; simp at hx; subst hx; exact ⟨hBp, hp.lt⟩
  · intro x hx
    simp only [List.mem_cons] at hx
    rcases hx with rfl | rfl | hx
    · exact ⟨hBp, hp.lt⟩
    · exact ⟨hBr, hr.lt⟩
    · cases hg : (Value.slice a l.length cap).ownBlock with
      | none => rw [hg] at hx; simp at hx
      | some g => rw [hg] at hx; simp at hx; subst hx; exact own_block_lt hown hg
theorem Wr.mem {w : World} {B p : Nat} {F : List Nat} {l : List Nat} (h : Wr w B p F l) : p ∈ F := by
  obtain ⟨h8, hBp, h⟩ := h
  rcases h with ⟨rfl, rfl, hp⟩ | ⟨r, a, cap, hp, hr, hown, hBr, rfl⟩ <;> simp
/-- What was put from a later world on. -/
theorem Put.early {w0 w w' : World} {B p : Nat} {F l b : List Nat} (h : Put w w' B p F l b) (hf : Frm [] w0 w) : Put w0 w' B p F l b := by
  obtain ⟨F', hw, hF, hx⟩ := h
  refine ⟨F', hw, hf.trans hF (by simp) (fun x hx => .inl hx), fun x h => ?_⟩
  rcases hx x h with h1 | h1
  · exact .inl h1
  · right; have := hf.size; omega
/-- Two puts, one behind the other. -/
theorem Put.more {w w1 w2 : World} {B p : Nat} {F l b c : List Nat} (h : Put w w1 B p F l b) (h2 : ∀ F', Wr w1 B p F' (l ++ b) → Put w1 w2 B p F' (l ++ b) c) : Put w w2 B p F l (b ++ c) := by
  obtain ⟨F1, hw1, hf1, hx1⟩ := h
  obtain ⟨F2, hw2, hf2, hx2⟩ := h2 F1 hw1
  refine ⟨F2, by rw [← List.append_assoc]; exact hw2, hf1.trans hf2 (fun x h => h) hx1, fun x h => ?_⟩
  rcases hx2 x h with h1 | h1
  · exact hx1 x h1
  · right; have := hf1.size; omega

/-- The last k of eight bytes, as they lie in a block of their own. -/
theorem eight_bytes {w : World} {g k n d0 d1 d2 d3 d4 d5 d6 d7 : Nat} (off : Nat) (t : TypeId) (hd : be 8 n = [d0, d1, d2, d3, d4, d5, d6, d7]) (hb : (be 8 n).drop off = be k n) (h8 : ∀ c ∈ be k n, c < 256) (hl : (be k n).length = k) (hk : k + off = 8)
    (h : Whole w g t #[.int .u8 d0, .int .u8 d1, .int .u8 d2, .int .u8 d3, .int .u8 d4, .int .u8 d5, .int .u8 d6, .int .u8 d7]) : Bytes w (some ⟨g, off, none⟩) (be k n) := by
  refine ⟨h8, by omega, .inr ⟨g, off, rfl, fun i hi => ?_⟩⟩
  rw [h.cell, ← hb, hd]
  have hj : off + i < 8 := by omega
  have e : (List.drop off [d0, d1, d2, d3, d4, d5, d6, d7]).getD i 0 = [d0, d1, d2, d3, d4, d5, d6, d7].getD (off + i) 0 := by
    simp [List.getD, List.getElem?_drop]
  rw [e]
  generalize off + i = j at *
  match j, hj with
  | 0, _ | 1, _ | 2, _ | 3, _ | 4, _ | 5, _ | 6, _ | 7, _ => rfl

set_option maxHeartbeats 1000000 in
theorem number_any {w : World} {B p : Nat} {F : List Nat} {l : List Nat} (n k : Nat) (h : Wr w B p F l) (hk : k = 1 ∨ k = 2 ∨ k = 4 ∨ k = 8) (hn : n < 18446744073709551616) (hfit : l.length + k ≤ 140737488355328) :
    Calls Tryd.prog 60 #[.pointer (some ⟨p, 0, none⟩), .int .u64 n, .int .i64 k] w (PutEnd w B p F l (be k n)) := by
  have hplt := (h.lt p h.mem).2
  have H := Lib.hid h; clear h
  have hbd := be_drop k n (by omega)
  have hbl := be_length k n
  have hbL := be_lt k n
  have HD := Lib.hid hbd; clear hbd
  have HL := Lib.hid hbl; clear hbl
  have H8 := Lib.hid hbL; clear hbL
  have HFIT := Lib.hid hfit; clear hfit
  rcases hk with rfl | rfl | rfl | rfl
  all_goals
    go_enter Tryd.func60, Tryd.ntmps60
    go_wp2_with fail
    refine (digits_any n _ hn).mono ?_
    rintro e w1 ⟨d0, d1, d2, d3, d4, d5, d6, d7, hd, rfl, hb⟩
    have HDD := Lib.hid hd; clear hd
    have HB := Lib.hid hb; clear hb
    go_wp2_with fail
    have hB := HB.out
    have hf := (Frm.ofBelow hB).alloc (.cells #[.int .u8 d0, .int .u8 d1, .int .u8 d2, .int .u8 d3, .int .u8 d4, .int .u8 d5, .int .u8 d6, .int .u8 d7] 112)
    have hx : ∀ (o : Nat) (x : Addr), (some ⟨w1.heap.size, o, none⟩ : Option Addr) = some x → x.block ≠ p := by
      have := hB.size
      intro o x hx
      cases hx
      simp; omega
    refine (put_any (F := F) (l := l) (H.out.keep hf (by simp)) (eight_bytes _ _ HDD.out HD.out H8.out HL.out (by omega) (Whole.made _ _ _)) (fun _ => hx _) HL.out.symm (by simp) HFIT.out).mono ?_
    rintro e w' ⟨rfl, hput⟩
    have HP := Lib.hid (hput.early hf); clear hput hf
    go_wp2
    go_end0
    exact ⟨rfl, HP.out⟩
end Go.Proofs.YtahhkffghhgojaaDoor
