/- Contracts and mathematics that the proofs of this seat stand on: SoBreak, SoPartial, SoPart, SoPivot, SoSift, SoHeap, SoRev, SoPdq, SoKeys, SoSort, Elems, Nd, It, ShList. -/
import Derived.Test.YtamcandcfainfaaGreatMC
import Derived.Test.YtamcandcfainfaaGreatShelf
import Derived.Sort.Walk7a
import Derived.Sort.LotD3
import Derived.Deep.DeepCutAuto
import Derived.Sort.LotB
import Derived.Sort.LotA
import Derived.Test.YtamcandcfainfaaGreatMB
import Derived.RangeFuncMany
import Derived.RangeFuncBox
import Derived.RangeFuncSeq
import Derived.Sort.MapsRangeIn
import Derived.OwnWalkIn
import Derived.TacticsInMore
import Derived.RegionIn
import Derived.LoopNIn
import Derived.LoopIn
import Derived.Maps.AppendAt
import Derived.Shelf.AbstractIn
import Derived.RangeFuncLeaves
/- The library's sort at rows of uint64, 10: what comes out of order on purpose: some numbers of the row change places, whichever. -/
namespace Go.Proofs.YtamcandcfainfaaGreat
open Go.RowKit Go.Sort
set_option maxRecDepth 1000000

/-- A cell that holds a number. -/
def Num (w : World) (s X : Nat) : Prop := w.cell? ⟨s, 0, none⟩ = some (.int .u64 (X : Nat)) ∧ w.frozen? ⟨s, 0, none⟩ = false ∧ X < 18446744073709551616
theorem xor_nat (X Y : Nat) (hX : X < 18446744073709551616) (hY : Y < 18446744073709551616) : ∃ Z : Nat, bits .xor .u64 (X : Int) (Y : Int) = (Z : Int) ∧ Z < 18446744073709551616 :=
  ⟨X ^^^ Y, bits_xor_u64_nat _ _ hX hY, Nat.xor_lt_two_pow (n := 64) hX hY⟩

set_option maxHeartbeats 4000000 in
theorem next_any (s X : Nat) (w : World) (h : Num w s X) :
    Calls Tryz.prog 112 #[.pointer (some ⟨s, 0, none⟩)] w fun e w' => ∃ Y : Nat, e = .returned (.int .u64 (Y : Nat)) ∧ Num w' s Y ∧ Frm [s] w w' := by
  obtain ⟨hc, hf, hX⟩ := h
  have w1 : IntKind.u64.wrap ((X : Int) * 8192) = ((X * 8192 % 18446744073709551616 : Nat) : Int) := by rw [IntKind.wrap_u64]; omega
  obtain ⟨A, hA, lA⟩ := xor_nat X (X * 8192 % 18446744073709551616) hX (by omega)
  rw [← w1] at hA
  have w2 : ((A : Int) / 128) = ((A / 128 : Nat) : Int) := by omega
  obtain ⟨B, hB, lB⟩ := xor_nat A (A / 128) lA (by omega)
  rw [← w2] at hB
  have w3 : IntKind.u64.wrap ((B : Int) * 131072) = ((B * 131072 % 18446744073709551616 : Nat) : Int) := by rw [IntKind.wrap_u64]; omega
  obtain ⟨C, hC, lC⟩ := xor_nat B (B * 131072 % 18446744073709551616) lB (by omega)
  rw [← w3] at hC
  clear w1 w2 w3
  have hslt : s < w.heap.size := block_lt_of_cell (a := ⟨s, 0, none⟩) hc
  have hss : ∀ v v', (w.setCell ⟨s, 0, none⟩ v).setCell ⟨s, 0, none⟩ v' = w.setCell ⟨s, 0, none⟩ v' := fun v v' => by
    rw [setCell_eq, setCell_eq, setCell_eq, mapBlock_mapBlock]
    congr 1
    funext c
    simp
  have HE : Hid (∀ v, Frm [s] w (w.setCell ⟨s, 0, none⟩ v) ∧ (w.setCell ⟨s, 0, none⟩ v).cell? ⟨s, 0, none⟩ = some v ∧ (w.setCell ⟨s, 0, none⟩ v).frozen? ⟨s, 0, none⟩ = false) := Lib.hid fun v =>
    ⟨(Frm.refl [s] w).setCell (.inl (by simp)) _, World.cell?_setCell_same _ _ _ hc, by simpa using hf⟩
  have hcv : ∀ v, (w.setCell ⟨s, 0, none⟩ v).cell? ⟨s, 0, none⟩ = some v := fun v => (HE.out v).2.1
  have hfv : ∀ v, (w.setCell ⟨s, 0, none⟩ v).frozen? ⟨s, 0, none⟩ = false := fun v => (HE.out v).2.2
  go_enter Tryz.func112, Tryz.ntmps112
  go_wp2
  go_region
  all_goals go_wp2
  all_goals go_region
  all_goals go_wp2
  all_goals go_region
  all_goals go_wp2
  go_ret
  exact ⟨C, rfl, ⟨(HE.out _).2.1, (HE.out _).2.2, lC⟩, ((HE.out (.int .u64 (C : Int))).1.drewN 3)⟩

set_option maxHeartbeats 2000000 in
theorem pow_any (n : Nat) (hn : n < 4611686018427387904) (hn0 : 0 < n) (w : World) :
    Calls Tryz.prog 111 #[.int .i64 (n : Nat)] w fun e w' => ∃ M : Nat, e = .returned (.int .u64 (M : Nat)) ∧ n < M ∧ M ≤ 2 * n ∧ w' = w := by
  have hL := Tryz.bits_Len (n : Int) w (by omega) (by omega)
  rw [Int.toNat_natCast, bitLen_eq _ (by omega)] at hL
  have hk : bitsLen n ≤ 62 := (bitsLen_le_iff n 62).2 (by omega)
  have hp := wrap_two_pow (bitsLen n) hk
  have hlo : n < 1 <<< bitsLen n := by rw [Nat.one_shiftLeft]; exact lt_two_pow_bitsLen n
  have hhi : 1 <<< bitsLen n ≤ 2 * n := by rw [Nat.one_shiftLeft]; exact two_pow_bitsLen_le hn0
  have HL := Lib.hid hL
  obtain ⟨k, hke⟩ : ∃ k, k = bitsLen n := ⟨_, rfl⟩
  rw [← hke] at HL hk hp hlo hhi
  obtain ⟨M, hM⟩ : ∃ M : Nat, M = 1 <<< k := ⟨_, rfl⟩
  rw [← hM] at hp hlo hhi
  have wr : IntKind.u64.wrap (n : Int) = n := by simp [IntKind.wrap, IntKind.bits, IntKind.signed]; omega
  clear hL hM hke
  have HB := Lib.hid (And.intro hlo hhi)
  clear hlo hhi
  go_enter Tryz.func111, Tryz.ntmps111
  go_wp2_with fail
  (with_reducible refine HL.out.mono ?_)
  rintro e w' ⟨rfl, rfl⟩
  go_wp2
  go_ret
  exact ⟨M, rfl, HB.out.1, HB.out.2, rfl⟩

set_option maxHeartbeats 8000000 in
theorem break_any (blk off cap a b len : Nat) (d : Array Int) (w : World) (hlen : d.size = len) (hH : Holds u6 w blk off d) (hab : a < b) (hb : b ≤ len) (hsz : len < 4611686018427387904) :
    Calls Tryz.prog 100 #[.slice (some ⟨blk, off, none⟩) len cap, .int .i64 a, .int .i64 b] w fun e w' =>
      e = .returned (.tuple #[]) ∧ ∃ x, PermIn a b d x ∧ RW w w' blk off x := by
  obtain ⟨l, hl⟩ : ∃ l, l = b - a := ⟨_, rfl⟩
  have hz0 : (b : Int) - (a : Int) = (l : Int) := by omega
  have hbw : blk < w.heap.size := block_lt_of_cell (a := ⟨blk, off + 0, none⟩) (hH 0 (by omega)).1
  have HH := Lib.hid hH
  have hlb : a + l = b := by omega
  have HLB := Lib.hid hlb
  have HLEN := Lib.hid hlen
  have HS : Hid (RW w w blk off d) := Lib.hid (RW.start hH)
  by_cases h8 : l < 8
  · have h8z : ¬ (8 : Int) ≤ (l : Int) := by omega
    clear hl hH hlb
    go_enter Tryz.func100, Tryz.ntmps100
    go_wp2
    go_end0
    exact ⟨rfl, d, permIn_refl _ _ _, HS.out⟩
  · have h8z : (8 : Int) ≤ (l : Int) := by omega
    obtain ⟨q, hq⟩ : ∃ q, q = l / 4 := ⟨_, rfl⟩
    have hq1 : Int.tdiv (l : Int) 4 = (q : Int) := by rw [Int.tdiv_eq_ediv_of_nonneg (by omega)]; omega
    have hqb : 2 ≤ q ∧ q * 4 ≤ l := by omega
    obtain ⟨i0, hi0⟩ : ∃ i0, i0 = a + q * 2 - 1 := ⟨_, rfl⟩
    have hi0z : (a : Int) + (q : Int) * 2 - 1 = (i0 : Int) := by omega
    have hi2z : (a : Int) + (q : Int) * 2 + 1 = ((i0 + 2 : Nat) : Int) := by omega
    have hib : a ≤ i0 ∧ i0 + 2 < b := by omega
    have wrl : IntKind.u64.wrap (l : Int) = l := by rw [IntKind.wrap_u64]; omega
    obtain ⟨s, hs⟩ : ∃ s, s = w.heap.size := ⟨_, rfl⟩
    obtain ⟨w1, hw1⟩ : ∃ w1, w1 = w.alloc (.cells #[.int .u64 (l : Int)] 173) := ⟨_, rfl⟩
    have hf1 : Frm [] w w1 := by rw [hw1]; exact (Frm.refl _ _).alloc _
    have hN1 : Num w1 s l := by rw [hw1, hs]; exact ⟨by simp, by simp, by omega⟩
    have HP := Lib.hid (pow_any l (by omega) (by omega) w1)
    have HR1 : Hid (RW w w1 blk off d) := Lib.hid (HS.out.frm hf1)
    have HN1 := Lib.hid hN1
    have HSS := Lib.hid hs
    have HW1 := Lib.hid hw1
    have hbs : blk ≠ s := by omega
    have HBS := Lib.hid hbs
    clear hl hH hlb hq hi0 hw1 hf1 hN1 hs hbs
    go_enter Tryz.func100, Tryz.ntmps100
    go_wp2_with fail
    rw [← HW1.out, ← HSS.out]
    (with_reducible refine HP.out.mono ?_)
    rintro e w2 ⟨M, rfl, hM1, hM2, rfl⟩
    clear HP
    go_wp2_with fail
    go_loopg [9, 10] 3 (fun g v9 _ wx => ∃ (t X : Nat) (x : Array Int), t ≤ 3 ∧ g = 3 - t ∧ v9 = .int .i64 ((i0 + t : Nat) : Int) ∧ Hid (Num wx s X) ∧ Hid (RW w wx blk off x) ∧ Hid (PermIn a b d x))
    case atStart => exact ⟨0, l, d, by omega, rfl, rfl, HN1, HR1, Lib.hid (permIn_refl _ _ _)⟩
    case round =>
      clear HN1 HR1 HS
      obtain ⟨t, X, x, ht, hg, rfl, HNX, HRX, HPX⟩ := hrel
      obtain ⟨i, hi⟩ : ∃ i, i = i0 + t := ⟨_, rfl⟩
      rw [← hi]
      have HI := Lib.hid hi
      have hii : i0 ≤ i := by omega
      by_cases h3 : t < 3
      · have hle : (i : Int) ≤ ((i0 + 2 : Nat) : Int) := by omega
        have hib2 : a ≤ i ∧ i < b := by omega
        have HNE := Lib.hid (next_any s X _ HNX.out)
        clear hi
        go_wp2_with fail
        (with_reducible refine HNE.out.mono ?_)
        rintro e w3 ⟨Y, rfl, hNY, hfY⟩
        have hY := hNY.2.2
        obtain ⟨O, hO⟩ : ∃ O, O = Y &&& (M - 1) := ⟨_, rfl⟩
        have hOM : O ≤ M - 1 := by rw [hO]; exact Nat.and_le_right
        have hMz : (M : Int) - 1 = ((M - 1 : Nat) : Int) := by omega
        have hand : bits .and .u64 (Y : Int) ((M - 1 : Nat) : Int) = (O : Int) := by rw [bits_and_u64_nat _ _ hY (by omega), hO]
        have hR3 : RW w w3 blk off x := HRX.out.news hfY (by simp; have := HSS.out; omega)
        have hs3 : x.size = d.size := HPX.out.1
        have hH3 : Holds u6 w3 blk off x := hR3.holds HH.out hs3
        have HR3 := Lib.hid hR3
        have HNY := Lib.hid hNY
        have HH3 := Lib.hid hH3
        have wrO : IntKind.i64.wrap (O : Int) = (O : Int) := by rw [IntKind.wrap_i64]; omega
        obtain ⟨G, hG⟩ : ∃ G : Nat → Int, Hid (∀ t, G t = x[t]!) := ⟨fun t => x[t]!, Lib.hid fun _ => rfl⟩
        have hcw : ∀ t, t < len → w3.cell? ⟨blk, off + t, none⟩ = some (.int .u64 (G t)) := fun t ht => by rw [hG.out]; exact (hH3 t (by have := HLEN.out; omega)).1
        have hfw : ∀ t, t < len → w3.frozen? ⟨blk, off + t, none⟩ = false := fun t ht => (hH3 t (by have := HLEN.out; omega)).2
        have FIN : Hid (∀ j W2, a ≤ j → j < b → W2 = ((w3.setCell ⟨blk, off + i, none⟩ (.int .u64 (G j))).setCell ⟨blk, off + j, none⟩ (.int .u64 (G i))).drew → ∃ (t' X' : Nat) (x' : Array Int), t' ≤ 3 ∧ 3 - (t + 1) = 3 - t' ∧ Value.int .i64 ((i : Int) + 1) = .int .i64 ((i0 + t' : Nat) : Int) ∧ Hid (Num W2 s X') ∧ Hid (RW w W2 blk off x') ∧ Hid (PermIn a b d x')) := Lib.hid fun j W2 hj1 hj2 hW2 => by
          have hlen' := HLEN.out
          have hij : i < x.size ∧ j < x.size := ⟨by omega, by omega⟩
          have e := rowW_swapd w3 0 blk off x i j hij.1 hij.2
          rw [← rowW_zero HH3.out, ← hG.out, ← hG.out] at e
          have hW : W2 = rowW w3 (0 + 1) blk off (swp x i j) := hW2.trans e
          refine ⟨t + 1, Y, swp x i j, by omega, rfl, by congr 1; have := HI.out; omega, Lib.hid ?_, Lib.hid (HR3.out.row (size_swp _ _ _) hW), Lib.hid (permIn_trans _ _ _ a b HPX.out (swp_permIn x a b i j (by omega) (by omega) hj1 hj2 (by omega)))⟩
          have hfr : Frm [blk] w3 W2 := by
            rw [hW2]
            exact (((Frm.refl [blk] w3).setCell (.inl (by simp)) _).setCell (.inl (by simp)) _).drew
          have hsl : s < w3.heap.size := block_lt_of_cell (a := ⟨s, 0, none⟩) HNY.out.1
          have hn : s ∉ [blk] := by simpa using fun h => HBS.out h.symm
          exact ⟨(hfr.cell (p := ⟨s, 0, none⟩) hsl hn).trans HNY.out.1, (hfr.frozen (p := ⟨s, 0, none⟩) hsl hn).trans HNY.out.2.1, HNY.out.2.2⟩
        have hil : i < len := by omega
        clear hNY hfY hO hR3 hs3 hH3 HNE hY
        by_cases hge : l ≤ O
        · obtain ⟨p, hp⟩ : ∃ p, p = O - l := ⟨_, rfl⟩
          have hpz : (O : Int) - (l : Int) = (p : Int) := by omega
          obtain ⟨j, hj⟩ : ∃ j, j = a + p := ⟨_, rfl⟩
          have hjz : (a : Int) + (p : Int) = (j : Int) := by omega
          have hjb : a ≤ j ∧ j < b := by have := HLB.out; omega
          have hjl : j < len := by omega
          obtain ⟨v', hy⟩ := cell_left (p := ⟨blk, off + i, none⟩) (x := .int .u64 (G j)) (hcw j hjl)
          clear hp hj
          go_wp2
          go_region
          all_goals go_wp2
          go_roundg (3 - (t + 1))
          case measure => omega
          case rel => exact FIN.out j _ hjb.1 hjb.2 rfl
        · obtain ⟨j, hj⟩ : ∃ j, j = a + O := ⟨_, rfl⟩
          have hjz : (a : Int) + (O : Int) = (j : Int) := by omega
          have hjb : a ≤ j ∧ j < b := by have := HLB.out; omega
          have hjl : j < len := by omega
          obtain ⟨v', hy⟩ := cell_left (p := ⟨blk, off + i, none⟩) (x := .int .u64 (G j)) (hcw j hjl)
          clear hj
          go_wp2
          go_region
          all_goals go_wp2
          go_roundg (3 - (t + 1))
          case measure => omega
          case rel => exact FIN.out j _ hjb.1 hjb.2 rfl
      · have hle : ¬ (i : Int) ≤ ((i0 + 2 : Nat) : Int) := by omega
        clear hi
        go_wp2
        go_end0
        exact ⟨rfl, x, HPX.out, HRX.out⟩
end Go.Proofs.YtamcandcfainfaaGreat
/- The library's sort at rows of uint64, 11: the insertion sort that gives up. Written by wip/mk-sopartial.py. -/
namespace Go.Proofs.YtamcandcfainfaaGreat
open Go.RowKit Go.Sort
set_option maxRecDepth 1000000

section
variable {α : Type} [Inhabited α] {lt : α → α → Bool}
theorem ss_on {d : Array α} {b i : Nat} (h : i < b) (hl : lt d[i]! d[i - 1]! = false) : scanSorted lt d b i = scanSorted lt d b (i + 1) := by
  rw [scanSorted, if_pos (by rw [hl, Bool.not_false, Bool.and_true]; exact decide_eq_true h)]
theorem ss_end {d : Array α} {b i : Nat} (h : ¬ (i < b ∧ lt d[i]! d[i - 1]! = false)) : scanSorted lt d b i = i := by
  rw [scanSorted, if_neg (by rw [Bool.and_eq_true, decide_eq_true_eq, Bool.not_eq_true']; exact h)]
theorem sd_on {d : Array α} {j : Nat} (h : 1 ≤ j) (hl : lt d[j]! d[j - 1]! = true) : shiftDown lt j d = shiftDown lt (j - 1) (swp d j (j - 1)) := by
  cases j with
  | zero => omega
  | succ k => rw [show k + 1 - 1 = k from rfl] at hl ⊢; rw [shiftDown, hl]; rfl
theorem sd_end {d : Array α} {j : Nat} (h : 1 ≤ j → lt d[j]! d[j - 1]! = false) : shiftDown lt j d = d := by
  cases j with
  | zero => rfl
  | succ k =>
    have hl := h (by omega)
    rw [show k + 1 - 1 = k from rfl] at hl
    rw [shiftDown, hl]; rfl
theorem su_on {d : Array α} {b j : Nat} (h : j < b) (hl : lt d[j]! d[j - 1]! = true) : shiftUp lt b j d = shiftUp lt b (j + 1) (swp d j (j - 1)) := by
  rw [shiftUp, if_pos h, hl]; rfl
theorem su_end {d : Array α} {b j : Nat} (h : j < b → lt d[j]! d[j - 1]! = false) : shiftUp lt b j d = d := by
  rw [shiftUp]
  by_cases hj : j < b
  · rw [if_pos hj, h hj]; rfl
  · rw [if_neg hj]
theorem sd_size (j : Nat) (d : Array α) : (shiftDown lt j d).size = d.size := by
  induction j generalizing d with
  | zero => rfl
  | succ k ih =>
    rw [shiftDown]
    split
    · rfl
    · rw [ih, size_swp]
theorem su_size (b : Nat) : ∀ (n j : Nat) (d : Array α), b - j ≤ n → (shiftUp lt b j d).size = d.size := by
  intro n
  induction n with
  | zero => intro j d h; rw [shiftUp, if_neg (by omega)]
  | succ n ih =>
    intro j d h
    rw [shiftUp]
    by_cases hj : j < b
    · rw [if_pos hj]
      split
      · rfl
      · rw [ih _ _ (by omega), size_swp]
    · rw [if_neg hj]
end

set_option maxHeartbeats 16000000 in
theorem partial_any (blk off cap a b : Nat) (d : Array Int) (w : World) (hH : Holds u6 w blk off d) (hab : a < b) (hb : b ≤ d.size) (hsz : d.size < 4611686018427387904) :
    Calls Tryz.prog 103 #[.slice (some ⟨blk, off, none⟩) d.size cap, .int .i64 a, .int .i64 b] w fun e w' =>
      e = .returned (.bool (Sort.partialInsertionSort ltInt d a b).2) ∧ ∃ n, w' = rowW w n blk off (Sort.partialInsertionSort ltInt d a b).1 := by
  obtain ⟨R, hR⟩ : ∃ R, R = Sort.partialInsertionSort ltInt d a b := ⟨_, rfl⟩
  rw [← hR]
  have HR : Hid (partialIns ltInt a b 5 (a + 1) d = R) := Lib.hid hR.symm
  clear hR
  have HH := Lib.hid hH
  have HW0 := Lib.hid (rowW_zero hH)
  clear hH
  obtain ⟨lab, hlab⟩ : ∃ l, l = b - a := ⟨_, rfl⟩
  have hlz : (b : Int) - (a : Int) = (lab : Int) := by omega
  go_enter Tryz.func103, Tryz.ntmps103
  go_wp2_with fail
  go_loopg [7, 8, 9, 10] 5 (fun g v7 v8 _ _ wx => ∃ (i t n : Nat) (x : Array Int), v7 = .int .i64 i ∧ v8 = .int .i64 t ∧ a < i ∧ i ≤ b ∧ t ≤ 5 ∧ 5 - t ≤ g ∧ x.size = d.size ∧ Hid (wx = rowW w n blk off x) ∧ Hid (partialIns ltInt a b (5 - t) i x = R))
  case atStart => exact ⟨a + 1, 0, 0, d, by congr 1 <;> omega, rfl, by omega, by omega, by omega, by omega, rfl, HW0, HR⟩
  case round =>
    clear HW0 HR
    obtain ⟨i, t, n, x, rfl, rfl, hi1, hi2, ht, hg, hsx, HWX, HPL⟩ := hrel
    by_cases ht5 : t < 5
    · have HPI : Hid (R = (let i' := scanSorted ltInt x b i; if i' = b then (x, true) else if b - a < 50 then (x, false) else let d1 := swp x i' (i' - 1); let d2 := if i' - a ≥ 2 then shiftDown ltInt (i' - 1) d1 else d1; let d3 := if b - i' ≥ 2 then shiftUp ltInt b (i' + 1) d2 else d2; partialIns ltInt a b (5 - (t + 1)) i' d3)) := Lib.hid (by
        rw [← HPL.out, show 5 - t = (5 - (t + 1)) + 1 by omega]; rfl)
      clear HPL
      obtain ⟨CXF, CXG⟩ : ∃ G : Nat → Int, Hid (∀ t, G t = x[t]!) := ⟨fun t => x[t]!, Lib.hid fun _ => rfl⟩
      have CXs : Hid (∀ (z : World) (m : Nat), z = rowW w m blk off x → (∀ t, t < d.size → z.cell? ⟨blk, off + t, none⟩ = some (.int .u64 (CXF t))) ∧ ∀ t, t < d.size → z.frozen? ⟨blk, off + t, none⟩ = false) := Lib.hid fun z m hz => by
        subst hz; exact rowW_cells HH.out (by omega) m CXG.out
      go_wp2_with fail
      go_loopg [7] (b - i) (fun gg v wx => ∃ (k m : Nat), v = .int .i64 k ∧ i ≤ k ∧ k ≤ b ∧ b - k ≤ gg ∧ Hid (wx = rowW w m blk off x) ∧ Hid (scanSorted ltInt x b k = scanSorted ltInt x b i))
      case atStart => exact ⟨i, n, rfl, Nat.le_refl _, hi2, Nat.le_refl _, HWX, Lib.hid rfl⟩
      case round =>
        clear HWX
        obtain ⟨k, m, rfl, hk1, hk2, hgg, HWK, HSK⟩ := hrel
        obtain ⟨p, hp⟩ : ∃ p, p = k - 1 := ⟨_, rfl⟩
        have hpz : (k : Int) - 1 = (p : Int) := by omega
        have hpl : p < d.size := by omega
        have hpk : p < k := by omega
        have HP := Lib.hid hp
        clear hp
        go_upto_region 5 with fail
        go_cut [32] from 17 to 34 (fun v wx => ∃ C : Bool, v = .bool C ∧ Hid (C = (decide (k < b) && !ltInt (CXF k) (CXF p))) ∧ ∃ q, Hid (wx = rowW w q blk off x))
        case first =>
          obtain ⟨hcw, hfw⟩ := CXs.out _ _ HWK.out
          by_cases hcond : k < b
          · have hkl : k < d.size := by omega
            go_quiet (first | (go_at_call 104; refine Calls.quiet_of_same (less_any _ _ _)))
            go_wp2_with fail
            go_meet
            exact ⟨_, rfl, Lib.hid (by rw [decide_eq_true hcond, Bool.true_and]), m + nq, Lib.hid (by rw [HWK.out]; exact rowW_drewN _ _ _ _ _ _)⟩
          · go_quiet (first | (go_at_call 104; refine Calls.quiet_of_same (less_any _ _ _)))
            go_wp2_with fail
            go_meet
            exact ⟨_, rfl, Lib.hid (by rw [decide_eq_false hcond, Bool.false_and]), m + nq, Lib.hid (by rw [HWK.out]; exact rowW_drewN _ _ _ _ _ _)⟩
        case rest =>
          obtain ⟨C, rfl, HC, q, HQ⟩ := hcut
          have hcond : Hid (C = true ↔ (k < b ∧ ltInt x[k]! x[k - 1]! = false)) := Lib.hid (by rw [HC.out, Bool.and_eq_true, decide_eq_true_eq, Bool.not_eq_true', CXG.out, CXG.out, HP.out])
          clear HC
          cases C
          case true =>
            have hb' := hcond.out.1 rfl
            have HB := Lib.hid hb'.2
            have hb1 := hb'.1
            clear hb' hcond
            go_wp2
            go_roundg (b - (k + 1))
            case measure => omega
            case rel => exact ⟨k + 1, q, by congr 1 <;> omega, by omega, by omega, Nat.le_refl _, HQ, Lib.hid ((ss_on hb1 HB.out).symm.trans HSK.out)⟩
          case false =>
            have HE : Hid (scanSorted ltInt x b i = k) := Lib.hid (HSK.out.symm.trans (ss_end (fun h => by have := hcond.out.2 h; cases this)))
            clear hcond HSK HWK
            by_cases hkb : k = b
            · have HFIN : Hid (R = (x, true)) := Lib.hid (by rw [HPI.out, HE.out, if_pos hkb])
              go_wp2
              go_ret
              rw [HFIN.out]
              exact ⟨rfl, q, HQ.out⟩
            · by_cases h50 : lab < 50
              · have HFIN : Hid (R = (x, false)) := Lib.hid (by rw [HPI.out, HE.out, if_neg hkb, if_pos (by omega)])
                go_wp2
                go_ret
                rw [HFIN.out]
                exact ⟨rfl, q, HQ.out⟩
              · have hkl : k < d.size := by omega
                obtain ⟨x1, hx1⟩ : ∃ x1, x1 = swp x k p := ⟨_, rfl⟩
                obtain ⟨x2, hx2⟩ : ∃ x2, x2 = if k - a ≥ 2 then shiftDown ltInt (k - 1) x1 else x1 := ⟨_, rfl⟩
                obtain ⟨x3, hx3⟩ : ∃ x3, x3 = if b - k ≥ 2 then shiftUp ltInt b (k + 1) x2 else x2 := ⟨_, rfl⟩
                have HNX : Hid (partialIns ltInt a b (5 - (t + 1)) k x3 = R) := Lib.hid (by
                  rw [HPI.out, HE.out, if_neg hkb, if_neg (by omega)]
                  try dsimp only
                  rw [hx3, hx2, hx1, HP.out])
                have hs1 : x1.size = d.size := by rw [hx1, size_swp]; exact hsx
                have hs2 : x2.size = d.size := by rw [hx2]; split; rw [sd_size]; exact hs1; exact hs1
                have hs3 : x3.size = d.size := by rw [hx3]; split; rw [su_size b (b - (k + 1)) _ _ (Nat.le_refl _)]; exact hs2; exact hs2
                have HX1 := Lib.hid hx1
                have HX2 := Lib.hid hx2
                have HX3 := Lib.hid hx3
                obtain ⟨ka, hka⟩ : ∃ ka, ka = k - a := ⟨_, rfl⟩
                obtain ⟨bk, hbk⟩ : ∃ bk, bk = b - k := ⟨_, rfl⟩
                have hkaz : (k : Int) - (a : Int) = (ka : Int) := by omega
                have hbkz : (b : Int) - (k : Int) = (bk : Int) := by omega
                have HKA := Lib.hid hka
                have HBK := Lib.hid hbk
                obtain ⟨hcw, hfw⟩ := CXs.out _ _ HQ.out
                clear hx1 hx2 hx3 hka hbk HPI
                obtain ⟨vW2, hy⟩ := cell_left (p := ⟨blk, off + k, none⟩) (x := .int .u64 (CXF p)) (hcw p hpl)
                go_upto_region 11 with fail
                go_region
                go_upto_region 12 with fail
                obtain ⟨W2, hW2⟩ : ∃ W2, W2 = ((wc.setCell ⟨blk, off + k, none⟩ (.int .u64 (CXF p))).setCell ⟨blk, off + p, none⟩ (.int .u64 (CXF k))).drew := ⟨_, rfl⟩
                rw [← hW2]
                have HW2 : Hid (W2 = rowW w (q + 1) blk off (swp x k p)) := Lib.hid (by
                  rw [hW2, CXG.out, CXG.out, HQ.out]
                  exact rowW_swapd w _ blk off x k p (by omega) (by omega))
                clear hW2 hy hcw hfw
                have HW2x : Hid (W2 = rowW w (q + 1) blk off x1) := Lib.hid (by rw [HX1.out]; exact HW2.out)
                clear HW2 HX1 CXs CXG HQ
                go_upto_if 61 with fail
                go_cut [9] from 13 to 132 (fun _ wx => ∃ q, Hid (wx = rowW w q blk off x2))
                case first =>
                  by_cases h2 : 2 ≤ ka
                  · rw [if_pos (by have := HKA.out; omega)] at HX2
                    have h2z : (2 : Int) ≤ (ka : Int) := by omega
                    go_wp2_with fail
                    go_loopg [9] k (fun gg v wx => ∃ (j m : Nat) (y : Array Int), v = .int .i64 j ∧ j < k ∧ j ≤ gg ∧ y.size = d.size ∧ Hid (wx = rowW w m blk off y) ∧ Hid (shiftDown ltInt j y = x2))
                    case atStart => exact ⟨k - 1, _, x1, by congr 1 <;> omega, by omega, by omega, hs1, HW2x, Lib.hid HX2.out.symm⟩
                    case round =>
                      clear HW2x HX2
                      obtain ⟨j, m, y, rfl, hj1, hgg, hsy, HWY, HSH⟩ := hrel
                      obtain ⟨r, hr⟩ : ∃ r, r = j - 1 := ⟨_, rfl⟩
                      have HRr := Lib.hid hr
                      by_cases hcond : 1 ≤ j
                      · have hjl : j < d.size := by omega
                        have hrl : r < d.size := by omega
                        have hrz : (j : Int) - 1 = (r : Int) := by omega
                        have hrj : r + 1 = j := by omega
                        clear hr
                        obtain ⟨CYF, CYG⟩ : ∃ G : Nat → Int, Hid (∀ t, G t = y[t]!) := ⟨fun t => y[t]!, Lib.hid fun _ => rfl⟩
                        have CYs : Hid (∀ (z : World) (m : Nat), z = rowW w m blk off y → (∀ t, t < d.size → z.cell? ⟨blk, off + t, none⟩ = some (.int .u64 (CYF t))) ∧ ∀ t, t < d.size → z.frozen? ⟨blk, off + t, none⟩ = false) := Lib.hid fun z m hz => by
                          subst hz; exact rowW_cells HH.out (by omega) m CYG.out
                        obtain ⟨hcw, hfw⟩ := CYs.out _ _ HWY.out
                        go_upto_region 16 with fail
                        go_quiet (first | (go_at_call 104; refine Calls.quiet_of_same (less_any _ _ _)))
                        have HQ0 : Hid (wr.drewN nq = rowW w (m + nq) blk off y) := Lib.hid (by rw [HWY.out]; exact rowW_drewN _ _ _ _ _ _)
                        obtain ⟨wq, hwq⟩ : ∃ wq, wq = wr.drewN nq := ⟨_, rfl⟩
                        rw [← hwq] at HQ0 ⊢
                        clear hcw hfw hwq
                        obtain ⟨hcw, hfw⟩ := CYs.out _ _ HQ0.out
                        go_wp2_with fail
                        · have hl : ltInt (CYF j) (CYF r) = false := by
                            have h : (!ltInt (CYF j) (CYF r)) = true := by assumption
                            simpa using h
                          have HEY : Hid (x2 = y) := Lib.hid (by rw [← HSH.out]; exact sd_end (fun _ => by rw [← CYG.out, ← CYG.out, ← HRr.out]; exact hl))
                          go_wp2
                          go_meet
                          exact ⟨m + nq, Lib.hid (by rw [HEY.out]; exact HQ0.out)⟩
                        · have hl : ltInt (CYF j) (CYF r) = true := by
                            have h : (!ltInt (CYF j) (CYF r)) = false := by assumption
                            simpa using h
                          have HL := Lib.hid hl
                          clear hl
                          obtain ⟨vW3, hy⟩ := cell_left (p := ⟨blk, off + j, none⟩) (x := .int .u64 (CYF r)) (hcw r hrl)
                          go_upto_region 17 with fail
                          go_region
                          go_upto_region 15 with fail
                          obtain ⟨W3, hW3⟩ : ∃ W3, W3 = ((wq.setCell ⟨blk, off + j, none⟩ (.int .u64 (CYF r))).setCell ⟨blk, off + r, none⟩ (.int .u64 (CYF j))).drew := ⟨_, rfl⟩
                          rw [← hW3]
                          have HW3 : Hid (W3 = rowW w ((m + nq) + 1) blk off (swp y j r)) := Lib.hid (by
                            rw [hW3, CYG.out, CYG.out, HQ0.out]
                            exact rowW_swapd w _ blk off y j r (by omega) (by omega))
                          clear hW3 hy hcw hfw
                          go_wp2
                          go_roundg (j - 1)
                          case measure => omega
                          case rel => exact ⟨j - 1, m + nq + 1, swp y j r, by congr 1 <;> omega, by omega, by omega, by rw [size_swp]; exact hsy, HW3, Lib.hid (by rw [← HSH.out, HRr.out]; exact (sd_on hcond (by rw [← CYG.out, ← CYG.out, ← HRr.out]; exact HL.out)).symm)⟩
                      · clear hr
                        have HEY : Hid (x2 = y) := Lib.hid (by rw [← HSH.out]; exact sd_end (fun h => absurd h hcond))
                        go_wp2
                        go_meet
                        exact ⟨m, Lib.hid (by rw [HEY.out]; exact HWY.out)⟩
                  · rw [if_neg (by have := HKA.out; omega)] at HX2
                    have h2z : ¬ (2 : Int) ≤ (ka : Int) := by omega
                    go_wp2
                    go_meet
                    exact ⟨q + 1, by rw [HX2.out]; exact HW2x⟩
                case rest =>
                  obtain ⟨q2, HQ2⟩ := hcut
                  clear HW2x HX2
                  by_cases h2 : 2 ≤ bk
                  · rw [if_pos (by have := HBK.out; omega)] at HX3
                    have h2z : (2 : Int) ≤ (bk : Int) := by omega
                    go_wp2_with fail
                    go_loopg [10] (b + 1 - k) (fun gg v wx => ∃ (j m : Nat) (y : Array Int), v = .int .i64 j ∧ k < j ∧ j ≤ b ∧ b - j < gg ∧ y.size = d.size ∧ Hid (wx = rowW w m blk off y) ∧ Hid (shiftUp ltInt b j y = x3))
                    case atStart => exact ⟨k + 1, _, x2, by congr 1 <;> omega, by omega, by omega, by omega, hs2, HQ2, Lib.hid HX3.out.symm⟩
                    case round =>
                      clear HQ2 HX3
                      obtain ⟨j, m, y, rfl, hj1, hj2, hgg, hsy, HWY, HSH⟩ := hrel
                      obtain ⟨r, hr⟩ : ∃ r, r = j - 1 := ⟨_, rfl⟩
                      have HRr := Lib.hid hr
                      by_cases hcond : j < b
                      · have hjl : j < d.size := by omega
                        have hrl : r < d.size := by omega
                        have hrz : (j : Int) - 1 = (r : Int) := by omega
                        have hrj : r + 1 = j := by omega
                        clear hr
                        obtain ⟨CYF, CYG⟩ : ∃ G : Nat → Int, Hid (∀ t, G t = y[t]!) := ⟨fun t => y[t]!, Lib.hid fun _ => rfl⟩
                        have CYs : Hid (∀ (z : World) (m : Nat), z = rowW w m blk off y → (∀ t, t < d.size → z.cell? ⟨blk, off + t, none⟩ = some (.int .u64 (CYF t))) ∧ ∀ t, t < d.size → z.frozen? ⟨blk, off + t, none⟩ = false) := Lib.hid fun z m hz => by
                          subst hz; exact rowW_cells HH.out (by omega) m CYG.out
                        obtain ⟨hcw, hfw⟩ := CYs.out _ _ HWY.out
                        go_upto_region 22 with fail
                        go_quiet (first | (go_at_call 104; refine Calls.quiet_of_same (less_any _ _ _)))
                        have HQ0 : Hid (wr.drewN nq = rowW w (m + nq) blk off y) := Lib.hid (by rw [HWY.out]; exact rowW_drewN _ _ _ _ _ _)
                        obtain ⟨wq, hwq⟩ : ∃ wq, wq = wr.drewN nq := ⟨_, rfl⟩
                        rw [← hwq] at HQ0 ⊢
                        clear hcw hfw hwq
                        obtain ⟨hcw, hfw⟩ := CYs.out _ _ HQ0.out
                        go_wp2_with fail
                        · have hl : ltInt (CYF j) (CYF r) = false := by
                            have h : (!ltInt (CYF j) (CYF r)) = true := by assumption
                            simpa using h
                          have HEY : Hid (x3 = y) := Lib.hid (by rw [← HSH.out]; exact su_end (fun _ => by rw [← CYG.out, ← CYG.out, ← HRr.out]; exact hl))
                          go_wp2
                          go_roundg (5 - (t + 1))
                          case measure => omega
                          case rel => exact ⟨k, t + 1, m + nq, x3, rfl, by congr 1 <;> omega, by omega, by omega, by omega, Nat.le_refl _, hs3, Lib.hid (by rw [HEY.out]; exact HQ0.out), HNX⟩
                        · have hl : ltInt (CYF j) (CYF r) = true := by
                            have h : (!ltInt (CYF j) (CYF r)) = false := by assumption
                            simpa using h
                          have HL := Lib.hid hl
                          clear hl
                          obtain ⟨vW3, hy⟩ := cell_left (p := ⟨blk, off + j, none⟩) (x := .int .u64 (CYF r)) (hcw r hrl)
                          go_upto_region 23 with fail
                          go_region
                          go_upto_region 21 with fail
                          obtain ⟨W3, hW3⟩ : ∃ W3, W3 = ((wq.setCell ⟨blk, off + j, none⟩ (.int .u64 (CYF r))).setCell ⟨blk, off + r, none⟩ (.int .u64 (CYF j))).drew := ⟨_, rfl⟩
                          rw [← hW3]
                          have HW3 : Hid (W3 = rowW w ((m + nq) + 1) blk off (swp y j r)) := Lib.hid (by
                            rw [hW3, CYG.out, CYG.out, HQ0.out]
                            exact rowW_swapd w _ blk off y j r (by omega) (by omega))
                          clear hW3 hy hcw hfw
                          go_wp2
                          go_roundg (b - (j + 1) + 1)
                          case measure => omega
                          case rel => exact ⟨j + 1, m + nq + 1, swp y j r, by congr 1 <;> omega, by omega, by omega, by omega, by rw [size_swp]; exact hsy, HW3, Lib.hid (by rw [← HSH.out, HRr.out]; exact (su_on hcond (by rw [← CYG.out, ← CYG.out, ← HRr.out]; exact HL.out)).symm)⟩
                      · clear hr
                        have HEY : Hid (x3 = y) := Lib.hid (by rw [← HSH.out]; exact su_end (fun h => absurd h hcond))
                        go_wp2
                        go_roundg (5 - (t + 1))
                        case measure => omega
                        case rel => exact ⟨k, t + 1, m, x3, rfl, by congr 1 <;> omega, by omega, by omega, by omega, Nat.le_refl _, hs3, Lib.hid (by rw [HEY.out]; exact HWY.out), HNX⟩
                  · rw [if_neg (by have := HBK.out; omega)] at HX3
                    have h2z : ¬ (2 : Int) ≤ (bk : Int) := by omega
                    go_wp2
                    go_roundg (5 - (t + 1))
                    case measure => omega
                    case rel => exact ⟨k, t + 1, q2, x3, rfl, by congr 1 <;> omega, by omega, by omega, by omega, Nat.le_refl _, hs3, Lib.hid (by rw [HX3.out]; exact HQ2.out), HNX⟩
    · have HFIN : Hid (R = (x, false)) := Lib.hid (by rw [← HPL.out, show 5 - t = 0 by omega]; rfl)
      go_wp2
      go_ret
      rw [HFIN.out]
      exact ⟨rfl, n, HWX.out⟩
end Go.Proofs.YtamcandcfainfaaGreat
/- The library's sort at rows of uint64, 9: the parting. Written by wip/mk-sopart.py. -/
namespace Go.Proofs.YtamcandcfainfaaGreat
open Go.RowKit Go.Sort
set_option maxRecDepth 1000000

set_option maxHeartbeats 16000000 in
theorem part_any (blk off cap a b pivot : Nat) (d : Array Int) (w : World) (hH : Holds u6 w blk off d) (hap : a ≤ pivot) (hpb : pivot < b) (hb : b ≤ d.size) (hsz : d.size < 4611686018427387904) :
    Calls Tryz.prog 106 #[.slice (some ⟨blk, off, none⟩) d.size cap, .int .i64 a, .int .i64 b, .int .i64 pivot] w fun e w' =>
      e = .returned (.tuple #[.int .i64 ((Sort.partition ltInt d a b pivot).1 : Nat), .bool (Sort.partition ltInt d a b pivot).2.1]) ∧ ∃ n, w' = rowW w n blk off (Sort.partition ltInt d a b pivot).2.2 := by
  obtain ⟨R, hR⟩ : ∃ R, R = Sort.partition ltInt d a b pivot := ⟨_, rfl⟩
  rw [← hR]
  have HR := Lib.hid hR
  clear hR
  obtain ⟨G, hG⟩ : ∃ G : Nat → Int, Hid (∀ t, G t = d[t]!) := ⟨fun t => d[t]!, Lib.hid fun _ => rfl⟩
  have hc : ∀ t, t < d.size → w.cell? ⟨blk, off + t, none⟩ = some (.int .u64 (G t)) := fun t ht => by rw [hG.out]; exact (hH t ht).1
  have hf : ∀ t, t < d.size → w.frozen? ⟨blk, off + t, none⟩ = false := fun t ht => (hH t ht).2
  have HH := Lib.hid hH
  clear hH
  have hla : a < d.size := by omega
  have hlp : pivot < d.size := by omega
  obtain ⟨v', hy⟩ := cell_left (p := ⟨blk, off + a, none⟩) (x := .int .u64 (G pivot)) (hc pivot hlp)
  obtain ⟨i0, hi0⟩ : ∃ i0, i0 = a + 1 := ⟨_, rfl⟩
  obtain ⟨j0, hj0⟩ : ∃ j0, j0 = b - 1 := ⟨_, rfl⟩
  have hz1 : (a : Int) + 1 = (i0 : Int) := by omega
  have hz2 : (b : Int) - 1 = (j0 : Int) := by omega
  have HI0 := Lib.hid hi0
  have HJ0 := Lib.hid hj0
  obtain ⟨x0, hx0⟩ : ∃ x0, x0 = swp d a pivot := ⟨_, rfl⟩
  have HX0 := Lib.hid hx0
  clear hi0 hj0 hx0
  go_enter Tryz.func106, Tryz.ntmps106
  go_wp2
  go_region
  go_upto_region 2 with fail
  obtain ⟨W1, hW1⟩ : ∃ W1, W1 = ((w.setCell ⟨blk, off + a, none⟩ (.int .u64 (G pivot))).setCell ⟨blk, off + pivot, none⟩ (.int .u64 (G a))).drew := ⟨_, rfl⟩
  rw [← hW1]
  have HW1 : Hid (W1 = rowW w 1 blk off x0) := Lib.hid (by
    have h := rowW_swapd w 0 blk off d a pivot hla hlp
    rw [← rowW_zero HH.out] at h
    rw [hW1, hG.out, hG.out, HX0.out]
    exact h)
  clear hc hf hG hy hW1
  have HP0 : Hid (R = (let i := scanUp (fun y => ltInt y x0[a]!) x0 j0 i0; let j := scanDown (fun y => !ltInt y x0[a]!) x0 i j0; if i > j then (j, true, swp x0 j a) else let r := partLoop ltInt a (i + 1) (j - 1) (swp x0 i j); (r.1, false, swp r.2 r.1 a))) := Lib.hid (by rw [HR.out, HX0.out, HI0.out, HJ0.out]; rfl)
  have hs0 : x0.size = d.size := by rw [HX0.out, size_swp]
  clear HX0 HR
  have hb0 : a < i0 ∧ i0 ≤ j0 + 2 ∧ j0 < b := by have := HI0.out; have := HJ0.out; omega
  clear HI0 HJ0
  obtain ⟨hi1, hi2, hj1⟩ := hb0
  obtain ⟨CYF, CYG⟩ : ∃ G : Nat → Int, Hid (∀ t, G t = x0[t]!) := ⟨fun t => x0[t]!, Lib.hid fun _ => rfl⟩
  have CYs : Hid (∀ (z : World) (m : Nat), z = rowW w m blk off x0 → (∀ t, t < d.size → z.cell? ⟨blk, off + t, none⟩ = some (.int .u64 (CYF t))) ∧ ∀ t, t < d.size → z.frozen? ⟨blk, off + t, none⟩ = false) := Lib.hid fun z m hz => by
    subst hz; exact rowW_cells HH.out (by omega) m CYG.out
  go_wp2_with fail
  go_loopg [10] (j0 + 2 - i0) (fun gg v wx => ∃ (i2 mi : Nat), v = .int .i64 i2 ∧ i0 ≤ i2 ∧ i2 ≤ j0 + 2 ∧ gg = j0 + 2 - i2 ∧ Hid (wx = rowW w mi blk off x0) ∧ Hid (scanUp (fun y => ltInt y x0[a]!) x0 j0 i2 = scanUp (fun y => ltInt y x0[a]!) x0 j0 i0))
  case atStart => exact ⟨i0, 1, rfl, Nat.le_refl _, by omega, rfl, HW1, Lib.hid rfl⟩
  case round =>
    clear HW1
    obtain ⟨i2, mi, rfl, hv1, hv2, hgg, HWi2, HSi2⟩ := hrel
    go_upto_region 3 with fail
    go_cut [43] from 30 to 45 (fun v wx => ∃ C : Bool, v = .bool C ∧ Hid (C = (decide (i2 ≤ j0) && ltInt (CYF i2) (CYF a))) ∧ ∃ q, Hid (wx = rowW w q blk off x0))
    case first =>
      obtain ⟨hcw, hfw⟩ := CYs.out _ _ HWi2.out
      by_cases hcond : i2 ≤ j0
      · go_quiet (first | (go_at_call 104; refine Calls.quiet_of_same (less_any _ _ _)))
        go_wp2_with fail
        go_meet
        exact ⟨_, rfl, Lib.hid (by rw [decide_eq_true hcond, Bool.true_and]), mi + nq, Lib.hid (by rw [HWi2.out]; exact rowW_drewN _ _ _ _ _ _)⟩
      · go_quiet (first | (go_at_call 104; refine Calls.quiet_of_same (less_any _ _ _)))
        go_wp2_with fail
        go_meet
        exact ⟨_, rfl, Lib.hid (by rw [decide_eq_false hcond, Bool.false_and]), mi + nq, Lib.hid (by rw [HWi2.out]; exact rowW_drewN _ _ _ _ _ _)⟩
    case rest =>
      obtain ⟨C, rfl, HC, qi2, HQi2⟩ := hcut
      have hcond : Hid (C = true ↔ (i2 ≤ j0 ∧ (fun y => ltInt y x0[a]!) x0[i2]! = true)) := Lib.hid (by rw [HC.out, Bool.and_eq_true, decide_eq_true_eq, CYG.out, CYG.out])
      clear HC
      cases C
      case true =>
        have hb := hcond.out.1 rfl
        have HB := Lib.hid hb.2
        have hb1 := hb.1
        clear hb hcond
        go_wp2
        go_roundg (j0 + 2 - (i2 + 1))
        case measure => omega
        case rel => exact ⟨i2 + 1, qi2, by congr 1 <;> omega, by omega, by omega, rfl, HQi2, Lib.hid ((up_on hb1 HB.out).symm.trans HSi2.out)⟩
      case false =>
        have HEi2 : Hid (scanUp (fun y => ltInt y x0[a]!) x0 j0 i0 = i2) := Lib.hid (HSi2.out.symm.trans (up_end (fun h => by have := hcond.out.2 h; cases this)))
        clear hcond HSi2 HWi2
        go_wp2_with fail
        go_loopg [11] j0 (fun gg v wx => ∃ (j2 mj : Nat), v = .int .i64 j2 ∧ j2 ≤ j0 ∧ i2 ≤ j2 + 2 ∧ gg = j2 ∧ Hid (wx = rowW w mj blk off x0) ∧ Hid (scanDown (fun y => !ltInt y x0[a]!) x0 i2 j2 = scanDown (fun y => !ltInt y x0[a]!) x0 i2 j0))
        case atStart => exact ⟨j0, qi2, rfl, Nat.le_refl _, by omega, rfl, HQi2, Lib.hid rfl⟩
        case round =>
          clear HQi2
          obtain ⟨j2, mj, rfl, hv1, hv2, hgg, HWj2, HSj2⟩ := hrel
          go_upto_region 5 with fail
          go_cut [60] from 46 to 62 (fun v wx => ∃ C : Bool, v = .bool C ∧ Hid (C = (decide (i2 ≤ j2) && !ltInt (CYF j2) (CYF a))) ∧ ∃ q, Hid (wx = rowW w q blk off x0))
          case first =>
            obtain ⟨hcw, hfw⟩ := CYs.out _ _ HWj2.out
            by_cases hcond : i2 ≤ j2
            · go_quiet (first | (go_at_call 104; refine Calls.quiet_of_same (less_any _ _ _)))
              go_wp2_with fail
              go_meet
              exact ⟨_, rfl, Lib.hid (by rw [decide_eq_true hcond, Bool.true_and]), mj + nq, Lib.hid (by rw [HWj2.out]; exact rowW_drewN _ _ _ _ _ _)⟩
            · go_quiet (first | (go_at_call 104; refine Calls.quiet_of_same (less_any _ _ _)))
              go_wp2_with fail
              go_meet
              exact ⟨_, rfl, Lib.hid (by rw [decide_eq_false hcond, Bool.false_and]), mj + nq, Lib.hid (by rw [HWj2.out]; exact rowW_drewN _ _ _ _ _ _)⟩
          case rest =>
            obtain ⟨C, rfl, HC, qj2, HQj2⟩ := hcut
            have hcond : Hid (C = true ↔ (i2 ≤ j2 ∧ (fun y => !ltInt y x0[a]!) x0[j2]! = true)) := Lib.hid (by rw [HC.out, Bool.and_eq_true, decide_eq_true_eq, CYG.out, CYG.out])
            clear HC
            cases C
            case true =>
              have hb := hcond.out.1 rfl
              have HB := Lib.hid hb.2
              have hb1 := hb.1
              clear hb hcond
              go_wp2
              go_roundg (j2 - 1)
              case measure => omega
              case rel => exact ⟨j2 - 1, qj2, by congr 1 <;> omega, by omega, by omega, rfl, HQj2, Lib.hid ((down_on (by omega) hb1 HB.out).symm.trans HSj2.out)⟩
            case false =>
              have HEj2 : Hid (scanDown (fun y => !ltInt y x0[a]!) x0 i2 j0 = j2) := Lib.hid (HSj2.out.symm.trans (down_end (fun h => by have := hcond.out.2 h; cases this)))
              clear hcond HSj2 HWj2
              by_cases hgt : i2 > j2
              · have HFIN : Hid (R = (j2, true, swp x0 j2 a)) := Lib.hid (by
                  rw [HP0.out, HEi2.out]
                  rw [HEj2.out, if_pos hgt])
                have hjl : j2 < d.size := by omega
                obtain ⟨hcw, hfw⟩ := CYs.out _ _ HQj2.out
                obtain ⟨vW2, hy⟩ := cell_left (p := ⟨blk, off + j2, none⟩) (x := .int .u64 (CYF a)) (hcw a hla)
                go_upto_region 8 with fail
                go_region
                go_upto_region 9 with fail
                obtain ⟨W2, hW2⟩ : ∃ W2, W2 = ((wc.setCell ⟨blk, off + j2, none⟩ (.int .u64 (CYF a))).setCell ⟨blk, off + a, none⟩ (.int .u64 (CYF j2))).drew := ⟨_, rfl⟩
                rw [← hW2]
                have HW2 : Hid (W2 = rowW w (qj2 + 1) blk off (swp x0 j2 a)) := Lib.hid (by
                  rw [hW2, CYG.out, CYG.out, HQj2.out]
                  exact rowW_swapd w _ blk off x0 j2 a (by omega) (by omega))
                clear hW2 hy hcw hfw
                go_wp2
                go_ret2
                rw [HFIN.out]
                exact ⟨rfl, qj2 + 1, HW2.out⟩
              · have HNX : Hid (R = ((partLoop ltInt a (i2 + 1) (j2 - 1) (swp x0 i2 j2)).1, false, swp (partLoop ltInt a (i2 + 1) (j2 - 1) (swp x0 i2 j2)).2 (partLoop ltInt a (i2 + 1) (j2 - 1) (swp x0 i2 j2)).1 a)) := Lib.hid (by
                  rw [HP0.out, HEi2.out]
                  rw [HEj2.out, if_neg hgt])
                have hil : i2 < d.size := by omega
                have hjl : j2 < d.size := by omega
                obtain ⟨hcw, hfw⟩ := CYs.out _ _ HQj2.out
                obtain ⟨vW3, hy⟩ := cell_left (p := ⟨blk, off + i2, none⟩) (x := .int .u64 (CYF j2)) (hcw j2 hjl)
                go_upto_region 10 with fail
                go_region
                go_upto_region 11 with fail
                obtain ⟨W3, hW3⟩ : ∃ W3, W3 = ((wc.setCell ⟨blk, off + i2, none⟩ (.int .u64 (CYF j2))).setCell ⟨blk, off + j2, none⟩ (.int .u64 (CYF i2))).drew := ⟨_, rfl⟩
                rw [← hW3]
                have HW3 : Hid (W3 = rowW w (qj2 + 1) blk off (swp x0 i2 j2)) := Lib.hid (by
                  rw [hW3, CYG.out, CYG.out, HQj2.out]
                  exact rowW_swapd w _ blk off x0 i2 j2 (by omega) (by omega))
                clear hW3 hy hcw hfw
                have hb3 : a < i2 + 1 ∧ i2 + 1 ≤ j2 - 1 + 2 ∧ j2 - 1 < b ∧ (swp x0 i2 j2).size = d.size := ⟨by omega, by omega, by omega, by rw [size_swp]; exact hs0⟩
                clear HQj2 HEi2 HEj2 CYs CYG HP0
                go_wp2_with fail
                go_loopg [10, 11] (b + 2) (fun g vi vj wx => ∃ (i j n : Nat) (x : Array Int), vi = .int .i64 i ∧ vj = .int .i64 j ∧ a < i ∧ i ≤ j + 2 ∧ j < b ∧ j + 2 - i ≤ g ∧ x.size = d.size ∧ Hid (wx = rowW w n blk off x) ∧ Hid (R = ((partLoop ltInt a i j x).1, false, swp (partLoop ltInt a i j x).2 (partLoop ltInt a i j x).1 a)))
                case atStart => exact ⟨i2 + 1, j2 - 1, qj2 + 1, swp x0 i2 j2, by congr 1 <;> omega, by congr 1 <;> omega, hb3.1, hb3.2.1, hb3.2.2.1, by omega, hb3.2.2.2, HW3, HNX⟩
                case round =>
                  clear HW3 HNX hb3 hs0 hi1 hi2 hj1 hil hjl
                  obtain ⟨i, j, n, x, rfl, rfl, hi1, hi2, hj1, hg, hsx, HWX, HPL⟩ := hrel
                  obtain ⟨CXF, CXG⟩ : ∃ G : Nat → Int, Hid (∀ t, G t = x[t]!) := ⟨fun t => x[t]!, Lib.hid fun _ => rfl⟩
                  have CXs : Hid (∀ (z : World) (m : Nat), z = rowW w m blk off x → (∀ t, t < d.size → z.cell? ⟨blk, off + t, none⟩ = some (.int .u64 (CXF t))) ∧ ∀ t, t < d.size → z.frozen? ⟨blk, off + t, none⟩ = false) := Lib.hid fun z m hz => by
                    subst hz; exact rowW_cells HH.out (by omega) m CXG.out
                  go_wp2_with fail
                  go_loopg [10] (j + 2 - i) (fun gg v wx => ∃ (i4 mi4 : Nat), v = .int .i64 i4 ∧ i ≤ i4 ∧ i4 ≤ j + 2 ∧ gg = j + 2 - i4 ∧ Hid (wx = rowW w mi4 blk off x) ∧ Hid (scanUp (fun y => ltInt y x[a]!) x j i4 = scanUp (fun y => ltInt y x[a]!) x j i))
                  case atStart => exact ⟨i, n, rfl, Nat.le_refl _, by omega, rfl, HWX, Lib.hid rfl⟩
                  case round =>
                    clear HWX
                    obtain ⟨i4, mi4, rfl, hv1, hv2, hgg, HWi4, HSi4⟩ := hrel
                    go_upto_region 13 with fail
                    go_cut [112] from 99 to 114 (fun v wx => ∃ C : Bool, v = .bool C ∧ Hid (C = (decide (i4 ≤ j) && ltInt (CXF i4) (CXF a))) ∧ ∃ q, Hid (wx = rowW w q blk off x))
                    case first =>
                      obtain ⟨hcw, hfw⟩ := CXs.out _ _ HWi4.out
                      by_cases hcond : i4 ≤ j
                      · go_quiet (first | (go_at_call 104; refine Calls.quiet_of_same (less_any _ _ _)))
                        go_wp2_with fail
                        go_meet
                        exact ⟨_, rfl, Lib.hid (by rw [decide_eq_true hcond, Bool.true_and]), mi4 + nq, Lib.hid (by rw [HWi4.out]; exact rowW_drewN _ _ _ _ _ _)⟩
                      · go_quiet (first | (go_at_call 104; refine Calls.quiet_of_same (less_any _ _ _)))
                        go_wp2_with fail
                        go_meet
                        exact ⟨_, rfl, Lib.hid (by rw [decide_eq_false hcond, Bool.false_and]), mi4 + nq, Lib.hid (by rw [HWi4.out]; exact rowW_drewN _ _ _ _ _ _)⟩
                    case rest =>
                      obtain ⟨C, rfl, HC, qi4, HQi4⟩ := hcut
                      have hcond : Hid (C = true ↔ (i4 ≤ j ∧ (fun y => ltInt y x[a]!) x[i4]! = true)) := Lib.hid (by rw [HC.out, Bool.and_eq_true, decide_eq_true_eq, CXG.out, CXG.out])
                      clear HC
                      cases C
                      case true =>
                        have hb := hcond.out.1 rfl
                        have HB := Lib.hid hb.2
                        have hb1 := hb.1
                        clear hb hcond
                        go_wp2
                        go_roundg (j + 2 - (i4 + 1))
                        case measure => omega
                        case rel => exact ⟨i4 + 1, qi4, by congr 1 <;> omega, by omega, by omega, rfl, HQi4, Lib.hid ((up_on hb1 HB.out).symm.trans HSi4.out)⟩
                      case false =>
                        have HEi4 : Hid (scanUp (fun y => ltInt y x[a]!) x j i = i4) := Lib.hid (HSi4.out.symm.trans (up_end (fun h => by have := hcond.out.2 h; cases this)))
                        clear hcond HSi4 HWi4
                        go_wp2_with fail
                        go_loopg [11] j (fun gg v wx => ∃ (j4 mj4 : Nat), v = .int .i64 j4 ∧ j4 ≤ j ∧ i4 ≤ j4 + 2 ∧ gg = j4 ∧ Hid (wx = rowW w mj4 blk off x) ∧ Hid (scanDown (fun y => !ltInt y x[a]!) x i4 j4 = scanDown (fun y => !ltInt y x[a]!) x i4 j))
                        case atStart => exact ⟨j, qi4, rfl, Nat.le_refl _, by omega, rfl, HQi4, Lib.hid rfl⟩
                        case round =>
                          clear HQi4
                          obtain ⟨j4, mj4, rfl, hv1, hv2, hgg, HWj4, HSj4⟩ := hrel
                          go_upto_region 15 with fail
                          go_cut [129] from 115 to 131 (fun v wx => ∃ C : Bool, v = .bool C ∧ Hid (C = (decide (i4 ≤ j4) && !ltInt (CXF j4) (CXF a))) ∧ ∃ q, Hid (wx = rowW w q blk off x))
                          case first =>
                            obtain ⟨hcw, hfw⟩ := CXs.out _ _ HWj4.out
                            by_cases hcond : i4 ≤ j4
                            · go_quiet (first | (go_at_call 104; refine Calls.quiet_of_same (less_any _ _ _)))
                              go_wp2_with fail
                              go_meet
                              exact ⟨_, rfl, Lib.hid (by rw [decide_eq_true hcond, Bool.true_and]), mj4 + nq, Lib.hid (by rw [HWj4.out]; exact rowW_drewN _ _ _ _ _ _)⟩
                            · go_quiet (first | (go_at_call 104; refine Calls.quiet_of_same (less_any _ _ _)))
                              go_wp2_with fail
                              go_meet
                              exact ⟨_, rfl, Lib.hid (by rw [decide_eq_false hcond, Bool.false_and]), mj4 + nq, Lib.hid (by rw [HWj4.out]; exact rowW_drewN _ _ _ _ _ _)⟩
                          case rest =>
                            obtain ⟨C, rfl, HC, qj4, HQj4⟩ := hcut
                            have hcond : Hid (C = true ↔ (i4 ≤ j4 ∧ (fun y => !ltInt y x[a]!) x[j4]! = true)) := Lib.hid (by rw [HC.out, Bool.and_eq_true, decide_eq_true_eq, CXG.out, CXG.out])
                            clear HC
                            cases C
                            case true =>
                              have hb := hcond.out.1 rfl
                              have HB := Lib.hid hb.2
                              have hb1 := hb.1
                              clear hb hcond
                              go_wp2
                              go_roundg (j4 - 1)
                              case measure => omega
                              case rel => exact ⟨j4 - 1, qj4, by congr 1 <;> omega, by omega, by omega, rfl, HQj4, Lib.hid ((down_on (by omega) hb1 HB.out).symm.trans HSj4.out)⟩
                            case false =>
                              have HEj4 : Hid (scanDown (fun y => !ltInt y x[a]!) x i4 j = j4) := Lib.hid (HSj4.out.symm.trans (down_end (fun h => by have := hcond.out.2 h; cases this)))
                              clear hcond HSj4 HWj4
                              by_cases hgt : i4 > j4
                              · have HFIN : Hid (partLoop ltInt a i j x = (j4, x)) := Lib.hid (by
                                  rw [partLoop_eq, HEi4.out, HEj4.out, if_pos hgt])
                                have hjl : j4 < d.size := by omega
                                obtain ⟨hcw, hfw⟩ := CXs.out _ _ HQj4.out
                                obtain ⟨vW4, hy⟩ := cell_left (p := ⟨blk, off + j4, none⟩) (x := .int .u64 (CXF a)) (hcw a hla)
                                go_upto_region 21 with fail
                                go_region
                                go_upto_region 22 with fail
                                obtain ⟨W4, hW4⟩ : ∃ W4, W4 = ((wc.setCell ⟨blk, off + j4, none⟩ (.int .u64 (CXF a))).setCell ⟨blk, off + a, none⟩ (.int .u64 (CXF j4))).drew := ⟨_, rfl⟩
                                rw [← hW4]
                                have HW4 : Hid (W4 = rowW w (qj4 + 1) blk off (swp x j4 a)) := Lib.hid (by
                                  rw [hW4, CXG.out, CXG.out, HQj4.out]
                                  exact rowW_swapd w _ blk off x j4 a (by omega) (by omega))
                                clear hW4 hy hcw hfw
                                go_wp2
                                go_ret2
                                rw [HPL.out, HFIN.out]
                                exact ⟨rfl, qj4 + 1, HW4.out⟩
                              · have HNX : Hid (R = ((partLoop ltInt a (i4 + 1) (j4 - 1) (swp x i4 j4)).1, false, swp (partLoop ltInt a (i4 + 1) (j4 - 1) (swp x i4 j4)).2 (partLoop ltInt a (i4 + 1) (j4 - 1) (swp x i4 j4)).1 a)) := Lib.hid (by
                                  rw [HPL.out, partLoop_eq ltInt a i j, HEi4.out, HEj4.out, if_neg hgt])
                                have hil : i4 < d.size := by omega
                                have hjl : j4 < d.size := by omega
                                obtain ⟨hcw, hfw⟩ := CXs.out _ _ HQj4.out
                                obtain ⟨vW5, hy⟩ := cell_left (p := ⟨blk, off + i4, none⟩) (x := .int .u64 (CXF j4)) (hcw j4 hjl)
                                go_upto_region 18 with fail
                                go_region
                                go_upto_region 19 with fail
                                obtain ⟨W5, hW5⟩ : ∃ W5, W5 = ((wc.setCell ⟨blk, off + i4, none⟩ (.int .u64 (CXF j4))).setCell ⟨blk, off + j4, none⟩ (.int .u64 (CXF i4))).drew := ⟨_, rfl⟩
                                rw [← hW5]
                                have HW5 : Hid (W5 = rowW w (qj4 + 1) blk off (swp x i4 j4)) := Lib.hid (by
                                  rw [hW5, CXG.out, CXG.out, HQj4.out]
                                  exact rowW_swapd w _ blk off x i4 j4 (by omega) (by omega))
                                clear hW5 hy hcw hfw
                                go_wp2
                                go_roundg (j4 - 1 + 2 - (i4 + 1))
                                case measure => omega
                                case rel => exact ⟨i4 + 1, j4 - 1, qj4 + 1, swp x i4 j4, by congr 1 <;> omega, by congr 1 <;> omega, by omega, by omega, by omega, Nat.le_refl _, by rw [size_swp]; exact hsx, HW5, HNX⟩
end Go.Proofs.YtamcandcfainfaaGreat
/- The library's sort at rows of uint64, 6: the median of neighbours. -/
namespace Go.Proofs.YtamcandcfainfaaGreat
open Go.RowKit Go.Sort
set_option maxRecDepth 1000000

set_option maxHeartbeats 4000000 in
theorem medianAdj_any (blk off cap len a s n : Nat) (x : Array Int) (w : World) (hlen : x.size = len) (hH : Holds u6 w blk off x) (ha0 : 1 ≤ a) (ha : a + 1 < len) (hsz : len < 4611686018427387904) (hs : blk ≠ s) (hC : Cnt w s n) (hn : n < 900) :
    Calls Tryz.prog 113 #[.slice (some ⟨blk, off, none⟩) len cap, .int .i64 a, .pointer (some ⟨s, 0, none⟩)] w fun e w' =>
      e = .returned (.int .i64 ((Sort.medianAdjacent ltInt x a n).1 : Nat)) ∧ Frm [s] w w' ∧ Cnt w' s (Sort.medianAdjacent ltInt x a n).2 := by
  unfold Sort.medianAdjacent
  obtain ⟨p, hp⟩ : ∃ p, p = a - 1 := ⟨_, rfl⟩
  obtain ⟨q, hq⟩ : ∃ q, q = a + 1 := ⟨_, rfl⟩
  rw [← hp, ← hq]
  have hz1 : (a : Int) - 1 = (p : Int) := by omega
  have hz2 : (a : Int) + 1 = (q : Int) := by omega
  have K := fun w hH hC => median_any blk off cap len p a q s n x w hlen hH (by omega) (by omega) (by omega) hs hC hn
  have hq2 : q < len := by omega
  clear hp hq
  go_enter Tryz.func113, Tryz.ntmps113
  go_wp2_with (go_at_call 114; refine (K _ hH hC).mono ?_; rintro e w1 ⟨rfl, hf1, hC1⟩)
  go_ret
  exact ⟨rfl, hf1, hC1⟩
theorem med_lt {x : Array Int} {a b c n len r m : Nat} (h : Sort.median ltInt x a b c n = (r, m)) (ha : a < len) (hb : b < len) (hc : c < len) : r < len ∧ m ≤ n + 3 := by
  obtain ⟨a1, b1, n1, h1⟩ : ∃ a1 b1 n1, Sort.order2 ltInt x a b n = (a1, b1, n1) := ⟨_, _, _, rfl⟩
  obtain ⟨a2, c2, n2, h2⟩ : ∃ a2 c2 n2, Sort.order2 ltInt x b1 c n1 = (a2, c2, n2) := ⟨_, _, _, rfl⟩
  obtain ⟨a3, b3, n3, h3⟩ : ∃ a3 b3 n3, Sort.order2 ltInt x a1 a2 n2 = (a3, b3, n3) := ⟨_, _, _, rfl⟩
  obtain ⟨l1, l2, l3⟩ := o2_lt h1 ha hb
  obtain ⟨l4, l5, l6⟩ := o2_lt h2 l2 hc
  obtain ⟨l7, l8, l9⟩ := o2_lt h3 l1 l4
  unfold Sort.median at h
  simp only [h1, h2, h3, Prod.mk.injEq] at h
  omega
theorem median_call (blk off cap len s : Nat) (x : Array Int) (hlen : x.size = len) (hs : blk ≠ s) {a b c n r m : Nat} (h : Sort.median ltInt x a b c n = (r, m)) (ha : a < len) (hb : b < len) (hc : c < len) (hn : n < 900) (w : World) (hH : Holds u6 w blk off x) (hC : Cnt w s n) :
    Calls Tryz.prog 114 #[.slice (some ⟨blk, off, none⟩) len cap, .int .i64 a, .int .i64 b, .int .i64 c, .pointer (some ⟨s, 0, none⟩)] w fun e w' =>
      e = .returned (.int .i64 (r : Nat)) ∧ Frm [s] w w' ∧ Cnt w' s m := by
  have e := median_any blk off cap len a b c s n x w hlen hH ha hb hc hs hC hn
  rw [h] at e
  exact e
theorem medianAdj_call (blk off cap len s : Nat) (x : Array Int) (hlen : x.size = len) (hsz : len < 4611686018427387904) (hs : blk ≠ s) {a n r m : Nat} (h : Sort.medianAdjacent ltInt x a n = (r, m)) (ha0 : 1 ≤ a) (ha : a + 1 < len) (hn : n < 900) (w : World) (hH : Holds u6 w blk off x) (hC : Cnt w s n) :
    Calls Tryz.prog 113 #[.slice (some ⟨blk, off, none⟩) len cap, .int .i64 a, .pointer (some ⟨s, 0, none⟩)] w fun e w' =>
      e = .returned (.int .i64 (r : Nat)) ∧ Frm [s] w w' ∧ Cnt w' s m := by
  have e := medianAdj_any blk off cap len a s n x w hlen hH ha0 ha hsz hs hC hn
  rw [h] at e
  exact e

/-- A hint's value. -/
def hintN : Sort.Hint → Nat | .unknown => 0 | .increasing => 1 | .decreasing => 2
def hintOf (n : Nat) : Sort.Hint := if n = 0 then .increasing else if n = 12 then .decreasing else .unknown

set_option maxHeartbeats 8000000 in
theorem pivot_any (blk off cap len a b : Nat) (x : Array Int) (w : World) (hlen : x.size = len) (hH : Holds u6 w blk off x) (hab : a < b) (hb : b ≤ len) (hsz : len < 4611686018427387904) (hbw : blk < w.heap.size) :
    Calls Tryz.prog 101 #[.slice (some ⟨blk, off, none⟩) len cap, .int .i64 a, .int .i64 b] w fun e w' =>
      e = .returned (.tuple #[.int .i64 ((Sort.choosePivot ltInt x a b).1 : Nat), .int .i64 (hintN (Sort.choosePivot ltInt x a b).2 : Nat)]) ∧ Frm [] w w' := by
  obtain ⟨l, hl⟩ : ∃ l, l = b - a := ⟨_, rfl⟩
  obtain ⟨q, hq⟩ : ∃ q, q = l / 4 := ⟨_, rfl⟩
  obtain ⟨i, hi⟩ : ∃ i, i = a + q * 1 := ⟨_, rfl⟩
  obtain ⟨j, hj⟩ : ∃ j, j = a + q * 2 := ⟨_, rfl⟩
  obtain ⟨k, hk⟩ : ∃ k, k = a + q * 3 := ⟨_, rfl⟩
  have hz0 : (b : Int) - (a : Int) = (l : Int) := by omega
  have hz1 : Int.tdiv (l : Int) 4 = (q : Int) := by rw [Int.tdiv_eq_ediv_of_nonneg (by omega)]; omega
  have hz2 : (a : Int) + (q : Int) = (i : Int) := by omega
  have hz3 : (a : Int) + (q : Int) * 2 = (j : Int) := by omega
  have hz4 : (a : Int) + (q : Int) * 3 = (k : Int) := by omega
  have hjl : j < len := by omega
  by_cases h8 : l < 8
  · have e : Sort.choosePivot ltInt x a b = (j, .increasing) := by
      unfold Sort.choosePivot
      simp only [← hl, ← hq, ← hj]
      rw [if_neg (by omega)]
      rfl
    rw [e]
    have h8z : ¬ (8 : Int) ≤ (l : Int) := by omega
    clear e hl hq hi hj hk
    go_enter Tryz.func101, Tryz.ntmps101
    go_wp2
    go_ret2
    exact ⟨rfl, (Frm.refl [] w).alloc _⟩
  · have hil : i < len := by omega
    have hkl : k < len := by omega
    have hf0 : Frm [] w (w.alloc (.cells #[.int .i64 0] 3)) := (Frm.refl [] w).alloc _
    have hH0 : Holds u6 (w.alloc (.cells #[.int .i64 0] 3)) blk off x := holds_frm hH hf0 (by simp)
    have hC0 : Cnt (w.alloc (.cells #[.int .i64 0] 3)) w.heap.size 0 := ⟨by simp, by simp⟩
    have hbs : blk ≠ w.heap.size := by omega
    have hbs2 : blk ∉ [w.heap.size] := by simpa using hbs
    have h8z : (8 : Int) ≤ (l : Int) := by omega
    by_cases h50 : l < 50
    · obtain ⟨r, m, h1⟩ : ∃ r m, Sort.median ltInt x i j k 0 = (r, m) := ⟨_, _, rfl⟩
      have e : Sort.choosePivot ltInt x a b = (r, hintOf m) := by
        unfold Sort.choosePivot
        simp only [← hl, ← hq, ← hi, ← hj, ← hk]
        rw [if_pos (by omega), if_neg (by omega), h1]
        rfl
      rw [e]
      have K := median_call blk off cap len w.heap.size x hlen hbs h1 hil hjl hkl (by omega)
      have h50z : ¬ (50 : Int) ≤ (l : Int) := by omega
      clear e h1 hl hq hi hj hk
      rcases Nat.eq_zero_or_pos m with e0 | e0
      · subst e0
        go_enter Tryz.func101, Tryz.ntmps101
        go_wp2_with (first
          | (go_at_call 114; refine (K _ hH0 hC0).mono ?_; rintro e w1 ⟨rfl, hf1, hC1⟩; have hc1 : w1.cell? ⟨w.heap.size, 0, none⟩ = some (.int .i64 0) := hC1.1))
        go_ret2
        exact ⟨rfl, hf0.trans hf1 (fun _ h => h) (fun z h => Or.inr (by rw [List.mem_singleton.1 h]; exact Nat.le_refl _))⟩
      · by_cases e12 : m = 12
        · subst e12
          go_enter Tryz.func101, Tryz.ntmps101
          go_wp2_with (first
            | (go_at_call 114; refine (K _ hH0 hC0).mono ?_; rintro e w1 ⟨rfl, hf1, hC1⟩; have hc1 : w1.cell? ⟨w.heap.size, 0, none⟩ = some (.int .i64 12) := hC1.1))
          go_ret2
          exact ⟨rfl, hf0.trans hf1 (fun _ h => h) (fun z h => Or.inr (by rw [List.mem_singleton.1 h]; exact Nat.le_refl _))⟩
        · have y0 : ¬ (m : Int) = 0 := by omega
          have y12 : ¬ (m : Int) = 12 := by omega
          rw [show hintOf m = .unknown by unfold hintOf; rw [if_neg (by omega), if_neg e12]]
          go_enter Tryz.func101, Tryz.ntmps101
          go_wp2_with (first
            | (go_at_call 114; refine (K _ hH0 hC0).mono ?_; rintro e w1 ⟨rfl, hf1, hC1⟩; have hc1 : w1.cell? ⟨w.heap.size, 0, none⟩ = some (.int .i64 (m : Int)) := hC1.1))
          go_ret2
          exact ⟨rfl, hf0.trans hf1 (fun _ h => h) (fun z h => Or.inr (by rw [List.mem_singleton.1 h]; exact Nat.le_refl _))⟩
    · obtain ⟨ri, ni, h1⟩ : ∃ r m, Sort.medianAdjacent ltInt x i 0 = (r, m) := ⟨_, _, rfl⟩
      obtain ⟨rj, nj, h2⟩ : ∃ r m, Sort.medianAdjacent ltInt x j ni = (r, m) := ⟨_, _, rfl⟩
      obtain ⟨rk, nk, h3⟩ : ∃ r m, Sort.medianAdjacent ltInt x k nj = (r, m) := ⟨_, _, rfl⟩
      obtain ⟨r, m, h4⟩ : ∃ r m, Sort.median ltInt x ri rj rk nk = (r, m) := ⟨_, _, rfl⟩
      have e : Sort.choosePivot ltInt x a b = (r, hintOf m) := by
        unfold Sort.choosePivot
        simp only [← hl, ← hq, ← hi, ← hj, ← hk]
        rw [if_pos (by omega), if_pos (by omega)]
        simp only [h1, h2, h3, h4]
        rfl
      rw [e]
      obtain ⟨b1, b2⟩ := med_lt (show Sort.median ltInt x (i - 1) i (i + 1) 0 = (ri, ni) from h1) (len := len) (by omega) (by omega) (by omega)
      obtain ⟨b3, b4⟩ := med_lt (show Sort.median ltInt x (j - 1) j (j + 1) ni = (rj, nj) from h2) (len := len) (by omega) (by omega) (by omega)
      obtain ⟨b5, b6⟩ := med_lt (show Sort.median ltInt x (k - 1) k (k + 1) nj = (rk, nk) from h3) (len := len) (by omega) (by omega) (by omega)
      have K1 := medianAdj_call blk off cap len w.heap.size x hlen hsz hbs h1 (by omega) (by omega) (by omega)
      have K2 := medianAdj_call blk off cap len w.heap.size x hlen hsz hbs h2 (by omega) (by omega) (by omega)
      have K3 := medianAdj_call blk off cap len w.heap.size x hlen hsz hbs h3 (by omega) (by omega) (by omega)
      have K4 := median_call blk off cap len w.heap.size x hlen hbs h4 b1 b3 b5 (by omega)
      have h50z : (50 : Int) ≤ (l : Int) := by omega
      have hA : ∀ z : Nat, z ∈ ([] : List Nat) → z ∈ ([] : List Nat) := fun _ h => h
      have hB : ∀ z : Nat, z ∈ [w.heap.size] → z ∈ ([] : List Nat) ∨ w.heap.size ≤ z := fun z h => Or.inr (by rw [List.mem_singleton.1 h]; exact Nat.le_refl _)
      clear e h1 h2 h3 h4 hl hq hi hj hk
      rcases Nat.eq_zero_or_pos m with e0 | e0
      · subst e0
        go_enter Tryz.func101, Tryz.ntmps101
        go_wp2_with (first
          | (go_at_call 114; refine (K4 _ hH3 hC3).mono ?_; rintro e w4 ⟨rfl, hf4, hC4⟩; have hc1 : w4.cell? ⟨w.heap.size, 0, none⟩ = some (.int .i64 0) := hC4.1)
          | (go_at_call 113; refine (K3 _ hH2 hC2).mono ?_; rintro e w3 ⟨rfl, hf3, hC3⟩; have hH3 := holds_frm hH2 hf3 hbs2)
          | (go_at_call 113; refine (K2 _ hH1 hC1).mono ?_; rintro e w2 ⟨rfl, hf2, hC2⟩; have hH2 := holds_frm hH1 hf2 hbs2)
          | (go_at_call 113; refine (K1 _ hH0 hC0).mono ?_; rintro e w1 ⟨rfl, hf1, hC1⟩; have hH1 := holds_frm hH0 hf1 hbs2))
        go_ret2
        exact ⟨rfl, (((hf0.trans hf1 hA hB).trans hf2 hA hB).trans hf3 hA hB).trans hf4 hA hB⟩
      · by_cases e12 : m = 12
        · subst e12
          go_enter Tryz.func101, Tryz.ntmps101
          go_wp2_with (first
            | (go_at_call 114; refine (K4 _ hH3 hC3).mono ?_; rintro e w4 ⟨rfl, hf4, hC4⟩; have hc1 : w4.cell? ⟨w.heap.size, 0, none⟩ = some (.int .i64 12) := hC4.1)
            | (go_at_call 113; refine (K3 _ hH2 hC2).mono ?_; rintro e w3 ⟨rfl, hf3, hC3⟩; have hH3 := holds_frm hH2 hf3 hbs2)
            | (go_at_call 113; refine (K2 _ hH1 hC1).mono ?_; rintro e w2 ⟨rfl, hf2, hC2⟩; have hH2 := holds_frm hH1 hf2 hbs2)
            | (go_at_call 113; refine (K1 _ hH0 hC0).mono ?_; rintro e w1 ⟨rfl, hf1, hC1⟩; have hH1 := holds_frm hH0 hf1 hbs2))
          go_ret2
          exact ⟨rfl, (((hf0.trans hf1 hA hB).trans hf2 hA hB).trans hf3 hA hB).trans hf4 hA hB⟩
        · have y0 : ¬ (m : Int) = 0 := by omega
          have y12 : ¬ (m : Int) = 12 := by omega
          rw [show hintOf m = .unknown by unfold hintOf; rw [if_neg (by omega), if_neg e12]]
          go_enter Tryz.func101, Tryz.ntmps101
          go_wp2_with (first
            | (go_at_call 114; refine (K4 _ hH3 hC3).mono ?_; rintro e w4 ⟨rfl, hf4, hC4⟩; have hc1 : w4.cell? ⟨w.heap.size, 0, none⟩ = some (.int .i64 (m : Int)) := hC4.1)
            | (go_at_call 113; refine (K3 _ hH2 hC2).mono ?_; rintro e w3 ⟨rfl, hf3, hC3⟩; have hH3 := holds_frm hH2 hf3 hbs2)
            | (go_at_call 113; refine (K2 _ hH1 hC1).mono ?_; rintro e w2 ⟨rfl, hf2, hC2⟩; have hH2 := holds_frm hH1 hf2 hbs2)
            | (go_at_call 113; refine (K1 _ hH0 hC0).mono ?_; rintro e w1 ⟨rfl, hf1, hC1⟩; have hH1 := holds_frm hH0 hf1 hbs2))
          go_ret2
          exact ⟨rfl, (((hf0.trans hf1 hA hB).trans hf2 hA hB).trans hf3 hA hB).trans hf4 hA hB⟩
end Go.Proofs.YtamcandcfainfaaGreat
/- The library's sort at rows of uint64, 3: sifting down. -/
namespace Go.Proofs.YtamcandcfainfaaGreat
open Go.RowKit Go.Sort
set_option maxRecDepth 1000000

section
variable {α : Type} [Inhabited α] (lt : α → α → Bool)
/-- The child that a round looks at. -/
def kidOf (hi F root : Nat) (d : Array α) : Nat := if 2 * root + 2 < hi ∧ lt d[F + 2 * root + 1]! d[F + 2 * root + 2]! = true then 2 * root + 2 else 2 * root + 1
theorem sift_end {hi F root : Nat} {d : Array α} (h : hi ≤ 2 * root + 1) : siftDown lt hi F root d = d := by rw [siftDown, dif_pos h]
theorem sift_on {hi F root : Nat} {d : Array α} (h : 2 * root + 1 < hi) :
    siftDown lt hi F root d = if lt d[F + root]! d[F + kidOf lt hi F root d]! = true then siftDown lt hi F (kidOf lt hi F root d) (swp d (F + root) (F + kidOf lt hi F root d)) else d := by
  rw [siftDown, dif_neg (by omega)]
  unfold kidOf
  have e1 : F + (2 * root + 1) + 1 = F + 2 * root + 2 := by omega
  have e2 : F + (2 * root + 1) = F + 2 * root + 1 := by omega
  rw [e1, e2]
  by_cases h1 : 2 * root + 2 < hi
  · cases hl : lt d[F + 2 * root + 1]! d[F + 2 * root + 2]!
    · cases hr : lt d[F + root]! d[F + 2 * root + 1]! <;> simp [h1, hr, e2]
    · have e3 : F + (2 * root + 2) = F + 2 * root + 2 := by omega
      cases hr : lt d[F + root]! d[F + 2 * root + 2]! <;> simp [h1, hr, e3]
  · cases hr : lt d[F + root]! d[F + 2 * root + 1]! <;> simp [h1, hr, e2]
end

set_option maxHeartbeats 8000000 in
theorem sift_any (blk off cap len lo hi first : Nat) (d : Array Int) (w : World) (hlen : d.size = len) (hH : Holds u6 w blk off d) (hlo : lo ≤ hi) (hb : first + hi ≤ d.size) (hsz : d.size < 4611686018427387904) :
    Calls Tryz.prog 110 #[.slice (some ⟨blk, off, none⟩) len cap, .int .i64 lo, .int .i64 hi, .int .i64 first] w fun e w' =>
      e = .returned (.tuple #[]) ∧ ∃ n, w' = rowW w n blk off (siftDown ltInt hi first lo d) := by
  subst hlen
  go_enter Tryz.func110, Tryz.ntmps110
  go_wp2
  go_loopw [8] (fun vi wr => ∃ (root n : Nat) (x : Array Int), vi = .int .i64 root ∧ root ≤ hi ∧ x.size = d.size ∧ Hid (wr = rowW w n blk off x) ∧
      Hid (siftDown ltInt hi first root x = siftDown ltInt hi first lo d)) (fun vi _ => hi - (numOf vi).toNat)
  case atStart => exact ⟨lo, 0, d, rfl, hlo, rfl, Lib.hid (rowW_zero hH), Lib.hid rfl⟩
  case round =>
    obtain ⟨root, n, x, rfl, hr, hsx, HW, HO⟩ := hrel
    obtain ⟨G, HG⟩ : ∃ G : Nat → Int, Hid (∀ t, G t = x[t]!) := ⟨fun t => x[t]!, Lib.hid fun _ => rfl⟩
    have hcw : ∀ t, t < d.size → wr.cell? ⟨blk, off + t, none⟩ = some (.int .u64 (G t)) := fun t ht => by
      rw [HW.out, HG.out]; exact (rowW_cell hH hsx n t ht).1
    have hfw : ∀ t, t < d.size → wr.frozen? ⟨blk, off + t, none⟩ = false := fun t ht => by
      rw [HW.out]; exact (rowW_cell hH hsx n t ht).2
    clear hH
    by_cases h0 : hi ≤ 2 * root + 1
    · have h0z : (hi : Int) ≤ 2 * (root : Int) + 1 := by omega
      go_wp2
      go_end0
      exact ⟨rfl, n, by rw [HW.out, ← HO.out, sift_end ltInt h0]⟩
    · have h0z : ¬ ((hi : Int) ≤ 2 * (root : Int) + 1) := by omega
      by_cases h1 : 2 * root + 2 < hi
      · have h1z : 2 * (root : Int) + 1 + 1 < (hi : Int) := by omega
        go_wp2_with fail
        go_big_quiet (first | (go_at_call 104; refine Calls.quiet_of_same (less_any _ _ _)))
        go_wp2_with fail
        · have hL : ltInt (G (first + 2 * root + 1)) (G (first + 2 * root + 2)) = true := by assumption
          have HK : Hid (kidOf ltInt hi first root x = 2 * root + 2) := Lib.hid (by unfold kidOf; rw [← HG.out, ← HG.out]; exact if_pos ⟨h1, hL⟩)
          revert nq; intro nq1
          obtain ⟨wr2, hwr2⟩ : ∃ wr2, wr2 = wr.drewN nq1 := ⟨_, rfl⟩
          have hcw2 : ∀ t, t < d.size → wr2.cell? ⟨blk, off + t, none⟩ = some (.int .u64 (G t)) := by rw [hwr2]; exact hcw
          have hfw2 : ∀ t, t < d.size → wr2.frozen? ⟨blk, off + t, none⟩ = false := by rw [hwr2]; exact hfw
          have HW2 : Hid (wr2 = rowW w (n + nq1) blk off x) := Lib.hid (by rw [hwr2, HW.out, rowW_drewN])
          rw [← hwr2]
          clear hcw hfw hwr2
          go_big_quiet (first | (go_at_call 104; refine Calls.quiet_of_same (less_any _ _ _)))
          go_wp2_with fail
          · have hS : ltInt (G (first + root)) (G (first + 2 * root + 2)) = false := by
              have : (!ltInt (G (first + root)) (G (first + 2 * root + 2))) = true := by assumption
              simpa using this
            (try simp only [Exit.inBlock, Exit.then]); refine bodyPost_ret (results_none rfl _ _ _) rfl ?_
            refine ⟨rfl, n + nq1 + nq, ?_⟩
            rw [HW2.out, rowW_drewN, ← HO.out, sift_on ltInt (by omega), HK.out, show first + (2 * root + 2) = first + 2 * root + 2 by omega, ← HG.out, ← HG.out, hS]
            rfl
          · have hS : ltInt (G (first + root)) (G (first + 2 * root + 2)) = true := by
              have : (!ltInt (G (first + root)) (G (first + 2 * root + 2))) = false := by assumption
              simpa using this
            have hcw3 : ∀ t, t < d.size → (wr2.drewN nq).cell? ⟨blk, off + t, none⟩ = some (.int .u64 (G t)) := hcw2
            have hfw3 : ∀ t, t < d.size → (wr2.drewN nq).frozen? ⟨blk, off + t, none⟩ = false := hfw2
            obtain ⟨wr3, hwr3⟩ : ∃ wr3, wr3 = wr2.drewN nq := ⟨_, rfl⟩
            rw [← hwr3] at hcw3 hfw3 ⊢
            have HW3 : Hid (wr3 = rowW w (n + nq1 + nq) blk off x) := Lib.hid (by rw [hwr3, HW2.out, rowW_drewN])
            clear hcw2 hfw2 hwr3
            go_region
            all_goals go_wp2
            go_roundw
            case rel =>
              refine ⟨2 * root + 2, n + nq1 + nq + 1, swp x (first + root) (first + (2 * root + 2)), by simp <;> omega, by omega, by rw [size_swp]; exact hsx, Lib.hid ?_, Lib.hid ?_⟩
              · rw [← rowW_swap w _ blk off x (first + root) (first + (2 * root + 2)) (by omega) (by omega), HW3.out, HG.out, HG.out]
                show World.setCell (World.setCell ((rowW w (n + nq1 + nq) blk off x).drewN 1) _ _) _ _ = _
                rw [rowW_drewN]
                congr 2 <;> (try congr 2) <;> omega
              · rw [← HO.out, sift_on ltInt (show 2 * root + 1 < hi by omega), HK.out, show first + (2 * root + 2) = first + 2 * root + 2 by omega, ← HG.out, ← HG.out, hS]
                rfl
            case measure => simp [numOf]; omega
        · have hL : ltInt (G (first + 2 * root + 1)) (G (first + 2 * root + 2)) = false := by assumption
          have HK : Hid (kidOf ltInt hi first root x = 2 * root + 1) := Lib.hid (by unfold kidOf; rw [← HG.out, ← HG.out]; exact if_neg (by rw [hL]; simp))
          revert nq; intro nq1
          obtain ⟨wr2, hwr2⟩ : ∃ wr2, wr2 = wr.drewN nq1 := ⟨_, rfl⟩
          have hcw2 : ∀ t, t < d.size → wr2.cell? ⟨blk, off + t, none⟩ = some (.int .u64 (G t)) := by rw [hwr2]; exact hcw
          have hfw2 : ∀ t, t < d.size → wr2.frozen? ⟨blk, off + t, none⟩ = false := by rw [hwr2]; exact hfw
          have HW2 : Hid (wr2 = rowW w (n + nq1) blk off x) := Lib.hid (by rw [hwr2, HW.out, rowW_drewN])
          rw [← hwr2]
          clear hcw hfw hwr2
          go_big_quiet (first | (go_at_call 104; refine Calls.quiet_of_same (less_any _ _ _)))
          go_wp2_with fail
          · have hS : ltInt (G (first + root)) (G (first + 2 * root + 1)) = false := by
              have : (!ltInt (G (first + root)) (G (first + 2 * root + 1))) = true := by assumption
              simpa using this
            (try simp only [Exit.inBlock, Exit.then]); refine bodyPost_ret (results_none rfl _ _ _) rfl ?_
            refine ⟨rfl, n + nq1 + nq, ?_⟩
            rw [HW2.out, rowW_drewN, ← HO.out, sift_on ltInt (by omega), HK.out, show first + (2 * root + 1) = first + 2 * root + 1 by omega, ← HG.out, ← HG.out, hS]
            rfl
          · have hS : ltInt (G (first + root)) (G (first + 2 * root + 1)) = true := by
              have : (!ltInt (G (first + root)) (G (first + 2 * root + 1))) = false := by assumption
              simpa using this
            have hcw3 : ∀ t, t < d.size → (wr2.drewN nq).cell? ⟨blk, off + t, none⟩ = some (.int .u64 (G t)) := hcw2
            have hfw3 : ∀ t, t < d.size → (wr2.drewN nq).frozen? ⟨blk, off + t, none⟩ = false := hfw2
            obtain ⟨wr3, hwr3⟩ : ∃ wr3, wr3 = wr2.drewN nq := ⟨_, rfl⟩
            rw [← hwr3] at hcw3 hfw3 ⊢
            have HW3 : Hid (wr3 = rowW w (n + nq1 + nq) blk off x) := Lib.hid (by rw [hwr3, HW2.out, rowW_drewN])
            clear hcw2 hfw2 hwr3
            go_region
            all_goals go_wp2
            go_roundw
            case rel =>
              refine ⟨2 * root + 1, n + nq1 + nq + 1, swp x (first + root) (first + (2 * root + 1)), by simp <;> omega, by omega, by rw [size_swp]; exact hsx, Lib.hid ?_, Lib.hid ?_⟩
              · rw [← rowW_swap w _ blk off x (first + root) (first + (2 * root + 1)) (by omega) (by omega), HW3.out, HG.out, HG.out]
                show World.setCell (World.setCell ((rowW w (n + nq1 + nq) blk off x).drewN 1) _ _) _ _ = _
                rw [rowW_drewN]
                congr 2 <;> (try congr 2) <;> omega
              · rw [← HO.out, sift_on ltInt (show 2 * root + 1 < hi by omega), HK.out, show first + (2 * root + 1) = first + 2 * root + 1 by omega, ← HG.out, ← HG.out, hS]
                rfl
            case measure => simp [numOf]; omega
      · have h1z : decide (2 * (root : Int) + 1 + 1 < (hi : Int)) = false := decide_eq_false (by omega)
        have HK : Hid (kidOf ltInt hi first root x = 2 * root + 1) := Lib.hid (by unfold kidOf; exact if_neg (fun h => h1 h.1))
        go_wp2_with fail
        go_big_quiet (first | (go_at_call 104; refine Calls.quiet_of_same (less_any _ _ _)))
        go_wp2_with fail
        revert nq; intro nq1
        obtain ⟨wr2, hwr2⟩ : ∃ wr2, wr2 = wr.drewN nq1 := ⟨_, rfl⟩
        have hcw2 : ∀ t, t < d.size → wr2.cell? ⟨blk, off + t, none⟩ = some (.int .u64 (G t)) := by rw [hwr2]; exact hcw
        have hfw2 : ∀ t, t < d.size → wr2.frozen? ⟨blk, off + t, none⟩ = false := by rw [hwr2]; exact hfw
        have HW2 : Hid (wr2 = rowW w (n + nq1) blk off x) := Lib.hid (by rw [hwr2, HW.out, rowW_drewN])
        rw [← hwr2]
        clear hcw hfw hwr2
        go_big_quiet (first | (go_at_call 104; refine Calls.quiet_of_same (less_any _ _ _)))
        go_wp2_with fail
        · have hS : ltInt (G (first + root)) (G (first + 2 * root + 1)) = false := by
            have : (!ltInt (G (first + root)) (G (first + 2 * root + 1))) = true := by assumption
            simpa using this
          (try simp only [Exit.inBlock, Exit.then]); refine bodyPost_ret (results_none rfl _ _ _) rfl ?_
          refine ⟨rfl, n + nq1 + nq, ?_⟩
          rw [HW2.out, rowW_drewN, ← HO.out, sift_on ltInt (by omega), HK.out, show first + (2 * root + 1) = first + 2 * root + 1 by omega, ← HG.out, ← HG.out, hS]
          rfl
        · have hS : ltInt (G (first + root)) (G (first + 2 * root + 1)) = true := by
            have : (!ltInt (G (first + root)) (G (first + 2 * root + 1))) = false := by assumption
            simpa using this
          have hcw3 : ∀ t, t < d.size → (wr2.drewN nq).cell? ⟨blk, off + t, none⟩ = some (.int .u64 (G t)) := hcw2
          have hfw3 : ∀ t, t < d.size → (wr2.drewN nq).frozen? ⟨blk, off + t, none⟩ = false := hfw2
          obtain ⟨wr3, hwr3⟩ : ∃ wr3, wr3 = wr2.drewN nq := ⟨_, rfl⟩
          rw [← hwr3] at hcw3 hfw3 ⊢
          have HW3 : Hid (wr3 = rowW w (n + nq1 + nq) blk off x) := Lib.hid (by rw [hwr3, HW2.out, rowW_drewN])
          clear hcw2 hfw2 hwr3
          go_region
          all_goals go_wp2
          go_roundw
          case rel =>
            refine ⟨2 * root + 1, n + nq1 + nq + 1, swp x (first + root) (first + (2 * root + 1)), by simp <;> omega, by omega, by rw [size_swp]; exact hsx, Lib.hid ?_, Lib.hid ?_⟩
            · rw [← rowW_swap w _ blk off x (first + root) (first + (2 * root + 1)) (by omega) (by omega), HW3.out, HG.out, HG.out]
              show World.setCell (World.setCell ((rowW w (n + nq1 + nq) blk off x).drewN 1) _ _) _ _ = _
              rw [rowW_drewN]
              congr 2 <;> (try congr 2) <;> omega
            · rw [← HO.out, sift_on ltInt (show 2 * root + 1 < hi by omega), HK.out, show first + (2 * root + 1) = first + 2 * root + 1 by omega, ← HG.out, ← HG.out, hS]
              rfl
          case measure => simp [numOf]; omega
end Go.Proofs.YtamcandcfainfaaGreat
/- The library's sort at rows of uint64, 4: the heap sort. -/
namespace Go.Proofs.YtamcandcfainfaaGreat
open Go.RowKit Go.Sort
set_option maxRecDepth 1000000

/-- Behind a row's world a row's world. -/
theorem rowW_rowW (w : World) (n m blk off : Nat) (x y : Array Int) (h : y.size = x.size) : rowW (rowW w n blk off x) m blk off y = rowW w (n + m) blk off y := by
  unfold rowW
  exact putRow_ahead_putRow u6 w n m blk off x y h
theorem rowW_holds {w : World} {blk off : Nat} {d e : Array Int} (h : Holds u6 w blk off d) (hs : e.size = d.size) (n : Nat) : Holds u6 (rowW w n blk off e) blk off e :=
  holds_putRow u6 (Sort.ahead w n) blk off d e (holds_ahead u6 w n blk off d h) hs

theorem sift_size {α : Type} [Inhabited α] (lt : α → α → Bool) (hi F : Nat) : ∀ (n root : Nat) (d : Array α), hi - root ≤ n → (siftDown lt hi F root d).size = d.size := by
  intro n
  induction n with
  | zero =>
    intro root d h
    rw [sift_end lt (by omega)]
  | succ n ih =>
    intro root d h
    by_cases h1 : 2 * root + 1 < hi
    · rw [sift_on lt h1]
      split
      · rw [ih _ _ (by unfold kidOf; split <;> omega), size_swp]
      · rfl
    · rw [sift_end lt (by omega)]

set_option maxHeartbeats 8000000 in
theorem heap_any (blk off cap a b : Nat) (d : Array Int) (w : World) (hH : Holds u6 w blk off d) (hab : a ≤ b) (hb : b ≤ d.size) (hsz : d.size < 4611686018427387904) :
    Calls Tryz.prog 99 #[.slice (some ⟨blk, off, none⟩) d.size cap, .int .i64 a, .int .i64 b] w fun e w' =>
      e = .returned (.tuple #[]) ∧ ∃ n, w' = rowW w n blk off (Sort.heapSort ltInt d a b) := by
  obtain ⟨hi, hbh⟩ : ∃ hi, b = a + hi := ⟨b - a, by omega⟩
  have hb2 : (b : Int) - (a : Int) = (hi : Int) := by omega
  have hai : a + hi ≤ d.size := by omega
  have h3 : Int.tdiv ((hi : Int) - 1) 2 = (((hi - 1) / 2 + 1 : Nat) : Int) - 1 := by
    rcases Nat.eq_zero_or_pos hi with h | h
    · rw [h]; rfl
    · have e : (hi : Int) - 1 = ((hi - 1 : Nat) : Int) := by omega
      rw [e, Int.tdiv_eq_ediv_of_nonneg (by omega)]
      omega
  unfold Sort.heapSort
  rw [show b - a = hi by omega]
  obtain ⟨K, hK⟩ : ∃ K, K = (hi - 1) / 2 + 1 := ⟨_, rfl⟩
  rw [← hK] at h3 ⊢
  have hKh : K ≤ hi + 1 := by omega
  clear hK hbh
  go_enter Tryz.func99, Tryz.ntmps99
  go_wp2
  go_loopw [9] (fun vi wr => ∃ (k n : Nat) (x : Array Int), vi = .int .i64 ((k : Int) - 1) ∧ k ≤ hi + 1 ∧ x.size = d.size ∧ Hid (wr = rowW w n blk off x) ∧
      Hid (heapBuild ltInt hi a k x = heapBuild ltInt hi a K d)) (fun vi _ => (numOf vi + 1).toNat)
  case atStart => exact ⟨K, 0, d, rfl, hKh, rfl, Lib.hid (rowW_zero hH), Lib.hid rfl⟩
  case round =>
    obtain ⟨k, n, x, rfl, hkh, hsx, HW, HO⟩ := hrel
    cases k with
    | zero =>
      rw [show (((0 : Nat) : Int) - 1) = -1 by rfl]
      go_wp2
      go_loopw [10] (fun vi wr => ∃ (k n : Nat) (y : Array Int), vi = .int .i64 ((k : Int) - 1) ∧ k ≤ hi ∧ y.size = d.size ∧ Hid (wr = rowW w n blk off y) ∧
          Hid (heapPop ltInt a k y = heapPop ltInt a hi (heapBuild ltInt hi a K d))) (fun vi _ => (numOf vi + 1).toNat)
      case atStart => exact ⟨hi, n, x, by rfl, Nat.le_refl _, hsx, HW, Lib.hid (by rw [← HO.out]; rfl)⟩
      case round =>
        obtain ⟨k, n2, y, rfl, hkh2, hsy, HW2, HO2⟩ := hrel
        cases k with
        | zero =>
          rw [show (((0 : Nat) : Int) - 1) = -1 by rfl]
          go_wp2
          go_end0
          exact ⟨rfl, n2, by rw [HW2.out, ← HO2.out]; rfl⟩
        | succ m =>
          rw [show (((m + 1 : Nat) : Int) - 1) = (m : Int) by omega]
          cases m with
          | zero =>
            obtain ⟨G, HG⟩ : ∃ G : Nat → Int, Hid (∀ t, G t = y[t]!) := ⟨fun t => y[t]!, Lib.hid fun _ => rfl⟩
            have hcw : ∀ t, t < d.size → wr.cell? ⟨blk, off + t, none⟩ = some (.int .u64 (G t)) := fun t ht => by
              rw [HW2.out, HG.out]; exact (rowW_cell hH hsy n2 t ht).1
            have hfw : ∀ t, t < d.size → wr.frozen? ⟨blk, off + t, none⟩ = false := fun t ht => by
              rw [HW2.out]; exact (rowW_cell hH hsy n2 t ht).2
            have HH : Hid (Holds u6 w blk off d) := Lib.hid hH
            clear hH
            go_wp2_with fail
            go_region
            generalize hW : World.drew (World.setCell _ _ _) = wr3
            have hW3 : wr3 = rowW w (n2 + 1) blk off (swp y a a) := by
              rw [← hW, HW2.out]
              simp only [HG.out]
              exact (congrArg World.drew (rowW_swap w n2 blk off y a a (by omega) (by omega))).trans (rowW_drewN w n2 1 blk off _)
            have hss : (swp y a a).size = d.size := by rw [size_swp]; exact hsy
            have hH3 : Holds u6 wr3 blk off (swp y a a) := by rw [hW3]; exact rowW_holds HH.out hss _
            have HW3 : Hid (wr3 = rowW w (n2 + 1) blk off (swp y a a)) := Lib.hid hW3
            clear hW hW3 hcw hfw
            go_wp2_with (go_at_call 110; refine (sift_any blk off cap d.size 0 0 a (swp y a a) _ hss hH3 (by omega) (by omega) (by omega)).mono ?_; rintro e w1 ⟨rfl, n1, hw1⟩)
            go_roundw
            case rel =>
              refine ⟨0, n2 + 1 + n1, siftDown ltInt 0 a 0 (swp y a a), rfl, by omega, by rw [sift_size ltInt _ _ _ _ _ (Nat.le_refl _)]; exact hss, Lib.hid ?_, Lib.hid ?_⟩
              · rw [HW3.out, rowW_rowW _ _ _ _ _ _ _ (by rw [sift_size ltInt _ _ _ _ _ (Nat.le_refl _)])]
              · rw [← HO2.out]; rfl
            case measure => simp [numOf]
          | succ q =>
            obtain ⟨G, HG⟩ : ∃ G : Nat → Int, Hid (∀ t, G t = y[t]!) := ⟨fun t => y[t]!, Lib.hid fun _ => rfl⟩
            have hcw : ∀ t, t < d.size → wr.cell? ⟨blk, off + t, none⟩ = some (.int .u64 (G t)) := fun t ht => by
              rw [HW2.out, HG.out]; exact (rowW_cell hH hsy n2 t ht).1
            have hfw : ∀ t, t < d.size → wr.frozen? ⟨blk, off + t, none⟩ = false := fun t ht => by
              rw [HW2.out]; exact (rowW_cell hH hsy n2 t ht).2
            have HH : Hid (Holds u6 w blk off d) := Lib.hid hH
            clear hH
            go_wp2_with fail
            go_region
            generalize hW : World.drew (World.setCell _ _ _) = wr3
            have hW3 : wr3 = rowW w (n2 + 1) blk off (swp y a (a + (q + 1))) := by
              rw [← hW, HW2.out]
              simp only [HG.out]
              exact (congrArg World.drew (rowW_swap w n2 blk off y a (a + (q + 1)) (by omega) (by omega))).trans (rowW_drewN w n2 1 blk off _)
            have hss : (swp y a (a + (q + 1))).size = d.size := by rw [size_swp]; exact hsy
            have hH3 : Holds u6 wr3 blk off (swp y a (a + (q + 1))) := by rw [hW3]; exact rowW_holds HH.out hss _
            have HW3 : Hid (wr3 = rowW w (n2 + 1) blk off (swp y a (a + (q + 1)))) := Lib.hid hW3
            clear hW hW3 hcw hfw
            go_wp2_with (go_at_call 110; refine (sift_any blk off cap d.size 0 (q + 1) a (swp y a (a + (q + 1))) _ hss hH3 (by omega) (by omega) (by omega)).mono ?_; rintro e w1 ⟨rfl, n1, hw1⟩)
            go_roundw
            case rel =>
              refine ⟨q + 1, n2 + 1 + n1, siftDown ltInt (q + 1) a 0 (swp y a (a + (q + 1))), by congr 1; omega, by omega, by rw [sift_size ltInt _ _ _ _ _ (Nat.le_refl _)]; exact hss, Lib.hid ?_, Lib.hid ?_⟩
              · rw [HW3.out, rowW_rowW _ _ _ _ _ _ _ (by rw [sift_size ltInt _ _ _ _ _ (Nat.le_refl _)])]
              · rw [← HO2.out]; rfl
            case measure => simp [numOf]; omega
    | succ m =>
      rw [show (((m + 1 : Nat) : Int) - 1) = (m : Int) by omega]
      have hHx : Holds u6 wr blk off x := by rw [HW.out]; exact rowW_holds hH hsx n
      go_wp2_with (go_at_call 110; refine (sift_any blk off cap d.size m hi a x _ hsx hHx (by omega) (by omega) (by omega)).mono ?_; rintro e w1 ⟨rfl, n1, hw1⟩)
      go_roundw
      case rel =>
        refine ⟨m, n + n1, siftDown ltInt hi a m x, rfl, by omega, by rw [sift_size ltInt _ _ _ _ _ (Nat.le_refl _)]; exact hsx, Lib.hid ?_, Lib.hid ?_⟩
        · rw [HW.out, rowW_rowW _ _ _ _ _ _ _ (by rw [sift_size ltInt _ _ _ _ _ (Nat.le_refl _)])]
        · rw [← HO.out]; rfl
      case measure => simp [numOf]
end Go.Proofs.YtamcandcfainfaaGreat
/- The library's sort at rows of uint64, 2: the reversing of a range; two numbers by their order; the median of three. -/
namespace Go.Proofs.YtamcandcfainfaaGreat
open Go.RowKit Go.Sort
set_option maxRecDepth 100000

theorem rev_on {α : Type} [Inhabited α] {i j : Nat} {d : Array α} (h : i < j) : reverseLoop i j d = reverseLoop (i + 1) (j - 1) (swp d i j) := by rw [reverseLoop, if_pos h]
theorem rev_end {α : Type} [Inhabited α] {i j : Nat} {d : Array α} (h : ¬ i < j) : reverseLoop i j d = d := by rw [reverseLoop, if_neg h]

set_option maxHeartbeats 4000000 in
theorem rev_any (blk off cap a b : Nat) (d : Array Int) (w : World) (hH : Holds u6 w blk off d) (hab : a < b) (hb : b ≤ d.size) (hsz : d.size < 4611686018427387904) :
    Calls Tryz.prog 102 #[.slice (some ⟨blk, off, none⟩) d.size cap, .int .i64 a, .int .i64 b] w fun e w' =>
      e = .returned (.tuple #[]) ∧ ∃ n, w' = rowW w n blk off (Sort.reverseRange d a b) := by
  go_enter Tryz.func102, Tryz.ntmps102
  go_wp2
  go_loopw [6, 7] (fun vi vj wr => ∃ (i j n : Nat) (x : Array Int), vi = .int .i64 i ∧ vj = .int .i64 j ∧ i ≤ j + 1 ∧ j < b ∧ x.size = d.size ∧ Hid (wr = rowW w n blk off x) ∧
      Hid (reverseLoop i j x = reverseLoop a (b - 1) d)) (fun vi vj _ => (numOf vj + 1 - numOf vi).toNat)
  case atStart => exact ⟨a, b - 1, 0, d, rfl, by congr 1; omega, by omega, by omega, rfl, Lib.hid (rowW_zero hH), Lib.hid rfl⟩
  case round =>
    obtain ⟨i, j, n, x, rfl, rfl, hij, hjb, hsx, HW, HO⟩ := hrel
    obtain ⟨G, HG⟩ : ∃ G : Nat → Int, Hid (∀ t, G t = x[t]!) := ⟨fun t => x[t]!, Lib.hid fun _ => rfl⟩
    have hcw : ∀ t, t < d.size → wr.cell? ⟨blk, off + t, none⟩ = some (.int .u64 (G t)) := fun t ht => by
      rw [HW.out, HG.out]; exact (rowW_cell hH hsx n t ht).1
    have hfw : ∀ t, t < d.size → wr.frozen? ⟨blk, off + t, none⟩ = false := fun t ht => by
      rw [HW.out]; exact (rowW_cell hH hsx n t ht).2
    clear hH
    go_wp2
    · have hlt : i < j := by assumption
      go_region
      all_goals go_wp2
      go_roundw
      case rel =>
        refine ⟨i + 1, j - 1, n + 1, swp x i j, by congr 1 <;> omega, by congr 1; omega, by omega, by omega, by rw [size_swp]; exact hsx, Lib.hid ?_, Lib.hid ?_⟩
        · rw [HW.out, HG.out, HG.out]
          show World.setCell (World.setCell ((rowW w n blk off x).drewN 1) _ _) _ _ = _
          rw [rowW_drewN]
          exact rowW_swap w _ blk off x i j (by omega) (by omega)
        · rw [← HO.out, rev_on hlt]
      case measure => simp [numOf]; omega
    · have hge : ¬ i < j := by assumption
      go_end0
      exact ⟨rfl, n, by unfold Sort.reverseRange; rw [← HO.out, rev_end hge, HW.out]⟩
end Go.Proofs.YtamcandcfainfaaGreat
/- The library's sort at rows of uint64, 12: pattern-defeating quicksort: the row is sorted, whatever it was. Written by wip/mk-sopdq.py. -/
namespace Go.Proofs.YtamcandcfainfaaGreat
open Go.RowKit Go.Sort
set_option maxRecDepth 1000000

/-- What a sort of [a, b) leaves. -/
def PEnd (w : World) (blk off a b : Nat) (d : Array Int) (e : Ending) (w' : World) : Prop :=
  e = .returned (.tuple #[]) ∧ ∃ x, PermIn a b d x ∧ SortedIn ltInt a b x ∧ RW w w' blk off x

set_option maxHeartbeats 32000000 in
theorem pdq_any (N : Nat) : ∀ (blk off cap a b len limit : Nat) (d : Array Int) (w : World), b - a < N → d.size = len → Holds u6 w blk off d → 0 < len → a ≤ b → b ≤ len → len < 4611686018427387904 → limit < 4611686018427387904 → Sort.Below ltInt a b d →
    Calls Tryz.prog 91 #[.slice (some ⟨blk, off, none⟩) len cap, .int .i64 a, .int .i64 b, .int .i64 limit] w (PEnd w blk off a b d) := by
  induction N with
  | zero => intro blk off cap a b len limit d w h; omega
  | succ N ih =>
  intro blk off cap a b len limit d w hN hlen hH h0 hab hb hsz hlim hB
  have IH : Hid (∀ (blk off cap a b len limit : Nat) (d : Array Int) (w : World), b - a < N → d.size = len → Holds u6 w blk off d → 0 < len → a ≤ b → b ≤ len → len < 4611686018427387904 → limit < 4611686018427387904 → Sort.Below ltInt a b d →
    Calls Tryz.prog 91 #[.slice (some ⟨blk, off, none⟩) len cap, .int .i64 a, .int .i64 b, .int .i64 limit] w (PEnd w blk off a b d)) := Lib.hid ih
  clear ih
  obtain ⟨Q, hQ⟩ : ∃ Q, Q = PEnd w blk off a b d := ⟨_, rfl⟩
  have HQ := Lib.hid hQ
  rw [← hQ]
  have hbw : blk < w.heap.size := block_lt_of_cell (a := ⟨blk, off + 0, none⟩) (hH 0 (by omega)).1
  have HBW := Lib.hid hbw
  have HS : Hid (RW w w blk off d) := Lib.hid (RW.start hH)
  have HBEL := Lib.hid hB
  have HLEN := Lib.hid hlen
  have HN := Lib.hid hN
  -- what a world that is w but for the row x gives
  have AT : Hid (∀ z (x : Array Int), RW w z blk off x → x.size = d.size → Holds u6 z blk off x ∧ x.size = len ∧ blk < z.heap.size) := Lib.hid fun z x hz hs => ⟨hz.holds hH hs, by omega, Nat.lt_of_lt_of_le hbw hz.size⟩
  -- the end, at a row that is sorted from a' to b'
  have FIN : Hid (∀ (x y : Array Int) (a' b' : Nat) (z : World), (∀ y, PermIn a' b' x y → SortedIn ltInt a' b' y → PermIn a b d y ∧ SortedIn ltInt a b y) → RW w z blk off y → PermIn a' b' x y → SortedIn ltInt a' b' y → Q (.returned (.tuple #[])) z) := Lib.hid fun x y a' b' z hc hz hp hs => by
    rw [HQ.out]
    obtain ⟨h1, h2⟩ := hc y hp hs
    exact ⟨rfl, y, h1, h2, hz⟩
  clear hQ hB hlen hN hH hbw
  go_enter Tryz.func91, Tryz.ntmps91
  go_wp2_with fail
  go_loopg [1, 2, 3, 8, 9] (b - a + 1) (fun g v1 v2 v3 v8 v9 wx => ∃ (a' b' lim : Nat) (wb wp : Bool) (x : Array Int), v1 = .int .i64 a' ∧ v2 = .int .i64 b' ∧ v3 = .int .i64 lim ∧ v8 = .bool wb ∧ v9 = .bool wp ∧ a ≤ a' ∧ a' ≤ b' ∧ b' ≤ b ∧ b' - a' < g ∧ lim < 4611686018427387904 ∧
      Hid (RW w wx blk off x) ∧ Hid (x.size = d.size) ∧ Hid (Sort.Below ltInt a' b' x) ∧ Hid (∀ y, PermIn a' b' x y → SortedIn ltInt a' b' y → PermIn a b d y ∧ SortedIn ltInt a b y))
  case atStart => exact ⟨a, b, limit, true, true, d, rfl, rfl, rfl, rfl, rfl, Nat.le_refl _, hab, Nat.le_refl _, by omega, hlim, HS, Lib.hid rfl, HBEL, Lib.hid fun y h1 h2 => ⟨h1, h2⟩⟩
  case round =>
    clear HS HBEL hlim
    obtain ⟨a', b', lim, wb, wp, x, rfl, rfl, rfl, rfl, rfl, ha1, hab1, hb1, hg, hlim, HRX, HSX, HBX, HCX⟩ := hrel
    obtain ⟨l, hl⟩ : ∃ l, l = b' - a' := ⟨_, rfl⟩
    have hlz : (b' : Int) - (a' : Int) = (l : Int) := by omega
    have hbl : b' ≤ len := by omega
    have HL := Lib.hid hl
    clear hl
    by_cases h12 : l ≤ 12
    · obtain ⟨hHX, hxl, _⟩ := AT.out _ _ HRX.out HSX.out
      have HC0 := ins_any blk off cap a' b' x wr hHX hab1 (by omega) (by omega)
      rw [hxl] at HC0
      obtain ⟨hp, hs⟩ := insertionSort_holds swo_ltInt x a' b' hab1 (by omega)
      have HC := Lib.hid HC0
      clear HC0
      have HF : Hid (∀ z n, z = rowW wr n blk off (Sort.insertionSort ltInt x a' b') → Q (.returned (.tuple #[])) z) := Lib.hid fun z n hz => FIN.out x _ a' b' z HCX.out (HRX.out.row hp.1 hz) hp hs
      clear hHX hxl hp hs
      go_wp2_with fail
      (with_reducible refine HC.out.mono ?_)
      rintro e w2 ⟨rfl, n, hn⟩
      have HE := Lib.hid (HF.out _ _ hn)
      clear hn HC
      go_wp2
      exact bodyPost_ret (v := .tuple #[]) (by simp [results, Tryz.results91, go_sem]) rfl HE.out
    · by_cases hl0 : lim = 0
      · obtain ⟨hHX, hxl, _⟩ := AT.out _ _ HRX.out HSX.out
        have HC0 := heap_any blk off cap a' b' x wr hHX hab1 (by omega) (by omega)
        rw [hxl] at HC0
        obtain ⟨hp, hs⟩ := heapSort_holds swo_ltInt x a' b' hab1 (by omega)
        have HC := Lib.hid HC0
        clear HC0
        have HF : Hid (∀ z n, z = rowW wr n blk off (Sort.heapSort ltInt x a' b') → Q (.returned (.tuple #[])) z) := Lib.hid fun z n hz => FIN.out x _ a' b' z HCX.out (HRX.out.row hp.1 hz) hp hs
        clear hHX hxl hp hs
        go_wp2_with fail
        (with_reducible refine HC.out.mono ?_)
        rintro e w2 ⟨rfl, n, hn⟩
        have HE := Lib.hid (HF.out _ _ hn)
        clear hn HC
        go_wp2
        exact bodyPost_ret (v := .tuple #[]) (by simp [results, Tryz.results91, go_sem]) rfl HE.out
      · have hab2 : a' < b' := by have := HL.out; omega
        -- patterns are broken, or not
        go_upto_if 35 with fail
        go_cut [3] from 19 to 133 (fun v3 wx => ∃ (lim2 : Nat) (x1 : Array Int), v3 = .int .i64 lim2 ∧ lim2 < 4611686018427387904 ∧ Hid (RW w wx blk off x1) ∧ Hid (PermIn a' b' x x1))
        case first =>
          cases wb
          case false =>
            obtain ⟨hHX, hxl, _⟩ := AT.out _ _ HRX.out HSX.out
            have HC := Lib.hid (break_any blk off cap a' b' len x wr hxl hHX hab2 hbl (by omega))
            clear hHX hxl
            go_wp2_with fail
            (with_reducible refine HC.out.mono ?_)
            rintro e w2 ⟨rfl, x1, hp, hr⟩
            have HP1 := Lib.hid hp
            have HR1 := Lib.hid (HRX.out.trans hp.1 hr)
            clear hp hr HC
            go_wp2
            go_meet
            exact ⟨lim - 1, x1, by congr 1 <;> omega, by omega, HR1, HP1⟩
          case true =>
            go_wp2
            go_meet
            exact ⟨lim, x, rfl, hlim, HRX, Lib.hid (permIn_refl _ _ _)⟩
        case rest =>
          obtain ⟨lim2, x1, rfl, hlim2, HR1, HP1⟩ := hcut
          clear HRX
          have hs1 : x1.size = d.size := by rw [HP1.out.1]; exact HSX.out
          have HS1 := Lib.hid hs1
          obtain ⟨hHX, hxl, hbz⟩ := AT.out _ _ HR1.out hs1
          obtain ⟨pv, hpv⟩ : ∃ pv, pv = Sort.choosePivot ltInt x1 a' b' := ⟨_, rfl⟩
          have HC0 := pivot_any blk off cap len a' b' x1 wc hxl hHX hab2 hbl (by omega) hbz
          have hrg := choosePivot_holds ltInt x1 a' b' hab2
          rw [← hpv] at HC0 hrg
          obtain ⟨p0, hint⟩ := pv
          obtain ⟨hn, hhn⟩ : ∃ hn, hn = hintN hint := ⟨_, rfl⟩
          rw [← hhn] at HC0
          have hh3 : hn ≤ 2 := by rw [hhn]; cases hint <;> decide
          dsimp only at HC0 hrg
          have HC := Lib.hid HC0
          clear HC0
          have hp1 : a' ≤ p0 := hrg.1
          have hp2 : p0 < b' := hrg.2
          clear hHX hxl hbz hrg hpv hhn hs1
          go_wp2_with fail
          (with_reducible refine HC.out.mono ?_)
          rintro e w3 ⟨rfl, hf3⟩
          have HR3 := Lib.hid (HR1.out.frm hf3)
          clear hf3 HC HR1
          -- a row that falls is reversed, or not
          go_upto_if 50 with fail
          go_cut [11, 12] from 19 to 133 (fun v11 v12 wx => ∃ (p hh : Nat) (x2 : Array Int), v11 = .int .i64 p ∧ v12 = .int .i64 hh ∧ a' ≤ p ∧ p < b' ∧ hh ≤ 2 ∧ Hid (RW w wx blk off x2) ∧ Hid (PermIn a' b' x x2))
          case first =>
            by_cases h2 : hn = 2
            · obtain ⟨hHX, hxl, hbz⟩ := AT.out _ _ HR3.out HS1.out
              have HC0 := rev_any blk off cap a' b' x1 w3 hHX hab2 (by omega) (by omega)
              rw [hxl] at HC0
              have hpr := reverseRange_holds x1 a' b' hab1 (by omega)
              have HC := Lib.hid HC0
              clear HC0
              have HRV : Hid (∀ z n, z = rowW w3 n blk off (Sort.reverseRange x1 a' b') → RW w z blk off (Sort.reverseRange x1 a' b')) := Lib.hid fun z n hz => HR3.out.row hpr.1 hz
              have HPR := Lib.hid (permIn_trans _ _ _ a' b' HP1.out hpr)
              clear hHX hxl hbz hpr
              subst h2
              go_wp2_with fail
              (with_reducible refine HC.out.mono ?_)
              rintro e w4 ⟨rfl, n, hn4⟩
              have HR4 := Lib.hid (HRV.out _ _ hn4)
              clear hn4 HC
              go_wp2
              go_meet
              exact ⟨(b' - 1) - (p0 - a'), 1, _, by congr 1 <;> omega, rfl, by omega, by omega, by omega, HR4, HPR⟩
            · have hne : ((hn : Int) == 2) = false := by rw [beq_eq_false_iff_ne]; omega
              go_wp2
              go_meet
              exact ⟨p0, hn, x1, rfl, rfl, hp1, hp2, hh3, HR3, HP1⟩
          case rest =>
            clear HR3 HP1 hp1 hp2 hh3 HS1
            obtain ⟨p, hh, x2, rfl, rfl, hp1, hp2, hh3, HR2, HP2⟩ := hcut
            -- is it worth a try?
            go_upto_region 15 with fail
            go_cut [68] from 19 to 133 (fun v wx => ∃ C : Bool, v = .bool C ∧ wx = wc)
            case first =>
              by_cases h1 : hh = 1
              · subst h1
                cases wb <;> cases wp <;> (go_wp2; go_meet; exact ⟨_, rfl, rfl⟩)
              · have hne : ((hh : Int) == 1) = false := by rw [beq_eq_false_iff_ne]; omega
                cases wb <;> cases wp <;> (go_wp2; go_meet; exact ⟨_, rfl, rfl⟩)
            case rest =>
              obtain ⟨C, rfl, rfl⟩ := hcut
              have hs2 : x2.size = d.size := by rw [HP2.out.1]; exact HSX.out
              have hB2 : Sort.Below ltInt a' b' x2 := HBX.out.perm (by have := HSX.out; have := HLEN.out; omega) HP2.out
              have HS2 := Lib.hid hs2
              have HB2 := Lib.hid hB2
              clear hs2 hB2
              go_upto_if 68 with fail
              go_cut [11] from 19 to 133 (fun v11 wx => ∃ x3 : Array Int, v11 = .int .i64 p ∧ Hid (RW w wx blk off x3) ∧ Hid (PermIn a' b' x x3))
              case first =>
                cases C
                case false =>
                  go_wp2
                  go_meet
                  exact ⟨x2, rfl, HR2, HP2⟩
                case true =>
                  obtain ⟨hHX, hxl, hbz⟩ := AT.out _ _ HR2.out HS2.out
                  have HC0 := partial_any blk off cap a' b' x2 wc hHX hab2 (by omega) (by omega)
                  rw [hxl] at HC0
                  obtain ⟨hpp, hps⟩ := partialInsertionSort_holds swo_ltInt x2 a' b' hab2 (by omega) HB2.out
                  obtain ⟨r, hr⟩ : ∃ r, r = Sort.partialInsertionSort ltInt x2 a' b' := ⟨_, rfl⟩
                  rw [← hr] at HC0 hpp hps
                  obtain ⟨y, rb⟩ := r
                  dsimp only at HC0 hpp hps
                  have HC := Lib.hid HC0
                  clear HC0
                  have HRV : Hid (∀ z n, z = rowW wc n blk off y → RW w z blk off y) := Lib.hid fun z n hz => HR2.out.row hpp.1 hz
                  have HPR := Lib.hid (permIn_trans _ _ _ a' b' HP2.out hpp)
                  have HPS := Lib.hid hps
                  clear hHX hxl hbz hpp hps hr
                  go_wp2_with fail
                  (with_reducible refine HC.out.mono ?_)
                  rintro e w4 ⟨rfl, n, hn4⟩
                  have HR4 := Lib.hid (HRV.out _ _ hn4)
                  clear hn4 HC
                  cases rb
                  case true =>
                    have HE := Lib.hid (FIN.out x y a' b' w4 HCX.out HR4.out HPR.out (HPS.out rfl))
                    go_wp2
                    exact bodyPost_ret (v := .tuple #[]) (by simp [results, Tryz.results91, go_sem]) rfl HE.out
                  case false =>
                    go_wp2
                    go_meet
                    exact ⟨y, rfl, HR4, HPR⟩
              case rest =>
                clear HR2 HS2 HB2 HP2
                obtain ⟨x3, rfl, HR3, HP3⟩ := hcut
                have hs3 : x3.size = d.size := by rw [HP3.out.1]; exact HSX.out
                have hB3 : Sort.Below ltInt a' b' x3 := HBX.out.perm (by have := HSX.out; have := HLEN.out; omega) HP3.out
                have HS3 := Lib.hid hs3
                have HB3 := Lib.hid hB3
                have HCX3 : Hid (∀ y, PermIn a' b' x3 y → SortedIn ltInt a' b' y → PermIn a b d y ∧ SortedIn ltInt a b y) := Lib.hid fun y h1 h2 => HCX.out y (permIn_trans _ _ _ a' b' HP3.out h1) h2
                clear hs3 hB3
                obtain ⟨G, hG⟩ : ∃ G : Nat → Int, Hid (∀ t, G t = x3[t]!) := ⟨fun t => x3[t]!, Lib.hid fun _ => rfl⟩
                obtain ⟨a1, ha1e⟩ : ∃ a1, a1 = a' - 1 := ⟨_, rfl⟩
                have HA1 := Lib.hid ha1e
                -- equals first?
                go_upto_region 17 with fail
                go_cut [87] from 19 to 133 (fun v wx => ∃ C : Bool, v = .bool C ∧ Hid (C = (decide (0 < a') && !ltInt (G a1) (G p))) ∧ ∃ q, wx = wc.drewN q)
                case first =>
                  obtain ⟨hHX, hxl, hbz⟩ := AT.out _ _ HR3.out HS3.out
                  have hcw : ∀ t, t < len → wc.cell? ⟨blk, off + t, none⟩ = some (.int .u64 (G t)) := fun t ht => by rw [hG.out]; exact (hHX t (by omega)).1
                  have hpl : p < len := by omega
                  by_cases h0a : 0 < a'
                  · have ha1z : (a' : Int) - 1 = (a1 : Int) := by omega
                    have ha1l : a1 < len := by omega
                    clear hHX hxl hbz ha1e
                    go_quiet (first | (go_at_call 104; refine Calls.quiet_of_same (less_any _ _ _)))
                    go_wp2_with fail
                    go_meet
                    exact ⟨_, rfl, Lib.hid (by rw [decide_eq_true h0a, Bool.true_and]), nq, rfl⟩
                  · clear hHX hxl hbz ha1e
                    go_quiet (first | (go_at_call 104; refine Calls.quiet_of_same (less_any _ _ _)))
                    go_wp2_with fail
                    go_meet
                    exact ⟨_, rfl, Lib.hid (by rw [decide_eq_false h0a, Bool.false_and]), nq, rfl⟩
                case rest =>
                  clear ha1e
                  obtain ⟨C, rfl, HCC, q, hq⟩ := hcut
                  have HRQ : Hid (RW w wc blk off x3) := Lib.hid (by rw [hq]; exact HR3.out.frm ((Frm.refl _ _).drewN q))
                  have hcc : Hid (C = true → 0 < a' ∧ ltInt x3[a' - 1]! x3[p]! = false) := Lib.hid (fun h => by
                    have e := HCC.out
                    rw [h] at e
                    have e := e.symm
                    rw [Bool.and_eq_true, decide_eq_true_eq, Bool.not_eq_true'] at e
                    rw [hG.out, hG.out, HA1.out] at e
                    exact e)
                  clear hq HCC HR3 hG
                  obtain ⟨hHX, hxl, hbz⟩ := AT.out _ _ HRQ.out HS3.out
                  cases C
                  case true =>
                    obtain ⟨h0a, hnl⟩ := hcc.out rfl
                    have HC0 := partEq_any blk off cap a' b' p x3 wc hHX hp1 hp2 (by omega) (by omega)
                    rw [hxl] at HC0
                    obtain ⟨r, hr⟩ : ∃ r, r = Sort.partitionEqual ltInt x3 a' b' p := ⟨_, rfl⟩
                    rw [← hr] at HC0
                    obtain ⟨mid, x4⟩ := r
                    obtain ⟨hm1, hm2, hs4, hB4, hk4⟩ := round_eq swo_ltInt (partitionEqual_holds _) h0a hp1 hp2 (by omega) HB3.out hnl hr.symm
                    dsimp only at HC0
                    have HC := Lib.hid HC0
                    clear HC0
                    have HRV : Hid (∀ z n, z = rowW wc n blk off x4 → RW w z blk off x4) := Lib.hid fun z n hz => HRQ.out.row hs4 hz
                    have HS4 : Hid (x4.size = d.size) := Lib.hid (by rw [hs4]; exact HS3.out)
                    have HB4 := Lib.hid hB4
                    have HK4 : Hid (∀ y, PermIn mid b' x4 y → SortedIn ltInt mid b' y → PermIn a b d y ∧ SortedIn ltInt a b y) := Lib.hid fun y h1 h2 => HCX3.out y (hk4 y h1 h2).1 (hk4 y h1 h2).2
                    clear hHX hxl hbz hr hs4 hB4 hk4 hnl hcc
                    go_wp2_with fail
                    (with_reducible refine HC.out.mono ?_)
                    rintro e w4 ⟨rfl, n, hn4⟩
                    have HR4 := Lib.hid (HRV.out _ _ hn4)
                    clear hn4 HC
                    go_wp2
                    go_roundg (b' - mid + 1)
                    case measure => omega
                    case rel => exact ⟨mid, b', lim2, wb, wp, x4, rfl, rfl, rfl, rfl, rfl, by omega, hm2, hb1, by omega, hlim2, HR4, HS4, HB4, HK4⟩
                  case false =>
                    have HC0 := part_any blk off cap a' b' p x3 wc hHX hp1 hp2 (by omega) (by omega)
                    rw [hxl] at HC0
                    obtain ⟨r, hr⟩ : ∃ r, r = Sort.partition ltInt x3 a' b' p := ⟨_, rfl⟩
                    rw [← hr] at HC0
                    obtain ⟨mid, ap, x4⟩ := r
                    obtain ⟨hm1, hm2, hs4, hBl, hBr, hkl, hkr⟩ := round_part swo_ltInt (partition_holds _) hp1 hp2 (by omega) HB3.out hr.symm
                    dsimp only at HC0
                    have HC := Lib.hid HC0
                    clear HC0
                    have HRV : Hid (∀ z n, z = rowW wc n blk off x4 → RW w z blk off x4) := Lib.hid fun z n hz => HRQ.out.row hs4 hz
                    have HS4 : Hid (x4.size = d.size) := Lib.hid (by rw [hs4]; exact HS3.out)
                    have HBL := Lib.hid hBl
                    have HBR := Lib.hid hBr
                    have HKL := Lib.hid hkl
                    have HKR := Lib.hid hkr
                    obtain ⟨lf, hlf⟩ : ∃ lf, lf = mid - a' := ⟨_, rfl⟩
                    obtain ⟨rt, hrt⟩ : ∃ rt, rt = b' - mid := ⟨_, rfl⟩
                    have hlfz : (mid : Int) - (a' : Int) = (lf : Int) := by omega
                    have hrtz : (b' : Int) - (mid : Int) = (rt : Int) := by omega
                    have hlfm : a' + lf = mid := by omega
                    have hrtm : mid + rt = b' := by omega
                    have h8z : Int.tdiv (l : Int) 8 = ((l / 8 : Nat) : Int) := by rw [Int.tdiv_eq_ediv_of_nonneg (by omega)]; omega
                    obtain ⟨l8, hl8⟩ : ∃ l8, l8 = l / 8 := ⟨_, rfl⟩
                    rw [← hl8] at h8z
                    clear hHX hxl hbz hr hs4 hBl hBr hkl hkr hcc hlf hrt hl8
                    go_wp2_with fail
                    (with_reducible refine HC.out.mono ?_)
                    rintro e w4 ⟨rfl, n, hn4⟩
                    have HR4 := Lib.hid (HRV.out _ _ hn4)
                    clear hn4 HC HRQ HRV
                    obtain ⟨hHX, hxl, hbz⟩ := AT.out _ _ HR4.out HS4.out
                    by_cases hlr : lf < rt
                    · have HC := Lib.hid (IH.out blk off cap a' mid len lim2 x4 w4 (by have := HN.out; omega) hxl hHX h0 hm1 (by omega) hsz hlim2 HBL.out)
                      clear hHX hxl hbz
                      go_wp2_with fail
                      (with_reducible refine HC.out.mono ?_)
                      rintro e w5 ⟨rfl, y, hpy, hsy, hry⟩
                      obtain ⟨hBy, hky⟩ := HKL.out y hpy hsy
                      have HR5 := Lib.hid (HR4.out.trans hpy.1 hry)
                      have HS5 : Hid (y.size = d.size) := Lib.hid (by rw [hpy.1]; exact HS4.out)
                      have HB5 := Lib.hid hBy
                      have HK5 : Hid (∀ z, PermIn (mid + 1) b' y z → SortedIn ltInt (mid + 1) b' z → PermIn a b d z ∧ SortedIn ltInt a b z) := Lib.hid fun z h1 h2 => HCX3.out z (hky z h1 h2).1 (hky z h1 h2).2
                      clear hpy hsy hry hBy hky HC HR4
                      go_wp2
                      go_roundg (b' - (mid + 1) + 1)
                      case measure => omega
                      case rel => exact ⟨mid + 1, b', lim2, _, ap, y, by congr 1 <;> omega, rfl, rfl, rfl, rfl, by omega, by omega, hb1, by omega, hlim2, HR5, HS5, HB5, HK5⟩
                    · have HC0 := IH.out blk off cap (mid + 1) b' len lim2 x4 w4 (by have := HN.out; omega) hxl hHX h0 (by omega) hbl hsz hlim2 HBR.out
                      rw [show ((mid + 1 : Nat) : Int) = (mid : Int) + 1 by omega] at HC0
                      have HC := Lib.hid HC0
                      clear hHX hxl hbz HC0
                      go_wp2_with fail
                      (with_reducible refine HC.out.mono ?_)
                      rintro e w5 ⟨rfl, y, hpy, hsy, hry⟩
                      obtain ⟨hBy, hky⟩ := HKR.out y hpy hsy
                      have HR5 := Lib.hid (HR4.out.trans hpy.1 hry)
                      have HS5 : Hid (y.size = d.size) := Lib.hid (by rw [hpy.1]; exact HS4.out)
                      have HB5 := Lib.hid hBy
                      have HK5 : Hid (∀ z, PermIn a' mid y z → SortedIn ltInt a' mid z → PermIn a b d z ∧ SortedIn ltInt a b z) := Lib.hid fun z h1 h2 => HCX3.out z (hky z h1 h2).1 (hky z h1 h2).2
                      clear hpy hsy hry hBy hky HC HR4
                      go_wp2
                      go_roundg (mid - a' + 1)
                      case measure => omega
                      case rel => exact ⟨a', mid, lim2, _, ap, y, rfl, rfl, rfl, rfl, rfl, ha1, hm1, by omega, by omega, hlim2, HR5, HS5, HB5, HK5⟩
end Go.Proofs.YtamcandcfainfaaGreat
/- maps.Keys of a map from uint64, slices.AppendSeq, slices.Collect of it: the keys, each once, in a row of the call's own. -/
namespace Go.Proofs.YtamcandcfainfaaGreat
open Go.RowKit Go.Maps Go.Sort
set_option maxRecDepth 100000

/-- The keys that came so far: each once; what the map has and is no longer to come. -/
def ColU (D : DataW Value) (left : Lit → Bool) (ss : List Nat) : Prop := ss.Nodup ∧ ∀ x : Nat, x ∈ ss ↔ (x < M64 ∧ Maps.has D (.int .u64 (x : Int)) = true ∧ left (.int .u64 (x : Int)) = false)
/-- All keys, each once. -/
def KeyU (D : DataW Value) (ss : List Nat) : Prop := ss.Nodup ∧ ∀ x : Nat, x ∈ ss ↔ (x < M64 ∧ Maps.has D (.int .u64 (x : Int)) = true)
section
variable {D : DataW Value} {left : Lit → Bool} {ss : List Nat}
theorem ColU.start (D : DataW Value) : ColU D (Maps.has D) [] := ⟨List.nodup_nil, fun x => by cases Maps.has D (.int .u64 (x : Int)) <;> simp⟩
theorem ColU.step (h : ColU D left ss) {x : Nat} {y : DataW Value} (hx : x < M64) (hlk : left (.int .u64 (x : Int)) = true) (hat : ∀ zd, D.atKey (.int .u64 (x : Int)) zd = y) : ColU D (fun z => left z && !z.sameKey (.int .u64 (x : Int))) (ss ++ [x]) := by
  have hhas : Maps.has D (.int .u64 (x : Int)) = true := has_true_of_atKey hat
  have hnew : x ∉ ss := fun hm => by have := ((h.2 x).1 hm).2.2; rw [hlk] at this; cases this
  refine ⟨List.nodup_append.2 ⟨h.1, by simp, fun a ha b hb => by simp at hb; subst hb; exact fun e => hnew (e ▸ ha)⟩, fun y => ?_⟩
  by_cases hy : y = x
  · subst hy; simp [hhas, hx, Lit.sameKey]
  · have : ¬ (y : Int) = (x : Int) := by omega
    simp [h.2 y, hy, Lit.sameKey, this]
theorem ColU.all (h : ColU D left ss) (hl : ∀ kl, left kl = false) : KeyU D ss := ⟨h.1, fun x => by rw [h.2 x, hl]; simp⟩
end
theorem key_u64 {P : Program} {k : TypeId} (hk : P.underlying k = some (.int .u64)) {key : Value} {kl : Lit} (h : keyOf P k key = some kl) : ∃ x : Nat, key = .int .u64 (x : Int) ∧ kl = .int .u64 (x : Int) ∧ x < M64 := by
  obtain ⟨x, h1, h2, h3⟩ := Maps.keyOf_int_inv hk h
  have e1 : IntKind.u64.min = 0 := rfl
  have e2 : IntKind.u64.max = 18446744073709551615 := rfl
  simp only [Lit.wf, e1, e2, Bool.and_eq_true, decide_eq_true_eq] at h3
  have hx : ((x.toNat : Nat) : Int) = x := Int.toNat_of_nonneg h3.1
  refine ⟨x.toNat, by rw [hx]; exact h1, by rw [hx]; exact h2, ?_⟩
  show x.toNat < 18446744073709551616
  omega

abbrev KU : TypeId := 41
theorem keyKU : Tryz.prog.underlying KU = some (.int .u64) := by kernel_rfl
abbrev encU (x : Nat) : Value := .int .u64 (x : Int)

set_option maxHeartbeats 2000000 in
/-- The iterator of maps.Keys, against whatever rounds. -/
theorem keysIn (n : Nat) (hn : 1 ≤ n) (l Bm b nn : Nat) (D0 : DataW Value) (J Jx : List Nat → World → Prop)
    (hY : ∀ pre x W, J pre W → pre.length < Maps.size D0 → YieldAt Fence.wide (n - 1) Tryz.prog l #[encU x] W fun e W' => (e = .returned (.bool true) ∧ J (pre ++ [x]) W' ∧ KeepsWalks W W') ∨ (e = .returned (.bool false) ∧ Jx (pre ++ [x]) W'))
    (W : World) (hJ : AbidesFrom W.heap.size J) (hm : W.cell? ⟨Bm, 0, none⟩ = some (.map (some b))) (hown : W.ownsMap Tryz.prog KU asIs b nn D0) (h0 : J [] W) :
    CallsIn Fence.wide n Tryz.prog 76 #[.func (.yield l) #[] #[], .pointer (some ⟨Bm, 0, none⟩)] W fun e W' => (∃ v, e = .returned v) ∧ ((∃ ss, KeyU D0 ss ∧ J ss W') ∨ (∃ pre, True ∧ Jx pre W')) := by
  refine callsIn_of_wp Tryz.func76 rfl trivial ?_ rfl
  simp only [Tryz.ntmps76, List.size_toArray, List.length_cons, List.length_nil, Nat.reduceAdd, Nat.reduceSub, Array.replicate_succ, Array.replicate_zero, List.push_toArray, List.append_toArray, List.nil_append, List.cons_append]
  gi_wp2_with (first
    | (gi_at_range; refine wpListIn_range_own _ rfl _ 97 rfl KU 35 (int_keyed keyKU) Tryz.underlying97 _ b nn _ rfl hown ?_; intro w0 hrg0 hg0 hs0)
    | gi_in)
  go_frame
  gi_loopw [3] (fun _ wr => ∃ (left : Lit → Bool) (cnt : Nat) (ss : List Nat), wr.ranges Tryz.prog KU asIs b W.heap.size nn D0 left cnt ∧ ss.length + cnt ≤ Maps.size D0 ∧ ColU D0 left ss ∧ J ss wr)
    (fun _ wr => wr.rangeLeft b W.heap.size)
  case atStart =>
    exact ⟨_, _, [], hrg0, by simp, ColU.start D0, hJ [] W w0 none h0 hg0 (fun r e => by cases e)⟩
  case round =>
    obtain ⟨left, cnt, ss, hrg, hcs, hC, hJs⟩ := hrel
    gi_wp2_with (first
      | (gi_at_next; refine wpListIn_next_ranges _ rfl _ rfl KU (int_keyed keyKU) asIs encU id (fun key kl hk => by obtain ⟨x, hx, _⟩ := key_u64 keyKU hk; exact ⟨x, hx⟩) (fun v _ _ => ⟨v, rfl⟩) b W.heap.size nn _ _ _ rfl hrg ?_ ?_)
      | gi_in)
    · intro hc0 hl0
      gi_wp2
      go_end0
      exact ⟨⟨_, rfl⟩, .inl ⟨ss, hC.all hl0, hJs⟩⟩
    · intro x c kl yd yp w2 cnt2 hkey hlk hv hat hrg2 hlt hg2 hs2 hen
      obtain ⟨x', ex, rfl, hx64⟩ := key_u64 keyKU hkey
      obtain rfl : x = x' := by have := ex; simp only [encU, Value.int.injEq] at this; omega
      have hJ2 : J ss w2 := hJ ss wr w2 (some W.heap.size) hJs hg2 (fun r e => by cases e; exact ⟨Nat.le_refl _, hrg.iter_walk⟩)
      obtain ⟨fn, tmps, assign, body, hy, hR⟩ := hY ss x w2 hJ2 (by omega)
      clear hs2
      gi_wp2
      refine hR.mono ?_
      rintro e W3 (⟨rfl, hJ3, hk3⟩ | ⟨rfl, hJ3⟩)
      · gi_wp2
        have hrg3 := hrg2.of_walks hk3
        go_roundw
        case rel => exact ⟨_, cnt2, ss ++ [x], hrg3, by simp; omega, hC.step hx64 hlk hat, hJ3⟩
        case measure => rw [hrg3.left_eq, hrg.left_eq]; exact hlt
      · gi_wp2
        exact bodyPost_ret (v := .tuple #[]) (by simp [results, Tryz.results76, go_sem]) rfl ⟨⟨_, rfl⟩, .inr ⟨_, trivial, hJ3⟩⟩

/-- maps.Keys hands back its iterator. -/
theorem keys_any (mb : Option Nat) (w : World) : Calls Tryz.prog 52 #[.map mb] w fun e w' => e = .returned (.func (.func 76) #[] #[.pointer (some ⟨w.heap.size, 0, none⟩)]) ∧ w' = w.alloc (.cells #[.map mb] 97) := by
  go_enter Tryz.func52, Tryz.ntmps52
  go_wp2
  go_ret
  exact ⟨rfl, rfl⟩

theorem infoU : (Tryz.prog.info? KU).map (fun i => (i.zero, i.size, i.bytes)) = some (some (.int .u64 0), 1, 8) := by kernel_rfl

/-- The iterator of a map's keys. -/
theorem keysSeq (n : Nat) (hn : 1 ≤ n) (Bm b nn : Nat) (D0 : DataW Value) (w : World) (hBm : Bm < w.heap.size) (hm : w.cell? ⟨Bm, 0, none⟩ = some (.map (some b))) (hown : w.ownsMap Tryz.prog KU asIs b nn D0) :
    SeqStopsA Fence.wide n Tryz.prog 76 #[.pointer (some ⟨Bm, 0, none⟩)] (fun x : Nat => #[encU x]) (KeyU D0) (fun _ => True) (Maps.size D0) w := by
  intro l J Jx W hW hJ hJx hY h0
  have hown' : W.ownsMap Tryz.prog KU asIs b nn D0 := by
    have hbl := hown.lt
    obtain ⟨es, clock, hb, Ft, hs, hD⟩ := hown
    exact ⟨es, clock, (hW.block b hbl).trans hb, Ft, hs, hD⟩
  exact keysIn n hn l Bm b nn D0 J Jx hY W hJ ((hW.cell (p := ⟨Bm, 0, none⟩) hBm).trans hm) hown' h0
set_option maxHeartbeats 2000000 in
/-- Of a nil map: nothing comes. -/
theorem keysSeqNil (n : Nat) (Bm : Nat) (w : World) (hBm : Bm < w.heap.size) (hm0 : w.cell? ⟨Bm, 0, none⟩ = some (.map none)) :
    SeqStopsA Fence.wide n Tryz.prog 76 #[.pointer (some ⟨Bm, 0, none⟩)] (fun x : Nat => #[encU x]) (fun ss => ss = []) (fun _ => True) 0 w := by
  intro l J Jx W hW hJ hJx hY h0
  have hm : W.cell? ⟨Bm, 0, none⟩ = some (.map none) := (hW.cell (p := ⟨Bm, 0, none⟩) hBm).trans hm0
  show CallsIn Fence.wide n Tryz.prog 76 #[.func (.yield l) #[] #[], .pointer (some ⟨Bm, 0, none⟩)] W _
  refine callsIn_of_wp Tryz.func76 rfl trivial ?_ rfl
  simp only [Tryz.ntmps76, List.size_toArray, List.length_cons, List.length_nil, Nat.reduceAdd, Nat.reduceSub, Array.replicate_succ, Array.replicate_zero, List.push_toArray, List.append_toArray, List.nil_append, List.cons_append]
  have hrg := run_range_nilMap (P := Tryz.prog) W 97 KU 35 Tryz.underlying97
  have hnx : ∀ ty, (Instr.next (.pointer (some ⟨W.heap.size, 0, none⟩)) false ty).run Tryz.prog (W.alloc (.mapIter none 0 #[] 0)) = _ := fun ty => run_next_nilMap _ ty 0 0 #[]
  gi_wp2
  refine wpIn_loop_rounds 1 ?_
  rw [roundsIn_succ]
  gi_wp2
  go_end0
  exact ⟨⟨_, rfl⟩, .inl ⟨[], rfl, hJ [] W _ none h0 (World.grownBy_alloc W _ none) (fun r e => by cases e)⟩⟩

set_option maxHeartbeats 4000000 in
/-- slices.AppendSeq of the keys: a row of the call's own. -/
theorem appendSeqIn (n : Nat) (hn : 3 ≤ n) (Bm N : Nat) (S : List Nat → Prop) (w : World) (hseq : SeqStopsA Fence.wide (n - 1) Tryz.prog 76 #[.pointer (some ⟨Bm, 0, none⟩)] (fun x : Nat => #[encU x]) S (fun _ => True) N w) (hN : N * 8 ≤ 140737488355328) :
    CallsIn Fence.wide n Tryz.prog 90 #[.slice none 0 0, .func (.func 76) #[] #[.pointer (some ⟨Bm, 0, none⟩)]] w fun e w' =>
      ∃ (v : Value) (ss : List Nat), e = .returned v ∧ S ss ∧ w'.ownsRow w.heap.size KU 1 v ss.length (ss.map encU) ∧ (v = .slice none 0 0 ↔ ss = []) ∧ ss.length ≤ N ∧ Go.RowKit.Below w.heap.size w w' := by
  obtain ⟨i0, hi, hz0, hz1, hz2⟩ := info_parts infoU
  have hne : 110 ≠ KU := by decide
  refine callsIn_of_wp_marks Tryz.func90 rfl trivial ?_ rfl
  simp only [Tryz.ntmps90, List.size_toArray, List.length_cons, List.length_nil, Nat.reduceAdd, Nat.reduceSub, Array.replicate_succ, Array.replicate_zero, List.push_toArray, List.append_toArray, List.nil_append, List.cons_append]
  gi_wp2
  obtain ⟨W0, hW0⟩ : ∃ W0, W0 = w.alloc (.cells #[.slice none 0 0] 110) := ⟨_, rfl⟩
  have hb0 : Go.RowKit.Below w.heap.size w W0 := by rw [hW0]; exact (Go.RowKit.Below.refl _ w).alloc (Nat.le_refl _) _
  have hbx : Boxed W0 w.heap.size 110 (.slice none 0 0) := by rw [hW0]; exact Boxed.new w _ _
  have hs0 : W0.heap.size = w.heap.size + 1 := by rw [hW0]; simp
  rw [← hW0]
  refine wpIn_rangeFunc_ownF rfl (by omega) (gf := 76) (lb := #[.pointer (some ⟨Bm, 0, none⟩)]) rfl trivial (enters_of Tryz.func76 (by kernel_rfl) rfl)
    (seqStopsA_iff.1 hseq) walksK_t (fun W l o o' _ h _ hw => KeepsWalks.putObj _ h hw) hb0 (fun _ => rfl)
    (fun pre W => (∃ v, Boxed W w.heap.size 110 v ∧ W.ownsRow w.heap.size KU 1 v pre.length (pre.map encU) ∧ (v = .slice none 0 0 ↔ pre = [])) ∧ Go.RowKit.Below w.heap.size w W ∧ pre.length ≤ N)
    (fun _ _ _ => False)
    (((holdsRow_own w.heap.size w.heap.size 110 KU 1 (fun pre : List Nat => pre.length) (fun pre => pre.map encU) (fun pre v => v = .slice none 0 0 ↔ pre = [])).from _).and ((ownFrom_below (Nat.le_refl _) (by omega)).and (fun _ _ _ _ hs _ _ => hs)))
    (fun _ _ _ _ _ hs _ _ => hs)
    ⟨⟨_, hbx, World.ownsRow_nil _ _ _ _, by simp⟩, hb0, Nat.zero_le _⟩
    (fun x => { tmps := #[.slice none 0 0, .func (.func 76) #[] #[.pointer (some ⟨Bm, 0, none⟩)], .pointer (some ⟨w.heap.size, 0, none⟩), undef, .slice none 0 0, encU x, .func (.func 76) #[] #[.pointer (some ⟨Bm, 0, none⟩)], encU x, undef, undef, undef, undef, undef], defers := [] }) ?assign ?body ?done ?stop
  case assign =>
    intro l x W K hK
    gi_wp2_with (rw [Oper.semAt_eq _ _ _ (fun c h => by cases h)]; go_simp; try go_bits)
    exact hK
  case body =>
    rintro l pre x W ⟨⟨v, hv, hrow, hnil⟩, hb, _⟩ hlen
    have hc := hv.cell
    have hfz := hv.frozen
    gi_wp2_with (first
      | (gi_at_builtin; refine wpListIn_append_own _ rfl _ _ 110 rfl w.heap.size KU i0 (.int .u64 0) 1 8 Tryz.underlying110 hi hz0 hz1 hz2 rfl (by decide) _ _ _ rfl (hrow.alloc _) ⟨W.heap.size, 0, none⟩ 1 1 [encU x] rfl rfl (cell_one_new _ _ _) (by simp [Value.oneCell']) (by unfold maxLen; omega) (by omega) (by have := hb.size; simp; omega) ?_; intro v' w3 hown' hg3 hnil3
         obtain ⟨hv1, hv2, hr2, hk2, hb2⟩ := hv.appended hne hrow hb.size (Nat.le_refl _) hown' hg3
         obtain ⟨g', cap', rfl⟩ := ownsRow_succ hown'
         have hc3 := hv1.cell
         have hf3 := hv1.frozen
         go_frame)
      | (rw [Oper.semAt_eq _ _ _ (fun c h => by cases h)]; go_simp; try go_bits))
    exact ⟨hk2, hk2.walks, ⟨_, hv2, by simpa using hr2, by simp⟩, hb.trans hb2, by simp; omega⟩
  case done =>
    rintro D xs W hD hS ⟨⟨v, hv, hrow, hnil⟩, hb, hxl⟩ hK
    have hc := hv.cell
    gi_wp2
    refine ⟨by simp, .inl ⟨_, _, rfl, run_takeDeferred hK, ?_⟩⟩
    exact ⟨_, results_tmp rfl _ _ _, v, xs, rfl, hS, ownsRow_putObj hrow _ hK rfl, hnil, hxl, hb.grown (grownBy_putObj' _ _ _) hb.size (fun k e => by cases e; omega)⟩
  case stop =>
    rintro D c pre W _ _ h _
    exact h.elim

/-- slices.Collect of the keys. -/
theorem collect_any (Bm N : Nat) (S : List Nat → Prop) (w : World) (hseq : SeqStopsA Fence.wide 4 Tryz.prog 76 #[.pointer (some ⟨Bm, 0, none⟩)] (fun x : Nat => #[encU x]) S (fun _ => True) N w) (hN : N * 8 ≤ 140737488355328) :
    Calls Tryz.prog 74 #[.func (.func 76) #[] #[.pointer (some ⟨Bm, 0, none⟩)]] w fun e w' =>
      ∃ (v : Value) (ss : List Nat), e = .returned v ∧ S ss ∧ w'.ownsRow w.heap.size KU 1 v ss.length (ss.map encU) ∧ (v = .slice none 0 0 ↔ ss = []) ∧ ss.length ≤ N ∧ Go.RowKit.Below w.heap.size w w' := by
  have HC := Lib.hid ((callsIn_wide (n := 5)).1 (appendSeqIn 5 (by omega) Bm N S w hseq hN))
  clear hseq hN
  go_enter Tryz.func74, Tryz.ntmps74
  go_wp2_with fail
  (with_reducible refine HC.out.mono ?_)
  rintro e w' ⟨v, ss, rfl, h⟩
  have H := Lib.hid h
  clear h HC
  go_wp2
  go_ret
  exact ⟨v, ss, rfl, H.out⟩
end Go.Proofs.YtamcandcfainfaaGreat
/- slices.Sort, slices.Sorted of a map's keys at uint64: all keys, rising. -/
namespace Go.Proofs.YtamcandcfainfaaGreat
open Go.RowKit Go.Maps Go.Sort
set_option maxRecDepth 100000

set_option maxHeartbeats 2000000 in
theorem sort_any (blk off cap len : Nat) (d : Array Int) (w : World) (hlen : d.size = len) (hH : Holds u6 w blk off d) (h0 : 0 < len) (hsz : len < 4611686018427387904) :
    Calls Tryz.prog 75 #[.slice (some ⟨blk, off, none⟩) len cap] w (PEnd w blk off 0 len d) := by
  have hL := Tryz.bits_Len (len : Int) w (by omega) (by omega)
  rw [Int.toNat_natCast, bitLen_eq _ (by omega)] at hL
  have hk : bitsLen len ≤ 62 := (bitsLen_le_iff len 62).2 (by omega)
  obtain ⟨k, hke⟩ : ∃ k, k = bitsLen len := ⟨_, rfl⟩
  rw [← hke] at hL hk
  have HL := Lib.hid hL
  have HP := Lib.hid (pdq_any (len + 1) blk off cap 0 len len k d w (by omega) hlen hH h0 (by omega) (Nat.le_refl _) hsz (by omega) (.inl rfl))
  rw [show ((0 : Nat) : Int) = 0 from rfl] at HP
  have wr : IntKind.u64.wrap (len : Int) = len := by rw [IntKind.wrap_u64]; omega
  obtain ⟨Q, hQ⟩ : ∃ Q, Q = PEnd w blk off 0 len d := ⟨_, rfl⟩
  have HQ := Lib.hid hQ
  rw [← hQ] at HP ⊢
  clear hL hke hlen hH h0 hsz hQ
  go_enter Tryz.func75, Tryz.ntmps75
  go_wp2_with fail
  (with_reducible refine HL.out.mono ?_)
  rintro e w' ⟨rfl, rfl⟩
  go_wp2_with fail
  (with_reducible refine HP.out.mono ?_)
  intro e w2 hq
  have he : e = .returned (.tuple #[]) := by have := hq; rw [HQ.out] at this; exact this.1
  subst he
  have HE := Lib.hid hq
  clear hq HP HL
  go_wp2
  go_end0
  exact HE.out

set_option maxHeartbeats 2000000 in
theorem ins_nil (w : World) : Calls Tryz.prog 98 #[.slice none 0 0, .int .i64 0, .int .i64 0] w fun e w' => e = .returned (.tuple #[]) ∧ w' = w := by
  go_enter Tryz.func98, Tryz.ntmps98
  go_wp2
  refine wp_loop_rounds 1 ?_
  rw [rounds_succ]
  go_wp2
  go_end0
  exact ⟨rfl, rfl⟩
set_option maxHeartbeats 2000000 in
theorem pdq_nil (k : Int) (w : World) : Calls Tryz.prog 91 #[.slice none 0 0, .int .i64 0, .int .i64 0, .int .i64 k] w fun e w' => e = .returned (.tuple #[]) ∧ w' = w := by
  go_enter Tryz.func91, Tryz.ntmps91
  go_wp2_with fail
  refine wp_loop_rounds 1 ?_
  rw [rounds_succ]
  go_wp2_with fail
  (with_reducible refine (ins_nil _).mono ?_)
  rintro e w' ⟨rfl, rfl⟩
  go_wp2
  exact bodyPost_ret (v := .tuple #[]) (by simp [results, Tryz.results91, go_sem]) rfl ⟨rfl, rfl⟩
set_option maxHeartbeats 2000000 in
theorem sort_nil (w : World) : Calls Tryz.prog 75 #[.slice none 0 0] w fun e w' => e = .returned (.tuple #[]) ∧ w' = w := by
  have hL := Tryz.bits_Len 0 w (by omega) (by omega)
  have HL := Lib.hid hL
  clear hL
  go_enter Tryz.func75, Tryz.ntmps75
  go_wp2_with fail
  (with_reducible refine HL.out.mono ?_)
  rintro e w' ⟨rfl, rfl⟩
  go_wp2_with fail
  (with_reducible refine (pdq_nil _ _).mono ?_)
  rintro e w' ⟨rfl, rfl⟩
  go_wp2
  go_end0
  exact ⟨rfl, rfl⟩

/-- A sorted row of numbers as a list. -/
theorem sorted_list {ss : List Nat} {x : Array Int} (hp : PermIn 0 ss.length (ss.map (fun n : Nat => (n : Int))).toArray x) (hs : SortedIn ltInt 0 ss.length x) :
    ∃ L : List Nat, L.Perm ss ∧ L.Pairwise (· ≤ ·) ∧ L.length = ss.length ∧ ∀ t, t < ss.length → x[t]! = ((L.getD t 0 : Nat) : Int) := by
  have hsz : x.size = ss.length := by rw [hp.1]; simp
  have hperm : x.toList.Perm (ss.map (fun n : Nat => (n : Int))) := by
    have h := hp.2.2
    have e1 : x.extract 0 ss.length = x := by rw [← hsz]; simp
    have e2 : (ss.map (fun n : Nat => (n : Int))).toArray.extract 0 ss.length = (ss.map (fun n : Nat => (n : Int))).toArray := by
      simp only [List.extract_toArray, List.extract_eq_take_drop, List.drop_zero, Nat.sub_zero, List.take_of_length_le (show (ss.map (fun n : Nat => (n : Int))).length ≤ ss.length by simp)]
    rw [e1, e2] at h
    simpa using h
  have hpos : ∀ y ∈ x.toList, 0 ≤ y := fun y hy => by
    obtain ⟨n, _, rfl⟩ := List.mem_map.1 (hperm.mem_iff.1 hy)
    omega
  refine ⟨x.toList.map Int.toNat, ?_, ?_, by simp [hsz], fun t ht => ?_⟩
  · have h := hperm.map Int.toNat
    rw [List.map_map] at h
    have : (Int.toNat ∘ fun n : Nat => (n : Int)) = id := by funext n; simp
    rwa [this, List.map_id] at h
  · rw [List.pairwise_map]
    refine List.pairwise_iff_getElem.2 fun i j hi hj hij => ?_
    have hi' : i < x.size := by simpa using hi
    have hj' : j < x.size := by simpa using hj
    have h := hs i j (by omega) hij (by omega)
    simp only [ltInt, decide_eq_false_iff_not] at h
    rw [getElem!_pos x i hi', getElem!_pos x j hj'] at h
    have h1 : x.toList[i] = x[i] := by simp
    have h2 : x.toList[j] = x[j] := by simp
    rw [h1, h2]
    omega
  · have ht' : t < x.size := by omega
    rw [getElem!_pos x t ht']
    have h1 : (x.toList.map Int.toNat).getD t 0 = (x[t]).toNat := by
      simp [List.getD, ht']
    rw [h1]
    have := hpos x[t] (by simp)
    omega

/-- What slices.Sorted hands back: what came, rising. -/
def SortEnd (w : World) (S : List Nat → Prop) (e : Ending) (w' : World) : Prop :=
  ∃ (a : Option Addr) (cap : Nat) (L ss : List Nat), e = .returned (.slice a L.length cap) ∧ S ss ∧ L.Perm ss ∧ L.Pairwise (· ≤ ·) ∧ (L ≠ [] → ∃ g, a = some ⟨g, 0, none⟩ ∧ ∀ t, t < L.length → w'.cell? ⟨g, t, none⟩ = some (encU (L.getD t 0))) ∧ Frm [] w w'

set_option maxHeartbeats 4000000 in
theorem sorted_any (Bm N : Nat) (S : List Nat → Prop) (w : World) (hseq : SeqStopsA Fence.wide 4 Tryz.prog 76 #[.pointer (some ⟨Bm, 0, none⟩)] (fun x : Nat => #[encU x]) S (fun _ => True) N w) (hN : N * 8 ≤ 140737488355328) :
    Calls Tryz.prog 51 #[.func (.func 76) #[] #[.pointer (some ⟨Bm, 0, none⟩)]] w (SortEnd w S) := by
  have HC := Lib.hid (collect_any Bm N S w hseq hN)
  clear hseq
  obtain ⟨Q, hQ⟩ : ∃ Q, Q = SortEnd w S := ⟨_, rfl⟩
  have HQ := Lib.hid hQ
  rw [← hQ]
  clear hQ
  go_enter Tryz.func51, Tryz.ntmps51
  go_wp2_with fail
  (with_reducible refine HC.out.mono ?_)
  rintro e w1 ⟨v, ss, rfl, hS, hrow, hnil, hxl, hb⟩
  have hf1 : Frm [] w w1 := Frm.ofBelow hb
  rcases hrow.2 with ⟨rfl, hz⟩ | ⟨g, cap, cur, rfl, hbase, hgb, r1, r2, r3, r4⟩
  · have hss : ss = [] := List.eq_nil_of_length_eq_zero hz
    have HE : Hid (Q (.returned (.slice none 0 0)) w1) := Lib.hid (by
      rw [HQ.out]
      exact ⟨none, 0, [], ss, rfl, hS, by rw [hss], List.Pairwise.nil, fun h => absurd rfl h, hf1⟩)
    clear hS hrow hnil hb hf1 hss HC
    go_wp2_with fail
    (with_reducible refine (sort_nil _).mono ?_)
    rintro e w' ⟨rfl, rfl⟩
    go_wp2
    exact HE.out
  · obtain ⟨n, hn⟩ : ∃ n, n = ss.length := ⟨_, rfl⟩
    have hcells : ∀ t, t < ss.length → w1.cell? ⟨g, t, none⟩ = some (encU (ss.getD t 0)) := fun t ht => by
      have h1 : cur[t]? = some (encU (ss.getD t 0)) := by
        have h2 : (cur.toList.take (ss.length * 1))[t]? = (ss.map encU)[t]? := by rw [r4]
        rw [List.getElem?_take_of_lt (by omega)] at h2
        rw [← Array.getElem?_toList, h2]
        simp [ht]
      simp [World.cell?, hgb, h1]
    have hfro : ∀ t, w1.frozen? ⟨g, t, none⟩ = false := fun t => by simp [World.frozen?, hgb]
    by_cases h0 : ss.length = 0
    · -- nothing is there, but a block
      have hss : ss = [] := List.eq_nil_of_length_eq_zero h0
      exact absurd (hnil.2 hss) (by simp)
    · have hH : Holds u6 w1 g 0 (ss.map (fun n : Nat => (n : Int))).toArray := by
        intro t ht
        have ht' : t < ss.length := by simpa using ht
        rw [Nat.zero_add]
        refine ⟨?_, hfro t⟩
        rw [hcells t ht', getElem!_pos _ t (by simpa using ht')]
        simp [ht']
      have hcm : ss.length < 4611686018427387904 := by
        omega
      have HS := Lib.hid (sort_any g 0 cap ss.length _ w1 (by simp) hH (by omega) hcm)
      have HFIN : Hid (∀ z x, PermIn 0 ss.length (ss.map (fun n : Nat => (n : Int))).toArray x → SortedIn ltInt 0 ss.length x → RW w1 z g 0 x → Q (.returned (.slice (some ⟨g, 0, none⟩) n cap)) z) := Lib.hid fun z x hp hs hr => by
        obtain ⟨L, hL1, hL2, hL3, hL4⟩ := sorted_list hp hs
        have hHz := hr.holds hH hp.1
        rw [HQ.out]
        refine ⟨some ⟨g, 0, none⟩, cap, L, ss, by rw [hL3, hn], hS, hL1, hL2, fun _ => ⟨g, rfl, fun t ht => ?_⟩, ?_⟩
        · have h1 := (hHz t (by rw [hp.1]; simp; omega)).1
          rw [Nat.zero_add] at h1
          rw [h1, hL4 t (by omega)]
        · have hfr : Frm [g] w1 z := by
            have h1 : Frm [g] w1 (rowW w1 0 g 0 x) := by
              refine ⟨rfl, rfl, rfl, by rw [rowW_size]; exact Nat.le_refl _, fun k hk hkn => ?_⟩
              show (w1.heap.modify g _)[k]? = w1.heap[k]?
              rw [Array.getElem?_modify, if_neg (fun h => hkn (by simp [h]))]
            exact h1.trans hr (fun y hy => hy) (by simp)
          exact hf1.trans hfr (by simp) (fun y hy => .inr (by simp at hy; subst hy; exact hbase))
      rw [← hn] at HS HFIN ⊢
      clear hS hrow hnil hb hf1 hcells hfro h0 hH hcm hn hgb r1 r2 r3 r4 HC
      go_wp2_with fail
      (with_reducible refine HS.out.mono ?_)
      rintro e w2 ⟨rfl, x, hp, hs, hr⟩
      have HE := Lib.hid (HFIN.out w2 x hp hs hr)
      clear hp hs hr HS HFIN
      go_wp2
      exact HE.out
end Go.Proofs.YtamcandcfainfaaGreat
/- Rows of the call's own of elements of several cells each; appending cells to them, also to a slice without spare room. They speak of no program. -/
namespace Go.Proofs.YtamcandcfainfaaGreat
open Go.RowKit

section
variable {P : Program} {w : World}
/-- What appending the cells us (m elements) to an owned value leaves. -/
structure AppS (w w' : World) (base : Nat) (e : TypeId) (sz : Nat) (v : Value) (n m : Nat) (xs us : List Value) (a' : Option Addr) (cap' : Nat) : Prop where
  own : w'.ownsRow base e sz (.slice a' (n + m) cap') (n + m) (xs ++ us)
  grown : w.grownBy w' v.ownBlock
  place : (Value.slice a' (n + m) cap').ownBlock = v.ownBlock ∨ (Value.slice a' (n + m) cap').ownBlock = some w.heap.size
theorem slice_shape {w : World} {base : Nat} {e : TypeId} {sz n : Nat} {v : Value} {xs : List Value} (h : w.ownsRow base e sz v n xs) : ∃ a cap, v = .slice a n cap := by
  rcases h.2 with ⟨hv, h0⟩ | ⟨g, cap', cur, hv, _⟩
  · exact ⟨none, 0, by rw [hv, h0]⟩
  · exact ⟨_, cap', hv⟩

theorem run_appS (base : Nat) (t ty e : TypeId) (i : TypeInfo) (z : Value) (sz by' : Nat) (ht : P.underlying t = some (.slice e)) (hi : P.info? e = some i) (hz : i.zero = some z) (hz1 : z.cells.size = sz) (hsz : 0 < sz)
    (hsize : i.size = sz) (hby : i.bytes = by') (hb : by' ≤ 100) (v : Value) (n : Nat) (xs : List Value) (hown : w.ownsRow base e sz v n xs)
    (ad : Option Addr) (m c : Nat) (us : List Value) (hB : ValsAt w ad us) (hm : us.length = m * sz) (hone : ∀ u ∈ us, u.oneCell' = true) (hnil : ad = none → c = 0)
    (hfit : n + m ≤ 1000000000) (hbase : base ≤ w.heap.size) :
    ∃ a' cap' w', (Builtin.append_ #[t, t] ty #[v, .slice ad m c]).run P w = .ok (.slice a' (n + m) cap') w' ∧ AppS w w' base e sz v n m xs us a' cap' := by
  cases ad with
  | none =>
    have hc0 := hnil rfl
    subst hc0
    have hl0 : us = [] := by
      rcases hB with h | ⟨_, _, h, _⟩
      · exact h
      · cases h
    subst hl0
    have hm0 : m = 0 := by
      rcases Nat.eq_zero_or_pos m with h | h
      · exact h
      · have := Nat.mul_pos h hsz; simp at hm; omega
    subst hm0
    obtain ⟨a', cap', hv⟩ := slice_shape hown
    subst hv
    exact ⟨a', cap', w, run_append_owned_none (P := P) (w := w) base t ty e i sz ht hi _ n xs hown, by simpa using hown, World.grownBy.refl _ _, .inl rfl⟩
  | some x =>
    have hnews : ∀ j u, us[j]? = some u → w.cell? (x.add j) = some u := by
      rcases hB with h | ⟨b, off, h, hh⟩
      · subst h; intro j u hu; simp at hu
      · cases h
        intro j u hu
        rw [addr_add]
        exact hh j u hu
    obtain ⟨v', w', hr, ho, hg, _, hpl⟩ := run_append_own_at (P := P) w base t ty e i z sz by' ht hi hz hsize hby hz1 hsz v n xs hown x m c us hm hnews hone (by unfold maxLen; omega)
      (by have := Nat.mul_le_mul hfit hb; omega) hbase
    obtain ⟨a', cap', hv⟩ := slice_shape ho
    subst hv
    exact ⟨a', cap', w', hr, ho, hg, hpl⟩

theorem wpList_appS {ops : Array Oper} {rest : List Oper} {o : Oper} {a : Act} {Q : Exit → Act → World → Prop} (hw : Region.wanted o (yielded ops a.tmps) = true) (s x : Operand) (t : TypeId)
    (ho : o.op = .call { callee := .builtin .append, args := #[s, x], argTypes := #[t, t] })
    (base : Nat) (e : TypeId) (i : TypeInfo) (z : Value) (sz by' : Nat) (ht : P.underlying t = some (.slice e)) (hi : P.info? e = some i) (hz : i.zero = some z) (hz1 : z.cells.size = sz) (hsz : 0 < sz)
    (hsize : i.size = sz) (hby : i.bytes = by') (hb : by' ≤ 100) (v : Value) (n : Nat) (xs : List Value) (hs : a.eval s = v) (hown : w.ownsRow base e sz v n xs)
    (ad : Option Addr) (m c : Nat) (us : List Value) (hx : a.eval x = .slice ad m c) (hB : ValsAt w ad us) (hm : us.length = m * sz) (hone : ∀ u ∈ us, u.oneCell' = true) (hnil : ad = none → c = 0)
    (hfit : n + m ≤ 1000000000) (hbase : base ≤ w.heap.size)
    (h : ∀ a' cap' w', AppS w w' base e sz v n m xs us a' cap' → wpList P ops Q rest (a.put o.dst (.slice a' (n + m) cap')) w') : wpList P ops Q (o :: rest) a w := by
  refine wpList_step fun K hK => ?_
  rw [if_pos hw]
  obtain ⟨a', cap', w', hr, h2⟩ := run_appS (P := P) base t o.type e i z sz by' ht hi hz hz1 hsz hsize hby hb v n xs hown ad m c us hB hm hone hnil hfit hbase
  unfold Oper.wp execOp
  simp only [ho, resolve, invoke, builtin, Sem.run_bind, Sem.run_pure, Result.andThen_ok, List.map_toArray, List.map_cons, List.map_nil, hs, hx, hr]
  exact hK _ _ (h a' cap' w' h2)

theorem step_appS {ops : Array Oper} {o : Oper} {a : Act} {K : Act → World → Prop} {Q : Exit → Act → World → Prop} {E : Prop} (hw : Region.wanted o (yielded ops a.tmps) = true) (s x : Operand) (t : TypeId)
    (ho : o.op = .call { callee := .builtin .append, args := #[s, x], argTypes := #[t, t] })
    (base : Nat) (e : TypeId) (i : TypeInfo) (z : Value) (sz by' : Nat) (ht : P.underlying t = some (.slice e)) (hi : P.info? e = some i) (hz : i.zero = some z) (hz1 : z.cells.size = sz) (hsz : 0 < sz)
    (hsize : i.size = sz) (hby : i.bytes = by') (hb : by' ≤ 100) (v : Value) (n : Nat) (xs : List Value) (hs : a.eval s = v) (hown : w.ownsRow base e sz v n xs)
    (ad : Option Addr) (m c : Nat) (us : List Value) (hx : a.eval x = .slice ad m c) (hB : ValsAt w ad us) (hm : us.length = m * sz) (hone : ∀ u ∈ us, u.oneCell' = true) (hnil : ad = none → c = 0)
    (hfit : n + m ≤ 1000000000) (hbase : base ≤ w.heap.size) (k : Nat) (hk : n + m = k)
    (h : ∀ a' cap' w', AppS w w' base e sz v n m xs us a' cap' → K (a.put o.dst (.slice a' k cap')) w') :
    if Region.wanted o (yielded ops a.tmps) = true then Oper.wp P o a w K Q else E := by
  subst hk
  rw [if_pos hw]
  obtain ⟨a', cap', w', hr, h2⟩ := run_appS (P := P) base t o.type e i z sz by' ht hi hz hz1 hsz hsize hby hb v n xs hown ad m c us hB hm hone hnil hfit hbase
  unfold Oper.wp execOp
  simp only [ho, resolve, invoke, builtin, Sem.run_bind, Sem.run_pure, Result.andThen_ok, List.map_toArray, List.map_cons, List.map_nil, hs, hx, hr]
  exact h a' cap' w' h2

/-- Appending something to a slice without spare room: a row of the call's own, the slice as it was. -/
theorem run_appT (base : Nat) (t ty e : TypeId) (i : TypeInfo) (z : Value) (sz by' : Nat) (ht : P.underlying t = some (.slice e)) (hi : P.info? e = some i) (hz : i.zero = some z) (hz1 : z.cells.size = sz) (hsz : 0 < sz)
    (hsize : i.size = sz) (hby : i.bytes = by') (hb : by' ≤ 100) (sa : Option Addr) (n : Nat) (xs : List Value) (hS : ValsAt w sa xs) (hxn : xs.length = n * sz)
    (ad : Option Addr) (m c : Nat) (us : List Value) (hB : ValsAt w ad us) (hm : us.length = m * sz) (hone : ∀ u ∈ us, u.oneCell' = true) (hm0 : 0 < m)
    (hfit : n + m ≤ 1000000000) (hbase : base ≤ w.heap.size) (hnil : sa = none → n = 0) :
    ∃ a' cap' w', (Builtin.append_ #[t, t] ty #[.slice sa n n, .slice ad m c]).run P w = .ok (.slice a' (n + m) cap') w' ∧ w'.ownsRow base e sz (.slice a' (n + m) cap') (n + m) (xs ++ us) ∧ Frm [] w w' ∧ ∀ g ∈ blk a', w.heap.size ≤ g := by
  have hune : us ≠ [] := by
    intro h0
    have := Nat.mul_pos hm0 hsz
    rw [h0] at hm; simp at hm; omega
  obtain ⟨b, off, rfl, hh⟩ : ∃ b off, ad = some ⟨b, off, none⟩ ∧ ∀ i u, us[i]? = some u → w.cell? ⟨b, off + i, none⟩ = some u := by
    rcases hB with h | h
    · exact absurd h hune
    · exact h
  have hnews : ∀ j u, us[j]? = some u → w.cell? ((⟨b, off, none⟩ : Addr).add j) = some u := fun j u hu => by rw [addr_add]; exact hh j u hu
  cases sa with
  | none =>
    have hn0 := hnil rfl
    subst hn0
    have hx0 : xs = [] := List.eq_nil_of_length_eq_zero (by simpa using hxn)
    subst hx0
    obtain ⟨a', cap', w', hr, h⟩ := run_appS (P := P) base t ty e i z sz by' ht hi hz hz1 hsz hsize hby hb (.slice none 0 0) 0 [] (World.ownsRow_nil w base e sz) (some ⟨b, off, none⟩) m c us (.inr ⟨b, off, rfl, hh⟩) hm hone (fun h => by cases h) hfit hbase
    refine ⟨a', cap', w', hr, h.own, (Frm.refl _ _).grown h.grown (fun k hk => by simp [Value.ownBlock] at hk), fun g hg => ?_⟩
    obtain ⟨y, rfl, rfl⟩ := mem_blk.1 hg
    rcases h.place with h | h <;> simp [Value.ownBlock] at h
    omega
  | some y =>
    have holds : ∀ j u, xs[j]? = some u → w.cell? (y.add j) = some u := by
      rcases hS with h | ⟨b', off', h, hc⟩
      · subst h; intro j u hu; simp at hu
      · cases h
        intro j u hu
        rw [addr_add]
        exact hc j u hu
    obtain ⟨v', w', hr, ho, hgr⟩ := run_append_arg_grows (P := P) w t ty e i z sz by' ht hi hz hsize hby hz1 hsz y n n xs hxn holds ⟨b, off, none⟩ m c us hm hnews (by omega) (by unfold maxLen; omega) (by have := Nat.mul_le_mul hfit hb; omega)
    obtain ⟨a', cap', hv⟩ := slice_shape ho
    subst hv
    have hlt := World.ownsRow.lt ho
    refine ⟨a', cap', w', hr, ⟨ho.1, ?_⟩, (Frm.refl _ _).grown hgr (fun k hk => by cases hk), fun g hg => ?_⟩
    · rcases ho.2 with h | ⟨g, cap, cur, hv, hb', r⟩
      · exact .inl h
      · exact .inr ⟨g, cap, cur, hv, by omega, r⟩
    · obtain ⟨q, rfl, rfl⟩ := mem_blk.1 hg
      exact (hlt q.block rfl).1

theorem step_appT {ops : Array Oper} {o : Oper} {a : Act} {K : Act → World → Prop} {Q : Exit → Act → World → Prop} {E : Prop} (hw : Region.wanted o (yielded ops a.tmps) = true) (s x : Operand) (t : TypeId)
    (ho : o.op = .call { callee := .builtin .append, args := #[s, x], argTypes := #[t, t] })
    (base : Nat) (e : TypeId) (i : TypeInfo) (z : Value) (sz by' : Nat) (ht : P.underlying t = some (.slice e)) (hi : P.info? e = some i) (hz : i.zero = some z) (hz1 : z.cells.size = sz) (hsz : 0 < sz)
    (hsize : i.size = sz) (hby : i.bytes = by') (hb : by' ≤ 100) (sa : Option Addr) (n : Nat) (xs : List Value) (hs : a.eval s = .slice sa n n) (hS : ValsAt w sa xs) (hxn : xs.length = n * sz)
    (ad : Option Addr) (m c : Nat) (us : List Value) (hx : a.eval x = .slice ad m c) (hB : ValsAt w ad us) (hm : us.length = m * sz) (hone : ∀ u ∈ us, u.oneCell' = true) (hm0 : 0 < m)
    (hfit : n + m ≤ 1000000000) (hbase : base ≤ w.heap.size) (hnil : sa = none → n = 0) (k : Nat) (hk : n + m = k)
    (h : ∀ a' cap' w', w'.ownsRow base e sz (.slice a' k cap') k (xs ++ us) → Frm [] w w' → (∀ g ∈ blk a', w.heap.size ≤ g) → K (a.put o.dst (.slice a' k cap')) w') :
    if Region.wanted o (yielded ops a.tmps) = true then Oper.wp P o a w K Q else E := by
  subst hk
  rw [if_pos hw]
  obtain ⟨a', cap', w', hr, h2, h3, h4⟩ := run_appT (P := P) base t o.type e i z sz by' ht hi hz hz1 hsz hsize hby hb sa n xs hS hxn ad m c us hB hm hone hm0 hfit hbase hnil
  unfold Oper.wp execOp
  simp only [ho, resolve, invoke, builtin, Sem.run_bind, Sem.run_pure, Result.andThen_ok, List.map_toArray, List.map_cons, List.map_nil, hs, hx, hr]
  exact h a' cap' w' h2 h3 h4
end
end Go.Proofs.YtamcandcfainfaaGreat
/- Lists of nodes (a key, a value, a version, an owner): what they read as, rows of the call's own of them. -/
namespace Go.Proofs.YtamcandcfainfaaGreat
open Go.RowKit

/-- A node. -/
structure Nd where
  k : ByteArray := ⟨#[]⟩
  v : List Nat := []
  ver : Nat := 0
  own : Nat := 0
/-- A node, and where its value lies. -/
structure Nx where
  t : Nd := {}
  a : Option Addr := none
  c : Nat := 0
instance : Inhabited Nx := ⟨{}⟩
def Nx.cells (x : Nx) : List Value := [.string x.t.k, .slice x.a x.t.v.length x.c, .int .u64 (x.t.ver : Nat), .int .u64 (x.t.own : Nat)]
def nc (X : List Nx) : List Value := X.flatMap Nx.cells
theorem nc_append (X Y : List Nx) : nc (X ++ Y) = nc X ++ nc Y := by simp [nc]
theorem nc_cons (x : Nx) (X : List Nx) : nc (x :: X) = x.cells ++ nc X := rfl
theorem nc_length (X : List Nx) : (nc X).length = X.length * 4 := by
  induction X with
  | nil => rfl
  | cons x X ih => rw [nc_cons, List.length_append, ih, List.length_cons]; simp [Nx.cells]; omega
theorem nc_at (X : List Nx) : ∀ i, i < X.length → (nc X)[i * 4]? = some (.string (X.getD i default).t.k) ∧ (nc X)[i * 4 + 1]? = some (.slice (X.getD i default).a (X.getD i default).t.v.length (X.getD i default).c) ∧
    (nc X)[i * 4 + 2]? = some (.int .u64 ((X.getD i default).t.ver : Nat)) ∧ (nc X)[i * 4 + 3]? = some (.int .u64 ((X.getD i default).t.own : Nat)) := by
  induction X with
  | nil => intro i hi; simp at hi
  | cons x X ih =>
    intro i hi
    have e : nc (x :: X) = .string x.t.k :: .slice x.a x.t.v.length x.c :: .int .u64 (x.t.ver : Nat) :: .int .u64 (x.t.own : Nat) :: nc X := rfl
    rw [e]
    rcases i with _ | i
    · exact ⟨rfl, rfl, rfl, rfl⟩
    · have := ih i (by simpa using hi)
      have h1 : (i + 1) * 4 = i * 4 + 1 + 1 + 1 + 1 := by omega
      rw [h1]
      simpa using this
theorem nc_take (X : List Nx) (n : Nat) : nc (X.take n) = (nc X).take (n * 4) := by
  induction X generalizing n with
  | nil => simp [nc]
  | cons x X ih =>
    rcases n with _ | n
    · simp [nc]
    · rw [List.take_succ_cons, nc_cons, nc_cons, ih, show (n + 1) * 4 = x.cells.length + n * 4 by simp [Nx.cells]; omega, List.take_length_add_append]
theorem nc_drop (X : List Nx) (n : Nat) : nc (X.drop n) = (nc X).drop (n * 4) := by
  induction X generalizing n with
  | nil => simp [nc]
  | cons x X ih =>
    rcases n with _ | n
    · simp [nc]
    · rw [List.drop_succ_cons, nc_cons, ih, show (n + 1) * 4 = x.cells.length + n * 4 by simp [Nx.cells]; omega, ← List.drop_drop, List.drop_left' rfl]

/-- What a node is known by: its value's bytes, outside the blocks F; numbers that fit. -/
structure NxOk (w : World) (F : List Nat) (x : Nx) : Prop where
  bytes : Bytes w x.a x.t.v
  away : x.t.v ≠ [] → ∀ q, x.a = some q → q.block ∉ F
  nil : x.a = none → x.c = 0
  ver : x.t.ver < 18446744073709551616
  own : x.t.own < 18446744073709551616
  key : x.t.k.size ≤ 9223372036854775807
theorem NxOk.keep {w w' : World} {F F' S : List Nat} {x : Nx} (h : NxOk w F x) (hf : Frm S w w') (hS : ∀ x ∈ S, x ∈ F ∨ w.heap.size ≤ x) (hF : ∀ x ∈ F', x ∈ F ∨ w.heap.size ≤ x) : NxOk w' F' x := by
  refine ⟨hf.bytes' h.bytes (fun hne q hq hm => ?_), fun hne q hq hm => ?_, h.nil, h.ver, h.own, h.key⟩
  · rcases hS _ hm with h1 | h1
    · exact h.away hne q hq h1
    · have := bytes_lt h.bytes hne q hq; omega
  · rcases hF _ hm with h1 | h1
    · exact h.away hne q hq h1
    · have := bytes_lt h.bytes hne q hq; omega
def NOk (w : World) (F : List Nat) (X : List Nx) : Prop := ∀ x ∈ X, NxOk w F x
theorem NOk.keep {w w' : World} {F F' S : List Nat} {X : List Nx} (h : NOk w F X) (hf : Frm S w w') (hS : ∀ x ∈ S, x ∈ F ∨ w.heap.size ≤ x) (hF : ∀ x ∈ F', x ∈ F ∨ w.heap.size ≤ x) : NOk w' F' X := fun x hx => (h x hx).keep hf hS hF
theorem NOk.append {w : World} {F : List Nat} {X Y : List Nx} (h : NOk w F X) (k : NOk w F Y) : NOk w F (X ++ Y) := fun x hx => (List.mem_append.1 hx).elim (h x) (k x)
theorem NOk.sub {w : World} {F : List Nat} {X Y : List Nx} (h : NOk w F X) (hs : ∀ x ∈ Y, x ∈ X) : NOk w F Y := fun x hx => h x (hs x hx)
theorem NOk.nil (w : World) (F : List Nat) : NOk w F [] := fun x hx => by simp at hx

/-- A slice of nodes, as it reads; neither it nor a value of it lies in the blocks F. -/
structure NL (w : World) (F : List Nat) (a : Option Addr) (X : List Nx) : Prop where
  vals : ValsAt w a (nc X)
  ok : NOk w F X
  away : X ≠ [] → ∀ q, a = some q → q.block ∉ F
theorem NL.nil (w : World) (F : List Nat) (a : Option Addr) : NL w F a [] := ⟨.inl rfl, NOk.nil _ _, fun h => absurd rfl h⟩
theorem nc_ne {X : List Nx} (h : nc X ≠ []) : X ≠ [] := by rintro rfl; exact h rfl
theorem nc_ne' {X : List Nx} (h : X ≠ []) : nc X ≠ [] := by
  intro e
  have := nc_length X
  rw [e] at this
  have := List.length_pos_iff.2 h
  simp at *; omega
theorem vals_lt {w : World} {a : Option Addr} {us : List Value} (h : ValsAt w a us) (hne : us ≠ []) : ∀ q, a = some q → q.block < w.heap.size := by
  intro q hq
  rcases h with h | ⟨b, off, rfl, hc⟩
  · exact absurd h hne
  · cases hq
    cases us with
    | nil => exact absurd rfl hne
    | cons v vs => exact block_lt_of_cell (a := ⟨b, off + 0, none⟩) (hc 0 v rfl)
theorem NL.keep {w w' : World} {F F' S : List Nat} {a : Option Addr} {X : List Nx} (h : NL w F a X) (hf : Frm S w w') (hS : ∀ x ∈ S, x ∈ F ∨ w.heap.size ≤ x) (hF : ∀ x ∈ F', x ∈ F ∨ w.heap.size ≤ x) : NL w' F' a X := by
  refine ⟨h.vals.keep hf (fun hne q hq hm => ?_), h.ok.keep hf hS hF, fun hne q hq hm => ?_⟩
  · rcases hS _ hm with h1 | h1
    · exact h.away (nc_ne hne) q hq h1
    · have := vals_lt h.vals hne q hq; omega
  · rcases hF _ hm with h1 | h1
    · exact h.away hne q hq h1
    · have := vals_lt h.vals (nc_ne' hne) q hq; omega
theorem NL.at {w : World} {F : List Nat} {a : Option Addr} {X : List Nx} (h : NL w F a X) {i : Nat} (hi : i < X.length) :
    ∃ b off, a = some ⟨b, off, none⟩ ∧ w.cell? ⟨b, off + i * 4, none⟩ = some (.string (X.getD i default).t.k) ∧ w.cell? ⟨b, off + i * 4 + 1, none⟩ = some (.slice (X.getD i default).a (X.getD i default).t.v.length (X.getD i default).c) ∧
      w.cell? ⟨b, off + i * 4 + 2, none⟩ = some (.int .u64 ((X.getD i default).t.ver : Nat)) ∧ w.cell? ⟨b, off + i * 4 + 3, none⟩ = some (.int .u64 ((X.getD i default).t.own : Nat)) ∧ NxOk w F (X.getD i default) := by
  obtain ⟨h0, h1, h2, h3⟩ := nc_at X i hi
  have hm : X.getD i default ∈ X := by simp [hi]
  rcases h.vals with h' | ⟨b, off, rfl, hc⟩
  · rw [h'] at h0; simp at h0
  · exact ⟨b, off, rfl, hc _ _ h0, by rw [Nat.add_assoc]; exact hc _ _ h1, by rw [Nat.add_assoc]; exact hc _ _ h2, by rw [Nat.add_assoc]; exact hc _ _ h3, h.ok _ hm⟩
theorem NL.take {w : World} {F : List Nat} {a : Option Addr} {X : List Nx} (h : NL w F a X) (n : Nat) : NL w F a (X.take n) := by
  refine ⟨?_, h.ok.sub (fun x hx => List.mem_of_mem_take hx), fun hne => h.away (by rintro rfl; simp at hne)⟩
  rw [nc_take]
  rcases h.vals with h' | ⟨b, off, rfl, hc⟩
  · exact .inl (by rw [h']; simp)
  · refine .inr ⟨b, off, rfl, fun i u hu => hc i u ?_⟩
    rw [List.getElem?_take] at hu
    split at hu
    · exact hu
    · cases hu
/-- The address of what is left of a slice of elements of four cells each. -/
def cut4 (a : Option Addr) (cap lo : Nat) : Option Addr := if cap = lo then a else a.map (·.add (lo * 4))
theorem NL.drop {w : World} {F : List Nat} {a : Option Addr} {X : List Nx} {cap : Nat} (h : NL w F a X) (hc : X.length ≤ cap) (lo : Nat) : NL w F (cut4 a cap lo) (X.drop lo) := by
  unfold cut4
  by_cases hlo : cap = lo
  · rw [if_pos hlo, List.drop_eq_nil_of_le (by omega)]; exact NL.nil _ _ _
  · rw [if_neg hlo]
    refine ⟨?_, h.ok.sub (fun x hx => List.mem_of_mem_drop hx), fun hne q hq hm => ?_⟩
    · rw [nc_drop]
      rcases h.vals with h' | ⟨b, off, rfl, hcc⟩
      · exact .inl (by rw [h']; simp)
      · refine .inr ⟨b, off + lo * 4, by simp [addr_add], fun i u hu => ?_⟩
        rw [List.getElem?_drop] at hu
        rw [Nat.add_assoc]
        exact hcc _ _ hu
    · cases a with
      | none => cases hq
      | some y =>
        simp at hq
        subst hq
        exact h.away (by rintro rfl; simp at hne) y rfl (by unfold Addr.add at hm; split at hm <;> exact hm)

/-- A row of the call's own of nodes. -/
structure NOwn (w : World) (base : Nat) (e : TypeId) (F : List Nat) (a : Option Addr) (cap : Nat) (X : List Nx) : Prop where
  own : w.ownsRow base e 4 (.slice a X.length cap) X.length (nc X)
  ok : NOk w (blk a ++ F) X
  away : ∀ g ∈ blk a, g ∉ F
section
variable {w w' : World} {base : Nat} {e : TypeId} {F F' S : List Nat} {a : Option Addr} {cap : Nat} {X : List Nx}
theorem NOwn.nil (w : World) (base : Nat) (e : TypeId) (F : List Nat) : NOwn w base e F none 0 [] := ⟨World.ownsRow_nil _ _ _ _, NOk.nil _ _, by simp⟩
theorem ownBlk {a : Option Addr} {n c g : Nat} : (Value.slice a n c).ownBlock = some g ↔ g ∈ blk a := by cases a <;> simp [Value.ownBlock, eq_comm]
theorem NOwn.blk_lt (h : NOwn w base e F a cap X) : ∀ g ∈ blk a, base ≤ g ∧ g < w.heap.size := fun g hg => World.ownsRow.lt h.own g (ownBlk.2 hg)
theorem NOwn.keep (h : NOwn w base e F a cap X) (hf : Frm S w w') (hS : ∀ x ∈ S, x ∈ F ∨ w.heap.size ≤ x) (hF : ∀ x ∈ F', x ∈ F ∨ w.heap.size ≤ x) : NOwn w' base e F' a cap X := by
  have hb := h.blk_lt
  refine ⟨hf.own h.own (fun g hg hm => ?_), h.ok.keep hf (fun x hx => ?_) (fun x hx => ?_), fun g hg hm => ?_⟩
  · rcases hS g hm with h1 | h1
    · exact h.away g (ownBlk.1 hg) h1
    · have := (hb g (ownBlk.1 hg)).2; omega
  · rcases hS x hx with h1 | h1
    · exact .inl (by simp [h1])
    · exact .inr h1
  · rcases List.mem_append.1 hx with h1 | h1
    · exact .inl (by simp [h1])
    · rcases hF x h1 with h2 | h2
      · exact .inl (by simp [h2])
      · exact .inr h2
  · rcases hF g hm with h1 | h1
    · exact h.away g hg h1
    · have := (hb g hg).2; omega
theorem NOwn.nl (h : NOwn w base e F a cap X) : NL w F a X := by
  refine ⟨?_, h.ok.keep (S := []) (Frm.refl _ _) (by simp) (fun x hx => .inl (by simp [hx])), fun _ q hq => h.away q.block (by rw [hq]; simp)⟩
  by_cases h0 : X = []
  · subst h0; exact .inl rfl
  · rcases h.own.2 with ⟨_, hl⟩ | ⟨g, c, cur, hv, _⟩
    · exact absurd (List.eq_nil_of_length_eq_zero hl) h0
    · simp only [Value.slice.injEq] at hv
      obtain ⟨rfl, _, rfl⟩ := hv
      refine .inr ⟨g, 0, rfl, fun i u hu => ?_⟩
      have hi : i < (nc X).length := by
        rcases Nat.lt_or_ge i (nc X).length with h' | h'
        · exact h'
        · rw [List.getElem?_eq_none h'] at hu; cases hu
      rw [nc_length] at hi
      rw [Nat.zero_add, World.ownsRow.cellAt h.own i hi]
      exact hu
theorem NOwn.caps (h : NOwn w base e F a cap X) : X.length ≤ cap ∧ cap ≤ maxLen ∧ (a = none → cap = 0) := by
  rcases h.own.2 with ⟨hv, hl⟩ | ⟨g, c, cur, hv, _, _, h1, h2, _⟩
  · simp only [Value.slice.injEq] at hv
    rw [hl, hv.2.2]; exact ⟨Nat.le_refl _, Nat.zero_le _, fun _ => rfl⟩
  · simp only [Value.slice.injEq] at hv
    obtain ⟨rfl, _, rfl⟩ := hv
    exact ⟨h1, h2, fun h => by cases h⟩
/-- What is appended lies neither in the row's block nor in F. -/
theorem NOwn.app {n m : Nat} {Y : List Nx} {a' : Option Addr} {cap' : Nat} (h : NOwn w base e F a cap X) (hn : n = X.length) (k : NOk w (blk a ++ F) Y) (hm : m = Y.length) (hF : ∀ x ∈ F, x < w.heap.size)
    (ha : AppS w w' base e 4 (.slice a n cap) n m (nc X) (nc Y) a' cap') : NOwn w' base e F a' cap' (X ++ Y) ∧ Frm (blk a) w w' ∧ (∀ g ∈ blk a', g ∈ blk a ∨ w.heap.size ≤ g) ∧ n + m = (X ++ Y).length := by
  subst hn; subst hm
  have hf : Frm (blk a) w w' := (Frm.refl _ _).grown ha.grown (fun g hg => .inl (ownBlk.1 hg))
  have hp : ∀ g ∈ blk a', g ∈ blk a ∨ w.heap.size ≤ g := by
    intro g hg
    have hg' : (Value.slice a' (X.length + Y.length) cap').ownBlock = some g := ownBlk.2 hg
    rcases ha.place with h1 | h1
    · exact .inl (ownBlk.1 (h1 ▸ hg'))
    · rw [hg'] at h1
      cases h1
      exact .inr (Nat.le_refl _)
  refine ⟨⟨?_, ?_, fun g hg hm => ?_⟩, hf, hp, by simp⟩
  · have := ha.own
    rwa [← nc_append, ← List.length_append] at this
  · refine (h.ok.append k).keep hf (fun x hx => .inl (by simp [hx])) (fun x hx => ?_)
    rcases List.mem_append.1 hx with h1 | h1
    · rcases hp x h1 with h2 | h2
      · exact .inl (by simp [h2])
      · exact .inr h2
    · exact .inl (by simp [h1])
  · rcases hp g hg with h1 | h1
    · exact h.away g h1 hm
    · have := hF g hm; omega
end
section
variable {P : Program} {t e : TypeId}
end
end Go.Proofs.YtamcandcfainfaaGreat
/- Lists of entries (a number, bytes): what they read as, rows of the call's own of them. -/
namespace Go.Proofs.YtamcandcfainfaaGreat
open Go.RowKit

/-- An entry's number, its bytes, and where they lie. -/
structure Ix where
  t : Nat × List Nat := (0, [])
  a : Option Addr := none
  c : Nat := 0
instance : Inhabited Ix := ⟨{}⟩
def Ix.cells (x : Ix) : List Value := [.int .u64 (x.t.1 : Nat), .slice x.a x.t.2.length x.c]
def ic (X : List Ix) : List Value := X.flatMap Ix.cells
theorem ic_append (X Y : List Ix) : ic (X ++ Y) = ic X ++ ic Y := by simp [ic]
theorem ic_cons (x : Ix) (X : List Ix) : ic (x :: X) = x.cells ++ ic X := rfl
theorem ic_length (X : List Ix) : (ic X).length = X.length * 2 := by
  induction X with
  | nil => rfl
  | cons x X ih => rw [ic_cons, List.length_append, ih, List.length_cons]; simp [Ix.cells]; omega
theorem ic_one (X : List Ix) : ∀ u ∈ ic X, u.oneCell' = true := by
  intro u hu
  unfold ic at hu
  simp only [List.mem_flatMap, Ix.cells] at hu
  obtain ⟨x, _, h⟩ := hu
  simp at h
  rcases h with h | h <;> subst h <;> rfl
theorem ic_at (X : List Ix) : ∀ i, i < X.length → (ic X)[i * 2]? = some (.int .u64 ((X.getD i default).t.1 : Nat)) ∧ (ic X)[i * 2 + 1]? = some (.slice (X.getD i default).a (X.getD i default).t.2.length (X.getD i default).c) := by
  induction X with
  | nil => intro i hi; simp at hi
  | cons x X ih =>
    intro i hi
    have e : ic (x :: X) = .int .u64 (x.t.1 : Nat) :: .slice x.a x.t.2.length x.c :: ic X := rfl
    rw [e]
    rcases i with _ | i
    · exact ⟨rfl, rfl⟩
    · have := ih i (by simpa using hi)
      have h1 : (i + 1) * 2 = i * 2 + 1 + 1 := by omega
      rw [h1]
      simpa using this
theorem ic_take (X : List Ix) (n : Nat) : ic (X.take n) = (ic X).take (n * 2) := by
  induction X generalizing n with
  | nil => simp [ic]
  | cons x X ih =>
    rcases n with _ | n
    · simp [ic]
    · rw [List.take_succ_cons, ic_cons, ic_cons, ih, show (n + 1) * 2 = x.cells.length + n * 2 by simp [Ix.cells]; omega, List.take_length_add_append]
theorem ic_drop (X : List Ix) (n : Nat) : ic (X.drop n) = (ic X).drop (n * 2) := by
  induction X generalizing n with
  | nil => simp [ic]
  | cons x X ih =>
    rcases n with _ | n
    · simp [ic]
    · rw [List.drop_succ_cons, ic_cons, ih, show (n + 1) * 2 = x.cells.length + n * 2 by simp [Ix.cells]; omega, ← List.drop_drop, List.drop_left' rfl]

/-- What an entry is known by: its bytes, outside the blocks F; numbers that fit. -/
structure IxOk (w : World) (F : List Nat) (x : Ix) : Prop where
  bytes : Bytes w x.a x.t.2
  away : x.t.2 ≠ [] → ∀ q, x.a = some q → q.block ∉ F
  nil : x.a = none → x.c = 0
  num : x.t.1 < 18446744073709551616
theorem IxOk.keep {w w' : World} {F F' S : List Nat} {x : Ix} (h : IxOk w F x) (hf : Frm S w w') (hS : ∀ x ∈ S, x ∈ F ∨ w.heap.size ≤ x) (hF : ∀ x ∈ F', x ∈ F ∨ w.heap.size ≤ x) : IxOk w' F' x := by
  refine ⟨hf.bytes' h.bytes (fun hne q hq hm => ?_), fun hne q hq hm => ?_, h.nil, h.num⟩
  · rcases hS _ hm with h1 | h1
    · exact h.away hne q hq h1
    · have := bytes_lt h.bytes hne q hq; omega
  · rcases hF _ hm with h1 | h1
    · exact h.away hne q hq h1
    · have := bytes_lt h.bytes hne q hq; omega
def IOk (w : World) (F : List Nat) (X : List Ix) : Prop := ∀ x ∈ X, IxOk w F x
theorem IOk.keep {w w' : World} {F F' S : List Nat} {X : List Ix} (h : IOk w F X) (hf : Frm S w w') (hS : ∀ x ∈ S, x ∈ F ∨ w.heap.size ≤ x) (hF : ∀ x ∈ F', x ∈ F ∨ w.heap.size ≤ x) : IOk w' F' X := fun x hx => (h x hx).keep hf hS hF
theorem IOk.append {w : World} {F : List Nat} {X Y : List Ix} (h : IOk w F X) (k : IOk w F Y) : IOk w F (X ++ Y) := fun x hx => (List.mem_append.1 hx).elim (h x) (k x)
theorem IOk.sub {w : World} {F : List Nat} {X Y : List Ix} (h : IOk w F X) (hs : ∀ x ∈ Y, x ∈ X) : IOk w F Y := fun x hx => h x (hs x hx)
theorem IOk.nil (w : World) (F : List Nat) : IOk w F [] := fun x hx => by simp at hx

/-- A slice of entries, as it reads; neither it nor a value of it lies in the blocks F. -/
structure IL (w : World) (F : List Nat) (a : Option Addr) (X : List Ix) : Prop where
  vals : ValsAt w a (ic X)
  ok : IOk w F X
  away : X ≠ [] → ∀ q, a = some q → q.block ∉ F
theorem IL.nil (w : World) (F : List Nat) (a : Option Addr) : IL w F a [] := ⟨.inl rfl, IOk.nil _ _, fun h => absurd rfl h⟩
theorem ic_ne {X : List Ix} (h : ic X ≠ []) : X ≠ [] := by rintro rfl; exact h rfl
theorem ic_ne' {X : List Ix} (h : X ≠ []) : ic X ≠ [] := by
  intro e
  have := ic_length X
  rw [e] at this
  have := List.length_pos_iff.2 h
  simp at *; omega
theorem IL.keep {w w' : World} {F F' S : List Nat} {a : Option Addr} {X : List Ix} (h : IL w F a X) (hf : Frm S w w') (hS : ∀ x ∈ S, x ∈ F ∨ w.heap.size ≤ x) (hF : ∀ x ∈ F', x ∈ F ∨ w.heap.size ≤ x) : IL w' F' a X := by
  refine ⟨h.vals.keep hf (fun hne q hq hm => ?_), h.ok.keep hf hS hF, fun hne q hq hm => ?_⟩
  · rcases hS _ hm with h1 | h1
    · exact h.away (ic_ne hne) q hq h1
    · have := vals_lt h.vals hne q hq; omega
  · rcases hF _ hm with h1 | h1
    · exact h.away hne q hq h1
    · have := vals_lt h.vals (ic_ne' hne) q hq; omega
theorem IL.at {w : World} {F : List Nat} {a : Option Addr} {X : List Ix} (h : IL w F a X) {i : Nat} (hi : i < X.length) :
    ∃ b off, a = some ⟨b, off, none⟩ ∧ w.cell? ⟨b, off + i * 2, none⟩ = some (.int .u64 ((X.getD i default).t.1 : Nat)) ∧ w.cell? ⟨b, off + i * 2 + 1, none⟩ = some (.slice (X.getD i default).a (X.getD i default).t.2.length (X.getD i default).c) ∧ IxOk w F (X.getD i default) := by
  obtain ⟨h0, h1⟩ := ic_at X i hi
  have hm : X.getD i default ∈ X := by simp [hi]
  rcases h.vals with h' | ⟨b, off, rfl, hc⟩
  · rw [h'] at h0; simp at h0
  · exact ⟨b, off, rfl, hc _ _ h0, by rw [Nat.add_assoc]; exact hc _ _ h1, h.ok _ hm⟩
theorem IL.take {w : World} {F : List Nat} {a : Option Addr} {X : List Ix} (h : IL w F a X) (n : Nat) : IL w F a (X.take n) := by
  refine ⟨?_, h.ok.sub (fun x hx => List.mem_of_mem_take hx), fun hne => h.away (by rintro rfl; simp at hne)⟩
  rw [ic_take]
  rcases h.vals with h' | ⟨b, off, rfl, hc⟩
  · exact .inl (by rw [h']; simp)
  · refine .inr ⟨b, off, rfl, fun i u hu => hc i u ?_⟩
    rw [List.getElem?_take] at hu
    split at hu
    · exact hu
    · cases hu
/-- The address of what is left of a slice of elements of two cells each. -/
def cut2 (a : Option Addr) (cap lo : Nat) : Option Addr := if cap = lo then a else a.map (·.add (lo * 2))
theorem IL.drop {w : World} {F : List Nat} {a : Option Addr} {X : List Ix} {cap : Nat} (h : IL w F a X) (hc : X.length ≤ cap) (lo : Nat) : IL w F (cut2 a cap lo) (X.drop lo) := by
  unfold cut2
  by_cases hlo : cap = lo
  · rw [if_pos hlo, List.drop_eq_nil_of_le (by omega)]; exact IL.nil _ _ _
  · rw [if_neg hlo]
    refine ⟨?_, h.ok.sub (fun x hx => List.mem_of_mem_drop hx), fun hne q hq hm => ?_⟩
    · rw [ic_drop]
      rcases h.vals with h' | ⟨b, off, rfl, hcc⟩
      · exact .inl (by rw [h']; simp)
      · refine .inr ⟨b, off + lo * 2, by simp [addr_add], fun i u hu => ?_⟩
        rw [List.getElem?_drop] at hu
        rw [Nat.add_assoc]
        exact hcc _ _ hu
    · cases a with
      | none => cases hq
      | some y =>
        simp at hq
        subst hq
        exact h.away (by rintro rfl; simp at hne) y rfl (by unfold Addr.add at hm; split at hm <;> exact hm)

/-- A row of the call's own of entries. -/
structure IOwn (w : World) (base : Nat) (e : TypeId) (F : List Nat) (a : Option Addr) (cap : Nat) (X : List Ix) : Prop where
  own : w.ownsRow base e 2 (.slice a X.length cap) X.length (ic X)
  ok : IOk w (blk a ++ F) X
  away : ∀ g ∈ blk a, g ∉ F
section
variable {w w' : World} {base : Nat} {e : TypeId} {F F' S : List Nat} {a : Option Addr} {cap : Nat} {X : List Ix}
theorem IOwn.nil (w : World) (base : Nat) (e : TypeId) (F : List Nat) : IOwn w base e F none 0 [] := ⟨World.ownsRow_nil _ _ _ _, IOk.nil _ _, by simp⟩
theorem IOwn.blk_lt (h : IOwn w base e F a cap X) : ∀ g ∈ blk a, base ≤ g ∧ g < w.heap.size := fun g hg => World.ownsRow.lt h.own g (ownBlk.2 hg)
theorem IOwn.keep (h : IOwn w base e F a cap X) (hf : Frm S w w') (hS : ∀ x ∈ S, x ∈ F ∨ w.heap.size ≤ x) (hF : ∀ x ∈ F', x ∈ F ∨ w.heap.size ≤ x) : IOwn w' base e F' a cap X := by
  have hb := h.blk_lt
  refine ⟨hf.own h.own (fun g hg hm => ?_), h.ok.keep hf (fun x hx => ?_) (fun x hx => ?_), fun g hg hm => ?_⟩
  · rcases hS g hm with h1 | h1
    · exact h.away g (ownBlk.1 hg) h1
    · have := (hb g (ownBlk.1 hg)).2; omega
  · rcases hS x hx with h1 | h1
    · exact .inl (by simp [h1])
    · exact .inr h1
  · rcases List.mem_append.1 hx with h1 | h1
    · exact .inl (by simp [h1])
    · rcases hF x h1 with h2 | h2
      · exact .inl (by simp [h2])
      · exact .inr h2
  · rcases hF g hm with h1 | h1
    · exact h.away g hg h1
    · have := (hb g hg).2; omega
theorem IOwn.il (h : IOwn w base e F a cap X) : IL w F a X := by
  refine ⟨?_, h.ok.keep (S := []) (Frm.refl _ _) (by simp) (fun x hx => .inl (by simp [hx])), fun _ q hq => h.away q.block (by rw [hq]; simp)⟩
  by_cases h0 : X = []
  · subst h0; exact .inl rfl
  · rcases h.own.2 with ⟨_, hl⟩ | ⟨g, c, cur, hv, _⟩
    · exact absurd (List.eq_nil_of_length_eq_zero hl) h0
    · simp only [Value.slice.injEq] at hv
      obtain ⟨rfl, _, rfl⟩ := hv
      refine .inr ⟨g, 0, rfl, fun i u hu => ?_⟩
      have hi : i < (ic X).length := by
        rcases Nat.lt_or_ge i (ic X).length with h' | h'
        · exact h'
        · rw [List.getElem?_eq_none h'] at hu; cases hu
      rw [ic_length] at hi
      rw [Nat.zero_add, World.ownsRow.cellAt h.own i hi]
      exact hu
theorem IOwn.caps (h : IOwn w base e F a cap X) : X.length ≤ cap ∧ cap ≤ maxLen ∧ (a = none → cap = 0) := by
  rcases h.own.2 with ⟨hv, hl⟩ | ⟨g, c, cur, hv, _, _, h1, h2, _⟩
  · simp only [Value.slice.injEq] at hv
    rw [hl, hv.2.2]; exact ⟨Nat.le_refl _, Nat.zero_le _, fun _ => rfl⟩
  · simp only [Value.slice.injEq] at hv
    obtain ⟨rfl, _, rfl⟩ := hv
    exact ⟨h1, h2, fun h => by cases h⟩
/-- What is appended lies neither in the row's block nor in F. -/
theorem IOwn.app {n m : Nat} {Y : List Ix} {a' : Option Addr} {cap' : Nat} (h : IOwn w base e F a cap X) (hn : n = X.length) (k : IOk w (blk a ++ F) Y) (hm : m = Y.length) (hF : ∀ x ∈ F, x < w.heap.size)
    (ha : AppS w w' base e 2 (.slice a n cap) n m (ic X) (ic Y) a' cap') : IOwn w' base e F a' cap' (X ++ Y) ∧ Frm (blk a) w w' ∧ (∀ g ∈ blk a', g ∈ blk a ∨ w.heap.size ≤ g) ∧ n + m = (X ++ Y).length := by
  subst hn; subst hm
  have hf : Frm (blk a) w w' := (Frm.refl _ _).grown ha.grown (fun g hg => .inl (ownBlk.1 hg))
  have hp : ∀ g ∈ blk a', g ∈ blk a ∨ w.heap.size ≤ g := by
    intro g hg
    have hg' : (Value.slice a' (X.length + Y.length) cap').ownBlock = some g := ownBlk.2 hg
    rcases ha.place with h1 | h1
    · exact .inl (ownBlk.1 (h1 ▸ hg'))
    · rw [hg'] at h1
      cases h1
      exact .inr (Nat.le_refl _)
  refine ⟨⟨?_, ?_, fun g hg hm => ?_⟩, hf, hp, by simp⟩
  · have := ha.own
    rwa [← ic_append, ← List.length_append] at this
  · refine (h.ok.append k).keep hf (fun x hx => .inl (by simp [hx])) (fun x hx => ?_)
    rcases List.mem_append.1 hx with h1 | h1
    · rcases hp x h1 with h2 | h2
      · exact .inl (by simp [h2])
      · exact .inr h2
    · exact .inl (by simp [h1])
  · rcases hp g hg with h1 | h1
    · exact h.away g h1 hm
    · have := hF g hm; omega
end
section
variable {P : Program} {t e : TypeId}
/-- 'x[lo:]' of elements of two cells. -/
theorem run_cut2 (ht : P.underlying t = some (.slice e)) (hz : ∀ w, (Go.sizeOf e).run P w = .ok 2 w) (w : World) (a : Option Addr) (n cap lo : Nat) (l : Int) (hl : l = (lo : Nat)) (h1 : lo ≤ n) :
    (Instr.slice t (.slice a n cap) (some (.int .i64 l)) none none).run P w = .ok (.slice (cut2 a cap lo) (n - lo) (cap - lo)) w := by
  subst hl
  have ht' : P.underlying t = some (.slice (P.elem t)) := by simp [Program.elem, ht]
  have he : P.elem t = e := by simp [Program.elem, ht]
  rw [run_slice_l w t _ _ _ ht' .i64 _ (by omega) (by omega), he, hz]
  simp [Result.andThen, sliced, cut2]
theorem run_head2m (ht : P.underlying t = some (.slice e)) (hz : ∀ w, (Go.sizeOf e).run P w = .ok 2 w) (w : World) (a : Option Addr) (n cap hi mx : Nat) (h2 : hi ≤ mx) (h3 : mx ≤ cap) :
    (Instr.slice t (.slice a n cap) none (some (.int .i64 (hi : Nat))) (some (.int .i64 (mx : Nat)))).run P w = .ok (.slice a hi mx) w := by
  have ht' : P.underlying t = some (.slice (P.elem t)) := by simp [Program.elem, ht]
  have he : P.elem t = e := by simp [Program.elem, ht]
  rw [run_slice_hm w t _ _ _ ht' .i64 .i64 _ _ (by omega) (by omega) (by omega), he, hz]
  have := head_map a
  simp [Result.andThen, sliced, this]
end
/-- The entries alone. -/
def its (X : List Ix) : List (Nat × List Nat) := X.map (·.t)
theorem its_length (X : List Ix) : (its X).length = X.length := by simp [its]
end Go.Proofs.YtamcandcfainfaaGreat
/- Contract of the shelf's List: all entries of a ledger, rising. -/
namespace Go.Proofs.YtamcandcfainfaaGreat
open Go.RowKit
set_option maxRecDepth 100000

theorem lookE_some {l : List (Nat × List Nat)} {k : Nat} : (lookE l k).isSome = true ↔ k ∈ l.map (·.1) := by
  induction l with
  | nil => simp [lookE]
  | cons x l ih =>
    obtain ⟨j, e⟩ := x
    show (if k = j then some e else lookE l k).isSome = true ↔ _
    by_cases h : k = j
    · simp [h]
    · rw [if_neg h, ih]; simp [h]
theorem lookE_at {l : List (Nat × List Nat)} (hr : RiseE l) {t : Nat} (ht : t < l.length) : lookE l (l.getD t (0, [])).1 = some (l.getD t (0, [])).2 := by
  induction l generalizing t with
  | nil => simp at ht
  | cons x l ih =>
    obtain ⟨j, e⟩ := x
    have h1 := List.pairwise_cons.1 hr
    cases t with
    | zero => show (if j = j then some e else lookE l j) = some e; rw [if_pos rfl]
    | succ t =>
      have ht' : t < l.length := by simpa using ht
      have hm : l.getD t (0, []) ∈ l := by simp [ht']
      have hlt := h1.1 _ hm
      show (if (l.getD t (0, [])).1 = j then some e else lookE l (l.getD t (0, [])).1) = some (l.getD t (0, [])).2
      rw [if_neg (by simp at hlt ⊢; omega)]
      exact ih h1.2 ht'
/-- A list of numbers that rises and holds the keys is the keys' list. -/
theorem keys_list {ents : List (Nat × List Nat)} {L ss : List Nat} (hr : RiseE ents) (hp : L.Perm ss) (hs : L.Pairwise (· ≤ ·)) (hn : ss.Nodup) (hm : ∀ x, x ∈ ss ↔ x ∈ ents.map (·.1)) : L = ents.map (·.1) := by
  have hrk : (ents.map (·.1)).Pairwise (· < ·) := List.pairwise_map.2 hr
  have hnk : (ents.map (·.1)).Nodup := hrk.imp (fun h => by omega)
  have hpp : L.Perm (ents.map (·.1)) := hp.trans ((List.perm_ext_iff_of_nodup hn hnk).2 hm)
  exact hpp.eq_of_pairwise (le := fun a b => a ≤ b) (fun a b _ _ h1 h2 => by omega) hs (hrk.imp (fun h => by omega))

theorem vals_two (w : World) (u v : Value) (t : TypeId) (m : Nat × Nat) : ValsAt (w.alloc (.cells #[u, v] t m)) (some ⟨w.heap.size, 0, none⟩) [u, v] := by
  refine .inr ⟨_, _, rfl, fun i x hx => ?_⟩
  rw [cell_of_row _ w.heap.size _ #[u, v] t m (heap_alloc_new w _)]
  match i, hx with
  | 0, hx => simpa using hx
  | 1, hx => simpa using hx
  | i + 2, hx => simp at hx
theorem infoIt : (Tryz.prog.info? 57).map (fun i => (i.zero, i.size, i.bytes)) = some (some (.agg #[.int .u64 0, .slice none 0 0]), 2, 32) := by kernel_rfl

/-- What List answers. -/
def SListEnd (w : World) (F : List Nat) (ents : List (Nat × List Nat)) (e : Ending) (w' : World) : Prop :=
  ∃ a c X, its X = ents ∧ e = .returned (.slice a X.length c) ∧ IOwn w' w.heap.size 57 F a c X ∧ Frm [] w w'
/-- So many entries are listed. -/
def LiRel (w1 : World) (F : List Nat) (ents : List (Nat × List Nat)) (u5 u22 : Value) (wr : World) : Prop :=
  ∃ (k : Nat) (a : Option Addr) (c : Nat) (X : List Ix), k ≤ ents.length ∧ u5 = .slice a k c ∧ u22 = .int .i64 (k : Nat) ∧ Hid (X.length = k ∧ its X = ents.take k) ∧ Hid (IOwn wr w1.heap.size 57 F a c X) ∧ Hid (Frm [] w1 wr)

set_option maxHeartbeats 8000000 in
theorem slist_any {w : World} {B p jq dp : Nat} {G Fd : List Nat} {S : Nd9} {l : List Nat} {room : Nat} (i : Nat) (hi : i < N64) (h : Sp w B G p jq dp Fd S l room) (F : List Nat) (hlow : ∀ y ∈ F, y < w.heap.size) :
    Calls Tryz.prog 28 #[.pointer (some ⟨p, 0, none⟩), .int .u64 (i : Nat)] w (SListEnd w F (S i).ents) := by
  obtain ⟨i0, hinf, hz0, hz1, hz2⟩ := info_parts infoIt
  have hsm := h.small i
  obtain ⟨mb, f, o, fe, hs⟩ := h.stock hi
  have hll : l.length ≤ 16777216 := by have := h.dk.1.2.2; omega
  obtain ⟨x, hx⟩ : ∃ x, x = S i := ⟨_, rfl⟩
  rw [← hx] at hs hsm ⊢
  obtain ⟨n, hn⟩ : ∃ n, n = l.length := ⟨_, rfl⟩
  rw [← hn] at hs hll
  obtain ⟨F0, hFe⟩ : ∃ F0, F0 = p :: jq :: (Fd ++ G) := ⟨_, rfl⟩
  rw [← hFe] at hs
  have c0 := hs.box.cell 0
  simp at c0
  have hents : x.ents.length ≤ 16777216 := Nat.le_trans hs.few hll
  have HS := Lib.hid hs
  have HLOW := Lib.hid hlow
  have HSM := Lib.hid hsm
  -- the sorted keys
  obtain ⟨SS, hSS⟩ : ∃ SS : List Nat → Prop, SS = fun ss => ss.Nodup ∧ ∀ y, y ∈ ss ↔ y ∈ x.ents.map (·.1) := ⟨_, rfl⟩
  have HKEY : Hid (∃ N, N * 8 ≤ 140737488355328 ∧ Go.SeqStopsA Fence.wide 4 Tryz.prog 76 #[.pointer (some ⟨w.heap.size, 0, none⟩)] (fun x : Nat => #[encU x]) SS (fun _ => True) N (w.alloc (.cells #[.map o] 97))) := Lib.hid (by
    have hm0 : (w.alloc (.cells #[.map o] 97)).cell? ⟨w.heap.size, 0, none⟩ = some (.map o) := by simp
    rcases hs.ents with ⟨ho, hfe⟩ | ⟨b, ho, hmv⟩
    · cases ho
      refine ⟨0, by omega, ?_⟩
      have hse : SS = fun ss => ss = [] := by
        rw [hSS]
        have hnil : x.ents = [] := by
          cases hxe : x.ents with
          | nil => rfl
          | cons y ys =>
            have h1 := hs.keys y (by rw [hxe]; simp)
            have h2 := hs.ent y.1 h1
            rw [hfe] at h2
            rcases h2 with ⟨_, h3⟩ | ⟨_, _, _, h3, _⟩
            · have h4 : (lookE x.ents y.1).isSome = true := lookE_some.2 (by rw [hxe]; simp)
              rw [h3] at h4; cases h4
            · cases h3
        funext ss
        rw [hnil]
        apply propext
        constructor
        · rintro ⟨_, h2⟩
          exact List.eq_nil_iff_forall_not_mem.2 fun y hy => by simpa using (h2 y).1 hy
        · rintro rfl
          exact ⟨List.nodup_nil, fun y => by simp⟩
      rw [hse]
      exact keysSeqNil 4 w.heap.size _ (by simp) hm0
    · cases ho
      have hmv2 := hmv.keep ((Frm.refl [] w).alloc (.cells #[.map (some b)] 97)) (by simp)
      obtain ⟨D0, hown, hhas, _⟩ := hmv2.own
      have hsz := hown.size_le
      refine ⟨Maps.size D0, by omega, ?_⟩
      have hse : SS = KeyU D0 := by
        rw [hSS]
        funext ss
        apply propext
        have hk : ∀ y : Nat, (y < M64 ∧ Maps.has D0 (.int .u64 (y : Int)) = true) ↔ y ∈ x.ents.map (·.1) := by
          intro y
          rw [← lookE_some]
          constructor
          · rintro ⟨h1, h2⟩
            rw [hhas y h1] at h2
            have h3 := hs.ent y h1
            obtain ⟨_, _, _, _, _, _, _, h4⟩ := h3.slice
            rw [← h4]; exact h2
          · intro h1
            have h2 : y < M64 := by
              obtain ⟨z, hz, rfl⟩ := List.mem_map.1 (lookE_some.1 h1)
              exact hs.keys z hz
            refine ⟨h2, ?_⟩
            rw [hhas y h2]
            obtain ⟨_, _, _, _, _, _, _, h4⟩ := (hs.ent y h2).slice
            rw [h4]; exact h1
        unfold KeyU
        constructor
        · rintro ⟨h1, h2⟩; exact ⟨h1, fun y => by rw [h2 y, ← hk y]⟩
        · rintro ⟨h1, h2⟩; exact ⟨h1, fun y => by rw [h2 y, hk y]⟩
      rw [hse]
      exact keysSeq 4 (by omega) w.heap.size b _ D0 _ (by simp) hm0 hown)
  have HSS := Lib.hid hSS
  have hq0 := fld0 (.map o) (.int .u64 (x.sure : Nat)) (.bool x.fen) (.bool x.gone)
  obtain ⟨Q, hQ⟩ : ∃ Q, Q = SListEnd w F x.ents := ⟨_, rfl⟩
  have HQ := Lib.hid hQ
  rw [← hQ]
  clear h hx hn hs hlow hsm hFe hSS hQ
  go_enter Tryz.func28, Tryz.ntmps28
  go_wp2_with (refine wpList_lookV _ rfl (.tmp 14) (.tmp 15) 71 99 rfl key64 Tryz.underlying71 (zeroSto _) n f (.inr ⟨mb, rfl, HS.out.map⟩) i hi rfl ?_; rw [HS.out.at'])
  (with_reducible refine (keys_any o w).mono ?_)
  rintro e w' ⟨rfl, rfl⟩
  obtain ⟨N, hN, hseq⟩ := HKEY.out
  have HSO := Lib.hid (sorted_any w.heap.size N SS _ hseq hN)
  clear hseq hN HKEY
  go_wp2_with fail
  (with_reducible refine HSO.out.mono ?_)
  rintro e w1 ⟨ka, kc, L, ss, rfl, hss, hperm, hsort, hcells, hf1⟩
  rw [HSS.out] at hss
  have hL : L = x.ents.map (·.1) := keys_list HS.out.rise hperm hsort hss.1 hss.2
  obtain ⟨m, hm⟩ : ∃ m, m = x.ents.length := ⟨_, rfl⟩
  have hLm : L.length = m := by rw [hL, hm]; simp
  rw [hLm]
  have HF1 := Lib.hid (((Frm.refl [] w).alloc (.cells #[.map o] 97)).trans hf1 (U := []) (by simp) (by simp))
  have HC : Hid (∀ t, t < m → ∃ g, ka = some ⟨g, 0, none⟩ ∧ w1.cell? ⟨g, t, none⟩ = some (.int .u64 ((x.ents.getD t (0, [])).1 : Nat))) := Lib.hid fun t ht => by
    obtain ⟨g, hg, hc⟩ := hcells (by intro h0; rw [h0] at hLm; simp at hLm; omega)
    refine ⟨g, hg, ?_⟩
    rw [hc t (by omega), hL]
    have : t < x.ents.length := by omega
    simp [this]
  have HM := Lib.hid hm
  have hm2 : m ≤ 16777216 := by omega
  have HR0 : Hid (LiRel w1 F x.ents (.slice none 0 0) (.int .i64 0) w1) := Lib.hid ⟨0, none, 0, [], Nat.zero_le _, rfl, rfl, Lib.hid ⟨rfl, rfl⟩, Lib.hid (IOwn.nil _ _ _ _), Lib.hid (Frm.refl _ _)⟩
  clear hss hperm hsort hcells hf1 hL hLm HSO HSS hm hents
  go_wp2_with fail
  go_loopw [5, 22] (fun u5 u22 wr => LiRel w1 F x.ents u5 u22 wr) (fun _ u22 _ => m - (intOf u22).toNat)
  case atStart => exact HR0.out
  case round =>
    clear HR0
    obtain ⟨k, a, c, X, hk, rfl, rfl, HX, HO, HFR⟩ := hrel
    by_cases hlt : k < m
    · obtain ⟨g, rfl, hkc⟩ := HC.out k hlt
      have hkc2 : wr.cell? ⟨g, k, none⟩ = some (.int .u64 ((x.ents.getD k (0, [])).1 : Nat)) := (HFR.out.cell (p := ⟨g, k, none⟩) (block_lt_of_cell hkc) (by simp)).trans hkc
      have hfw : Frm [] w wr := HF1.out.trans HFR.out (U := []) (by simp) (by simp)
      have hmem : x.ents.getD k (0, []) ∈ x.ents := by have := HM.out; simp [show k < x.ents.length by omega]
      have hlk := lookE_at HS.out.rise (t := k) (by have := HM.out; omega)
      obtain ⟨en, hen⟩ : ∃ en, en = x.ents.getD k (0, []) := ⟨_, rfl⟩
      rw [← hen] at hkc2 hlk hmem
      obtain ⟨nk, d⟩ := en
      simp only at hkc2 hlk
      have hnk : nk < N64 := HS.out.keys _ hmem
      obtain ⟨da, dn, dc, e1, e2, e3, e4, e5⟩ := (HS.out.ent nk hnk).slice
      rw [hlk] at e2 e3 e5
      simp only [Option.getD_some] at e2 e3
      have hd4 := HSM.out nk d hlk
      have HCL := Lib.hid (fun (z : World) (hz : Frm [] w z) => clone_any da dn dc d z (hz.bytes' e3 (by simp)) e2 e4 (by omega))
      have HE1 := Lib.hid e1
      have HME : Hid (MapVal Tryz.prog K64 wr (.map o) n fe) := Lib.hid (HS.out.ents.keep hfw (by simp))
      have H8 := Lib.hid e3.1
      have HDN := Lib.hid e2
      have HFW := Lib.hid hfw
      have HEN := Lib.hid hen
      clear hkc hfw hmem hlk e1 e2 e3 e4 e5 hd4 hen hk
      go_wp2_with (refine wpList_lookV _ rfl (.tmp 28) (.tmp 29) 97 35 rfl key64 Tryz.underlying97 (zeroByt _) n fe HME.out nk hnk rfl ?_; rw [HE1.out])
      (with_reducible refine (HCL.out wr HFW.out).mono ?_)
      rintro e w2 ⟨ca, cc, rfl, hown, hf2⟩
      rw [← HDN.out] at hown ⊢
      have HOC := Lib.hid hown
      have HF2 := Lib.hid hf2
      have HV : Hid (∀ z, Frm [] w2 z → IOwn z w1.heap.size 57 F a c X) := Lib.hid fun z hz => HO.out.keep (hf2.trans hz (U := []) (by simp) (by simp)) (by simp) (fun y hy => .inl hy)
      clear hown hf2 HCL
      have HX1 := HX.out.1
      have hfin : Hid (∀ a' c' w3, AppS (w2.alloc (.cells #[.int .u64 (nk : Nat), .slice ca dn cc] 57)) w3 w1.heap.size 57 2 (.slice a k c) k 1 (ic X) (ic [⟨(nk, d), ca, cc⟩]) a' c' → LiRel w1 F x.ents (.slice a' (k + 1) c') (.int .i64 ((k + 1 : Nat) : Nat)) w3) := Lib.hid fun a' c' w3 happ => by
        have hfa : Frm [] w2 (w2.alloc (.cells #[.int .u64 (nk : Nat), .slice ca dn cc] 57)) := (Frm.refl _ _).alloc _
        have hob := bytes_of_own (by have := HOC.out; rw [HDN.out] at this; exact this) H8.out
        have hcb : ∀ q, ca = some q → wr.heap.size ≤ q.block := fun q hq => (own_block_lt HOC.out (g := q.block) (by rw [hq]; rfl)).1
        have hblk := (HO.out.blk_lt)
        have hok : IOk (w2.alloc (.cells #[.int .u64 (nk : Nat), .slice ca dn cc] 57)) (blk a ++ F) [⟨(nk, d), ca, cc⟩] := by
          intro y hy
          simp at hy
          subst hy
          refine ⟨hfa.bytes' hob.2.1 (by simp), fun _ q hq hm => ?_, hob.2.2, hnk⟩
          have h1 := hcb q hq
          rcases List.mem_append.1 hm with h2 | h2
          · have := (hblk _ h2).2; omega
          · have := HLOW.out _ h2; have := HFW.out.size; omega
        obtain ⟨r1, r2, r3, r4⟩ := (HV.out _ hfa).app HX1.symm hok rfl (fun y hy => by have := HLOW.out y hy; have := HFW.out.size; have := HF2.out.size; have := hfa.size; omega) happ
        refine ⟨k + 1, a', c', X ++ [⟨(nk, d), ca, cc⟩], by have := HM.out; omega, rfl, rfl, Lib.hid ⟨by simp [HX1], ?_⟩, Lib.hid r1, Lib.hid (((HFR.out.trans HF2.out (U := []) (by simp) (by simp)).trans hfa (U := []) (by simp) (by simp)).trans r2 (by simp) (fun y hy => ?_))⟩
        · have h1 : k < x.ents.length := by have := HM.out; omega
          have h2 : x.ents.take (k + 1) = x.ents.take k ++ [(nk, d)] := by
            rw [List.take_succ_eq_append_getElem h1]
            have h3 := HEN.out
            simp [List.getD, h1] at h3
            rw [← h3]
          rw [h2, ← HX.out.2]; simp [its]
        · exact .inr (hblk y hy).1
      have HINF := Lib.hid hinf
      have HX1 := Lib.hid HX1
      clear HME hkc2 hinf
      go_wp2_with (refine wpList_appS rfl (.tmp 26) (.tmp 33) 80 rfl w1.heap.size 57 i0 (.agg #[.int .u64 0, .slice none 0 0]) 2 32 Tryz.underlying80 HINF.out hz0 rfl (by omega) hz1 hz2 (by omega) (.slice a k c) k (ic X) rfl (by have := (HV.out _ ((Frm.refl [] w2).alloc (.cells #[.int .u64 (nk : Nat), .slice ca dn cc] 57))).own; rw [HX1.out] at this; exact this) (some ⟨w2.heap.size, 0, none⟩) 1 1 (ic [⟨(nk, d), ca, cc⟩]) rfl (by rw [show ic [⟨(nk, d), ca, cc⟩] = [.int .u64 (nk : Nat), .slice ca dn cc] from by rw [HDN.out]; rfl]; exact vals_two _ _ _ _ _) rfl (ic_one _) (fun h => by cases h) (by omega) (by have h1 := HFR.out.size; have h2 := HF2.out.size; simp; omega) ?_; intro a' c' w3 happ; have HREL := Lib.hid (hfin.out a' c' w3 happ); clear happ)
      go_roundw
      case rel => exact HREL.out
      case measure => simp [intOf]; omega
    · obtain rfl : k = m := by have := HM.out; omega
      have HE : Hid (Q (.returned (.slice a k c)) wr) := Lib.hid (by
        rw [HQ.out]
        refine ⟨a, c, X, by rw [HX.out.2, HM.out, List.take_length], by rw [HX.out.1], ?_, HF1.out.trans HFR.out (U := []) (by simp) (by simp)⟩
        have h := HO.out
        exact ⟨own_base h.own HF1.out.size, h.ok, h.away⟩)
      go_wp2
      exact HE.out
end Go.Proofs.YtamcandcfainfaaGreat
