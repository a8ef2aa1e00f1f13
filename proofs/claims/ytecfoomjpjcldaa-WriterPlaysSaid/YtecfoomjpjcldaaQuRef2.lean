/- The document's quorum: is a place in a list, how many say so, Enough, Covered. -/
import Derived.Test.YtecfoomjpjcldaaQuRef
namespace Go.Proofs.Ytecfoomjpjcldaa
open Go.RowKit
set_option maxRecDepth 100000

def InRel (l : List Nat) (p : Nat) (s5 : Value) (w wr : World) : Prop := ∃ k, k ≤ l.length ∧ s5 = .int .i64 (k : Nat) ∧ (∀ i, i < k → l.getD i 0 ≠ p) ∧ wr = w
theorem contains_yes {l : List Nat} {p k : Nat} (hk : k < l.length) (h : l.getD k 0 = p) : l.contains p = true := by
  rw [List.contains_iff_mem]
  rw [← h, List.getD_eq_getElem?_getD, List.getElem?_eq_getElem hk]
  exact List.getElem_mem hk
theorem contains_no {l : List Nat} {p : Nat} (h : ∀ i, i < l.length → l.getD i 0 ≠ p) : l.contains p = false := by
  refine Bool.eq_false_iff.2 fun ht => ?_
  rw [List.contains_iff_mem] at ht
  obtain ⟨i, hi, he⟩ := List.getElem_of_mem ht
  refine h i hi ?_
  rw [List.getD_eq_getElem?_getD, List.getElem?_eq_getElem hi]
  exact he

set_option maxHeartbeats 2000000 in
theorem in_any (a : Option Addr) (n cap p : Nat) (l : List Nat) (w : World) (h : IIn w a l) (hn : n = l.length) (hl : l.length ≤ 1000) :
    Calls Try.prog 18 #[.slice a n cap, .int .i64 (p : Nat)] w fun x w' => x = .returned (.bool (l.contains p)) ∧ w' = w := by
  have HN := Lib.hid hn; clear hn
  have H := Lib.hid h; clear h
  have HR0 : Hid (InRel l p (.int .i64 (0 : Nat)) w w) := Lib.hid ⟨0, Nat.zero_le _, rfl, fun i hi => absurd hi (by omega), rfl⟩
  go_enter Try.func18, Try.ntmps18
  go_wp2
  go_loopw [5] (fun s5 wr => InRel l p s5 w wr) (fun s5 _ => l.length - (intOf s5).toNat)
  case atStart => exact HR0.out
  case round =>
    clear HR0
    obtain ⟨k, hk, rfl, hall, rfl⟩ := hrel
    have HALL := Lib.hid hall; clear hall
    by_cases hlt : k < n
    · have hlt' : k < l.length := by rw [← HN.out]; exact hlt
      obtain ⟨b, off, rfl, hc⟩ := H.out k hlt'
      obtain ⟨q, hq⟩ : ∃ q, q = l.getD k 0 := ⟨_, rfl⟩
      rw [← hq] at hc
      have HQ := Lib.hid hq; clear hq
      by_cases hqp : q = p
      · subst hqp
        have hd : ((q : Int) == (q : Int)) = true := by simp
        have HC := Lib.hid (contains_yes hlt' HQ.out.symm)
        go_wp2
        go_ret
        exact ⟨by rw [HC.out]; rfl, rfl⟩
      · have hd : ((q : Int) == (p : Int)) = false := by simp; omega
        go_wp2
        go_roundw
        case rel =>
          refine ⟨k + 1, hlt', by go_num, fun i hi => ?_, rfl⟩
          by_cases hik : i = k
          · rw [hik, ← HQ.out]; exact hqp
          · exact HALL.out i (by omega)
        case measure => simp [intOf]; omega
    · have HC := Lib.hid (contains_no (l := l) (p := p) (fun i hi => HALL.out i (by have := HN.out; omega)))
      go_wp2
      go_ret
      exact ⟨by rw [HC.out]; rfl, rfl⟩

/-- What the document has counted of the first k places. -/
def cntK (P W e k : Nat) (bs : List Bool) : Nat := (List.range k).countP (fun p => bs.getD p false && (setN P W e).contains p)
theorem cntK_succ (P W e k : Nat) (bs : List Bool) : cntK P W e (k + 1) bs = cntK P W e k bs + if (bs.getD k false && (setN P W e).contains k) = true then 1 else 0 := by
  unfold cntK
  rw [List.range_succ, List.countP_append]
  simp [List.countP_cons]
theorem cntK_le (P W e k : Nat) (bs : List Bool) : cntK P W e k bs ≤ k := by
  have := List.countP_le_length (p := fun p => bs.getD p false && (setN P W e).contains p) (l := List.range k)
  simpa [cntK] using this
theorem cntK_all (P W e k : Nat) (bs : List Bool) (hW : W ≤ P) (hk : k ≤ P) (h : k = P ∨ bs.length ≤ k) : cntK P W e k bs = toldN P W e bs := by
  rw [← cnt_all P W e bs hW]
  rcases h with rfl | h
  · rfl
  · refine (countP_cut _ P k (fun p hp => ?_) hk).symm
    rw [List.getD_eq_getElem?_getD, List.getElem?_eq_none (by omega)]
    rfl
theorem setN_len (P W e : Nat) : (setN P W e).length = W := by simp [setN]

def CtRel (w : World) (p P W A e : Nat) (bs : List Bool) (s7 s8 : Value) (wr : World) : Prop :=
  ∃ k, k ≤ P ∧ k ≤ bs.length ∧ s8 = .int .i64 (k : Nat) ∧ s7 = .int .i64 (cntK P W e k bs : Nat) ∧ Hid (Frm [] w wr) ∧ Hid (Whole wr p 23 (quC P W A))

set_option maxHeartbeats 4000000 in
theorem rcount_any (P W A e : Nat) (a0 : Option Addr) (len cap : Nat) (bs : List Bool) (w : World) (hA : 1 ≤ A) (hAW : A ≤ W) (h7 : P ≤ 7) (hW : W ≤ P) (he : e < 18446744073709551616) (hb : BIn w a0 bs) (hl : len = bs.length) :
    Calls Try.prog 48 #[quV P W A, .int .u64 (e : Nat), .slice a0 len cap] w fun x w' => x = .returned (.int .i64 (toldN P W e bs : Nat)) ∧ Frm [] w w' := by
  have HB := Lib.hid hb; clear hb
  have HL := Lib.hid hl; clear hl
  go_enter Try.func48, Try.ntmps48
  have HQ0 := Lib.hid (Whole.made w 23 (quC P W A))
  have HF0 := Lib.hid ((Frm.refl [] w).alloc (.cells (quC P W A) 23))
  have HR0 : Hid (CtRel w w.heap.size P W A e bs (.int .i64 (0 : Nat)) (.int .i64 (0 : Nat)) (w.alloc (.cells (quC P W A) 23))) := Lib.hid ⟨0, Nat.zero_le _, Nat.zero_le _, rfl, rfl, HF0, HQ0⟩
  clear HQ0 HF0
  obtain ⟨p, hp⟩ : ∃ p, p = w.heap.size := ⟨_, rfl⟩
  rw [← hp] at HR0
  go_wp2
  rw [← hp]
  clear hp
  go_loopw [7, 8] (fun s7 s8 wr => CtRel w p P W A e bs s7 s8 wr) (fun _ s8 _ => P - (intOf s8).toNat)
  case atStart => exact HR0.out
  case round =>
    clear HR0
    obtain ⟨k, hk, hkl, rfl, rfl, HF, HQ⟩ := hrel
    have c0 : wr.cell? ⟨p, 0, none⟩ = some (.int .i64 (P : Int)) := HQ.out.cell 0
    by_cases hlt : k < P
    · have hd : decide ((k : Int) < (P : Int)) = true := decide_eq_true (by omega)
      by_cases hlt2 : k < len
      · have hd2 : decide ((k : Int) < (len : Int)) = true := decide_eq_true (by omega)
        obtain ⟨b, off, ha, hc⟩ := (HB.out.keep HF.out) k (by rw [← HL.out]; exact hlt2)
        have HKL : Hid (k + 1 ≤ bs.length) := Lib.hid (by rw [← HL.out]; exact hlt2)
        have HC := Lib.hid (cntK_succ P W e k bs)
        have hcl := cntK_le P W e k bs
        obtain ⟨n, hn⟩ : ∃ n, n = cntK P W e k bs := ⟨_, rfl⟩
        rw [← hn] at HC hcl ⊢
        clear hn
        obtain ⟨g, hg⟩ : ∃ g, g = bs.getD k false := ⟨_, rfl⟩
        rw [← hg] at hc HC
        subst ha
        clear hg hkl
        cases g
        · go_wp2
          go_roundw
          case rel => exact ⟨k + 1, hlt, HKL.out, by go_num, by rw [HC.out]; rfl, HF, HQ⟩
          case measure => simp [intOf]; omega
        · have c1 : wr.cell? ⟨p, 1, none⟩ = some (.int .i64 (W : Int)) := HQ.out.cell 1
          have c2 : wr.cell? ⟨p, 2, none⟩ = some (.int .i64 (A : Int)) := HQ.out.cell 2
          have RS := Lib.hid (rset_any P W A e wr hA hAW h7 hW he)
          go_wp2_with fail
          refine RS.out.mono ?_
          rintro x w2 ⟨a', cap', rfl, hi2, hf2⟩
          have HF2 := Lib.hid (HF.out.trans hf2 (U := []) (by simp) (by simp))
          have HQ2 := Lib.hid (hf2.whole HQ.out (by simp))
          have IN := Lib.hid (in_any a' W cap' k (setN P W e) w2 hi2 (setN_len P W e).symm (by rw [setN_len]; omega))
          obtain ⟨g2, hg2⟩ : ∃ g2, g2 = (setN P W e).contains k := ⟨_, rfl⟩
          rw [← hg2] at HC IN
          clear hg2 hf2 hi2 RS c0 c1 c2 HF HQ hc
          go_wp2_with fail
          refine IN.out.mono ?_
          rintro x w3 ⟨rfl, rfl⟩
          cases g2
          · go_wp2
            go_roundw
            case rel => exact ⟨k + 1, hlt, HKL.out, by go_num, by rw [HC.out]; rfl, HF2, HQ2⟩
            case measure => simp [intOf]; omega
          · go_wp2
            go_roundw
            case rel => exact ⟨k + 1, hlt, HKL.out, by go_num, by rw [HC.out]; rfl, HF2, HQ2⟩
            case measure => simp [intOf]; omega
      · have hd2 : decide ((k : Int) < (len : Int)) = false := decide_eq_false (by omega)
        have HE := Lib.hid (cntK_all P W e k bs hW hk (.inr (by rw [← HL.out]; omega)))
        go_wp2
        go_ret
        exact ⟨by rw [HE.out]; rfl, HF.out⟩
    · have hd : decide ((k : Int) < (P : Int)) = false := decide_eq_false (by omega)
      have HE := Lib.hid (cntK_all P W e k bs hW hk (.inl (by omega)))
      go_wp2
      go_ret
      exact ⟨by rw [HE.out]; rfl, HF.out⟩

set_option maxHeartbeats 4000000 in
theorem renough_any (P W A e : Nat) (a0 : Option Addr) (len cap : Nat) (bs : List Bool) (w : World) (hA : 1 ≤ A) (hAW : A ≤ W) (h7 : P ≤ 7) (hW : W ≤ P) (he : e < 18446744073709551616) (hb : BIn w a0 bs) (hl : len = bs.length) :
    Calls Try.prog 20 #[quV P W A, .int .u64 (e : Nat), .slice a0 len cap] w fun x w' => x = .returned (.bool (enN P W A e bs)) ∧ Frm [] w w' := by
  go_enter Try.func20, Try.ntmps20
  have HQ0 := Lib.hid (Whole.made w 23 (quC P W A))
  have HF0 := Lib.hid ((Frm.refl [] w).alloc (.cells (quC P W A) 23))
  go_wp2_with fail
  generalize hw0 : w.alloc (.cells (quC P W A) 23) = w0 at HQ0 HF0 ⊢
  clear hw0
  obtain ⟨p, hp⟩ : ∃ p, p = w.heap.size := ⟨_, rfl⟩
  rw [← hp] at HQ0 ⊢
  have hb0 := hb.keep HF0.out
  clear hp hb
  have CK := Lib.hid (fun z => rcheck_any P W A z)
  rw [(okQ_iff P W A).2 (by omega)] at CK
  have TO := Lib.hid (fun z (hz : Frm [] w0 z) => rcount_any P W A e a0 len cap bs z hA hAW h7 hW he (hb0.keep hz) hl)
  have n0 : ∀ y, Frm [] w0 y → y.cell? ⟨p, 0, none⟩ = some (.int .i64 (P : Int)) := fun y hy => (hy.whole HQ0.out (by simp)).cell 0
  have n1 : ∀ y, Frm [] w0 y → y.cell? ⟨p, 1, none⟩ = some (.int .i64 (W : Int)) := fun y hy => (hy.whole HQ0.out (by simp)).cell 1
  have n2 : ∀ y, Frm [] w0 y → y.cell? ⟨p, 2, none⟩ = some (.int .i64 (A : Int)) := fun y hy => (hy.whole HQ0.out (by simp)).cell 2
  clear hb0 hl
  have hS0 := Frm.refl [] w0
  go_region_held3 (fun y => Frm [] w0 y) (repeat (first | assumption | apply Frm.drew | exact Frm.refl _ _)) ((first
    | (go_at_call 12; (with_reducible refine (CK.out _).mono ?_); rintro ex wz ⟨rfl, hfz⟩; have S1 : Frm [] w0 wz := Frm.trans (by assumption) hfz (by simp) (by simp); clear hfz)
    | (go_at_call 48; (with_reducible refine (TO.out _ (by assumption)).mono ?_); rintro ex wz ⟨rfl, hfz⟩; have S1 : Frm [] w0 wz := Frm.trans (by assumption) hfz (by simp) (by simp); clear hfz)))
  all_goals
    go_wp2
    go_ret
    exact ⟨by simp [enN], Frm.trans HF0.out (by assumption) (by simp) (by simp)⟩

def RcRel (w : World) (p P W A : Nat) (bs : List Bool) (s5 : Value) (wr : World) : Prop :=
  ∃ k, k ≤ P ∧ s5 = .int .i64 (k : Nat) ∧ (∀ e, e < k → W - A < toldN P W e bs) ∧ Frm [] w wr ∧ Whole wr p 23 (quC P W A)

set_option maxHeartbeats 4000000 in
theorem rcovered_any (P W A : Nat) (a0 : Option Addr) (len cap : Nat) (bs : List Bool) (w : World) (hA : 1 ≤ A) (hAW : A ≤ W) (h7 : P ≤ 7) (hW : W ≤ P) (hb : BIn w a0 bs) (hl : len = bs.length) :
    Calls Try.prog 29 #[quV P W A, .slice a0 len cap] w fun x w' => x = .returned (.bool (covN P W A bs)) ∧ Frm [] w w' := by
  have HB := Lib.hid hb; clear hb
  have HL := Lib.hid hl; clear hl
  go_enter Try.func29, Try.ntmps29
  have HQ0 := Lib.hid (Whole.made w 23 (quC P W A))
  have HF0 := Lib.hid ((Frm.refl [] w).alloc (.cells (quC P W A) 23))
  have c0 : (w.alloc (.cells (quC P W A) 23)).cell? ⟨w.heap.size, 0, none⟩ = some (.int .i64 (P : Int)) := (Whole.made w _ _).cell 0
  have c1 : (w.alloc (.cells (quC P W A) 23)).cell? ⟨w.heap.size, 1, none⟩ = some (.int .i64 (W : Int)) := (Whole.made w _ _).cell 1
  have c2 : (w.alloc (.cells (quC P W A) 23)).cell? ⟨w.heap.size, 2, none⟩ = some (.int .i64 (A : Int)) := (Whole.made w _ _).cell 2
  have CK := Lib.hid (fun z => rcheck_any P W A z)
  rw [(okQ_iff P W A).2 (by omega)] at CK
  go_wp2_with fail
  generalize hw0 : w.alloc (.cells (quC P W A) 23) = w0 at c0 c1 c2 HQ0 HF0 ⊢
  clear hw0
  obtain ⟨p, hp⟩ : ∃ p, p = w.heap.size := ⟨_, rfl⟩
  rw [← hp] at HQ0 c0 c1 c2 ⊢
  clear hp
  refine (CK.out w0).mono ?_
  rintro x w1 ⟨rfl, hf1⟩
  have HQ1 := Lib.hid (hf1.whole HQ0.out (by simp))
  have HF1 := Lib.hid (HF0.out.trans hf1 (U := []) (by simp) (by simp))
  have d0 : w1.cell? ⟨p, 0, none⟩ = some (.int .i64 (P : Int)) := HQ1.out.cell 0
  have HR0 : Hid (RcRel w p P W A bs (.int .i64 (0 : Nat)) w1) := Lib.hid ⟨0, Nat.zero_le _, rfl, fun e he => absurd he (by omega), HF1.out, HQ1.out⟩
  clear hf1 HQ0 HF0 c0 c1 c2 CK HF1 HQ1
  go_wp2
  clear d0
  go_loopw [5] (fun s5 wr => RcRel w p P W A bs s5 wr) (fun s5 _ => P - (intOf s5).toNat)
  case atStart => exact HR0.out
  case round =>
    clear HR0
    obtain ⟨k, hk, rfl, hall, hf, hq⟩ := hrel
    have HF := Lib.hid hf; clear hf
    have HQ := Lib.hid hq; clear hq
    have HALL := Lib.hid hall; clear hall
    by_cases hlt : k < P
    · have TO := Lib.hid (fun z (hz : Frm [] wr z) => rcount_any P W A k a0 len cap bs z hA hAW h7 hW (by omega) (HB.out.keep (HF.out.trans hz (U := []) (by simp) (by simp))) HL.out)
      have n0 : ∀ y, Frm [] wr y → y.cell? ⟨p, 0, none⟩ = some (.int .i64 (P : Int)) := fun y hy => (hy.whole HQ.out (by simp)).cell 0
      have n1 : ∀ y, Frm [] wr y → y.cell? ⟨p, 1, none⟩ = some (.int .i64 (W : Int)) := fun y hy => (hy.whole HQ.out (by simp)).cell 1
      have n2 : ∀ y, Frm [] wr y → y.cell? ⟨p, 2, none⟩ = some (.int .i64 (A : Int)) := fun y hy => (hy.whole HQ.out (by simp)).cell 2
      have u1 : IntKind.u64.wrap (k : Int) = (k : Int) := by simp [IntKind.wrap, IntKind.bits, IntKind.signed]; omega
      have u2 : IntKind.i64.wrap ((W : Int) - (A : Int)) = (W : Int) - (A : Int) := IntWalk.i64_in _ (by omega)
      obtain ⟨n, hn⟩ : ∃ n, n = toldN P W k bs := ⟨_, rfl⟩
      rw [← hn] at TO
      have HN := Lib.hid hn; clear hn
      have m0 : wr.cell? ⟨p, 0, none⟩ = some (.int .i64 (P : Int)) := HQ.out.cell 0
      go_wp2
      clear m0
      have hS0 := Frm.refl [] wr
      by_cases hc : n ≤ W - A
      · have hd : decide ((n : Int) ≤ (W : Int) - (A : Int)) = true := decide_eq_true (by omega)
        go_region_held3 (fun y => Frm [] wr y) (repeat (first | assumption | apply Frm.drew | exact Frm.refl _ _)) (
          (go_at_call 48; (with_reducible refine (TO.out _ (by assumption)).mono ?_); rintro ex wz ⟨rfl, hfz⟩; have S1 : Frm [] wr wz := Frm.trans (by assumption) hfz (by simp) (by simp); clear hfz))
        all_goals
          clear n0 n1 n2 TO
          go_wp2
          go_ret
          exact ⟨by rw [covN_no hlt (by rw [← HN.out]; exact hc)]; rfl, HF.out.trans S1 (by simp) (by simp)⟩
      · have hd : decide ((n : Int) ≤ (W : Int) - (A : Int)) = false := decide_eq_false (by omega)
        go_region_held3 (fun y => Frm [] wr y) (repeat (first | assumption | apply Frm.drew | exact Frm.refl _ _)) (
          (go_at_call 48; (with_reducible refine (TO.out _ (by assumption)).mono ?_); rintro ex wz ⟨rfl, hfz⟩; have S1 : Frm [] wr wz := Frm.trans (by assumption) hfz (by simp) (by simp); clear hfz))
        all_goals
          clear n0 n1 n2 TO
          go_wp2
          go_roundw
          case rel =>
            refine ⟨k + 1, hlt, by go_num, fun e he => ?_, HF.out.trans S1 (by simp) (by simp), S1.whole HQ.out (by simp)⟩
            by_cases hek : e = k
            · rw [hek, ← HN.out]; omega
            · exact HALL.out e (by omega)
          case measure => simp [intOf]; omega
    · obtain rfl : k = P := by omega
      have m0 : wr.cell? ⟨p, 0, none⟩ = some (.int .i64 (k : Int)) := HQ.out.cell 0
      go_wp2
      go_ret
      exact ⟨by rw [covN_yes HALL.out]; rfl, HF.out⟩
end Go.Proofs.Ytecfoomjpjcldaa
