/- The layer quorum: an entry's places, as a slice of its own. -/
import Derived.Test.YtecfoomjpjcldaaQuRows
namespace Go.Proofs.Ytecfoomjpjcldaa
open Go.RowKit
set_option maxRecDepth 100000

/-- The row in the making: k places are there. -/
def setK (P W e k : Nat) : List Nat := (List.range W).map (fun j => if j < k then plN P e j else 0)
theorem setK_zero (P W e : Nat) : setK P W e 0 = List.replicate W 0 := by
  apply List.ext_getElem
  · simp [setK]
  · intro i h1 h2
    simp [setK]
theorem setK_all (P W e : Nat) : setK P W e W = setN P W e := by
  apply List.ext_getElem
  · simp [setK, setN]
  · intro i h1 h2
    have hi : i < W := by simpa [setN] using h2
    simp [setK, setN, hi]
theorem setK_len (P W e k : Nat) : (setK P W e k).length = W := by simp [setK]
theorem setK_succ (P W e k : Nat) : (setK P W e k).set k (plN P e k) = setK P W e (k + 1) := by
  apply List.ext_getElem
  · simp [setK]
  · intro i h1 h2
    rw [List.getElem_set]
    by_cases hk : k = i
    · subst hk; simp [setK]
    · rw [if_neg hk]
      simp only [setK, List.getElem_map, List.getElem_range]
      by_cases hl : i < k
      · rw [if_pos hl, if_pos (by omega)]
      · rw [if_neg hl, if_neg (by omega)]

def SeRel (w : World) (b P W A e : Nat) (s15 : Value) (wr : World) : Prop :=
  ∃ k, k ≤ W ∧ s15 = .int .i64 (k : Nat) ∧ Frm [] w wr ∧ Whole wr w.heap.size 23 (quC P W A) ∧ Whole wr b 3 (rowI (setK P W e k))

set_option maxHeartbeats 4000000 in
theorem qset_any (P W A e : Nat) (w : World) (hA : 1 ≤ A) (hAW : A ≤ W) (h7 : P ≤ 7) (hW : W ≤ P) (he : e < 18446744073709551616) :
    Calls Try.prog 54 #[quV P W A, .int .u64 (e : Nat)] w fun x w' => ∃ b, w.heap.size ≤ b ∧ x = .returned (.slice (some ⟨b, 0, none⟩) W W) ∧ Whole w' b 3 (rowI (setN P W e)) ∧ Frm [] w w' := by
  go_enter Try.func54, Try.ntmps54
  have c0 : (w.alloc (.cells (quC P W A) 23)).cell? ⟨w.heap.size, 0, none⟩ = some (.int .i64 (P : Int)) := (Whole.made w _ _).cell 0
  have c1 : (w.alloc (.cells (quC P W A) 23)).cell? ⟨w.heap.size, 1, none⟩ = some (.int .i64 (W : Int)) := (Whole.made w _ _).cell 1
  have c2 : (w.alloc (.cells (quC P W A) 23)).cell? ⟨w.heap.size, 2, none⟩ = some (.int .i64 (A : Int)) := (Whole.made w _ _).cell 2
  have HQ0 := Lib.hid (Whole.made w 23 (quC P W A))
  have HF0 := Lib.hid ((Frm.refl [] w).alloc (.cells (quC P W A) 23))
  go_wp2_with fail
  generalize hw0 : w.alloc (.cells (quC P W A) 23) = w0 at c0 c1 c2 HQ0 HF0 ⊢
  clear hw0
  refine (check_any P W A w0).mono ?_
  rintro x w1 ⟨rfl, hf1⟩
  rw [(okQ_iff P W A).2 (by omega)]
  have HQ1 := Lib.hid (hf1.whole HQ0.out (by simp))
  have HF1 := Lib.hid (HF0.out.trans hf1 (U := []) (by simp) (by simp))
  have d1 : w1.cell? ⟨w.heap.size, 1, none⟩ = some (.int .i64 (W : Int)) := HQ1.out.cell 1
  clear hf1 HQ0 HF0 c0 c1 c2
  have hmk := mk_ints W (by omega)
  obtain ⟨b, hb⟩ : ∃ b, b = w1.heap.size := ⟨_, rfl⟩
  have hbw : w.heap.size < b := by have := HQ1.out.lt; omega
  have HR0 : Hid (SeRel w b P W A e (.int .i64 (0 : Nat)) (w1.alloc (.cells (rowI (List.replicate W 0)) 3))) := Lib.hid ⟨0, Nat.zero_le _, rfl, HF1.out.alloc _, HQ1.out.alloc _, by rw [hb, setK_zero]; exact Whole.made w1 _ _⟩
  have d2 : (w1.alloc (.cells (rowI (List.replicate W 0)) 3)).cell? ⟨w.heap.size, 1, none⟩ = some (.int .i64 (W : Int)) := (HQ1.out.alloc _).cell 1
  go_wp2
  rw [← hb]
  clear hb hmk d1 d2 HF1 HQ1
  go_loopw [15] (fun s15 wr => SeRel w b P W A e s15 wr) (fun s15 _ => W - (intOf s15).toNat)
  case atStart => exact HR0.out
  case round =>
    clear HR0
    obtain ⟨k, hk, rfl, hf, hq, hrow⟩ := hrel
    have HF := Lib.hid hf; clear hf
    have HQ := Lib.hid hq; clear hq
    have HROW := Lib.hid hrow; clear hrow
    have c0 : wr.cell? ⟨w.heap.size, 0, none⟩ = some (.int .i64 (P : Int)) := HQ.out.cell 0
    have c1 : wr.cell? ⟨w.heap.size, 1, none⟩ = some (.int .i64 (W : Int)) := HQ.out.cell 1
    have c2 : wr.cell? ⟨w.heap.size, 2, none⟩ = some (.int .i64 (A : Int)) := HQ.out.cell 2
    by_cases hlt : k < W
    · have PL := Lib.hid (place_any P W A e k wr (by omega) h7 he (by omega))
      go_wp2_with fail
      refine PL.out.mono ?_
      rintro x w2 ⟨rfl, hf2⟩
      have HF2 := Lib.hid (HF.out.trans hf2 (U := []) (by simp) (by simp))
      have HQ2 := Lib.hid (hf2.whole HQ.out (by simp))
      have HR2 := Lib.hid (hf2.whole HROW.out (by simp))
      clear hf2 c0 c1 c2 HF HQ PL HROW
      obtain ⟨n, hn⟩ : ∃ n, n = plN P e k := ⟨_, rfl⟩
      have HNX : Hid (rowI (setK P W e (k + 1)) = (rowI (setK P W e k)).setIfInBounds k (.int .i64 (n : Nat))) := Lib.hid (by rw [hn, rowI_set, setK_succ])
      rw [← hn]
      have cz : w2.cell? ⟨b, k, none⟩ = some (.int .i64 ((setK P W e k).getD k 0 : Nat)) := (HR2.out.cell k).trans (rowI_at _ k (by rw [setK_len]; exact hlt))
      have fz : w2.frozen? ⟨b, k, none⟩ = false := HR2.out.free k
      clear hn
      go_wp2
      go_roundw
      case rel => exact ⟨k + 1, hlt, by go_num, HF2.out.setCell (.inr (by simpa using Nat.le_of_lt hbw)) _, HQ2.out.other (by simp; omega) _, by rw [HNX.out]; exact HR2.out.put k _⟩
      case measure => simp [intOf]; omega
    · obtain rfl : k = W := by omega
      go_wp2
      go_ret
      exact ⟨b, Nat.le_of_lt hbw, rfl, by rw [← setK_all]; exact HROW.out, HF.out⟩
end Go.Proofs.Ytecfoomjpjcldaa
