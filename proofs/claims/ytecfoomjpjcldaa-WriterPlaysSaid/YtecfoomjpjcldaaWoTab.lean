/- WriterOrder's own table: which places have said so of which entry. -/
import Derived.Test.YtecfoomjpjcldaaWrMany
import Derived.Test.YtecfoomjpjcldaaWrQuo
import Derived.Test.YtecfoomjpjcldaaQuRef2
namespace Go.Proofs.Ytecfoomjpjcldaa
open Go.RowKit
set_option maxRecDepth 100000
theorem infoBools : (Try.prog.info? 48).map (fun i => (i.zero, i.size, i.bytes)) = some (some (.slice none 0 0), 1, 24) := by kernel_rfl
theorem mk_brows (n : Nat) (h : n ≤ 1000) (w : World) : (Instr.makeSlice 35 (.int .i64 (n : Int)) (.int .i64 (n : Int))).run Try.prog w = .ok (.slice (some ⟨w.heap.size, 0, none⟩) n n) (w.alloc (.cells (List.replicate n (.slice none 0 0)).toArray 48)) := by
  obtain ⟨i0, hi0, hz0, hz1, hz2⟩ := info_parts infoBools
  have hr := run_make (P := Try.prog) w 35 48 i0 (.slice none 0 0) Try.underlying35 hi0 hz0 .i64 .i64 (n : Int) (n : Int) (by omega) (by omega) (by rw [hz2]; omega) (by omega)
  have he : (List.replicate n (.slice none 0 0)).toArray = madeCells (Value.slice none 0 0).cells (n * i0.size) := by
    rw [hz1, show (Value.slice none 0 0).cells = #[Value.slice none 0 0] from rfl, made_eq]
    simp
  rw [he]
  simpa only [Int.toNat_natCast] using hr
def brow (P : Nat) (f : Nat → Bool) : Array Value := rowB ((List.range P).map f)
theorem brow_at {P : Nat} {f : Nat → Bool} {j : Nat} (h : j < P) : (brow P f)[j]? = some (.bool (f j)) := by
  unfold brow
  rw [rowB_at _ _ (by simpa using h)]
  simp [h]
theorem brow_set {P : Nat} {f : Nat → Bool} {j : Nat} (b : Bool) : (brow P f).setIfInBounds j (.bool b) = brow P (fun k => if k = j then b else f k) := by
  unfold brow
  rw [rowB_set]
  congr 1
  apply List.ext_getElem?
  intro i
  rw [List.getElem?_set]
  by_cases hi : i < P
  · by_cases hj : j = i
    · subst hj; simp [hi]
    · rw [if_neg hj]; simp [hi, Ne.symm hj]
  · by_cases hj : j = i
    · subst hj; simp [hi]
    · rw [if_neg hj]; simp [hi]
/-- The table at block hb, the first k rows made: row i at block bf i. -/
structure Tb (w z : World) (hb P n k : Nat) (bf : Nat → Nat) (T : Nat → Nat → Bool) : Prop where
  outer : ∃ C, Whole z hb 48 C ∧ C.size = n ∧ (∀ i, i < k → C[i]? = some (.slice (some ⟨bf i, 0, none⟩) P P))
  row : ∀ i, i < k → Whole z (bf i) 4 (brow P (T i))
  ne : ∀ i j, i < k → j < k → bf i = bf j → i = j
  out : ∀ i, i < k → bf i ≠ hb
  new : w.heap.size ≤ hb ∧ ∀ i, i < k → w.heap.size ≤ bf i
section
variable {w z z' : World} {hb P n k : Nat} {bf : Nat → Nat} {T : Nat → Nat → Bool} {S : List Nat}
theorem Tb.keep (h : Tb w z hb P n k bf T) (hf : Frm S z z') (h1 : hb ∉ S) (h2 : ∀ i, i < k → bf i ∉ S) : Tb w z' hb P n k bf T := by
  obtain ⟨C, hC, hn, hc⟩ := h.outer
  exact ⟨⟨C, hf.whole hC h1, hn, hc⟩, fun i hi => hf.whole (h.row i hi) (h2 i hi), h.ne, h.out, h.new⟩
theorem Tb.here (h : Tb w z hb P n k bf T) (hf : Frm [] z z') : Tb w z' hb P n k bf T := h.keep hf (by simp) (by simp)
theorem Tb.set (h : Tb w z hb P n k bf T) {e j : Nat} (he : e < k) (b : Bool) : Tb w (z.setCell ⟨bf e, j, none⟩ (.bool b)) hb P n k bf (fun i => if i = e then fun q => if q = j then b else T e q else T i) := by
  obtain ⟨C, hC, hn, hc⟩ := h.outer
  refine ⟨⟨C, hC.other (p := ⟨bf e, j, none⟩) (Ne.symm (h.out e he)) _, hn, hc⟩, fun i hi => ?_, h.ne, h.out, h.new⟩
  by_cases hie : i = e
  · subst hie
    rw [if_pos rfl]
    have := (h.row i hi).put j (.bool b)
    rw [brow_set] at this
    exact this
  · rw [if_neg hie]
    exact (h.row i hi).other (p := ⟨bf e, j, none⟩) (fun hh => hie (h.ne i e hi he hh)) _
theorem Tb.bin (h : Tb w z hb P n k bf T) {i : Nat} (hi : i < k) : BIn z (some ⟨bf i, 0, none⟩) ((List.range P).map (T i)) := fun j hj => by
  have hj' : j < P := by simpa using hj
  refine ⟨bf i, 0, rfl, ?_⟩
  rw [Nat.zero_add, (h.row i hi).cell j, brow_at hj']
  simp [hj']
end
theorem Tb.more {w z : World} {hb P n k : Nat} {bf : Nat → Nat} {T : Nat → Nat → Bool} (h : Tb w z hb P n k bf T) (hk : k < n) (hT : ∀ j, T k j = false) :
    Tb w ((z.alloc (.cells (rowB (List.replicate P false)) 4)).setCell ⟨hb, k, none⟩ (.slice (some ⟨z.heap.size, 0, none⟩) P P)) hb P n (k + 1) (fun i => if i = k then z.heap.size else bf i) T := by
  obtain ⟨C, hC, hn, hc⟩ := h.outer
  have hlt := hC.lt
  refine ⟨⟨_, (hC.alloc _).put k _, by simpa using hn, fun i hi => ?_⟩, fun i hi => ?_, fun i j hi hj he => ?_, fun i hi => ?_, h.new.1, fun i hi => ?_⟩
  · by_cases hik : i = k
    · subst hik; simp [hn, hk]
    · rw [if_neg hik, Array.getElem?_setIfInBounds_ne (Ne.symm hik)]
      exact hc i (by omega)
  · by_cases hik : i = k
    · subst hik
      rw [if_pos rfl]
      have h1 : rowB (List.replicate P false) = brow P (T i) := by
        unfold brow
        congr 1
        apply List.ext_getElem?
        intro q
        by_cases hq : q < P
        · simp [hq, hT]
        · simp [hq]
      rw [h1]
      exact (Whole.made z _ _).other (p := ⟨hb, i, none⟩) (by simp; omega) _
    · rw [if_neg hik]
      exact ((h.row i (by omega)).alloc _).other (p := ⟨hb, k, none⟩) (h.out i (by omega)) _
  · have hl : ∀ i, i < k → bf i < z.heap.size := fun i hi => (h.row i hi).lt
    by_cases hik : i = k
    · by_cases hjk : j = k
      · omega
      · rw [if_pos hik, if_neg hjk] at he; have := hl j (by omega); omega
    · by_cases hjk : j = k
      · rw [if_neg hik, if_pos hjk] at he; have := hl i (by omega); omega
      · rw [if_neg hik, if_neg hjk] at he; exact h.ne i j (by omega) (by omega) he
  · by_cases hik : i = k
    · rw [if_pos hik]; omega
    · rw [if_neg hik]; exact h.out i (by omega)
  · by_cases hik : i = k
    · rw [if_pos hik]; have := h.new.1; omega
    · rw [if_neg hik]; exact h.new.2 i (by omega)
theorem enN_congr {P W A e : Nat} {x y : List Bool} (hP : 0 < P) (h : ∀ j, j < P → x.getD j false = y.getD j false) : enN P W A e x = enN P W A e y := by
  unfold enN toldN
  congr 2
  refine List.countP_congr fun i _ => ?_
  rw [h _ (plN_lt hP e i)]
theorem okN_tab {P W A i : Nat} {H T : Nat → Nat → Bool} (hP : 0 < P) (h7 : P ≤ 7) (h : ∀ j, j < P → T i j = H i j) : enN P W A i ((List.range P).map (T i)) = okN P W A H i := by
  unfold okN
  refine enN_congr hP fun j hj => ?_
  rw [hasL_at _ _ (by omega), ← h j hj]
  simp [List.getD, hj]
theorem LIn.at {w : World} {a : Option Addr} {cap : Nat} {L : List (List Nat)} (h : LIn w a cap L) {i : Nat} (hi : i < L.length) :
    ∃ b off, a = some ⟨b, off, none⟩ ∧ ∃ ai ci, w.cell? ⟨b, off + i, none⟩ = some (.slice ai (L.getD i []).length ci) ∧ Bytes w ai (L.getD i []) ∧ (ai = none → ci = 0) := by
  obtain ⟨b, off, h1, ai, ci, h2, h3, _, h5⟩ := h.ll.at hi
  exact ⟨b, off, h1, ai, ci, h2, h3, h5⟩
theorem LIn.here {w w' : World} {a : Option Addr} {cap : Nat} {L : List (List Nat)} (h : LIn w a cap L) (hf : Frm [] w w') : LIn w' a cap L := ⟨h.ll.keep hf (by simp) (by simp), h.nil⟩
end Go.Proofs.Ytecfoomjpjcldaa
