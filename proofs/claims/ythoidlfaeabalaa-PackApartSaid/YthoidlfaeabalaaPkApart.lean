/- PackApart: for every two pairs of texts the law answers true and writes nothing that was there. No condition. -/
import Derived.Test.YthoidlfaeabalaaPkFrame
namespace Go.Proofs.Ythoidlfaeabalaa
open Go.RowKit

/-- A text, as it is put. -/
def pr (s : ByteArray) : List Nat := be 4 s.size ++ strL s
theorem pr_length (s : ByteArray) : (pr s).length = 4 + s.size := by simp [pr, be_length, strL_length]
theorem pr_lt (s : ByteArray) : ∀ c ∈ pr s, c < 256 := by
  intro c hc
  rcases List.mem_append.1 hc with h | h
  · exact be_lt _ _ c h
  · exact strL_lt s c h
theorem pr_inj {s t : ByteArray} {m n : List Nat} (hs : s.size < 4294967296) (ht : t.size < 4294967296) (h : pr s ++ m = pr t ++ n) : s = t ∧ m = n := by
  have h4 : be 4 s.size = be 4 t.size := by
    have := congrArg (List.take 4) h
    simpa [pr, List.take_append_of_le_length, be_length] using this
  have hsz := be_inj 4 s.size t.size (by simpa using hs) (by simpa using ht) h4
  have hl : (pr s).length = (pr t).length := by rw [pr_length, pr_length, hsz]
  obtain ⟨h1, h2⟩ := List.append_inj h hl
  unfold pr at h1
  rw [h4] at h1
  exact ⟨strL_inj (List.append_cancel_left h1), h2⟩

/-- What the law's own put hands back. -/
def Paired (w : World) (s0 s1 : ByteArray) (e : Ending) (w' : World) : Prop := e = .returned (.string (strOf (pr s0 ++ pr s1))) ∧ Frm [] w w'

theorem frm_cell {w w' : World} {S : List Nat} {a : Addr} {v : Value} (hf : Frm S w w') (h : w.cell? a = some v) (hn : a.block ∉ S) : w'.cell? a = some v := (hf.cell (block_lt_of_cell h) hn).trans h
theorem Wr.zero' {w : World} {g : Nat} (hg : g = w.heap.size) : Wr (w.alloc (.cells #[.pointer none, .int .i64 0] 63)) g g [g] [] := by
  subst hg; exact Wr.zero w

set_option maxHeartbeats 1000000 in
theorem pair_any (s0 s1 : ByteArray) (w : World) (h0 : s0.size ≤ 500) (h1 : s1.size ≤ 500) :
    Calls Try.prog 26 #[.agg #[.string s0, .string s1]] w (Paired w s0 s1) := by
  go_enter Try.func26, Try.ntmps26
  go_wp2_with fail
  have hz : Wr (((w.alloc (.cells #[.string s0, .string s1] 60)).alloc (.cells #[.pointer none, .int .i64 0] 63))) (w.heap.size + 1) (w.heap.size + 1) [w.heap.size + 1] [] := Wr.zero' (by simp)
  have hbx : Whole (((w.alloc (.cells #[.string s0, .string s1] 60)).alloc (.cells #[.pointer none, .int .i64 0] 63))) w.heap.size 60 #[.string s0, .string s1] := (Whole.made w _ _).alloc _
  have hf0 : Frm [] w (((w.alloc (.cells #[.string s0, .string s1] 60)).alloc (.cells #[.pointer none, .int .i64 0] 63))) := ((Frm.refl _ _).alloc _).alloc _
  have HF0 := Lib.hid hf0; clear hf0
  have HBX := Lib.hid hbx; clear hbx
  refine (text_any s0 hz (by omega) (by simp; omega)).mono ?_
  rintro e w1 ⟨rfl, F1, hw1, hf1, hx1⟩
  have hb1 := hf1.whole HBX.out (by simp)
  have b1 := hb1.cell 1
  simp at b1
  have HW1 := Lib.hid hw1; clear hw1
  have HB1 := Lib.hid (HF0.out.fresh (by simp) hf1); clear hf1 hx1 hb1 hz
  go_wp2_with fail
  refine (text_any s1 HW1.out (by omega) (by simp [be_length, strL_length]; omega)).mono ?_
  rintro e w2 ⟨rfl, F2, hw2, hf2, hx2⟩
  have HW2 := Lib.hid hw2; clear hw2
  have HB2 := Lib.hid (HB1.out.fresh (fun x hx => by have := (HW1.out.lt x hx).1; omega) hf2); clear hf2 hx2
  go_wp2_with fail
  have e1 : [] ++ (be 4 s0.size ++ strL s0) ++ (be 4 s1.size ++ strL s1) = pr s0 ++ pr s1 := rfl
  have hw2 := HW2.out
  rw [e1] at hw2
  have hlen : (pr s0 ++ pr s1).length = 8 + s0.size + s1.size := by rw [List.length_append, pr_length, pr_length]; omega
  refine (done_any hw2 (by omega)).mono ?_
  rintro e w3 ⟨a3, cap3, rfl, ho3, hf3⟩
  obtain ⟨k, hk⟩ : ∃ k, k = (pr s0 ++ pr s1).length := ⟨_, rfl⟩
  have hb3 := own_bytes ho3 hw2.1
  have hcv := run_to_string (P := Try.prog) (src := 26) (dst := 9) (e := 5) Try.underlying26 Try.underlying5 Try.underlying9 (n := k) (c := cap3) hb3.1 hk
  have HF3 := Lib.hid (HB2.out.trans hf3 (U := []) (by simp) (by simp))
  obtain ⟨S, hS⟩ : ∃ S, S = strOf (pr s0 ++ pr s1) := ⟨_, rfl⟩
  rw [← hS] at hcv
  rw [← hk]
  have HSS := Lib.hid hS
  clear hb3 ho3 hf3 e1 hw2 hlen hS hk b1
  go_wp2
  go_ret
  exact ⟨by rw [← HSS.out]; rfl, HF3.out⟩

theorem toList_inj {a b : ByteArray} : a.toList = b.toList ↔ a = b := by
  constructor
  · intro h
    rw [ByteArray.toList_eq, ByteArray.toList_eq] at h
    exact ByteArray.ext (Array.toList_inj.1 h)
  · intro h; rw [h]
theorem pair_says (s0 s1 t0 t1 : ByteArray) (g0 : s0.size ≤ 500) (g1 : s1.size ≤ 500) (g2 : t0.size ≤ 500) (g3 : t1.size ≤ 500) :
    (((strOf (pr s0 ++ pr s1)).toList == (strOf (pr t0 ++ pr t1)).toList) == (s0.toList == t0.toList && s1.toList == t1.toList)) = true := by
  have l1 : ∀ c ∈ pr s0 ++ pr s1, c < 256 := fun c hc => by
    rcases List.mem_append.1 hc with h | h
    · exact pr_lt _ c h
    · exact pr_lt _ c h
  have l2 : ∀ c ∈ pr t0 ++ pr t1, c < 256 := fun c hc => by
    rcases List.mem_append.1 hc with h | h
    · exact pr_lt _ c h
    · exact pr_lt _ c h
  have key : (strOf (pr s0 ++ pr s1)).toList = (strOf (pr t0 ++ pr t1)).toList ↔ (s0.toList = t0.toList ∧ s1.toList = t1.toList) := by
    rw [toList_inj, toList_inj, toList_inj]
    constructor
    · intro h
      have h' := strOf_inj l1 l2 h
      obtain ⟨e0, h1⟩ := pr_inj (by omega) (by omega) h'
      have h1' : pr s1 ++ [] = pr t1 ++ [] := by rw [List.append_nil, List.append_nil]; exact h1
      exact ⟨e0, (pr_inj (by omega) (by omega) h1').1⟩
    · rintro ⟨rfl, rfl⟩; rfl
  rw [beq_iff_eq, Bool.eq_iff_iff]
  simp [key]
theorem size_text (w : World) : (Go.sizeOf 9).run Try.prog w = .ok 1 w := by kernel_rfl
theorem part_text (s0 s1 : ByteArray) (w : World) : (part 9 #[.string s0, .string s1] 0).run Try.prog w = .ok (.string s0) w ∧ (part 9 #[.string s0, .string s1] 1).run Try.prog w = .ok (.string s1) w := ⟨by kernel_rfl, by kernel_rfl⟩
theorem eql_pair (s0 s1 t0 t1 : ByteArray) (w : World) : (binOp .eql 60 (.agg #[.string s0, .string s1]) (.agg #[.string t0, .string t1])).run Try.prog w = .ok (.bool (s0.toList == t0.toList && s1.toList == t1.toList)) w := by
  have h : ∀ d : Nat, (Op.equalIn (d + 1 + 1) 60 (.agg #[.string s0, .string s1]) (.agg #[.string t0, .string t1])).run Try.prog w = .ok (s0.toList == t0.toList && s1.toList == t1.toList) w := by
    intro d
    rw [Op.equalIn]
    simp only [Sem.run_bind, run_underlying Try.underlying60, Result.andThen_ok, size_text, Std.Legacy.Range.forIn_eq_forIn_range', Std.Legacy.Range.size]
    simp [List.range', (part_text _ _ _).1, run_equalIn_string _ d 9 _ _ Try.underlying9, Result.andThen]
    by_cases h1 : s0.toList = t0.toList
    · simp [h1, (part_text _ _ _).2, run_equalIn_string _ d 9 _ _ Try.underlying9, Result.andThen]
      by_cases h2 : s1.toList = t1.toList
      · simp [h2]
      · simp [h2]
    · simp [h1]
  rw [run_eql_struct, h 9998]
  rfl

set_option maxHeartbeats 1000000 in
theorem packApart_walk (s0 s1 t0 t1 : ByteArray) (w : World) (h0 : s0.size ≤ 9223372036854775807) (h1 : s1.size ≤ 9223372036854775807) (h2 : t0.size ≤ 9223372036854775807) (h3 : t1.size ≤ 9223372036854775807) :
    Calls Try.prog 9 #[.agg #[.string s0, .string s1], .agg #[.string t0, .string t1]] w fun e w' => e = .returned (.bool true) ∧ Below w.heap.size w w' := by
  have hep := eql_pair s0 s1 t0 t1
  have hA : Whole ((w.alloc (.cells #[.string s0, .string s1] 60)).alloc (.cells #[.string t0, .string t1] 60)) w.heap.size 60 #[.string s0, .string s1] := (Whole.made w _ _).alloc _
  have hB : Whole ((w.alloc (.cells #[.string s0, .string s1] 60)).alloc (.cells #[.string t0, .string t1] 60)) (w.heap.size + 1) 60 #[.string t0, .string t1] := Whole.made' _ _ (by simp)
  have hF : Frm [] w ((w.alloc (.cells #[.string s0, .string s1] 60)).alloc (.cells #[.string t0, .string t1] 60)) := ((Frm.refl _ _).alloc _).alloc _
  have HA := Lib.hid hA; clear hA
  have HB := Lib.hid hB; clear hB
  have HF := Lib.hid hF; clear hF
  go_enter Try.func9, Try.ntmps9
  go_wp2_with fail
  refine (awake2_any _).mono ?_
  rintro e w1 ⟨rfl, hb⟩
  have hf1 := HF.out.trans (Frm.ofBelow hb) (U := []) (by simp) (by simp)
  have hA1 := (Frm.ofBelow hb).whole HA.out (by simp)
  have hB1 := (Frm.ofBelow hb).whole HB.out (by simp)
  have a0 := hA1.cell 0
  have a1 := hA1.cell 1
  have b0 := hB1.cell 0
  have b1 := hB1.cell 1
  simp at a0 a1 b0 b1
  have HF1 := Lib.hid hf1; clear hf1 hb
  have HA1 := Lib.hid hA1; clear hA1
  have HB1 := Lib.hid hB1; clear hB1
  by_cases hg : s0.size ≤ 500 ∧ s1.size ≤ 500 ∧ t0.size ≤ 500 ∧ t1.size ≤ 500
  · obtain ⟨g0, g1, g2, g3⟩ := hg
    clear h0 h1 h2 h3
    go_wp2
    go_region_held3 (fun w' => w'.cell? ⟨w.heap.size, 0, none⟩ = some (.string s0) ∧ w'.cell? ⟨w.heap.size, 1, none⟩ = some (.string s1) ∧ w'.cell? ⟨w.heap.size + 1, 0, none⟩ = some (.string t0) ∧ w'.cell? ⟨w.heap.size + 1, 1, none⟩ = some (.string t1) ∧ Frm [] w w')
      (first | assumption | exact ⟨a0, a1, b0, b1, HF1.out.drew⟩ | exact ⟨a0, a1, b0, b1, HF1.out⟩)
      (first | (go_at_call_of 26 (Value.agg #[Value.string s0, Value.string s1]); refine (pair_any s0 s1 _ g0 g1).mono ?_; rintro e wx ⟨rfl, hfx⟩; have hSx : wx.cell? ⟨w.heap.size, 0, none⟩ = some (.string s0) ∧ wx.cell? ⟨w.heap.size, 1, none⟩ = some (.string s1) ∧ wx.cell? ⟨w.heap.size + 1, 0, none⟩ = some (.string t0) ∧ wx.cell? ⟨w.heap.size + 1, 1, none⟩ = some (.string t1) ∧ Frm [] w wx := (by go_split_ands; exact ⟨frm_cell hfx (by assumption) (by simp), frm_cell hfx (by assumption) (by simp), frm_cell hfx (by assumption) (by simp), frm_cell hfx (by assumption) (by simp), Frm.trans (by assumption) hfx (by simp) (by simp)⟩)) | (go_at_call_of 26 (Value.agg #[Value.string t0, Value.string t1]); refine (pair_any t0 t1 _ g2 g3).mono ?_; rintro e wy ⟨rfl, hfy⟩; have hSy : wy.cell? ⟨w.heap.size, 0, none⟩ = some (.string s0) ∧ wy.cell? ⟨w.heap.size, 1, none⟩ = some (.string s1) ∧ wy.cell? ⟨w.heap.size + 1, 0, none⟩ = some (.string t0) ∧ wy.cell? ⟨w.heap.size + 1, 1, none⟩ = some (.string t1) ∧ Frm [] w wy := (by go_split_ands; exact ⟨frm_cell hfy (by assumption) (by simp), frm_cell hfy (by assumption) (by simp), frm_cell hfy (by assumption) (by simp), frm_cell hfy (by assumption) (by simp), Frm.trans (by assumption) hfy (by simp) (by simp)⟩)))
    all_goals
      have HSX := Lib.hid hSx
      have HSY := Lib.hid hSy
      have HP := Lib.hid (pair_says s0 s1 t0 t1 g0 g1 g2 g3)
      clear hep hSx hSy hfx hfy a0 a1 b0 b1
      go_wp2
      go_ret
      have hfin : Below w.heap.size w wx ∧ Below w.heap.size w wy := ⟨(HSX.out.2.2.2.2).below (by simp) (Nat.le_refl _), (HSY.out.2.2.2.2).below (by simp) (Nat.le_refl _)⟩
      refine ⟨congrArg (fun b => Ending.returned (.bool b)) HP.out, ?_⟩
      first | exact hfin.2 | exact hfin.1
  · go_wp2
    all_goals first | (exfalso; omega) | (go_ret; exact ⟨rfl, HF1.out.below (by simp) (Nat.le_refl _)⟩)
end Go.Proofs.Ythoidlfaeabalaa
