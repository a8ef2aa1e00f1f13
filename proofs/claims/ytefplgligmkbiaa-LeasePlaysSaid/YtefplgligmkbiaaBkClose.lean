/- Contracts of slices.Delete over the book's row, and of Close. -/
import Derived.Test.YtefplgligmkbiaaBkFind
import Derived.Test.YtefplgligmkbiaaBkAdd
import Derived.Test.YtefplgligmkbiaaLsCalls
import Derived.Deep.RegionLaw
import Derived.Lib.SliceRun
namespace Go.Proofs.Ytefplgligmkbiaa
open Go.RowKit

theorem run_clear3 (w : World) (g o c t : Nat) (hc : ∀ j, j < 3 → (w.cell? ⟨g, o + j, none⟩).isSome = true) (hf : ∀ j, j < 3 → w.frozen? ⟨g, o + j, none⟩ = false) :
    (Builtin.clear_ #[23] t #[.slice (some ⟨g, o, none⟩) 1 c]).run Try.prog w = .ok (.tuple #[]) (w.setCells g o (snc [⟨0, 0, 0⟩])) := by
  have hst := run_storeCells_cells (P := Try.prog) g o (snc [⟨0, 0, 0⟩]) 0 w (by simpa [snc, Sn.cells] using hc) (by simpa [snc, Sn.cells] using hf) (snc_one _)
  simp only [Nat.add_zero] at hst
  have hz : (zeroValue 56).run Try.prog w = .ok (.agg #[.int .u64 0, .int .u64 0, .int .u64 0]) w := by kernel_rfl
  have hzc : (Builtin.zeroCells (Value.agg #[.int .u64 0, .int .u64 0, .int .u64 0]).cells 1).toList = snc [⟨0, 0, 0⟩] := by simp [Builtin.zeroCells, Value.cells, snc, Sn.cells, Array.range, Array.ofFn]; rfl
  simp [Builtin.clear_, run_underlying Try.underlying23, hz, hzc, hst]

theorem bkL_puts (last n : Nat) (Y V : List Sn) (i : Nat) : (bkL last n Y).take (2 + i * 3) ++ snc V ++ (bkL last n Y).drop (2 + i * 3 + (snc V).length) = bkL last n (Y.take i ++ V ++ Y.drop (i + V.length)) := by
  have e1 : (bkL last n Y).take (2 + i * 3) = .int .u64 (last : Nat) :: .int .i64 (n : Nat) :: snc (Y.take i) := by
    rw [snc_take, Nat.add_comm]; rfl
  have e2 : (bkL last n Y).drop (2 + i * 3 + (snc V).length) = snc (Y.drop (i + V.length)) := by
    rw [snc_drop, snc_length, show 2 + i * 3 + V.length * 3 = (i + V.length) * 3 + 1 + 1 by omega]; rfl
  rw [e1, e2]
  simp [bkL, snc_append]

theorem sizeS1 : ∀ w, (Go.sizeOf 56).run Try.prog w = .ok 3 w := fun _ => by kernel_rfl
theorem infoS1 : (Try.prog.info? 56).map (fun i => (i.zero, i.size, i.bytes)) = some (some (.agg #[.int .u64 0, .int .u64 0, .int .u64 0]), 3, 24) := by kernel_rfl
/-- What Delete leaves of the book's row. -/
def RowTo (w w' : World) (p last n m : Nat) (X' : List Sn) : Prop := (∃ Y', Whole w' p 63 (bkL last n Y').toArray ∧ Y'.take m = X' ∧ Y'.length = 16 ∧ ∀ y ∈ Y', y.fits) ∧ Frm [p] w w'

set_option maxRecDepth 100000 in
set_option maxHeartbeats 4000000 in
theorem delete_any {w : World} {B p last n i : Nat} {X Y : List Sn} (h : Bk w B p 63 last X Y) (hn : n = X.length) (hi : i < n) :
    Calls Try.prog 32 #[.slice (some ⟨p, 2, none⟩) n 16, .int .i64 (i : Nat), .int .i64 ((i : Int) + 1)] w fun e w' => e = .returned (.slice (some ⟨p, 2, none⟩) (n - 1) 16) ∧ RowTo w w' p last n (n - 1) (closeS X i) := by
  obtain ⟨i0, hi0, _, hz1, _⟩ := info_parts infoS1
  have HI := Lib.hid hi0; clear hi0
  have HZ1 := Lib.hid hz1; clear hz1
  have hn16 : n ≤ 16 := by rw [hn]; exact h.few
  obtain ⟨n2, hn2⟩ : ∃ n2, n2 = n - (i + 1) := ⟨_, rfl⟩
  obtain ⟨n1, hn1⟩ : ∃ n1, n1 = i + n2 := ⟨_, rfl⟩
  have hn1' : n1 + 1 = n := by omega
  have hlenY := h.len
  obtain ⟨V, hV⟩ : ∃ V, V = X.drop (i + 1) := ⟨_, rfl⟩
  have hVl : V.length = n2 := by rw [hV, List.length_drop, ← hn, hn2]
  obtain ⟨A, hA, hsrc⟩ : ∃ A : Addr, cut3 (some ⟨p, 2, none⟩) 16 (i + 1) = some A ∧ Hid (∀ z, Frm [] w z → ∀ t u, (snc V)[t]? = some u → z.cell? (A.add t) = some u) := by
    have hsl := (h.sl (F := []) (by simp)).drop (cap := 16) h.few (i + 1)
    rw [← hV] at hsl
    have hne : ∃ A, cut3 (some ⟨p, 2, none⟩) 16 (i + 1) = some A := by unfold cut3; split <;> exact ⟨_, rfl⟩
    obtain ⟨A, hA⟩ := hne
    refine ⟨A, hA, fun z hz t u hu => ?_⟩
    rw [hA] at hsl
    have h2 := (hsl.keep (F' := []) hz (by simp) (by simp)).vals
    rcases h2 with h3 | ⟨b, off, h3, hc⟩
    · rw [h3] at hu; simp at hu
    · cases h3
      rw [addr_add]
      exact hc t u hu
  obtain ⟨v0, hcut0⟩ : ∃ v0, ∀ w, (Instr.slice 23 (.slice (some ⟨p, 2, none⟩) n 16) (some (.int .i64 (i : Nat))) (some (.int .i64 ((i : Int) + 1))) (some (.int .i64 (n : Nat)))).run Try.prog w = .ok v0 w := by
    have ht' : Try.prog.underlying 23 = some (.slice (Try.prog.elem 23)) := by kernel_rfl
    have he : Try.prog.elem 23 = 56 := by kernel_rfl
    refine ⟨sliced (some ⟨p, 2, none⟩) ((i : Int).toNat) (((i : Int) + 1).toNat) ((n : Int).toNat) 3, fun w => ?_⟩
    rw [run_slice_lhm w _ _ _ _ ht' .i64 .i64 .i64 _ _ _ (by omega) (by omega) (by omega) (by omega), he, sizeS1]
    rfl
  have hcut1 := fun w => run_head3 (P := Try.prog) Try.underlying23 sizeS1 w (some ⟨p, 2, none⟩) n 16 i (by omega)
  have hcut2 := fun w => run_cut3 (P := Try.prog) Try.underlying23 sizeS1 w (some ⟨p, 2, none⟩) n 16 (i + 1) ((i : Int) + 1) (by omega) (by omega)
  rw [hA, ← hn2] at hcut2
  have hcut3 : ∀ w, (Instr.slice 23 (.slice (some ⟨p, 2, none⟩) n1 16) (some (.int .i64 (n1 : Nat))) (some (.int .i64 (n : Nat))) none).run Try.prog w = .ok (.slice (some ⟨p, 2 + n1 * 3, none⟩) 1 (16 - n1)) w := fun w => by
    have ht' : Try.prog.underlying 23 = some (.slice (Try.prog.elem 23)) := by kernel_rfl
    have he : Try.prog.elem 23 = 56 := by kernel_rfl
    rw [run_slice_lh w _ _ _ _ ht' .i64 .i64 _ _ (by omega) (by omega) (by omega), he, sizeS1]
    have e1 : n - n1 = 1 := by omega
    have e2 : ¬ 16 = n1 := by omega
    simp [Result.andThen, sliced, e1, e2, addr_add]
  -- the world behind the append
  obtain ⟨Y1, hY1⟩ : ∃ Y1, Y1 = Y.take i ++ V ++ Y.drop (i + V.length) := ⟨_, rfl⟩
  have hY1l : Y1.length = 16 := by rw [hY1]; simp; omega
  have hY1f : ∀ y ∈ Y1, y.fits := by
    intro y hy
    rw [hY1] at hy
    rcases List.mem_append.1 hy with hy | hy
    · rcases List.mem_append.1 hy with hy | hy
      · exact h.fits y (List.mem_of_mem_take hy)
      · rw [hV] at hy; exact h.fitsX y (List.mem_of_mem_drop hy)
    · exact h.fits y (List.mem_of_mem_drop hy)
  have hY1t : Y1.take n1 = closeS X i := by
    have e : (Y.take i ++ V).length = n1 := by simp; omega
    rw [hY1, List.take_append_of_le_length (by omega), List.take_of_length_le (by omega), hV]
    unfold closeS
    congr 1
    conv => rhs; rw [← h.pre]
    rw [List.take_take, Nat.min_eq_left (by omega)]
  have hw1 := Whole.puts (snc V) (2 + i * 3) (w := w.drew) (cs := bkL last n Y) (by have := h.book; rw [← hn] at this; exact this) (by rw [snc_length, bkL_length]; omega)
  rw [bkL_puts, ← hY1] at hw1
  obtain ⟨W1, hW1⟩ : ∃ W1, W1 = w.drew.setCells p (2 + i * 3) (snc V) := ⟨_, rfl⟩
  rw [← hW1] at hw1
  obtain ⟨hw1, hf1⟩ := hw1
  -- the world behind the clear
  have hw2 := Whole.puts (snc [⟨0, 0, 0⟩]) (2 + n1 * 3) (w := W1) (cs := bkL last n Y1) hw1 (by rw [snc_length, bkL_length, hY1l]; simp; omega)
  rw [bkL_puts] at hw2
  have hcl : ∀ ty, (Builtin.clear_ #[23] ty #[.slice (some ⟨p, 2 + n1 * 3, none⟩) 1 (16 - n1)]).run Try.prog W1 = .ok (.tuple #[]) (W1.setCells p (2 + n1 * 3) (snc [⟨0, 0, 0⟩])) := fun ty => run_clear3 W1 p (2 + n1 * 3) (16 - n1) ty
    (fun j hj => by rw [hw1.cell, List.getElem?_toArray, Nat.add_assoc, bkL_row, List.getElem?_eq_getElem (by rw [snc_length, hY1l]; omega)]; rfl) (fun j _ => hw1.free _)
  obtain ⟨W2, hW2⟩ : ∃ W2, W2 = W1.setCells p (2 + n1 * 3) (snc [⟨0, 0, 0⟩]) := ⟨_, rfl⟩
  rw [← hW2] at hw2 hcl
  obtain ⟨hw2, hf2⟩ := hw2
  have HEND : Hid (RowTo w W2 p last n n1 (closeS X i)) := Lib.hid ⟨⟨_, hw2, by
      rw [List.append_assoc, List.take_append_of_le_length (by simp; omega), List.take_take, Nat.min_self, hY1t], by simp; omega, fun y hy => by
      rcases List.mem_append.1 hy with hy | hy
      · rcases List.mem_append.1 hy with hy | hy
        · exact hY1f y (List.mem_of_mem_take hy)
        · simp at hy; subst hy; exact ⟨by decide, by decide, by decide⟩
      · exact hY1f y (List.mem_of_mem_drop hy)⟩, (((Frm.refl [p] w).drew).trans hf1 (fun x hx => hx) (fun x hx => .inl hx)).trans hf2 (fun x hx => hx) (fun x hx => .inl hx)⟩
  have s1 : Hid ((snc V).length = n2 * 3) := Lib.hid (by rw [snc_length, hVl])
  have s2 : Hid (∀ u ∈ snc V, u.oneCell' = true) := Lib.hid (snc_one V)
  have s3 : Hid (∀ t, t < (snc V).length → (w.drew.cell? ⟨p, 2 + i * 3 + t, none⟩).isSome = true ∧ w.drew.frozen? ⟨p, 2 + i * 3 + t, none⟩ = false) := Lib.hid (fun t ht => by
    refine ⟨?_, h.book.free _⟩
    show (w.cell? _).isSome = true
    rw [Nat.add_assoc, h.cells, List.getElem?_eq_getElem (by rw [snc_length] at ht ⊢; omega)]; rfl)
  have hW : Hid (w.drew.setCells p (2 + i * 3) (snc V) = W1) := Lib.hid hW1.symm
  have hne : ((i : Int) == (i : Int) + 1) = false := by rw [beq_eq_false_iff_ne]; omega
  have e9 : n - 1 = n1 := by omega
  have hroom : i + n2 ≤ 16 := by omega
  have HN1 : Hid (i + n2 = n1) := Lib.hid hn1.symm
  obtain ⟨n3, hn3⟩ : ∃ n3, n3 = 16 - (i + 1) := ⟨_, rfl⟩
  rw [← hn3] at hcut2
  rw [e9]
  clear hn1 hn2 h hn hVl hV hA hY1 hY1l hY1f hY1t hW1 hw1 hf1 hW2 hw2 hf2 hlenY hi hn3 e9 hn1'
  go_enter Try.func32, Try.ntmps32
  go_wp2
  go_region_law (refine step_append_room rfl (.tmp 22) (.tmp 25) 23 rfl 56 i0 3 Try.underlying23 HI.out HZ1.out p 2 i 16 (by simp [Act.eval, Act.put]) A n2 n3 (snc V) (by simp [Act.eval, Act.put]) s1.out (hsrc.out _ (Frm.refl [] w).drew) s2.out hroom s3.out ?_; rw [hW.out, HN1.out])
  all_goals
    go_wp2
    go_ret
    exact ⟨rfl, HEND.out⟩

/-- What a call that answers an error's number leaves. -/
def BkEnd1 (w : World) (B p : Nat) (last' : Nat) (X' : List Sn) (v : Value) (e : Ending) (w' : World) : Prop := e = .returned v ∧ BkTo w w' B p last' X'

set_option maxRecDepth 100000 in
set_option maxHeartbeats 4000000 in
theorem close_any {w : World} {B p last : Nat} {X Y : List Sn} (id : Nat) (h : Bk w B p 63 last X Y) :
    Calls Try.prog 15 #[.pointer (some ⟨p, 0, none⟩), .int .u64 (id : Nat)] w (BkEnd1 w B p last (closeL X id) (.int .i64 (closeC X id : Nat))) := by
  have hFI := Lib.hid (find_any id h)
  have hsrt := closeL_srt (id := id) h.srt
  unfold closeL closeC
  unfold closeL at hsrt
  by_cases hin : atS X id < X.length
  · rw [if_pos hin, if_pos hin]
    rw [if_pos hin] at hsrt
    obtain ⟨n, hn⟩ : ∃ n, n = X.length := ⟨_, rfl⟩
    have hn16 : n ≤ 16 := by rw [hn]; exact h.few
    have HIN := Lib.hid hin
    obtain ⟨i, hi⟩ : ∃ i, i = atS X id := ⟨_, rfl⟩
    have hin2 : i < n := by rw [hn, hi]; exact hin
    have HSE := Lib.hid (fun (z : World) (hz : Frm [] w z) => sessions_any (h.keep hz (by simp)))
    have HDE := Lib.hid (fun (z : World) (hz : Frm [] w z) => delete_any (h.keep hz (by simp)) hn hin2)
    rw [← hn] at HSE
    rw [← hi] at hsrt ⊢
    have HSRT := Lib.hid hsrt
    have HI := Lib.hid hi
    have hsi : IntKind.i64.wrap ((i : Int) + 1) = (i : Int) + 1 := IntWalk.i64_in _ (by omega)
    have HH := Lib.hid h
    have HL : Hid ((closeS X i).length = n - 1) := Lib.hid (by unfold closeS; rw [List.length_append, List.length_take, List.length_drop, ← hn]; omega)
    clear h hin hi hn hsrt
    go_enter Try.func15, Try.ntmps15
    go_wp2_with fail
    (with_reducible refine hFI.out.mono ?_)
    rintro e w1 ⟨v, rfl, hv, hf1⟩
    obtain rfl := finds_some HIN.out hv
    rw [← HI.out]
    have HF1 := Lib.hid hf1
    clear hf1 hv hFI HIN
    go_wp2_with fail
    (with_reducible refine (HSE.out _ HF1.out).mono ?_)
    rintro e w2 ⟨rfl, hf2⟩
    have HF2 := Lib.hid (HF1.out.trans hf2 (U := []) (by simp) (by simp))
    clear hf2
    go_wp2_with fail
    (with_reducible refine (HDE.out _ HF2.out).mono ?_)
    rintro e w3 ⟨rfl, ⟨Y3, hb3, hp3, hl3, hf3⟩, hfr3⟩
    have c1 := hb3.cell 1
    have f1 := hb3.free 1
    simp [bkL] at c1
    have hput := hb3.put 1 (.int .i64 ((n - 1 : Nat) : Nat))
    have hbk : Bk (w3.setCell ⟨p, 1, none⟩ (.int .i64 ((n - 1 : Nat) : Nat))) B p 63 last (closeS X i) Y3 :=
      ⟨by rw [HL.out]; simpa [bkL] using hput, by rw [HL.out]; exact hp3, hl3, hf3, HH.out.hp, HH.out.lt, HSRT.out⟩
    have hfin : Frm [p] w (w3.setCell ⟨p, 1, none⟩ (.int .i64 ((n - 1 : Nat) : Nat))) := ((HF2.out.weak (by simp)).trans hfr3 (fun x hx => hx) (fun x hx => .inl hx)).setCell (.inl (by simp)) _
    obtain ⟨m, hm⟩ : ∃ m, m = n - 1 := ⟨_, rfl⟩
    rw [← hm] at hbk hfin ⊢
    have HE : Hid (BkTo w (w3.setCell ⟨p, 1, none⟩ (.int .i64 (m : Nat))) B p last (closeS X i)) := Lib.hid ⟨⟨Y3, hbk⟩, hfin⟩
    clear hbk hfin hput hp3 hl3 hf3 hfr3 hm hb3
    go_wp2
    go_ret
    exact ⟨rfl, HE.out⟩
  · rw [if_neg hin, if_neg hin]
    have HSAME : Hid (∀ z, Frm [] w z → BkTo w z B p last X) := Lib.hid (fun z hz => ⟨⟨Y, h.keep hz (by simp)⟩, hz.weak (by simp)⟩)
    have HIN := Lib.hid hin
    clear h hin hsrt
    go_enter Try.func15, Try.ntmps15
    go_wp2_with fail
    (with_reducible refine hFI.out.mono ?_)
    rintro e w1 ⟨v, rfl, hv, hf1⟩
    obtain ⟨i, rfl⟩ := finds_none HIN.out hv
    have HF1 := Lib.hid hf1
    clear hf1 hv
    go_wp2
    go_ret
    exact ⟨rfl, HSAME.out _ HF1.out⟩
end Go.Proofs.Ytefplgligmkbiaa
