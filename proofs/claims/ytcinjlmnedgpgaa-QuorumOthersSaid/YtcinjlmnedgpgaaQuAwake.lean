/- The law's quorum of a number; the law's fixed fact. -/
import Derived.Test.YtcinjlmnedgpgaaQuBad
namespace Go.Proofs.Ytcinjlmnedgpgaa
open Go.RowKit
set_option maxRecDepth 100000

set_option maxHeartbeats 4000000 in
theorem quorum_any (n : Nat) (w : World) (hn : n < 65536) :
    Calls Try.prog 9 #[.int .u16 (n : Nat)] w fun x w' => ∃ P W A : Nat, 1 ≤ A ∧ A ≤ W ∧ W ≤ P ∧ P ≤ 7 ∧ x = .returned (quV P W A) ∧ Frm [] w w' := by
  have h1 : n % 7 < 7 := Nat.mod_lt _ (by omega)
  have b1 : ((n : Int)).tmod 7 = ((n % 7 : Nat) : Int) := modI n 7
  have b2 : ((n : Int)).tdiv 7 = ((n / 7 : Nat) : Int) := by rw [Int.tdiv_eq_ediv_of_nonneg (by omega)]; rfl
  have b3 : ((n : Int)).tdiv 49 = ((n / 49 : Nat) : Int) := by rw [Int.tdiv_eq_ediv_of_nonneg (by omega)]; rfl
  obtain ⟨r, hr⟩ : ∃ r, r = n % 7 := ⟨_, rfl⟩
  obtain ⟨d, hd⟩ : ∃ d, d = n / 7 := ⟨_, rfl⟩
  obtain ⟨f, hf⟩ : ∃ f, f = n / 49 := ⟨_, rfl⟩
  have hd1 : d < 65536 := by omega
  have hf1 : f < 65536 := by omega
  rw [← hr] at h1 b1
  rw [← hd] at b2
  rw [← hf] at b3
  clear hr hd hf
  obtain ⟨P, hP⟩ : ∃ P, P = 1 + r := ⟨_, rfl⟩
  have h2 : d % P < P := Nat.mod_lt _ (by omega)
  have b4 : ((d : Int)).tmod (P : Int) = ((d % P : Nat) : Int) := modI d P
  obtain ⟨s, hs⟩ : ∃ s, s = d % P := ⟨_, rfl⟩
  rw [← hs] at h2 b4
  clear hs
  obtain ⟨W, hW⟩ : ∃ W, W = 1 + s := ⟨_, rfl⟩
  have h3 : f % W < W := Nat.mod_lt _ (by omega)
  have b5 : ((f : Int)).tmod (W : Int) = ((f % W : Nat) : Int) := modI f W
  obtain ⟨t, ht⟩ : ∃ t, t = f % W := ⟨_, rfl⟩
  rw [← ht] at h3 b5
  clear ht
  have e1 : IntKind.i64.wrap (1 + (r : Int)) = (P : Int) := by rw [hP]; exact IntWalk.i64_in _ (by omega)
  have e2 : IntKind.i64.wrap (1 + (s : Int)) = (W : Int) := by rw [hW]; exact IntWalk.i64_in _ (by omega)
  have f1 : 1 + (r : Int) = (P : Int) := by omega
  have f2 : 1 + (s : Int) = (W : Int) := by omega
  have w1 : IntKind.u16.wrap (r : Int) = (r : Int) := by simp [IntKind.wrap, IntKind.bits, IntKind.signed]; omega
  have w2 : IntKind.u16.wrap (d : Int) = (d : Int) := by simp [IntKind.wrap, IntKind.bits, IntKind.signed]; omega
  have w3 : IntKind.u16.wrap (f : Int) = (f : Int) := by simp [IntKind.wrap, IntKind.bits, IntKind.signed]; omega
  have p1 : (P : Int) ≠ 0 := by omega
  have p2 : (W : Int) ≠ 0 := by omega
  go_enter Try.func9, Try.ntmps9
  have HP := Lib.hid hP; clear hP
  have HW := Lib.hid hW; clear hW
  have q1 : 1 ≤ t + 1 := by omega
  have HI : Hid (t + 1 ≤ W ∧ W ≤ P ∧ P ≤ 7) := Lib.hid (by have := HP.out; have := HW.out; omega)
  obtain ⟨A, hA⟩ : ∃ A, A = 1 + t := ⟨_, rfl⟩
  have e3 : IntKind.i64.wrap (1 + (t : Int)) = (A : Int) := by rw [hA]; exact IntWalk.i64_in _ (by have := HI.out; omega)
  have f3 : 1 + (t : Int) = (A : Int) := by omega
  have HA := Lib.hid hA; clear hA
  have y0 : (w.alloc (.cells (quC P W A) 23)).cell? ⟨w.heap.size, 0, none⟩ = some (.int .i64 (P : Int)) := (Whole.made w _ _).cell 0
  have y1 : (w.alloc (.cells (quC P W A) 23)).cell? ⟨w.heap.size, 1, none⟩ = some (.int .i64 (W : Int)) := (Whole.made w _ _).cell 1
  have y2 : (w.alloc (.cells (quC P W A) 23)).cell? ⟨w.heap.size, 2, none⟩ = some (.int .i64 (A : Int)) := (Whole.made w _ _).cell 2
  go_wp2
  refine bodyPost_ret (v := quV P W A) ?_ rfl ?_
  · simp [results, Try.results9, go_sem]
  · exact ⟨P, W, A, by have := HA.out; omega, by have := HA.out; have := HI.out; omega, HI.out.2.1, HI.out.2.2, rfl, (Frm.refl [] w).alloc _⟩

set_option maxHeartbeats 8000000 in
theorem awake10_any (w : World) : Calls Try.prog 8 #[] w fun x w' => x = .returned (.bool true) ∧ Frm [] w w' := by
  have ST := Lib.hid (fun z => qset_any 5 3 2 4 z (by omega) (by omega) (by omega) (by omega) (by omega))
  have e1 : setN 5 3 4 = [4, 0, 1] := by decide
  rw [e1] at ST
  have C4 := Lib.hid (fun (a : Option Addr) (z : World) (hb : BIn z a [true, true, true, true]) => covered_any 5 3 2 a 4 4 [true, true, true, true] z (by omega) (by omega) (by omega) (by omega) hb rfl)
  have C3 := Lib.hid (fun (a : Option Addr) (z : World) (hb : BIn z a [true, true, true]) => covered_any 5 3 2 a 3 3 [true, true, true] z (by omega) (by omega) (by omega) (by omega) hb rfl)
  rw [show covN 5 3 2 [true, true, true, true] = true by decide] at C4
  rw [show covN 5 3 2 [true, true, true] = false by decide] at C3
  go_enter Try.func8, Try.ntmps8
  have y0 : (w.alloc (.cells (quC 5 3 2) 23)).cell? ⟨w.heap.size, 0, none⟩ = some (.int .i64 5) := (Whole.made w _ _).cell 0
  have y1 : (w.alloc (.cells (quC 5 3 2) 23)).cell? ⟨w.heap.size, 1, none⟩ = some (.int .i64 3) := (Whole.made w _ _).cell 1
  have y2 : (w.alloc (.cells (quC 5 3 2) 23)).cell? ⟨w.heap.size, 2, none⟩ = some (.int .i64 2) := (Whole.made w _ _).cell 2
  have HF0 := Lib.hid ((Frm.refl [] w).alloc (.cells (quC 5 3 2) 23))
  have HQ0 := Lib.hid (Whole.made w 23 (quC 5 3 2))
  go_wp2_with fail
  generalize hw0 : w.alloc (.cells (quC 5 3 2) 23) = w0 at y0 y1 y2 HF0 HQ0 ⊢
  clear hw0
  obtain ⟨p, hp⟩ : ∃ p, p = w.heap.size := ⟨_, rfl⟩
  rw [← hp] at HQ0 y0 y1 y2 ⊢
  clear hp
  refine (ST.out w0).mono ?_
  rintro x w1 ⟨b, hb, rfl, hr, hf1⟩
  have HQ1 := Lib.hid (hf1.whole HQ0.out (by simp))
  have HF1 := Lib.hid (HF0.out.trans hf1 (U := []) (by simp) (by simp))
  have d0 : w1.cell? ⟨p, 0, none⟩ = some (.int .i64 5) := HQ1.out.cell 0
  have d1 : w1.cell? ⟨p, 1, none⟩ = some (.int .i64 3) := HQ1.out.cell 1
  have d2 : w1.cell? ⟨p, 2, none⟩ = some (.int .i64 2) := HQ1.out.cell 2
  have r0 : w1.cell? ⟨b, 0, none⟩ = some (.int .i64 4) := hr.cell 0
  have r1 : w1.cell? ⟨b, 1, none⟩ = some (.int .i64 0) := hr.cell 1
  clear hr hf1 hb y0 y1 y2 HQ0 HF0 ST
  go_wp2_with fail
  have HB := Lib.hid (show BIn (w1.alloc (.cells (rowB [true, true, true, true]) 4)) (some ⟨w1.heap.size, 0, none⟩) [true, true, true, true] from (Whole.made w1 4 _).bin)
  refine (C4.out _ _ HB.out).mono ?_
  rintro x w2 ⟨rfl, hf2⟩
  have hf12 : Frm [] w1 w2 := ((Frm.refl [] w1).alloc _).trans hf2 (by simp) (by simp)
  have HQ2 := Lib.hid (hf12.whole HQ1.out (by simp))
  have HF2 := Lib.hid (HF1.out.trans hf12 (U := []) (by simp) (by simp))
  have f0 : w2.cell? ⟨p, 0, none⟩ = some (.int .i64 5) := HQ2.out.cell 0
  have f1 : w2.cell? ⟨p, 1, none⟩ = some (.int .i64 3) := HQ2.out.cell 1
  have f2 : w2.cell? ⟨p, 2, none⟩ = some (.int .i64 2) := HQ2.out.cell 2
  clear hf2 hf12 d0 d1 d2 r0 r1 HB HF1 HQ1 C4
  go_wp2_with fail
  have HB := Lib.hid (show BIn (w2.alloc (.cells (rowB [true, true, true]) 4)) (some ⟨w2.heap.size, 0, none⟩) [true, true, true] from (Whole.made w2 4 _).bin)
  refine (C3.out _ _ HB.out).mono ?_
  rintro x w3 ⟨rfl, hf3⟩
  have HF3 := Lib.hid (HF2.out.trans (((Frm.refl [] w2).alloc _).trans hf3 (U := []) (by simp) (by simp)) (U := []) (by simp) (by simp))
  clear hf3 HF2 HQ2 f0 f1 f2 C3
  go_wp2
  go_ret
  exact ⟨rfl, HF3.out⟩
end Go.Proofs.Ytcinjlmnedgpgaa
