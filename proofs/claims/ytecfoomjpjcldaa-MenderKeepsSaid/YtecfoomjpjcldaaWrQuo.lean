/- The quorum of a number. Written by wip/mk-wrquo.py. -/
import Derived.Test.YtecfoomjpjcldaaQuRef
namespace Go.Proofs.Ytecfoomjpjcldaa
open Go.RowKit
set_option maxRecDepth 100000

set_option maxHeartbeats 4000000 in
theorem quorum_any (n : Nat) (w : World) (hn : n < 65536) :
    Calls Try.prog 13 #[.int .u16 (n : Nat)] w fun x w' => ∃ P W A : Nat, 1 ≤ A ∧ A ≤ W ∧ W ≤ P ∧ P ≤ 7 ∧ x = .returned (quV P W A) ∧ Frm [] w w' := by
  have h1 : n % 7 < 7 := Nat.mod_lt _ (by omega)
  have b1 : ((n : Int)).tmod 7 = ((n % 7 : Nat) : Int) := modI n 7
  have b2 : ((n : Int)).tdiv 7 = ((n / 7 : Nat) : Int) := by rw [Int.tdiv_eq_ediv_of_nonneg (by omega)]; rfl
  have b3 : ((n : Int)).tdiv 49 = ((n / 49 : Nat) : Int) := by rw [Int.tdiv_eq_ediv_of_nonneg (by omega)]; rfl
  obtain ⟨r, hr⟩ : ∃ r, r = n % 7 := ⟨_, rfl⟩
  obtain ⟨d, hd⟩ : ∃ d, d = n / 7 := ⟨_, rfl⟩
  obtain ⟨f, hf⟩ : ∃ f, f = n / 49 := ⟨_, rfl⟩
  have hd1 : d < 65536 := by omega
  have hf1 : f < 65536 := by omega
  rw [← hr] at h1 b1
  rw [← hd] at b2
  rw [← hf] at b3
  clear hr hd hf
  obtain ⟨P, hP⟩ : ∃ P, P = 1 + r := ⟨_, rfl⟩
  have h2 : d % P < P := Nat.mod_lt _ (by omega)
  have b4 : ((d : Int)).tmod (P : Int) = ((d % P : Nat) : Int) := modI d P
  obtain ⟨s, hs⟩ : ∃ s, s = d % P := ⟨_, rfl⟩
  rw [← hs] at h2 b4
  clear hs
  obtain ⟨W, hW⟩ : ∃ W, W = 1 + s := ⟨_, rfl⟩
  have h3 : f % W < W := Nat.mod_lt _ (by omega)
  have b5 : ((f : Int)).tmod (W : Int) = ((f % W : Nat) : Int) := modI f W
  obtain ⟨t, ht⟩ : ∃ t, t = f % W := ⟨_, rfl⟩
  rw [← ht] at h3 b5
  clear ht
  have e1 : IntKind.i64.wrap (1 + (r : Int)) = (P : Int) := by rw [hP]; exact IntWalk.i64_in _ (by omega)
  have e2 : IntKind.i64.wrap (1 + (s : Int)) = (W : Int) := by rw [hW]; exact IntWalk.i64_in _ (by omega)
  have f1 : 1 + (r : Int) = (P : Int) := by omega
  have f2 : 1 + (s : Int) = (W : Int) := by omega
  have w1 : IntKind.u16.wrap (r : Int) = (r : Int) := by simp [IntKind.wrap, IntKind.bits, IntKind.signed]; omega
  have w2 : IntKind.u16.wrap (d : Int) = (d : Int) := by simp [IntKind.wrap, IntKind.bits, IntKind.signed]; omega
  have w3 : IntKind.u16.wrap (f : Int) = (f : Int) := by simp [IntKind.wrap, IntKind.bits, IntKind.signed]; omega
  have p1 : (P : Int) ≠ 0 := by omega
  have p2 : (W : Int) ≠ 0 := by omega
  go_enter Try.func13, Try.ntmps13
  have HP := Lib.hid hP; clear hP
  have HW := Lib.hid hW; clear hW
  have q1 : 1 ≤ t + 1 := by omega
  have HI : Hid (t + 1 ≤ W ∧ W ≤ P ∧ P ≤ 7) := Lib.hid (by have := HP.out; have := HW.out; omega)
  obtain ⟨A, hA⟩ : ∃ A, A = 1 + t := ⟨_, rfl⟩
  have e3 : IntKind.i64.wrap (1 + (t : Int)) = (A : Int) := by rw [hA]; exact IntWalk.i64_in _ (by have := HI.out; omega)
  have f3 : 1 + (t : Int) = (A : Int) := by omega
  have HA := Lib.hid hA; clear hA
  have y0 : (w.alloc (.cells (quC P W A) 23)).cell? ⟨w.heap.size, 0, none⟩ = some (.int .i64 (P : Int)) := (Whole.made w _ _).cell 0
  have y1 : (w.alloc (.cells (quC P W A) 23)).cell? ⟨w.heap.size, 1, none⟩ = some (.int .i64 (W : Int)) := (Whole.made w _ _).cell 1
  have y2 : (w.alloc (.cells (quC P W A) 23)).cell? ⟨w.heap.size, 2, none⟩ = some (.int .i64 (A : Int)) := (Whole.made w _ _).cell 2
  go_wp2
  refine bodyPost_ret (v := quV P W A) ?_ rfl ?_
  · simp [results, Try.results13, go_sem]
  · exact ⟨P, W, A, by have := HA.out; omega, by have := HA.out; have := HI.out; omega, HI.out.2.1, HI.out.2.2, rfl, (Frm.refl [] w).alloc _⟩

end Go.Proofs.Ytecfoomjpjcldaa
