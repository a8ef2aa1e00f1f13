/- Contract of the law's Awake. -/
import Derived.Test.YtghadpihmhaepaaDCqAck
import Derived.Test.YtghadpihmhaepaaDLdAwake
namespace Go.Proofs.Ytghadpihmhaepaa
open Go.RowKit
set_option maxRecDepth 100000

theorem cqyes_at {w w' : World} {F : List Nat} {X : List Ld} {o : Nat} {m M0 : Ps} {H1 H0 : List Hel} {e : Ending} (hr : Reach X o H1 m M0) (hs : Stop X o H1 M0) (hl : leftH M0 H1 = H0) (h : CqYes w F X o m H1 e w') : ∃ (Z : List Hx) (a : Option Addr) (c : Nat), e = .returned (.tuple #[crsV M0 a H0.length c, .int .i64 0]) ∧ hels Z = H0 ∧ HxL w' F a Z ∧ CapOk a H0.length c ∧ Frm [] w w' := by
  obtain ⟨M, Z, a, zn, c, rfl, h1, h2, h3, h4, h5⟩ := h
  have e1 : M = M0 := reach_uniq h2.out.1 h2.out.2.1 hr hs
  subst e1
  have e2 : hels Z = H0 := by rw [h3.out, hl]
  have e3 : Z.length = H0.length := by rw [← e2, hels_length]
  refine ⟨Z, a, c, ?_, e2, h4.out.1, by rw [← e3]; exact h4.out.2, h5.out⟩
  rw [← e3, h1.out]
def exL14 : List Ld := [⟨3, true, 3⟩, ⟨5, false, 0⟩]
theorem ex_srt (h : Hel) : Srt [h] := List.pairwise_singleton _ _
theorem ex_a1 : Added [] ⟨3, 1⟩ [(3, [(1, 2)])] := ⟨[(1, 2)], ⟨by decide, by decide⟩, fun x => by simp [Mem, ofH]; omega, by decide, by simp [holdH]⟩
theorem ex_a2 : Added [(3, [(1, 2)])] ⟨3, 0⟩ [(3, [(0, 2)])] := ⟨[(0, 2)], ⟨by decide, by decide⟩, fun x => by simp [Mem, ofH]; omega, by decide, by simp [holdH]⟩
theorem ex_n0 : nextP exL14 1 ⟨0, 0⟩ = some ⟨3, 0⟩ := by decide
theorem ex_n1 : nextP exL14 1 ⟨3, 2⟩ = some ⟨3, 2⟩ := by decide
theorem ex_s1 : Stop exL14 1 [(3, [(1, 2)])] ⟨0, 0⟩ := fun p hp => by
  rw [ex_n0] at hp
  cases hp
  simp [Mem, ofH]
theorem ex_s2 : Stop exL14 1 [(3, [(0, 2)])] ⟨3, 2⟩ := fun p hp => by
  rw [ex_n1] at hp
  cases hp
  simp [Mem, ofH]
theorem ex_r2 : Reach exL14 1 [(3, [(0, 2)])] ⟨0, 0⟩ ⟨3, 2⟩ := .step (.refl _) ⟨⟨3, 0⟩, ex_n0, by simp [Mem, ofH], rfl, by decide, by simp [Mem, ofH], fun m h1 h2 => by simp [Mem, ofH] at *; omega⟩
set_option maxHeartbeats 8000000 in
theorem awake14_any (w : World) : Calls Try.prog 9 #[] w (LRet w (.bool true)) := by
  have hl : LdL (w.alloc (.cells #[.int .u64 3, .bool true, .int .u64 3, .int .u64 5, .bool false, .int .u64 0] 69)) [] (some ⟨w.heap.size, 0, none⟩) exL14 := ld_lit w exL14 _ rfl (by intro x hx; simp [exL14] at hx; rcases hx with rfl | rfl <;> exact ⟨by decide, by decide⟩)
  obtain ⟨g, hg⟩ : ∃ g, g = w.heap.size := ⟨_, rfl⟩
  obtain ⟨w1, hw1⟩ : ∃ w1, w1 = w.alloc (.cells #[.int .u64 3, .bool true, .int .u64 3, .int .u64 5, .bool false, .int .u64 0] 69) := ⟨_, rfl⟩
  rw [← hw1, ← hg] at hl
  have F1 : Hid (Frm [] w w1) := Lib.hid (by rw [hw1]; exact (Frm.refl _ _).alloc _)
  have hfx : ∀ x ∈ exL14, x.fits := by intro x hx; simp [exL14] at hx; rcases hx with rfl | rfl <;> exact ⟨by decide, by decide⟩
  have A1 : Hid (∀ z, Frm [] w1 z → Calls Try.prog 13 #[.slice (some ⟨g, 0, none⟩) 2 2, .int .u64 1, .agg #[.int .u64 0, .int .u64 0, .slice none 0 0], .agg #[.int .u64 3, .int .u64 1]] z fun e w' => ∃ (Z : List Hx) (a : Option Addr) (c : Nat), e = .returned (.tuple #[.agg #[.int .u64 0, .int .u64 0, .slice a 1 c], .int .i64 0]) ∧ Hid (hels Z = [(3, [(1, 2)])]) ∧ Hid (HxL w' [] a Z ∧ CapOk a 1 c) ∧ Hid (Frm [] z w')) := Lib.hid (fun z hz =>
    cqack_any (some ⟨g, 0, none⟩) 2 2 exL14 1 ⟨0, 0⟩ none 0 0 [] [] ⟨3, 1⟩ z (hl.sub hz) rfl (by decide) (by decide) hfx (HxL.nil _ _ _) rfl (by decide) ⟨fun _ => rfl, Nat.le_refl _, Nat.zero_le _⟩ ⟨List.Pairwise.nil, fun x hx => by simp [hels] at hx⟩ (fun x hx => by simp [hels] at hx) (by simp) (by decide) ⟨by decide, by decide⟩ _ (fun h => by exact absurd h (by decide)) (fun _ h => by exact absurd h (by simp [ackedC, Ps.lt, ofH, Mem, hels])) (fun _ _ H1 hadd e w' h => by
      obtain rfl : H1 = [(3, [(1, 2)])] := Added.uniq (H := []) (p := ⟨3, 1⟩) hadd ex_a1
      obtain ⟨Z, a, c, rfl, h1, h2, h3, h4⟩ := cqyes_at (.refl _) ex_s1 (H0 := [(3, [(1, 2)])]) (by decide) h
      exact ⟨Z, a, c, rfl, h1, ⟨h2, h3⟩, h4⟩))
  have A2 : Hid (∀ z (Z : List Hx) a c, Frm [] w1 z → Hid (hels Z = [(3, [(1, 2)])]) → HxL z [] a Z → CapOk a 1 c → Calls Try.prog 13 #[.slice (some ⟨g, 0, none⟩) 2 2, .int .u64 1, .agg #[.int .u64 0, .int .u64 0, .slice a 1 c], .agg #[.int .u64 3, .int .u64 0]] z fun e w' => ∃ (a : Option Addr) (c : Nat), e = .returned (.tuple #[.agg #[.int .u64 3, .int .u64 2, .slice a 0 c], .int .i64 0]) ∧ Hid (CapOk a 0 c) ∧ Hid (Frm [] z w')) := Lib.hid (fun z Z a c hz hZ hL hc => by
    have hlen : 1 = Z.length := by have := congrArg List.length hZ.out; rw [hels_length] at this; exact this.symm
    have ok : Srt (hels Z) ∧ RgsH (hels Z) ∧ BdH 300 (hels Z) := by
      rw [hZ.out]
      exact ⟨ex_srt _, fun x hx => by rw [List.mem_singleton.1 hx]; exact ⟨by decide, by decide, by decide⟩, fun x hx => by rw [List.mem_singleton.1 hx]; decide⟩
    exact cqack_any (some ⟨g, 0, none⟩) 2 2 exL14 1 ⟨0, 0⟩ a 1 c [] Z ⟨3, 0⟩ z (hl.sub hz) rfl (by decide) (by decide) hfx hL hlen (by decide) hc ⟨ok.1, ok.2.1⟩ ok.2.2 (by simp) (by decide) ⟨by decide, by decide⟩ _ (fun h => by exact absurd h (by decide)) (fun _ h => by rw [hZ.out] at h; exact absurd h (by simp [ackedC, Ps.lt, ofH, Mem])) (fun _ _ H1 hadd e w' h => by
      rw [hZ.out] at hadd
      obtain rfl : H1 = [(3, [(0, 2)])] := Added.uniq hadd ex_a2
      obtain ⟨Z, a, c, rfl, h1, h2, h3, h4⟩ := cqyes_at ex_r2 ex_s2 (H0 := []) (by decide) h
      exact ⟨a, c, rfl, h3, h4⟩))
  have A3 : Hid (∀ z a c, Frm [] w1 z → CapOk a 0 c → Calls Try.prog 13 #[.slice (some ⟨g, 0, none⟩) 2 2, .int .u64 1, .agg #[.int .u64 3, .int .u64 2, .slice a 0 c], .agg #[.int .u64 3, .int .u64 0]] z fun e w' => e = .returned (.tuple #[.agg #[.int .u64 0, .int .u64 0, .slice none 0 0], .int .i64 31]) ∧ Frm [] z w') := Lib.hid (fun z a c hz hc =>
    cqack_any (some ⟨g, 0, none⟩) 2 2 exL14 1 ⟨3, 2⟩ a 0 c [] [] ⟨3, 0⟩ z (hl.sub hz) rfl (by decide) (by decide) hfx (HxL.nil _ _ _) rfl (by decide) hc ⟨List.Pairwise.nil, fun x hx => by simp [hels] at hx⟩ (fun x hx => by simp [hels] at hx) (by simp) (by decide) ⟨by decide, by decide⟩ _ (fun h => by exact absurd h (by decide)) (fun _ _ e w' h => h) (fun _ h => by exact absurd (.inl (by simp [Ps.lt])) h))
  have e2 : ∀ w : World, (binOp .eql 25 (.agg #[.int .u64 3, .int .u64 2]) (.agg #[.int .u64 3, .int .u64 2])).run Try.prog w = .ok (.bool true) w := fun w => eql_ps 3 2 3 2 w
  have HW1 := Lib.hid hw1; clear hw1
  clear hl hfx
  go_enter Try.func9, Try.ntmps9
  go_upto_region 2 with (fail)
  rw [← HW1.out, ← hg]
  have HG := Lib.hid hg; clear hg
  go_wp2_with fail
  (with_reducible refine (A1.out _ (Frm.refl _ _)).mono ?_)
  rintro e w2 ⟨Z, a2, c2, rfl, hZ, hL2, hf2⟩
  obtain ⟨V2, hV2⟩ : ∃ V2, V2 = w2.alloc (.cells #[.int .u64 0, .int .u64 0, .slice a2 1 c2] 28) := ⟨_, rfl⟩
  obtain ⟨g2, hg2⟩ : ∃ g2, g2 = w2.heap.size := ⟨_, rfl⟩
  have F2 : Hid (Frm [] w1 V2) := Lib.hid (by rw [hV2]; exact hf2.out.alloc _)
  have B2 : Hid (Whole V2 g2 28 #[.int .u64 0, .int .u64 0, .slice a2 1 c2]) := Lib.hid (by rw [hV2, hg2]; exact Whole.made _ _ _)
  have AX2 := Lib.hid (A2.out V2 Z a2 c2 F2.out hZ (hL2.out.1.sub (by rw [hV2]; exact (Frm.refl _ _).alloc _)) hL2.out.2)
  have HV2 := Lib.hid hV2; clear hV2
  have HG2 := Lib.hid hg2; clear hg2
  have p0 := B2.out.cell 0
  have p1 := B2.out.cell 1
  have p2 := B2.out.cell 2
  simp only [List.getElem?_toArray, List.getElem?_cons_zero, List.getElem?_cons_succ] at p0 p1 p2
  go_upto_region 3 with (fail)
  rw [← HV2.out, ← HG2.out]
  go_wp2_with fail
  (with_reducible refine AX2.out.mono ?_)
  rintro e w3 ⟨a3, c3, rfl, hc3, hf3⟩
  clear p0 p1 p2
  obtain ⟨V3, hV3⟩ : ∃ V3, V3 = w3.alloc (.cells #[.int .u64 3, .int .u64 2, .slice a3 0 c3] 28) := ⟨_, rfl⟩
  obtain ⟨g3, hg3⟩ : ∃ g3, g3 = w3.heap.size := ⟨_, rfl⟩
  have F23 : Hid (Frm [] V2 V3) := Lib.hid (by rw [hV3]; exact hf3.out.alloc _)
  have F3 : Hid (Frm [] w1 V3) := Lib.hid (F2.out.trans F23.out (by simp) (by simp))
  have B3 : Hid (Whole V3 g3 28 #[.int .u64 3, .int .u64 2, .slice a3 0 c3]) := Lib.hid (by rw [hV3, hg3]; exact Whole.made _ _ _)
  have AX3 := Lib.hid (A3.out V3 a3 c3 F3.out hc3.out)
  have HV3 := Lib.hid hV3; clear hV3
  have HG3 := Lib.hid hg3; clear hg3
  have p0 := B3.out.cell 0
  have p1 := B3.out.cell 1
  have p2 := B3.out.cell 2
  simp only [List.getElem?_toArray, List.getElem?_cons_zero, List.getElem?_cons_succ] at p0 p1 p2
  go_upto_region 4 with (fail)
  rw [← HV3.out, ← HG3.out]
  go_wp2_with fail
  (with_reducible refine AX3.out.mono ?_)
  rintro e w4 ⟨rfl, hf4⟩
  clear p0 p1 p2
  obtain ⟨V4, hV4⟩ : ∃ V4, V4 = w4.alloc (.cells #[.int .u64 0, .int .u64 0, .slice none 0 0] 28) := ⟨_, rfl⟩
  have F34 : Hid (Frm [] V3 V4) := Lib.hid (by rw [hV4]; exact hf4.alloc _)
  have FX : Hid (Frm [] w V4) := Lib.hid (F1.out.trans (F3.out.trans F34.out (U := []) (by simp) (by simp)) (by simp) (by simp))
  have b3 := F34.out.whole B3.out (by simp)
  have b2 := F34.out.whole (F23.out.whole B2.out (by simp)) (by simp)
  have p0 := b3.cell 0
  have p1 := b3.cell 1
  have p2 := b3.cell 2
  have q2 := b2.cell 2
  simp only [List.getElem?_toArray, List.getElem?_cons_zero, List.getElem?_cons_succ] at p0 p1 p2 q2
  have HV4 := Lib.hid hV4; clear hV4
  go_upto_region 5 with (fail)
  rw [← HV4.out]
  clear b2 b3 hf4
  go_wp2
  go_ret
  exact ⟨rfl, FX.out⟩
end Go.Proofs.Ytghadpihmhaepaa
