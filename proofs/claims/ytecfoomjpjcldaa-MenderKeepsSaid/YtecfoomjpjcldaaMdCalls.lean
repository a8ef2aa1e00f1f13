/- Contracts of the mender's Hear, Ready, Result. -/
import Derived.Test.YtecfoomjpjcldaaMdBase
namespace Go.Proofs.Ytecfoomjpjcldaa
open Go.RowKit
set_option maxRecDepth 100000

/-- What Hear answers and leaves. -/
def HearEnd (w : World) (p : Nat) (F : List Nat) (P W A : Nat) (h : Nat → Bool) (su : Nat) (t : Tn) (pl : Int) (sr : Nat) (l : List (Nat × List Nat)) (e : Ending) (w' : World) : Prop :=
  ((pl < 0 ∨ (P : Int) ≤ pl ∨ 1048576 < sr) ∧ e = .returned (.int .i64 2) ∧ Frm [] w w') ∨
  (∃ pn : Nat, pl = (pn : Int) ∧ pn < P ∧ sr ≤ 1048576 ∧ ((joinT t l = none ∧ e = .returned (.int .i64 21) ∧ Frm [] w w') ∨
    ∃ t', joinT t l = some t' ∧ e = .returned (.int .i64 0) ∧ Frm [p] w w' ∧ Md w' p F P W A (hrd h pn) (max su sr) t'))
set_option maxHeartbeats 16000000 in
theorem hear_any {w : World} {p : Nat} {F G : List Nat} {P W A : Nat} {h : Nat → Bool} {su : Nat} {t : Tn} (pl : Int) (sr : Nat) (a : Option Addr) (n c : Nat) (X : List Ix) (m : Md w p F P W A h su t) (hsr : sr < 18446744073709551616) (hX : IL w G a X) (hn : n = X.length) (hfit : ∀ x ∈ X, x.t.2.length ≤ 140737488355328) (hn63 : n ≤ 140737488355328) (hF : ∀ x ∈ F, x < w.heap.size) :
    Calls Try.prog 26 #[.pointer (some ⟨p, 0, none⟩), .int .i64 pl, .int .u64 (sr : Nat), .slice a n c] w (HearEnd w p F P W A h su t pl sr (its X)) := by
  obtain ⟨Q, hQ⟩ : ∃ Q, Q = HearEnd w p F P W A h su t pl sr (its X) := ⟨_, rfl⟩
  rw [← hQ]
  have HQ := Lib.hid hQ
  obtain ⟨v, hv, ht⟩ := m.box
  have n0 : w.cell? ⟨p, 0, none⟩ = some (.int .i64 (P : Nat)) := hv.cell 0
  by_cases hb1 : pl < 0
  · have d1 : decide (pl < (0 : Int)) = true := decide_eq_true hb1
    have HE := Lib.hid (fun z (hz : Frm [] w z) => (by rw [HQ.out]; exact .inl ⟨.inl hb1, rfl, hz⟩ : Q (.returned (.int .i64 2)) z))
    clear hQ ht hX hfit hF hb1 m
    go_enter Try.func26, Try.ntmps26
    go_wp2
    exact HE.out _ (by repeat (first | apply Frm.drew | apply Frm.drewN | exact Frm.refl _ _))
  · have d1 : decide (pl < (0 : Int)) = false := decide_eq_false hb1
    obtain ⟨pn, rfl⟩ : ∃ pn : Nat, pl = (pn : Int) := ⟨pl.toNat, by omega⟩
    by_cases hb2 : P ≤ pn
    · have d2 : decide ((P : Int) ≤ (pn : Int)) = true := decide_eq_true (by omega)
      have d3 : decide (P ≤ pn) = true := decide_eq_true hb2
      have HE := Lib.hid (fun z (hz : Frm [] w z) => (by rw [HQ.out]; exact .inl ⟨.inr (.inl (by omega)), rfl, hz⟩ : Q (.returned (.int .i64 2)) z))
      clear hQ ht hX hfit hF hb1 hb2 m
      go_enter Try.func26, Try.ntmps26
      go_wp2
      exact HE.out _ (by repeat (first | apply Frm.drew | apply Frm.drewN | exact Frm.refl _ _))
    · have d2 : decide ((P : Int) ≤ (pn : Int)) = false := decide_eq_false (by omega)
      have d3 : decide (P ≤ pn) = false := decide_eq_false hb2
      by_cases hb3 : 1048576 < sr
      · have d4 : decide ((1048576 : Int) < (sr : Int)) = true := decide_eq_true (by omega)
        have d5 : decide (1048576 < sr) = true := decide_eq_true hb3
        have HE := Lib.hid (fun z (hz : Frm [] w z) => (by rw [HQ.out]; exact .inl ⟨.inr (.inr hb3), rfl, hz⟩ : Q (.returned (.int .i64 2)) z))
        clear hQ ht hX hfit hF hb1 hb2 hb3 m
        go_enter Try.func26, Try.ntmps26
        go_wp2
        exact HE.out _ (by repeat (first | apply Frm.drew | apply Frm.drewN | exact Frm.refl _ _))
      · have d4 : decide ((1048576 : Int) < (sr : Int)) = false := decide_eq_false (by omega)
        have d5 : decide (1048576 < sr) = false := decide_eq_false hb3
        have hp7 : pn < 7 := by have := m.quo; omega
        have hpi : (pn : Int) < 7 := by omega
        have hpP : pn < P := by omega
        have hsr2 : sr ≤ 1048576 := by omega
        have hlt := m.lt
        have hJ : Hid (∀ z, Frm [] w z → Calls Try.prog 49 #[v, .slice a n c] z (JoinEnd z (p :: F) (joinT t (its X)))) := Lib.hid (fun z hz => mjoin_any a n c X (ht.keep hz (by simp) (fun x hx => .inl hx)) (hX.keep hz (F' := G) (by simp) (fun x hx => .inl hx)) hn hfit hn63 (fun x hx => by
          have := hz.size
          rcases List.mem_cons.1 hx with rfl | hx
          · omega
          · have := hF x hx; omega))
        have HM := Lib.hid m
        have HV := Lib.hid hv
        have HFI := Lib.hid hfit
        have HP := Lib.hid hpP
        have HS := Lib.hid hsr2
        have n3 : w.cell? ⟨p, 11, none⟩ = some v := hv.cell 11
        obtain ⟨o, ho⟩ : ∃ o, o = joinT t (its X) := ⟨_, rfl⟩
        rw [← ho] at hJ
        have HO := Lib.hid ho
        clear hQ ht hX hfit hF hb1 hb2 hb3 m hn hsr ho hpP hsr2
        go_enter Try.func26, Try.ntmps26
        go_wp2_with fail
        (with_reducible refine (hJ.out _ (by repeat (first | apply Frm.drew | apply Frm.drewN | exact Frm.refl _ _))).mono ?_)
        rintro e w1 ⟨hf1, ⟨hno, rfl⟩ | ⟨v2, t2, hyes, rfl, ht2⟩⟩
        · have HE := Lib.hid (fun z (hz : Frm [] w z) => (by rw [HQ.out]; exact .inr ⟨pn, rfl, HP.out, HS.out, .inl ⟨by rw [← HO.out]; exact hno, rfl, hz⟩⟩ : Q (.returned (.int .i64 21)) z))
          have HF1 := Lib.hid hf1
          clear hno hf1 hJ
          go_wp2
          exact HE.out _ HF1.out
        · have hw1 := hf1.whole HV.out (by simp)
          obtain ⟨p2, rfl⟩ := ht2.ptr
          have x0 := hw1.cell 11
          have z0 := hw1.free 11
          have z1 := hw1.free (3 + pn)
          have z2 := hw1.free 10
          have x1 : w1.cell? ⟨p, 3 + pn, none⟩ = some (.bool (h pn)) := (hw1.cell (3 + pn)).trans (mdC_has P W A h su v pn hp7)
          have x2 : w1.cell? ⟨p, 10, none⟩ = some (.int .u64 (su : Nat)) := hw1.cell 10
          simp [mdC] at x0
          have FIN : Hid (∀ ms, ms = max su sr → Q (.returned (.int .i64 0)) (((w1.setCell ⟨p, 11, none⟩ (.pointer p2)).setCell ⟨p, 3 + pn, none⟩ (.bool true)).setCell ⟨p, 10, none⟩ (.int .u64 (ms : Nat)))) := Lib.hid (by
            intro ms hms
            rw [HQ.out]
            have hf2 : Frm [p] w1 (((w1.setCell ⟨p, 11, none⟩ (.pointer p2)).setCell ⟨p, 3 + pn, none⟩ (.bool true)).setCell ⟨p, 10, none⟩ (.int .u64 (ms : Nat))) := (((Frm.refl _ _).setCell (.inl (by simp)) _).setCell (.inl (by simp)) _).setCell (.inl (by simp)) _
            have hk := ((hw1.put 11 (.pointer p2)).put (3 + pn) (.bool true)).put 10 (.int .u64 (ms : Nat))
            rw [mdC_tree, mdC_hrd _ _ _ _ _ _ _ hp7, mdC_su] at hk
            refine .inr ⟨pn, rfl, HP.out, HS.out, .inr ⟨t2, by rw [← HO.out]; exact hyes, rfl, (hf1.weak (by simp)).trans hf2 (fun x hx => hx) (fun x hx => .inl hx), ⟨_, by rw [← hms]; exact hk, ht2.keep hf2 (fun x hx => .inl (by simp at hx; simp [hx])) (fun x hx => .inl hx)⟩, HM.out.quo, ?_, fit_join (by rw [← HO.out]; exact hyes) HM.out.fit (fun x hx => ?_), HM.out.out⟩⟩
            · have := HS.out; have := HM.out.small; omega
            · obtain ⟨y, hy, rfl⟩ := List.mem_map.1 hx
              exact HFI.out y hy)
          clear hyes ht2 hw1 hf1 hJ hv
          go_wp2
          · exact FIN.out _ (by omega)
          · exact FIN.out _ (by omega)
set_option maxHeartbeats 8000000 in
theorem ready_any {w : World} {p : Nat} {F : List Nat} {P W A : Nat} {h : Nat → Bool} {su : Nat} {t : Tn} (m : Md w p F P W A h su t) :
    Calls Try.prog 28 #[.pointer (some ⟨p, 0, none⟩)] w fun e w' => e = .returned (.bool (covN P W A (hrdL h))) ∧ Frm [] w w' := by
  obtain ⟨v, hv, ht⟩ := m.box
  have hq := m.quo
  have HV := Lib.hid hv
  have HCO := Lib.hid (fun z (hz : Frm [] w z) => covered_any P W A (some ⟨p, 3, none⟩) 7 7 (hrdL h) z (by omega) (by omega) (by omega) (by omega) (fun j hj => by
    rw [hrdL_len] at hj
    exact ⟨p, 3, rfl, by rw [hrdL_at _ _ hj]; exact ((hz.whole hv (by simp)).cell (3 + j)).trans (mdC_has P W A h su v j hj)⟩) (hrdL_len _).symm)
  have n0 : ∀ y, Frm [] w y → y.cell? ⟨p, 0, none⟩ = some (.int .i64 (P : Nat)) := fun y hy => (hy.whole HV.out (by simp)).cell 0
  have n1 : ∀ y, Frm [] w y → y.cell? ⟨p, 1, none⟩ = some (.int .i64 (W : Nat)) := fun y hy => (hy.whole HV.out (by simp)).cell 1
  have n2 : ∀ y, Frm [] w y → y.cell? ⟨p, 2, none⟩ = some (.int .i64 (A : Nat)) := fun y hy => (hy.whole HV.out (by simp)).cell 2
  obtain ⟨b, hb⟩ : ∃ b, b = covN P W A (hrdL h) := ⟨_, rfl⟩
  rw [← hb] at HCO ⊢
  unfold quV at HCO
  clear hv ht m hq hb
  go_enter Try.func28, Try.ntmps28
  have hS0 := Frm.refl [] w
  go_wp2_with fail
  go_region_held3 (fun y => Frm [] w y) (repeat (first | assumption | apply Frm.drew | exact Frm.refl _ _)) (
    (go_at_call 51; (with_reducible refine (HCO.out _ (by repeat (first | assumption | apply Frm.drew | exact Frm.refl _ _))).mono ?_); rintro ex wz ⟨rfl, hfz⟩; have S1 : Frm [] w wz := Frm.trans (by repeat (first | assumption | apply Frm.drew | exact Frm.refl _ _)) hfz (by simp) (by simp); clear hfz))
  all_goals
    clear n0 n1 n2 HCO
    go_wp2
    go_ret
    exact ⟨rfl, S1⟩
/-- What Result answers. -/
def ResEnd (w : World) (p : Nat) (F : List Nat) (P W A : Nat) (h : Nat → Bool) (su : Nat) (t : Tn) (e : Ending) (w' : World) : Prop :=
  Frm [] w w' ∧ ((covN P W A (hrdL h) = false ∧ e = .returned (.tuple #[.slice none 0 0, .int .i64 23])) ∨
    (covN P W A (hrdL h) = true ∧ ∃ k, RunOf (atT t) k ∧ ((k < su ∧ e = .returned (.tuple #[.slice none 0 0, .int .i64 22])) ∨
      (su ≤ k ∧ ∃ a c X, k = X.length ∧ its X = rowN (atT t) k ∧ e = .returned (.tuple #[.slice a k c, .int .i64 0]) ∧ IOwn w' w.heap.size 55 (p :: F) a c X))))
set_option maxHeartbeats 8000000 in
theorem result_any {w : World} {p : Nat} {F : List Nat} {P W A : Nat} {h : Nat → Bool} {su : Nat} {t : Tn} (m : Md w p F P W A h su t) (hs : (keysT t).length ≤ 16777216) (hF : ∀ x ∈ F, x < w.heap.size) :
    Calls Try.prog 30 #[.pointer (some ⟨p, 0, none⟩)] w (ResEnd w p F P W A h su t) := by
  obtain ⟨Q, hQ⟩ : ∃ Q, Q = ResEnd w p F P W A h su t := ⟨_, rfl⟩
  rw [← hQ]
  have HQ := Lib.hid hQ
  have HRD := Lib.hid (fun z (hz : Frm [] w z) => ready_any (m.here hz))
  have HM := Lib.hid m
  have HLO := Lib.hid hF
  have HS := Lib.hid hs
  obtain ⟨b, hb⟩ : ∃ b, b = covN P W A (hrdL h) := ⟨_, rfl⟩
  rw [← hb] at HRD
  have HB := Lib.hid hb
  clear hQ m hF hs hb
  go_enter Try.func30, Try.ntmps30
  go_wp2_with fail
  (with_reducible refine (HRD.out _ (by repeat (first | apply Frm.drew | apply Frm.drewN | exact Frm.refl _ _))).mono ?_)
  rintro e w1 ⟨rfl, hf1⟩
  have HF1 := Lib.hid hf1
  cases b with
  | false =>
    have HE := Lib.hid (fun z (hz : Frm [] w z) => (by rw [HQ.out]; exact ⟨hz, .inl ⟨HB.out.symm, rfl⟩⟩ : Q (.returned (.tuple #[.slice none 0 0, .int .i64 23])) z))
    clear hf1 HRD
    go_wp2
    exact HE.out _ HF1.out
  | true =>
    obtain ⟨v, hv, ht⟩ := (HM.out.here hf1).box
    have n3 : w1.cell? ⟨p, 11, none⟩ = some v := hv.cell 11
    have HV := Lib.hid hv
    have hlt := HM.out.lt
    have HRW := Lib.hid (mrow_any ht HM.out.fit HS.out (fun x hx => by
      have := HF1.out.size
      rcases List.mem_cons.1 hx with rfl | hx
      · omega
      · have := HLO.out x hx; omega))
    clear hf1 HRD hv ht
    go_wp2_with fail
    (with_reducible refine HRW.out.mono ?_)
    rintro e w2 ⟨a, c, X, hrun, hits, rfl, hown, hf2⟩
    obtain ⟨k, hk⟩ : ∃ k, k = X.length := ⟨_, rfl⟩
    rw [← hk] at hrun hits
    have hk24 : k ≤ 16777216 := Nat.le_trans (at_few hrun.1) HS.out
    have n10 : w2.cell? ⟨p, 10, none⟩ = some (.int .u64 (su : Nat)) := (hf2.whole HV.out (by simp)).cell 10
    have hwk : IntKind.u64.wrap (k : Int) = (k : Int) := by simp [IntKind.wrap, IntKind.bits, IntKind.signed]; omega
    have HF2 := Lib.hid (HF1.out.trans hf2 (U := []) (by simp) (by simp))
    rw [← hk]
    by_cases hks : k < su
    · have d1 : decide ((k : Int) < (su : Int)) = true := decide_eq_true (by omega)
      have d2 : decide (k < su) = true := decide_eq_true hks
      have HE := Lib.hid (fun z (hz : Frm [] w z) => (by rw [HQ.out]; exact ⟨hz, .inr ⟨HB.out.symm, k, hrun, .inl ⟨hks, rfl⟩⟩⟩ : Q (.returned (.tuple #[.slice none 0 0, .int .i64 22])) z))
      clear hf2 HRW hrun hits hown hk hks n3
      go_wp2
      exact HE.out _ HF2.out
    · have d1 : decide ((k : Int) < (su : Int)) = false := decide_eq_false (by omega)
      have d2 : decide (k < su) = false := decide_eq_false hks
      have HE : Hid (Q (.returned (.tuple #[.slice a k c, .int .i64 0])) w2) := Lib.hid (by
        rw [HQ.out]
        refine ⟨HF2.out, .inr ⟨HB.out.symm, k, hrun, .inr ⟨by omega, a, c, X, hk, hits, rfl, ?_⟩⟩⟩
        exact ⟨own_baseM hown.own HF1.out.size, hown.ok, hown.away⟩)
      clear hf2 HRW hrun hits hown hk hks n3
      go_wp2
      exact HE.out
/-- A nil one. -/
theorem nil_hear (v1 v2 v3 : Value) (w : World) : Calls Try.prog 26 #[.pointer none, v1, v2, v3] w fun e w' => e = .returned (.int .i64 1) ∧ Frm [] w w' := by
  go_enter Try.func26, Try.ntmps26
  go_wp2
  go_ret
  exact ⟨rfl, by repeat (first | apply Frm.drew | apply Frm.drewN | exact Frm.refl _ _)⟩
set_option maxHeartbeats 4000000 in
theorem nil_ready (w : World) : Calls Try.prog 28 #[.pointer none] w fun e w' => e = .returned (.bool false) ∧ Frm [] w w' := by
  have hS0 := Frm.refl [] w
  go_enter Try.func28, Try.ntmps28
  go_wp2_with fail
  refine wp_region_held_drew (S := fun w' => Frm [] w w') (by kernel_rfl) (Frm.drew (Frm.refl _ _)) (fun hHeld => ?_)
  refine wpAnyH_take (i := 0) (oi := ⟨some 3, _, _, _, _, _⟩) (v := ?_) rfl (by kernel_rfl) (by kernel_rfl) (by kernel_rfl) (fun _ _ _ h => h) (Or.inl ⟨by rfl, ?_⟩) (by assumption) ?_
  rotate_left 1
  · (intro w hSw; (try dsimp only at hSw); go_simp; all_goals with_reducible rfl)
  try simp only [Act.put, List.setIfInBounds_toArray, List.set_cons_zero, List.set_cons_succ]
  refine wpAnyH_take (i := 1) (oi := ⟨some 4, _, _, _, _, _⟩) (v := ?_) rfl (by kernel_rfl) (by kernel_rfl) (by kernel_rfl) (fun _ _ _ h => h) (Or.inl ⟨by rfl, ?_⟩) (by assumption) ?_
  rotate_left 1
  · (intro w hSw; (try dsimp only at hSw); go_simp; all_goals with_reducible rfl)
  try simp only [Act.put, List.setIfInBounds_toArray, List.set_cons_zero, List.set_cons_succ]
  refine wpAnyH_take (i := 2) (oi := ⟨some 5, _, _, _, _, _⟩) (v := ?_) rfl (by kernel_rfl) (by kernel_rfl) (by kernel_rfl) (fun _ _ _ h => h) (Or.inl ⟨by rfl, ?_⟩) (by assumption) ?_
  rotate_left 1
  · (intro w hSw; (try dsimp only at hSw); go_simp; all_goals with_reducible rfl)
  try simp only [Act.put, List.setIfInBounds_toArray, List.set_cons_zero, List.set_cons_succ]
  refine wpAnyH_take (i := 3) (oi := ⟨some 6, _, _, _, _, _⟩) (v := undef) rfl (by kernel_rfl) (by kernel_rfl) (by kernel_rfl) (fun _ _ _ h => h) (Or.inr ⟨by rfl, rfl⟩) (by assumption) ?_
  try simp only [Act.put, List.setIfInBounds_toArray, List.set_cons_zero, List.set_cons_succ]
  refine wpAnyH_take (i := 4) (oi := ⟨some 7, _, _, _, _, _⟩) (v := undef) rfl (by kernel_rfl) (by kernel_rfl) (by kernel_rfl) (fun _ _ _ h => h) (Or.inr ⟨by rfl, rfl⟩) (by assumption) ?_
  try simp only [Act.put, List.setIfInBounds_toArray, List.set_cons_zero, List.set_cons_succ]
  refine wpAnyH_take (i := 5) (oi := ⟨some 8, _, _, _, _, _⟩) (v := undef) rfl (by kernel_rfl) (by kernel_rfl) (by kernel_rfl) (fun _ _ _ h => h) (Or.inr ⟨by rfl, rfl⟩) (by assumption) ?_
  try simp only [Act.put, List.setIfInBounds_toArray, List.set_cons_zero, List.set_cons_succ]
  refine wpAnyH_take (i := 6) (oi := ⟨some 9, _, _, _, _, _⟩) (v := undef) rfl (by kernel_rfl) (by kernel_rfl) (by kernel_rfl) (fun _ _ _ h => h) (Or.inr ⟨by rfl, rfl⟩) (by assumption) ?_
  try simp only [Act.put, List.setIfInBounds_toArray, List.set_cons_zero, List.set_cons_succ]
  refine wpAnyH_take (i := 7) (oi := ⟨some 10, _, _, _, _, _⟩) (v := undef) rfl (by kernel_rfl) (by kernel_rfl) (by kernel_rfl) (fun _ _ _ h => h) (Or.inr ⟨by rfl, rfl⟩) (by assumption) ?_
  try simp only [Act.put, List.setIfInBounds_toArray, List.set_cons_zero, List.set_cons_succ]
  refine wpAnyH_take (i := 8) (oi := ⟨some 11, _, _, _, _, _⟩) (v := undef) rfl (by kernel_rfl) (by kernel_rfl) (by kernel_rfl) (fun _ _ _ h => h) (Or.inr ⟨by rfl, rfl⟩) (by assumption) ?_
  try simp only [Act.put, List.setIfInBounds_toArray, List.set_cons_zero, List.set_cons_succ]
  refine wpAnyH_take (i := 9) (oi := ⟨some 12, _, _, _, _, _⟩) (v := undef) rfl (by kernel_rfl) (by kernel_rfl) (by kernel_rfl) (fun _ _ _ h => h) (Or.inr ⟨by rfl, rfl⟩) (by assumption) ?_
  try simp only [Act.put, List.setIfInBounds_toArray, List.set_cons_zero, List.set_cons_succ]
  refine wpAnyH_take (i := 10) (oi := ⟨some 13, _, _, _, _, _⟩) (v := undef) rfl (by kernel_rfl) (by kernel_rfl) (by kernel_rfl) (fun _ _ _ h => h) (Or.inr ⟨by rfl, rfl⟩) (by assumption) ?_
  try simp only [Act.put, List.setIfInBounds_toArray, List.set_cons_zero, List.set_cons_succ]
  refine wpAnyH_take (i := 11) (oi := ⟨some 14, _, _, _, _, _⟩) (v := undef) rfl (by kernel_rfl) (by kernel_rfl) (by kernel_rfl) (fun _ _ _ h => h) (Or.inr ⟨by rfl, rfl⟩) (by assumption) ?_
  try simp only [Act.put, List.setIfInBounds_toArray, List.set_cons_zero, List.set_cons_succ]
  refine wpAnyH_take (i := 12) (oi := ⟨some 15, _, _, _, _, _⟩) (v := ?_) rfl (by kernel_rfl) (by kernel_rfl) (by kernel_rfl) (fun _ _ _ h => h) (Or.inl ⟨by rfl, ?_⟩) (by assumption) ?_
  rotate_left 1
  · (intro w hSw; (try dsimp only at hSw); go_simp; all_goals with_reducible rfl)
  try simp only [Act.put, List.setIfInBounds_toArray, List.set_cons_zero, List.set_cons_succ]
  refine wpAnyH_take (i := 13) (oi := ⟨some 2, _, _, _, _, _⟩) (v := ?_) rfl (by kernel_rfl) (by kernel_rfl) (by kernel_rfl) (fun _ _ _ h => h) (Or.inl ⟨by rfl, ?_⟩) (by assumption) ?_
  rotate_left 1
  · (intro w hSw; (try dsimp only at hSw); go_simp; all_goals with_reducible rfl)
  try simp only [Act.put, List.setIfInBounds_toArray, List.set_cons_zero, List.set_cons_succ]
  refine wpAnyH_done (by kernel_rfl) ?_ _
  all_goals
    go_wp2
    go_ret
    exact ⟨rfl, by first | assumption | (repeat (first | apply Frm.drew | apply Frm.drewN | exact Frm.refl _ _))⟩
theorem nil_result (w : World) : Calls Try.prog 30 #[.pointer none] w fun e w' => e = .returned (.tuple #[.slice none 0 0, .int .i64 1]) ∧ Frm [] w w' := by
  go_enter Try.func30, Try.ntmps30
  go_wp2
  go_ret2
  exact ⟨rfl, by repeat (first | apply Frm.drew | apply Frm.drewN | exact Frm.refl _ _)⟩
end Go.Proofs.Ytecfoomjpjcldaa
