/- The law's held: entries that are those that were written. Written by wip/mk-mkheld.py. -/
import Derived.Test.YtecfoomjpjcldaaMdAwake
import Derived.Test.YtecfoomjpjcldaaStr
import Derived.Deep.RegionHeld
import Derived.Deep.Cut
namespace Go.Proofs.Ytecfoomjpjcldaa
open Go.RowKit
set_option maxRecDepth 100000
def HdRel (w : World) (n : Nat) (s9 : Value) (wr : World) : Prop := ∃ i : Nat, s9 = .int .i64 (i : Nat) ∧ i ≤ n ∧ Hid (Frm [] w wr)
set_option maxHeartbeats 8000000 in
theorem held_true (a1 : Option Addr) (n1 c1 : Nat) (X : List Ix) (a2 : Option Addr) (n2 c2 : Nat) (D : List (List Nat)) (w : World) (F : List Nat) (h1 : IL w F a1 X) (hn1 : n1 = X.length) (h2 : LL w [] a2 D) (hn2 : n2 = D.length) (hle : n1 ≤ n2) (hl : n2 ≤ 1000000) (hX : ∀ i, i < X.length → (X.getD i default).t = (i, D.getD i [])) :
    Calls Try.prog 33 #[.slice a1 n1 c1, .slice a2 n2 c2] w fun e w' => e = .returned (.bool true) ∧ Frm [] w w' := by
  obtain ⟨Q, hQ⟩ : ∃ Q : Ending → World → Prop, Q = fun e w' => e = .returned (.bool true) ∧ Frm [] w w' := ⟨_, rfl⟩
  rw [← hQ]
  have HQ : Hid (∀ z, Frm [] w z → Q (.returned (.bool true)) z) := Lib.hid fun z hz => by rw [hQ]; exact ⟨rfl, hz⟩
  have H1 := Lib.hid h1
  have H2 := Lib.hid h2
  have HN1 := Lib.hid hn1
  have HN2 := Lib.hid hn2
  have HX := Lib.hid hX
  have HR0 : Hid (HdRel w n1 (.int .i64 0) w) := Lib.hid ⟨0, rfl, Nat.zero_le _, Lib.hid (Frm.refl _ _)⟩
  clear hQ h1 h2 hn1 hn2 hX
  go_enter Try.func33, Try.ntmps33
  go_wp2
  go_loopw [9] (fun s9 wr => HdRel w n1 s9 wr) (fun s9 _ => n1 - (intOf s9).toNat)
  case atStart => exact HR0.out
  case round =>
    clear HR0
    obtain ⟨i, rfl, hi, HF⟩ := hrel
    by_cases hlt : i < n1
    · have hiX : i < X.length := by rw [← HN1.out]; exact hlt
      have hiD : i < D.length := by rw [← HN2.out]; omega
      obtain ⟨b1, o1, hb1, p0, p1, hix⟩ := (H1.out.keep HF.out (F' := F) (by simp) (fun x hx => .inl hx)).at hiX
      have hxt := HX.out i hiX
      obtain ⟨b2, o2, hb2, ai, ci, q1, q2, _⟩ := (H2.out.keep HF.out (F' := []) (by simp) (by simp)).at hiD
      subst hb1 hb2
      obtain ⟨d, hd⟩ : ∃ d, d = D.getD i [] := ⟨_, rfl⟩
      rw [← hd] at hxt q1 q2
      obtain ⟨x, hx⟩ : ∃ x, x = X.getD i default := ⟨_, rfl⟩
      rw [← hx] at p0 p1 hix hxt
      obtain ⟨⟨e, d'⟩, ax, cx⟩ := x
      simp only [Prod.mk.injEq] at hxt
      obtain ⟨rfl, rfl⟩ := hxt
      simp only at p0 p1
      obtain ⟨dn, hdn⟩ : ∃ dn, dn = d'.length := ⟨_, rfl⟩
      rw [← hdn] at p1 q1
      obtain ⟨wq, hwq⟩ : ∃ wq, wq = wr.alloc (.cells #[.int .u64 (e : Nat), .slice ax dn cx] 55) := ⟨_, rfl⟩
      obtain ⟨gx, hgx⟩ : ∃ gx, gx = wr.heap.size := ⟨_, rfl⟩
      have hfq : Frm [] wr wq := by rw [hwq]; exact (Frm.refl _ _).alloc _
      have hWx : Whole wq gx 55 #[.int .u64 (e : Nat), .slice ax dn cx] := by rw [hwq, hgx]; exact Whole.made _ _ _
      have K0 : ∀ z, Frm [] wq z → z.cell? ⟨gx, 0, none⟩ = some (.int .u64 (e : Nat)) := fun z hz => (hz.whole hWx (by simp)).cell 0
      have K1 : ∀ z, Frm [] wq z → z.cell? ⟨gx, 1, none⟩ = some (.slice ax dn cx) := fun z hz => (hz.whole hWx (by simp)).cell 1
      have q1q := (hfq.cell (block_lt_of_cell q1) (by simp)).trans q1
      have K2 : ∀ z, Frm [] wq z → z.cell? ⟨b2, o2 + e, none⟩ = some (.slice ai dn ci) := fun z hz => (hz.cell (block_lt_of_cell q1q) (by simp)).trans q1q
      have V1 : ∀ z, Frm [] wq z → (convert 38 9 (.slice ax dn cx)).run Try.prog z = .ok (.string (strOf d')) z := fun z hz => run_to_string (P := Try.prog) (e := 5) Try.underlying38 Try.underlying5 Try.underlying9 ((hfq.trans hz (U := []) (by simp) (by simp)).bytes' hix.bytes (by simp)) hdn
      have V2 : ∀ z, Frm [] wq z → (convert 38 9 (.slice ai dn ci)).run Try.prog z = .ok (.string (strOf d')) z := fun z hz => run_to_string (P := Try.prog) (e := 5) Try.underlying38 Try.underlying5 Try.underlying9 ((hfq.trans hz (U := []) (by simp) (by simp)).bytes' q2 (by simp)) hdn
      have HFQ : Hid (Frm [] w wq) := Lib.hid (HF.out.trans hfq (by simp) (by simp))
      have g1 : decide ((e : Int) < (n1 : Int)) = true := decide_eq_true (by omega)
      have g2 : decide (e < n1) = true := decide_eq_true hlt
      have g3 : decide ((n2 : Int) ≤ (e : Int)) = false := decide_eq_false (by omega)
      have g4 : decide (n2 ≤ e) = false := decide_eq_false (by omega)
      have hei : (e : Int) < (n1 : Int) := by omega
      have hej : (e : Int) < (n2 : Int) := by omega
      have hej2 : e < n2 := by omega
      have hwu : IntKind.u64.wrap (e : Int) = (e : Int) := by rw [IntWalk.u64_in _ (by omega)]
      have hbe : ((e : Int) == (e : Int)) = true := by simp
      have hwm : IntKind.i64.wrap ((e : Int) + 1) = ((e + 1 : Nat) : Int) := by rw [IntWalk.i64_in _ (by omega)]; rfl
      obtain ⟨m, hm⟩ : ∃ m, m = e + 1 := ⟨_, rfl⟩
      rw [← hm] at hwm
      have HMM : Hid (m ≤ n1 ∧ n1 - m < n1 - e) := Lib.hid (by omega)
      have HWE := Lib.hid hwq
      have HGE := Lib.hid hgx
      clear hd hx hdn hm hfq hWx q1q hix q2 hwq hgx hiX hiD
      go_upto_region 4 with fail
      rw [← HWE.out, ← HGE.out]
      refine wp_region_held_drew (S := fun w' => Frm [] wq w') (by kernel_rfl) (Frm.drew (Frm.refl _ _)) (fun hHeld => ?_)
      refine wpAnyH_take (i := 0) (oi := ⟨some 14, _, _, _, _, _⟩) (v := ?_) rfl (by kernel_rfl) (by kernel_rfl) (by kernel_rfl) (fun _ _ _ h => h) (Or.inl ⟨by rfl, ?_⟩) (by assumption) ?_
      rotate_left 1
      · (intro w hSw; (try dsimp only at hSw); have k0 := K0 w hSw; have k1 := K1 w hSw; have k2 := K2 w hSw; have v1 := V1 w hSw; have v2 := V2 w hSw; go_simp; all_goals with_reducible rfl)
      try simp only [Act.put, List.setIfInBounds_toArray, List.set_cons_zero, List.set_cons_succ]
      refine wpAnyH_take (i := 1) (oi := ⟨some 15, _, _, _, _, _⟩) (v := ?_) rfl (by kernel_rfl) (by kernel_rfl) (by kernel_rfl) (fun _ _ _ h => h) (Or.inl ⟨by rfl, ?_⟩) (by assumption) ?_
      rotate_left 1
      · (intro w hSw; (try dsimp only at hSw); have k0 := K0 w hSw; have k1 := K1 w hSw; have k2 := K2 w hSw; have v1 := V1 w hSw; have v2 := V2 w hSw; go_simp; all_goals with_reducible rfl)
      try simp only [Act.put, List.setIfInBounds_toArray, List.set_cons_zero, List.set_cons_succ]
      refine wpAnyH_take (i := 2) (oi := ⟨some 16, _, _, _, _, _⟩) (v := ?_) rfl (by kernel_rfl) (by kernel_rfl) (by kernel_rfl) (fun _ _ _ h => h) (Or.inl ⟨by rfl, ?_⟩) (by assumption) ?_
      rotate_left 1
      · (intro w hSw; (try dsimp only at hSw); have k0 := K0 w hSw; have k1 := K1 w hSw; have k2 := K2 w hSw; have v1 := V1 w hSw; have v2 := V2 w hSw; go_simp; all_goals with_reducible rfl)
      try simp only [Act.put, List.setIfInBounds_toArray, List.set_cons_zero, List.set_cons_succ]
      refine wpAnyH_take (i := 3) (oi := ⟨some 17, _, _, _, _, _⟩) (v := ?_) rfl (by kernel_rfl) (by kernel_rfl) (by kernel_rfl) (fun _ _ _ h => h) (Or.inl ⟨by rfl, ?_⟩) (by assumption) ?_
      rotate_left 1
      · (intro w hSw; (try dsimp only at hSw); have k0 := K0 w hSw; have k1 := K1 w hSw; have k2 := K2 w hSw; have v1 := V1 w hSw; have v2 := V2 w hSw; go_simp; all_goals with_reducible rfl)
      try simp only [Act.put, List.setIfInBounds_toArray, List.set_cons_zero, List.set_cons_succ]
      refine wpAnyH_take (i := 4) (oi := ⟨some 18, _, _, _, _, _⟩) (v := ?_) rfl (by kernel_rfl) (by kernel_rfl) (by kernel_rfl) (fun _ _ _ h => h) (Or.inl ⟨by rfl, ?_⟩) (by assumption) ?_
      rotate_left 1
      · (intro w hSw; (try dsimp only at hSw); have k0 := K0 w hSw; have k1 := K1 w hSw; have k2 := K2 w hSw; have v1 := V1 w hSw; have v2 := V2 w hSw; go_simp; all_goals with_reducible rfl)
      try simp only [Act.put, List.setIfInBounds_toArray, List.set_cons_zero, List.set_cons_succ]
      refine wpAnyH_take (i := 5) (oi := ⟨some 19, _, _, _, _, _⟩) (v := ?_) rfl (by kernel_rfl) (by kernel_rfl) (by kernel_rfl) (fun _ _ _ h => h) (Or.inl ⟨by rfl, ?_⟩) (by assumption) ?_
      rotate_left 1
      · (intro w hSw; (try dsimp only at hSw); have k0 := K0 w hSw; have k1 := K1 w hSw; have k2 := K2 w hSw; have v1 := V1 w hSw; have v2 := V2 w hSw; go_simp; all_goals with_reducible rfl)
      try simp only [Act.put, List.setIfInBounds_toArray, List.set_cons_zero, List.set_cons_succ]
      refine wpAnyH_take (i := 6) (oi := ⟨some 20, _, _, _, _, _⟩) (v := ?_) rfl (by kernel_rfl) (by kernel_rfl) (by kernel_rfl) (fun _ _ _ h => h) (Or.inl ⟨by rfl, ?_⟩) (by assumption) ?_
      rotate_left 1
      · (intro w hSw; (try dsimp only at hSw); have k0 := K0 w hSw; have k1 := K1 w hSw; have k2 := K2 w hSw; have v1 := V1 w hSw; have v2 := V2 w hSw; go_simp; all_goals with_reducible rfl)
      try simp only [Act.put, List.setIfInBounds_toArray, List.set_cons_zero, List.set_cons_succ]
      refine wpAnyH_take (i := 7) (oi := ⟨some 21, _, _, _, _, _⟩) (v := ?_) rfl (by kernel_rfl) (by kernel_rfl) (by kernel_rfl) (fun _ _ _ h => h) (Or.inl ⟨by rfl, ?_⟩) (by assumption) ?_
      rotate_left 1
      · (intro w hSw; (try dsimp only at hSw); have k0 := K0 w hSw; have k1 := K1 w hSw; have k2 := K2 w hSw; have v1 := V1 w hSw; have v2 := V2 w hSw; go_simp; all_goals with_reducible rfl)
      try simp only [Act.put, List.setIfInBounds_toArray, List.set_cons_zero, List.set_cons_succ]
      refine wpAnyH_take (i := 8) (oi := ⟨some 22, _, _, _, _, _⟩) (v := ?_) rfl (by kernel_rfl) (by kernel_rfl) (by kernel_rfl) (fun _ _ _ h => h) (Or.inl ⟨by rfl, ?_⟩) (by assumption) ?_
      rotate_left 1
      · (intro w hSw; (try dsimp only at hSw); have k0 := K0 w hSw; have k1 := K1 w hSw; have k2 := K2 w hSw; have v1 := V1 w hSw; have v2 := V2 w hSw; go_simp; all_goals with_reducible rfl)
      try simp only [Act.put, List.setIfInBounds_toArray, List.set_cons_zero, List.set_cons_succ]
      refine wpAnyH_take (i := 9) (oi := ⟨some 23, _, _, _, _, _⟩) (v := ?_) rfl (by kernel_rfl) (by kernel_rfl) (by kernel_rfl) (fun _ _ _ h => h) (Or.inl ⟨by rfl, ?_⟩) (by assumption) ?_
      rotate_left 1
      · (intro w hSw; (try dsimp only at hSw); have k0 := K0 w hSw; have k1 := K1 w hSw; have k2 := K2 w hSw; have v1 := V1 w hSw; have v2 := V2 w hSw; go_simp; all_goals with_reducible rfl)
      try simp only [Act.put, List.setIfInBounds_toArray, List.set_cons_zero, List.set_cons_succ]
      refine wpAnyH_take (i := 10) (oi := ⟨some 24, _, _, _, _, _⟩) (v := ?_) rfl (by kernel_rfl) (by kernel_rfl) (by kernel_rfl) (fun _ _ _ h => h) (Or.inl ⟨by rfl, ?_⟩) (by assumption) ?_
      rotate_left 1
      · (intro w hSw; (try dsimp only at hSw); have k0 := K0 w hSw; have k1 := K1 w hSw; have k2 := K2 w hSw; have v1 := V1 w hSw; have v2 := V2 w hSw; go_simp; all_goals with_reducible rfl)
      try simp only [Act.put, List.setIfInBounds_toArray, List.set_cons_zero, List.set_cons_succ]
      refine wpAnyH_take (i := 11) (oi := ⟨some 25, _, _, _, _, _⟩) (v := ?_) rfl (by kernel_rfl) (by kernel_rfl) (by kernel_rfl) (fun _ _ _ h => h) (Or.inl ⟨by rfl, ?_⟩) (by assumption) ?_
      rotate_left 1
      · (intro w hSw; (try dsimp only at hSw); have k0 := K0 w hSw; have k1 := K1 w hSw; have k2 := K2 w hSw; have v1 := V1 w hSw; have v2 := V2 w hSw; go_simp; all_goals with_reducible rfl)
      try simp only [Act.put, List.setIfInBounds_toArray, List.set_cons_zero, List.set_cons_succ]
      refine wpAnyH_take (i := 12) (oi := ⟨some 26, _, _, _, _, _⟩) (v := ?_) rfl (by kernel_rfl) (by kernel_rfl) (by kernel_rfl) (fun _ _ _ h => h) (Or.inl ⟨by rfl, ?_⟩) (by assumption) ?_
      rotate_left 1
      · (intro w hSw; (try dsimp only at hSw); have k0 := K0 w hSw; have k1 := K1 w hSw; have k2 := K2 w hSw; have v1 := V1 w hSw; have v2 := V2 w hSw; go_simp; all_goals with_reducible rfl)
      try simp only [Act.put, List.setIfInBounds_toArray, List.set_cons_zero, List.set_cons_succ]
      refine wpAnyH_take (i := 13) (oi := ⟨some 27, _, _, _, _, _⟩) (v := ?_) rfl (by kernel_rfl) (by kernel_rfl) (by kernel_rfl) (fun _ _ _ h => h) (Or.inl ⟨by rfl, ?_⟩) (by assumption) ?_
      rotate_left 1
      · (intro w hSw; (try dsimp only at hSw); have k0 := K0 w hSw; have k1 := K1 w hSw; have k2 := K2 w hSw; have v1 := V1 w hSw; have v2 := V2 w hSw; go_simp; all_goals with_reducible rfl)
      try simp only [Act.put, List.setIfInBounds_toArray, List.set_cons_zero, List.set_cons_succ]
      refine wpAnyH_take (i := 14) (oi := ⟨some 28, _, _, _, _, _⟩) (v := ?_) rfl (by kernel_rfl) (by kernel_rfl) (by kernel_rfl) (fun _ _ _ h => h) (Or.inl ⟨by rfl, ?_⟩) (by assumption) ?_
      rotate_left 1
      · (intro w hSw; (try dsimp only at hSw); have k0 := K0 w hSw; have k1 := K1 w hSw; have k2 := K2 w hSw; have v1 := V1 w hSw; have v2 := V2 w hSw; go_simp; all_goals with_reducible rfl)
      try simp only [Act.put, List.setIfInBounds_toArray, List.set_cons_zero, List.set_cons_succ]
      refine wpAnyH_take (i := 15) (oi := ⟨some 29, _, _, _, _, _⟩) (v := ?_) rfl (by kernel_rfl) (by kernel_rfl) (by kernel_rfl) (fun _ _ _ h => h) (Or.inl ⟨by rfl, ?_⟩) (by assumption) ?_
      rotate_left 1
      · (intro w hSw; (try dsimp only at hSw); have k0 := K0 w hSw; have k1 := K1 w hSw; have k2 := K2 w hSw; have v1 := V1 w hSw; have v2 := V2 w hSw; go_simp; all_goals with_reducible rfl)
      try simp only [Act.put, List.setIfInBounds_toArray, List.set_cons_zero, List.set_cons_succ]
      refine wpAnyH_take (i := 16) (oi := ⟨some 30, _, _, _, _, _⟩) (v := ?_) rfl (by kernel_rfl) (by kernel_rfl) (by kernel_rfl) (fun _ _ _ h => h) (Or.inl ⟨by rfl, ?_⟩) (by assumption) ?_
      rotate_left 1
      · (intro w hSw; (try dsimp only at hSw); have k0 := K0 w hSw; have k1 := K1 w hSw; have k2 := K2 w hSw; have v1 := V1 w hSw; have v2 := V2 w hSw; go_simp; all_goals with_reducible rfl)
      try simp only [Act.put, List.setIfInBounds_toArray, List.set_cons_zero, List.set_cons_succ]
      refine wpAnyH_take (i := 17) (oi := ⟨some 31, _, _, _, _, _⟩) (v := ?_) rfl (by kernel_rfl) (by kernel_rfl) (by kernel_rfl) (fun _ _ _ h => h) (Or.inl ⟨by rfl, ?_⟩) (by assumption) ?_
      rotate_left 1
      · (intro w hSw; (try dsimp only at hSw); have k0 := K0 w hSw; have k1 := K1 w hSw; have k2 := K2 w hSw; have v1 := V1 w hSw; have v2 := V2 w hSw; go_simp; all_goals with_reducible rfl)
      try simp only [Act.put, List.setIfInBounds_toArray, List.set_cons_zero, List.set_cons_succ]
      refine wpAnyH_take (i := 18) (oi := ⟨some 32, _, _, _, _, _⟩) (v := ?_) rfl (by kernel_rfl) (by kernel_rfl) (by kernel_rfl) (fun _ _ _ h => h) (Or.inl ⟨by rfl, ?_⟩) (by assumption) ?_
      rotate_left 1
      · (intro w hSw; (try dsimp only at hSw); have k0 := K0 w hSw; have k1 := K1 w hSw; have k2 := K2 w hSw; have v1 := V1 w hSw; have v2 := V2 w hSw; go_simp; all_goals with_reducible rfl)
      try simp only [Act.put, List.setIfInBounds_toArray, List.set_cons_zero, List.set_cons_succ]
      refine wpAnyH_take (i := 19) (oi := ⟨some 33, _, _, _, _, _⟩) (v := ?_) rfl (by kernel_rfl) (by kernel_rfl) (by kernel_rfl) (fun _ _ _ h => h) (Or.inl ⟨by rfl, ?_⟩) (by assumption) ?_
      rotate_left 1
      · (intro w hSw; (try dsimp only at hSw); have k0 := K0 w hSw; have k1 := K1 w hSw; have k2 := K2 w hSw; have v1 := V1 w hSw; have v2 := V2 w hSw; go_simp; all_goals with_reducible rfl)
      try simp only [Act.put, List.setIfInBounds_toArray, List.set_cons_zero, List.set_cons_succ]
      refine wpAnyH_take (i := 20) (oi := ⟨some 34, _, _, _, _, _⟩) (v := ?_) rfl (by kernel_rfl) (by kernel_rfl) (by kernel_rfl) (fun _ _ _ h => h) (Or.inl ⟨by rfl, ?_⟩) (by assumption) ?_
      rotate_left 1
      · (intro w hSw; (try dsimp only at hSw); have k0 := K0 w hSw; have k1 := K1 w hSw; have k2 := K2 w hSw; have v1 := V1 w hSw; have v2 := V2 w hSw; go_simp; all_goals with_reducible rfl)
      try simp only [Act.put, List.setIfInBounds_toArray, List.set_cons_zero, List.set_cons_succ]
      refine wpAnyH_take (i := 21) (oi := ⟨some 35, _, _, _, _, _⟩) (v := ?_) rfl (by kernel_rfl) (by kernel_rfl) (by kernel_rfl) (fun _ _ _ h => h) (Or.inl ⟨by rfl, ?_⟩) (by assumption) ?_
      rotate_left 1
      · (intro w hSw; (try dsimp only at hSw); have k0 := K0 w hSw; have k1 := K1 w hSw; have k2 := K2 w hSw; have v1 := V1 w hSw; have v2 := V2 w hSw; go_simp; all_goals with_reducible rfl)
      try simp only [Act.put, List.setIfInBounds_toArray, List.set_cons_zero, List.set_cons_succ]
      refine wpAnyH_done (by kernel_rfl) ?_ _
      clear K0 K1 K2 V1 V2
      have HE := Lib.hid HFQ.out.drew
      go_wp2
      go_roundw
      case rel => exact ⟨m, rfl, HMM.out.1, HE⟩
      case measure => have := HMM.out; simpa [intOf] using this.2
    · have g1 : decide ((i : Int) < (n1 : Int)) = false := decide_eq_false (by omega)
      have g2 : decide (i < n1) = false := decide_eq_false hlt
      have HE := Lib.hid (HQ.out wr HF.out)
      go_wp2
      exact HE.out
end Go.Proofs.Ytecfoomjpjcldaa
