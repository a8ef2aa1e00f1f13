/- Contract of the law's Key: some text. -/
import Derived.Test.YtomgiockelhfiaaGreatMX
import Derived.Deep.RegionWith
import Derived.Deep.RegionHeld3
import Derived.OrdersHeld
import Derived.IntWalk
namespace Go.Proofs.YtomgiockelhfiaaGreat
open Go.RowKit
set_option maxRecDepth 100000

def rep64B : ByteArray := ⟨(Lib.repeatL [107] 64).toArray⟩
def rep65B : ByteArray := ⟨(Lib.repeatL [107] 65).toArray⟩
theorem rep64B_any (w : World) : Calls Tryz.prog 85 #[.string ⟨#[107]⟩, .int .i64 64] w fun e w' => e = .returned (.string rep64B) ∧ Frm [] w w' :=
  (Tryz.strings_Repeat ⟨#[107]⟩ 64 w (by omega) (by decide)).mono fun _ _ h => ⟨h.1, Frm.ofBelow h.2⟩
theorem rep65B_any (w : World) : Calls Tryz.prog 85 #[.string ⟨#[107]⟩, .int .i64 65] w fun e w' => e = .returned (.string rep65B) ∧ Frm [] w w' :=
  (Tryz.strings_Repeat ⟨#[107]⟩ 65 w (by omega) (by decide)).mono fun _ _ h => ⟨h.1, Frm.ofBelow h.2⟩
theorem repB_sizes : rep64B.size = 64 ∧ rep65B.size = 65 := by
  unfold rep64B rep65B
  constructor
  · show (Lib.repeatL [107] 64).toArray.size = 64
    rw [List.size_toArray, Lib.repeatL_length]; rfl
  · show (Lib.repeatL [107] 65).toArray.size = 65
    rw [List.size_toArray, Lib.repeatL_length]; rfl

def keyTabB : List Value := [Value.string ⟨#[97]⟩, Value.string ⟨#[98]⟩, Value.string ⟨#[97, 98]⟩, Value.string ⟨#[97, 98, 99]⟩, Value.string ⟨#[]⟩, Value.string ⟨#[111, 119, 110, 47, 120]⟩, Value.string ⟨#[111, 119, 110, 47, 121]⟩, Value.string rep64B, Value.string rep65B]
def StrEndB (s : ByteArray) (w : World) (e : Ending) (w' : World) : Prop := ∃ k : ByteArray, e = .returned (.string k) ∧ k.size ≤ max 65 s.size ∧ Frm [] w w'

set_option maxRecDepth 100000 in
set_option maxHeartbeats 4000000 in
theorem keyB_any (s : ByteArray) (w : World) (_hs : s.size ≤ 9223372036854775807) : Calls Tryz.prog 35 #[.string s] w (StrEndB s w) := by
  by_cases h0 : 0 < s.size
  · by_cases h1 : s[0].toNat < 240
    · obtain ⟨j, hj⟩ : ∃ j : Nat, j = s[0].toNat % 9 := ⟨_, rfl⟩
      have hj9 : j < 9 := by omega
      have ht : ((s[0].toNat : Nat) : Int).tmod 9 = (j : Int) := by rw [Int.tmod_eq_emod_of_nonneg (by omega)]; omega
      have he : ((s[0].toNat : Nat) : Int) % 9 = (j : Int) := by omega
      have hws : IntKind.i64.wrap ((s[0].toNat : Nat) : Int) = ((s[0].toNat : Nat) : Int) := IntWalk.i64_in _ (by omega)
      have hwj : IntKind.i64.wrap (j : Int) = (j : Int) := IntWalk.i64_in _ (by omega)
      have htn : ((j : Int)).toNat = j := by omega
      have hj0 : 0 ≤ (j : Int) := by omega
      have hj9' : (j : Int) < 9 := by omega
      obtain ⟨K, hK, hks⟩ : ∃ K : ByteArray, keyTabB[j]? = some (.string K) ∧ K.size ≤ max 65 s.size := by
        have hc : j = 0 ∨ j = 1 ∨ j = 2 ∨ j = 3 ∨ j = 4 ∨ j = 5 ∨ j = 6 ∨ j = 7 ∨ j = 8 := by omega
        rcases hc with rfl | rfl | rfl | rfl | rfl | rfl | rfl | rfl | rfl
        · exact ⟨_, rfl, Nat.le_trans (show _ ≤ 65 from by decide) (Nat.le_max_left _ _)⟩
        · exact ⟨_, rfl, Nat.le_trans (show _ ≤ 65 from by decide) (Nat.le_max_left _ _)⟩
        · exact ⟨_, rfl, Nat.le_trans (show _ ≤ 65 from by decide) (Nat.le_max_left _ _)⟩
        · exact ⟨_, rfl, Nat.le_trans (show _ ≤ 65 from by decide) (Nat.le_max_left _ _)⟩
        · exact ⟨_, rfl, Nat.le_trans (show _ ≤ 65 from by decide) (Nat.le_max_left _ _)⟩
        · exact ⟨_, rfl, Nat.le_trans (show _ ≤ 65 from by decide) (Nat.le_max_left _ _)⟩
        · exact ⟨_, rfl, Nat.le_trans (show _ ≤ 65 from by decide) (Nat.le_max_left _ _)⟩
        · exact ⟨_, rfl, by rw [repB_sizes.1]; omega⟩
        · exact ⟨_, rfl, by rw [repB_sizes.2]; omega⟩
      have HKS := Lib.hid hks
      have HKT := Lib.hid (Option.some.inj ((List.getElem?_eq_getElem (show j < keyTabB.length from hj9)).symm.trans hK))
      clear hj hks hK
      go_enter Tryz.func35, Tryz.ntmps35
      go_wp2
      refine wp_region_held_drew (S := fun w' => Frm [] w w') (by kernel_rfl) (Frm.drew (Frm.refl _ _)) (fun hHeld => ?_)
      refine wpAnyH_take (i := 3) (oi := ⟨some 14, _, _, _, _, _⟩) (v := ?_) rfl (by kernel_rfl) (by kernel_rfl) (by kernel_rfl) (fun _ _ _ h => h) (Or.inl ⟨by rfl, ?_⟩) (by assumption) ?_
      rotate_left 1
      · (intro w hSw; (try dsimp only at hSw); go_simp; all_goals with_reducible rfl)
      try simp only [Act.put, List.setIfInBounds_toArray, List.set_cons_zero, List.set_cons_succ]
      refine wpAnyH_take (i := 4) (oi := ⟨some 15, _, _, _, _, _⟩) (v := ?_) rfl (by kernel_rfl) (by kernel_rfl) (by kernel_rfl) (fun _ _ _ h => h) (Or.inl ⟨by rfl, ?_⟩) (by assumption) ?_
      rotate_left 1
      · (intro w hSw; (try dsimp only at hSw); go_simp; all_goals with_reducible rfl)
      try simp only [Act.put, List.setIfInBounds_toArray, List.set_cons_zero, List.set_cons_succ]
      refine wpAnyH_take (i := 5) (oi := ⟨some 16, _, _, _, _, _⟩) (v := ?_) rfl (by kernel_rfl) (by kernel_rfl) (by kernel_rfl) (fun _ _ _ h => h) (Or.inl ⟨by rfl, ?_⟩) (by assumption) ?_
      rotate_left 1
      · (intro w hSw; (try dsimp only at hSw); go_simp; all_goals with_reducible rfl)
      try simp only [Act.put, List.setIfInBounds_toArray, List.set_cons_zero, List.set_cons_succ]
      refine wpAnyH_take (i := 6) (oi := ⟨some 17, _, _, _, _, _⟩) (v := ?_) rfl (by kernel_rfl) (by kernel_rfl) (by kernel_rfl) (fun _ _ _ h => h) (Or.inl ⟨by rfl, ?_⟩) (by assumption) ?_
      rotate_left 1
      · (intro w hSw; (try dsimp only at hSw); go_simp; all_goals with_reducible rfl)
      try simp only [Act.put, List.setIfInBounds_toArray, List.set_cons_zero, List.set_cons_succ]
      refine wpAnyH_ready (rs := [0]) (by kernel_rfl) (by simp) ?_
      refine AllReadyH.cons (o := ⟨some 11, _, _, _, _, _⟩) rfl (fun KK hK => ?_) AllReadyH.nil
      go_simp
      (with_reducible refine (rep64B_any _).mono ?_); rintro e w4 ⟨rfl, hf4⟩; have F4 := Lib.hid (show Frm [] w w4 from (show Frm [] w _ from by assumption).trans hf4 (by simp) (by simp)); clear hf4; have hF4 := F4.out
      go_wp2_with fail
      refine hK.out _ _ (by assumption) (fun hHeld => ?_)
      clear hK KK
      try simp only [Act.put, List.setIfInBounds_toArray, List.set_cons_zero, List.set_cons_succ]
      refine wpAnyH_ready (rs := [1]) (by kernel_rfl) (by simp) ?_
      refine AllReadyH.cons (o := ⟨some 12, _, _, _, _, _⟩) rfl (fun KK hK => ?_) AllReadyH.nil
      go_simp
      (with_reducible refine (rep65B_any _).mono ?_); rintro e w5 ⟨rfl, hf5⟩; have hF5 : Frm [] w w5 := hF4.trans hf5 (by simp) (by simp)
      go_wp2_with fail
      refine hK.out _ _ (by assumption) (fun hHeld => ?_)
      clear hK KK
      try simp only [Act.put, List.setIfInBounds_toArray, List.set_cons_zero, List.set_cons_succ]
      refine wpAnyH_ready (rs := [2]) (by kernel_rfl) (by simp) ?_
      refine AllReadyH.cons (o := ⟨some 13, _, _, _, _, _⟩) rfl (fun KK hK => ?_) AllReadyH.nil
      go_simp
      have hF6 := hF5.alloc (.cells #[Value.string ⟨#[97]⟩, Value.string ⟨#[98]⟩, Value.string ⟨#[97, 98]⟩, Value.string ⟨#[97, 98, 99]⟩, Value.string ⟨#[]⟩, Value.string ⟨#[111, 119, 110, 47, 120]⟩, Value.string ⟨#[111, 119, 110, 47, 121]⟩, Value.string rep64B, Value.string rep65B] 9)
      refine hK.out _ _ (by assumption) (fun hHeld => ?_)
      clear hK KK
      try simp only [Act.put, List.setIfInBounds_toArray, List.set_cons_zero, List.set_cons_succ]
      refine wpAnyH_ready (rs := [7]) (by kernel_rfl) (by simp) ?_
      refine AllReadyH.cons (o := ⟨some 18, _, _, _, _, _⟩) rfl (fun KK hK => ?_) AllReadyH.nil
      go_simp
      refine hK.out _ _ (by assumption) (fun hHeld => ?_)
      clear hK KK
      try simp only [Act.put, List.setIfInBounds_toArray, List.set_cons_zero, List.set_cons_succ]
      refine wpAnyH_ready (rs := [8]) (by kernel_rfl) (by simp) ?_
      refine AllReadyH.cons (o := ⟨some 19, _, _, _, _, _⟩) rfl (fun KK hK => ?_) AllReadyH.nil
      go_simp
      refine hK.out _ _ (by assumption) (fun hHeld => ?_)
      clear hK KK
      try simp only [Act.put, List.setIfInBounds_toArray, List.set_cons_zero, List.set_cons_succ]
      refine wpAnyH_ready (rs := [9]) (by kernel_rfl) (by simp) ?_
      refine AllReadyH.cons (o := ⟨some 2, _, _, _, _, _⟩) rfl (fun KK hK => ?_) AllReadyH.nil
      go_simp
      refine hK.out _ _ (by assumption) (fun hHeld => ?_)
      clear hK KK
      try simp only [Act.put, List.setIfInBounds_toArray, List.set_cons_zero, List.set_cons_succ]
      refine wpAnyH_done (by kernel_rfl) ?_ _
      go_wp2
      go_ret
      exact ⟨K, congrArg Ending.returned HKT.out, HKS.out, by assumption⟩
    · go_enter Tryz.func35, Tryz.ntmps35
      go_wp2
      go_ret
      exact ⟨s, rfl, Nat.le_max_right _ _, Frm.refl _ _⟩
  · go_enter Tryz.func35, Tryz.ntmps35
    go_wp2
    go_ret
    exact ⟨s, rfl, Nat.le_max_right _ _, Frm.refl _ _⟩
end Go.Proofs.YtomgiockelhfiaaGreat
