/- The walk of BundleNames. -/
import Derived.Test.YtbdgmpfdcmmfhaaDoorBmAwake
import Derived.BigQuiet
import Derived.Deep.QuietTactic
import Derived.IntWalk
import Derived.Deep.RegionHeld
import Derived.Laws.Strings2
namespace Go.Proofs.YtbdgmpfdcmmfhaaDoor
open Go.RowKit
set_option maxRecDepth 100000

theorem and15_16 (u : Nat) (h : u < 65536) : bits BinOp.and IntKind.u16 (u : Int) 15 = ((u % 16 : Nat) : Int) := by
  have h1 : (BitVec.ofInt 16 (u : Int)).toNat = u := by
    rw [BitVec.ofInt_natCast, BitVec.toNat_ofNat]; exact Nat.mod_eq_of_lt (by omega)
  show IntKind.u16.wrap ((BitVec.ofInt 16 (u : Int) &&& BitVec.ofInt 16 15).toNat : Int) = _
  rw [BitVec.toNat_and, h1]
  have h2 : (BitVec.ofInt 16 15).toNat = 15 := by decide
  rw [h2, show u &&& 15 = u % 16 from Nat.and_two_pow_sub_one_eq_mod u 4]
  simp [IntKind.wrap, IntKind.signed, IntKind.bits]
  omega
def dig16 : ByteArray := ⟨#[48, 49, 50, 51, 52, 53, 54, 55, 56, 57, 97, 98, 99, 100, 101, 102]⟩
theorem dig16_at : ∀ d, d < 16 → dig16.extract d (d + 1) = strOf [hexC d] := by decide
theorem run_dig (r r2 : Nat) (h : r ≤ r2) (h2 : r2 ≤ 16) (w : World) : (Instr.slice 9 (.string ⟨#[48, 49, 50, 51, 52, 53, 54, 55, 56, 57, 97, 98, 99, 100, 101, 102]⟩) (some (.int .u16 (r : Nat))) (some (.int .u16 (r2 : Nat))) none).run Tryd.prog w = .ok (.string (dig16.extract r r2)) w := by
  rw [run_slice_string w _ _ _ _ _ _ Tryd.underlying9 (by omega) (by omega) (by show (r2 : Int) ≤ 16; omega)]
  rfl
theorem take_more (a k : Nat) (ha : a < 65536) (hk : k < 4) : (numL a).take (k + 1) = (numL a).take k ++ [hexC (a / 16 ^ (3 - k) % 16)] := by
  rw [numL_four ha]
  have hc : k = 0 ∨ k = 1 ∨ k = 2 ∨ k = 3 := by omega
  rcases hc with rfl | rfl | rfl | rfl <;> simp
theorem strOf_len_eq (s t : List Nat) (hs : ∀ c ∈ s, c < 256) (ht : ∀ c ∈ t, c < 256) : (strOf s).toList = (strOf t).toList ↔ s = t := by
  constructor
  · intro h
    refine strOf_inj hs ht ?_
    apply ByteArray.ext
    apply Array.toList_inj.1
    have e : ∀ x : ByteArray, x.toList = x.data.toList := fun x => Lib.toList_data x
    rw [← e, ← e, h]
  · rintro rfl; rfl

set_option maxHeartbeats 4000000 in
theorem bundleNames_walk (a b c d : Nat) (w : World) (hT : Bt w) (ha : a < 65536) (hb : b < 65536) (hc : c < 65536) (hd : d < 65536) :
    Calls Tryd.prog 6 #[.int .u16 (a : Nat), .int .u16 (b : Nat), .int .u16 (c : Nat), .int .u16 (d : Nat)] w fun e w' => e = .returned (.bool true) ∧ Below w.heap.size w w' := by
  have HA := Lib.hid (awake16_any w hT)
  obtain ⟨b1, hb1⟩ : ∃ b1, b1 = b + 1 := ⟨_, rfl⟩
  obtain ⟨d1, hd1⟩ : ∃ d1, d1 = d + 1 := ⟨_, rfl⟩
  have HX := Lib.hid (fun z (hz : Frm [] w z) => bname_any a b1 (by omega) (by omega) (hT.keep hz (by simp)))
  have HY := Lib.hid (fun z (hz : Frm [] w z) => bname_any c d1 (by omega) (by omega) (hT.keep hz (by simp)))
  have EN : strOf (nameL 0 65536) = ⟨#[48, 48, 48, 48, 45, 49, 48, 48, 48, 48]⟩ := by decide
  have HZ : Hid (∀ z, Frm [] w z → Calls Tryd.prog 22 #[.int .i64 0, .int .i64 65536] z fun e w' => e = .returned (.string ⟨#[48, 48, 48, 48, 45, 49, 48, 48, 48, 48]⟩) ∧ Frm [] z w') := Lib.hid (fun z hz => by
    have := bname_any 0 65536 (by omega) (by omega) (hT.keep hz (by simp))
    rw [EN] at this
    exact this)
  obtain ⟨X, hX⟩ : ∃ X, X = strOf (nameL a b1) := ⟨_, rfl⟩
  obtain ⟨Y, hY⟩ : ∃ Y, Y = strOf (nameL c d1) := ⟨_, rfl⟩
  rw [← hX] at HX
  rw [← hY] at HY
  have HXY : Hid (X.toList = Y.toList ↔ a = c ∧ b = d) := Lib.hid (by
    rw [hX, hY, strOf_len_eq _ _ (nameL_lt _ _) (nameL_lt _ _)]
    constructor
    · intro h
      obtain ⟨h1, h2⟩ := nameL_inj ha (by omega) hc (by omega) h
      exact ⟨h1, by omega⟩
    · rintro ⟨h1, h2⟩
      rw [h1, show b1 = d1 by omega])
  have s1 : (b : Int) + 1 = (b1 : Int) := by omega
  have s2 : (d : Int) + 1 = (d1 : Int) := by omega
  have s3 : IntKind.i64.wrap (b1 : Int) = (b1 : Int) := IntWalk.i64_in _ (by omega)
  have s4 : IntKind.i64.wrap (d1 : Int) = (d1 : Int) := IntWalk.i64_in _ (by omega)
  have XS : X.size = 5 + (numL b1).length := by rw [hX, strOf_size]; unfold nameL; rw [numL_four ha]; simp; omega
  have XE : Hid (X.extract 0 5 = strOf (numL a) ++ ⟨#[45]⟩) := Lib.hid (by
    have e : (⟨#[45]⟩ : ByteArray) = strOf [45] := rfl
    rw [e, strOf_append, hX]
    apply ByteArray.ext
    apply Array.toList_inj.1
    unfold nameL
    rw [numL_four ha]
    simp [strOf])
  have XL : Hid (9 ≤ X.size) := Lib.hid (by rw [XS]; unfold numL; rw [digL_len]; split <;> omega)
  clear hX hY EN hT hb1 hd1 XS
  go_enter Tryd.func6, Tryd.ntmps6
  go_wp2_with fail
  (with_reducible refine HA.out.mono ?_)
  rintro e w1 ⟨rfl, hf1⟩
  have F1 := Lib.hid hf1
  clear hf1
  go_wp2_with fail
  (with_reducible refine (HX.out _ F1.out).mono ?_)
  rintro e w2 ⟨rfl, hf2⟩
  have F2 : Hid (Frm [] w w2) := Lib.hid (F1.out.trans hf2 (by simp) (by simp))
  clear hf2
  go_wp2_with fail
  (with_reducible refine (HY.out _ F2.out).mono ?_)
  rintro e w3 ⟨rfl, hf3⟩
  have F3 : Hid (Frm [] w w3) := Lib.hid (F2.out.trans hf3 (by simp) (by simp))
  clear hf3
  go_wp2
  go_loopw [11, 12] (fun u11 u12 wr => ∃ (k : Nat) (z : Int), k ≤ 4 ∧ u11 = .string (strOf ((numL a).take k)) ∧ u12 = .int .i64 z ∧ Hid (z = 3 - (k : Int)) ∧ Hid (Frm [] w wr)) (fun _ u12 _ => (intOf u12 + 1).toNat)
  case atStart => exact ⟨0, 3, by omega, rfl, rfl, Lib.hid (by omega), F3⟩
  case round =>
    obtain ⟨k, z, hk, rfl, rfl, HZV, HFR⟩ := hrel
    by_cases hlt : k < 4
    · have hc4 : k = 0 ∨ k = 1 ∨ k = 2 ∨ k = 3 := by omega
      rcases hc4 with rfl | rfl | rfl | rfl
      · obtain rfl : z = 3 := by rw [HZV.out]; rfl
        obtain ⟨q, hq⟩ : ∃ q, q = a / 4096 := ⟨_, rfl⟩
        have q1 : (a : Int) / 4096 = (q : Int) := by omega
        have q2 := and15_16 q (by omega)
        have WN : Hid (strOf ((numL a).take 0) ++ dig16.extract (q % 16) (q % 16 + 1) = strOf ((numL a).take 1)) := Lib.hid (by
          rw [dig16_at _ (Nat.mod_lt _ (by decide)), strOf_append, take_more a 0 ha (by decide)]
          rw [hq])
        have sz : (strOf ((numL a).take 0)).size ≤ 5 := by rw [strOf_size, List.length_take]; omega
        clear hq
        obtain ⟨r, hr⟩ : ∃ r, r = q % 16 := ⟨_, rfl⟩
        rw [← hr] at q2 WN
        have hr16 : r < 16 := by omega
        obtain ⟨r2, hr2⟩ : ∃ r2, r2 = r + 1 := ⟨_, rfl⟩
        rw [← hr2] at WN
        have t1 : (r : Int) + 1 = (r2 : Int) := by omega
        have t2 : IntKind.u16.wrap (r2 : Int) = (r2 : Int) := by simp [IntKind.wrap, IntKind.signed, IntKind.bits]; omega
        have t3 : r ≤ r2 := by omega
        have t4 : r2 ≤ 16 := by omega
        have wv : IntKind.i64.wrap 12 = 12 := by decide
        obtain ⟨W0, hW0⟩ : ∃ W0, W0 = strOf ((numL a).take 0) := ⟨_, rfl⟩
        rw [← hW0] at WN sz ⊢
        obtain ⟨E, hE⟩ : ∃ E, E = dig16.extract r r2 := ⟨_, rfl⟩
        rw [← hE] at WN
        have EQ := fun z => run_dig r r2 t3 t4 z
        rw [← hE] at EQ
        have sE : E.size ≤ 16 := by
          have e0 := dig16_at r hr16
          rw [← hr2, ← hE] at e0
          rw [e0, strOf_size]; simp
        have nolim : ¬ 9223372036854775807 < W0.size + E.size := by omega
        clear hr hW0 hr2 hE
        go_wp2
        refine wp_region_held_drew (S := fun w' => Frm [] wr w') (by kernel_rfl) (Frm.drew (Frm.refl _ _)) (fun hHeld => ?_)
        refine wpAnyH_take (i := 0) (oi := ⟨some 31, _, _, _, _, _⟩) (v := ?_) rfl (by kernel_rfl) (by kernel_rfl) (by kernel_rfl) (fun _ _ _ h => h) (Or.inl ⟨by rfl, ?_⟩) (by assumption) ?_
        rotate_left 1
        · (intro w hSw; (try dsimp only at hSw); go_simp; all_goals with_reducible rfl)
        try simp only [Act.put, List.setIfInBounds_toArray, List.set_cons_zero, List.set_cons_succ]
        refine wpAnyH_take (i := 1) (oi := ⟨some 32, _, _, _, _, _⟩) (v := ?_) rfl (by kernel_rfl) (by kernel_rfl) (by kernel_rfl) (fun _ _ _ h => h) (Or.inl ⟨by rfl, ?_⟩) (by assumption) ?_
        rotate_left 1
        · (intro w hSw; (try dsimp only at hSw); go_simp; all_goals with_reducible rfl)
        try simp only [Act.put, List.setIfInBounds_toArray, List.set_cons_zero, List.set_cons_succ]
        refine wpAnyH_take (i := 2) (oi := ⟨some 33, _, _, _, _, _⟩) (v := ?_) rfl (by kernel_rfl) (by kernel_rfl) (by kernel_rfl) (fun _ _ _ h => h) (Or.inl ⟨by rfl, ?_⟩) (by assumption) ?_
        rotate_left 1
        · (intro w hSw; (try dsimp only at hSw); go_simp; all_goals with_reducible rfl)
        try simp only [Act.put, List.setIfInBounds_toArray, List.set_cons_zero, List.set_cons_succ]
        refine wpAnyH_take (i := 3) (oi := ⟨some 34, _, _, _, _, _⟩) (v := ?_) rfl (by kernel_rfl) (by kernel_rfl) (by kernel_rfl) (fun _ _ _ h => h) (Or.inl ⟨by rfl, ?_⟩) (by assumption) ?_
        rotate_left 1
        · (intro w hSw; (try dsimp only at hSw); go_simp; all_goals with_reducible rfl)
        try simp only [Act.put, List.setIfInBounds_toArray, List.set_cons_zero, List.set_cons_succ]
        refine wpAnyH_take (i := 4) (oi := ⟨some 35, _, _, _, _, _⟩) (v := ?_) rfl (by kernel_rfl) (by kernel_rfl) (by kernel_rfl) (fun _ _ _ h => h) (Or.inl ⟨by rfl, ?_⟩) (by assumption) ?_
        rotate_left 1
        · (intro w hSw; (try dsimp only at hSw); go_simp; all_goals with_reducible rfl)
        try simp only [Act.put, List.setIfInBounds_toArray, List.set_cons_zero, List.set_cons_succ]
        refine wpAnyH_take (i := 5) (oi := ⟨some 36, _, _, _, _, _⟩) (v := ?_) rfl (by kernel_rfl) (by kernel_rfl) (by kernel_rfl) (fun _ _ _ h => h) (Or.inl ⟨by rfl, ?_⟩) (by assumption) ?_
        rotate_left 1
        · (intro w hSw; (try dsimp only at hSw); go_simp; all_goals with_reducible rfl)
        try simp only [Act.put, List.setIfInBounds_toArray, List.set_cons_zero, List.set_cons_succ]
        refine wpAnyH_take (i := 6) (oi := ⟨some 37, _, _, _, _, _⟩) (v := ?_) rfl (by kernel_rfl) (by kernel_rfl) (by kernel_rfl) (fun _ _ _ h => h) (Or.inl ⟨by rfl, ?_⟩) (by assumption) ?_
        rotate_left 1
        · (intro w hSw; (try dsimp only at hSw); go_simp; all_goals with_reducible rfl)
        try simp only [Act.put, List.setIfInBounds_toArray, List.set_cons_zero, List.set_cons_succ]
        refine wpAnyH_take (i := 7) (oi := ⟨some 38, _, _, _, _, _⟩) (v := ?_) rfl (by kernel_rfl) (by kernel_rfl) (by kernel_rfl) (fun _ _ _ h => h) (Or.inl ⟨by rfl, ?_⟩) (by assumption) ?_
        rotate_left 1
        · (intro w hSw; (try dsimp only at hSw); go_simp; all_goals with_reducible rfl)
        try simp only [Act.put, List.setIfInBounds_toArray, List.set_cons_zero, List.set_cons_succ]
        refine wpAnyH_take (i := 8) (oi := ⟨some 39, _, _, _, _, _⟩) (v := ?_) rfl (by kernel_rfl) (by kernel_rfl) (by kernel_rfl) (fun _ _ _ h => h) (Or.inl ⟨by rfl, ?_⟩) (by assumption) ?_
        rotate_left 1
        · (intro w hSw; (try dsimp only at hSw); go_simp; all_goals with_reducible rfl)
        try simp only [Act.put, List.setIfInBounds_toArray, List.set_cons_zero, List.set_cons_succ]
        refine wpAnyH_take (i := 9) (oi := ⟨some 40, _, _, _, _, _⟩) (v := ?_) rfl (by kernel_rfl) (by kernel_rfl) (by kernel_rfl) (fun _ _ _ h => h) (Or.inl ⟨by rfl, ?_⟩) (by assumption) ?_
        rotate_left 1
        · (intro w hSw; (try dsimp only at hSw); go_simp; all_goals with_reducible rfl)
        try simp only [Act.put, List.setIfInBounds_toArray, List.set_cons_zero, List.set_cons_succ]
        refine wpAnyH_take (i := 10) (oi := ⟨some 41, _, _, _, _, _⟩) (v := ?_) rfl (by kernel_rfl) (by kernel_rfl) (by kernel_rfl) (fun _ _ _ h => h) (Or.inl ⟨by rfl, ?_⟩) (by assumption) ?_
        rotate_left 1
        · (intro w hSw; (try dsimp only at hSw); go_simp; all_goals with_reducible rfl)
        try simp only [Act.put, List.setIfInBounds_toArray, List.set_cons_zero, List.set_cons_succ]
        refine wpAnyH_take (i := 11) (oi := ⟨some 42, _, _, _, _, _⟩) (v := ?_) rfl (by kernel_rfl) (by kernel_rfl) (by kernel_rfl) (fun _ _ _ h => h) (Or.inl ⟨by rfl, ?_⟩) (by assumption) ?_
        rotate_left 1
        · (intro w hSw; (try dsimp only at hSw); go_simp; all_goals with_reducible rfl)
        try simp only [Act.put, List.setIfInBounds_toArray, List.set_cons_zero, List.set_cons_succ]
        refine wpAnyH_take (i := 12) (oi := ⟨some 43, _, _, _, _, _⟩) (v := ?_) rfl (by kernel_rfl) (by kernel_rfl) (by kernel_rfl) (fun _ _ _ h => h) (Or.inl ⟨by rfl, ?_⟩) (by assumption) ?_
        rotate_left 1
        · (intro w hSw; (try dsimp only at hSw); go_simp; all_goals with_reducible rfl)
        try simp only [Act.put, List.setIfInBounds_toArray, List.set_cons_zero, List.set_cons_succ]
        refine wpAnyH_take (i := 13) (oi := ⟨some 44, _, _, _, _, _⟩) (v := ?_) rfl (by kernel_rfl) (by kernel_rfl) (by kernel_rfl) (fun _ _ _ h => h) (Or.inl ⟨by rfl, ?_⟩) (by assumption) ?_
        rotate_left 1
        · (intro w hSw; (try dsimp only at hSw); go_simp; all_goals with_reducible rfl)
        try simp only [Act.put, List.setIfInBounds_toArray, List.set_cons_zero, List.set_cons_succ]
        refine wpAnyH_take (i := 14) (oi := ⟨some 11, _, _, _, _, _⟩) (v := ?_) rfl (by kernel_rfl) (by kernel_rfl) (by kernel_rfl) (fun _ _ _ h => h) (Or.inl ⟨by rfl, ?_⟩) (by assumption) ?_
        rotate_left 1
        · (intro w hSw; (try dsimp only at hSw); go_simp; all_goals with_reducible rfl)
        try simp only [Act.put, List.setIfInBounds_toArray, List.set_cons_zero, List.set_cons_succ]
        refine wpAnyH_done (by kernel_rfl) ?_ _
        go_wp2
        go_roundw
        case rel => exact ⟨1, 2, by omega, by rw [← WN.out], rfl, Lib.hid (by omega), Lib.hid (HFR.out.drew)⟩
        case measure => simp [intOf]
      · obtain rfl : z = 2 := by rw [HZV.out]; rfl
        obtain ⟨q, hq⟩ : ∃ q, q = a / 256 := ⟨_, rfl⟩
        have q1 : (a : Int) / 256 = (q : Int) := by omega
        have q2 := and15_16 q (by omega)
        have WN : Hid (strOf ((numL a).take 1) ++ dig16.extract (q % 16) (q % 16 + 1) = strOf ((numL a).take 2)) := Lib.hid (by
          rw [dig16_at _ (Nat.mod_lt _ (by decide)), strOf_append, take_more a 1 ha (by decide)]
          rw [hq])
        have sz : (strOf ((numL a).take 1)).size ≤ 5 := by rw [strOf_size, List.length_take]; omega
        clear hq
        obtain ⟨r, hr⟩ : ∃ r, r = q % 16 := ⟨_, rfl⟩
        rw [← hr] at q2 WN
        have hr16 : r < 16 := by omega
        obtain ⟨r2, hr2⟩ : ∃ r2, r2 = r + 1 := ⟨_, rfl⟩
        rw [← hr2] at WN
        have t1 : (r : Int) + 1 = (r2 : Int) := by omega
        have t2 : IntKind.u16.wrap (r2 : Int) = (r2 : Int) := by simp [IntKind.wrap, IntKind.signed, IntKind.bits]; omega
        have t3 : r ≤ r2 := by omega
        have t4 : r2 ≤ 16 := by omega
        have wv : IntKind.i64.wrap 8 = 8 := by decide
        obtain ⟨W0, hW0⟩ : ∃ W0, W0 = strOf ((numL a).take 1) := ⟨_, rfl⟩
        rw [← hW0] at WN sz ⊢
        obtain ⟨E, hE⟩ : ∃ E, E = dig16.extract r r2 := ⟨_, rfl⟩
        rw [← hE] at WN
        have EQ := fun z => run_dig r r2 t3 t4 z
        rw [← hE] at EQ
        have sE : E.size ≤ 16 := by
          have e0 := dig16_at r hr16
          rw [← hr2, ← hE] at e0
          rw [e0, strOf_size]; simp
        have nolim : ¬ 9223372036854775807 < W0.size + E.size := by omega
        clear hr hW0 hr2 hE
        go_wp2
        refine wp_region_held_drew (S := fun w' => Frm [] wr w') (by kernel_rfl) (Frm.drew (Frm.refl _ _)) (fun hHeld => ?_)
        refine wpAnyH_take (i := 0) (oi := ⟨some 31, _, _, _, _, _⟩) (v := ?_) rfl (by kernel_rfl) (by kernel_rfl) (by kernel_rfl) (fun _ _ _ h => h) (Or.inl ⟨by rfl, ?_⟩) (by assumption) ?_
        rotate_left 1
        · (intro w hSw; (try dsimp only at hSw); go_simp; all_goals with_reducible rfl)
        try simp only [Act.put, List.setIfInBounds_toArray, List.set_cons_zero, List.set_cons_succ]
        refine wpAnyH_take (i := 1) (oi := ⟨some 32, _, _, _, _, _⟩) (v := ?_) rfl (by kernel_rfl) (by kernel_rfl) (by kernel_rfl) (fun _ _ _ h => h) (Or.inl ⟨by rfl, ?_⟩) (by assumption) ?_
        rotate_left 1
        · (intro w hSw; (try dsimp only at hSw); go_simp; all_goals with_reducible rfl)
        try simp only [Act.put, List.setIfInBounds_toArray, List.set_cons_zero, List.set_cons_succ]
        refine wpAnyH_take (i := 2) (oi := ⟨some 33, _, _, _, _, _⟩) (v := ?_) rfl (by kernel_rfl) (by kernel_rfl) (by kernel_rfl) (fun _ _ _ h => h) (Or.inl ⟨by rfl, ?_⟩) (by assumption) ?_
        rotate_left 1
        · (intro w hSw; (try dsimp only at hSw); go_simp; all_goals with_reducible rfl)
        try simp only [Act.put, List.setIfInBounds_toArray, List.set_cons_zero, List.set_cons_succ]
        refine wpAnyH_take (i := 3) (oi := ⟨some 34, _, _, _, _, _⟩) (v := ?_) rfl (by kernel_rfl) (by kernel_rfl) (by kernel_rfl) (fun _ _ _ h => h) (Or.inl ⟨by rfl, ?_⟩) (by assumption) ?_
        rotate_left 1
        · (intro w hSw; (try dsimp only at hSw); go_simp; all_goals with_reducible rfl)
        try simp only [Act.put, List.setIfInBounds_toArray, List.set_cons_zero, List.set_cons_succ]
        refine wpAnyH_take (i := 4) (oi := ⟨some 35, _, _, _, _, _⟩) (v := ?_) rfl (by kernel_rfl) (by kernel_rfl) (by kernel_rfl) (fun _ _ _ h => h) (Or.inl ⟨by rfl, ?_⟩) (by assumption) ?_
        rotate_left 1
        · (intro w hSw; (try dsimp only at hSw); go_simp; all_goals with_reducible rfl)
        try simp only [Act.put, List.setIfInBounds_toArray, List.set_cons_zero, List.set_cons_succ]
        refine wpAnyH_take (i := 5) (oi := ⟨some 36, _, _, _, _, _⟩) (v := ?_) rfl (by kernel_rfl) (by kernel_rfl) (by kernel_rfl) (fun _ _ _ h => h) (Or.inl ⟨by rfl, ?_⟩) (by assumption) ?_
        rotate_left 1
        · (intro w hSw; (try dsimp only at hSw); go_simp; all_goals with_reducible rfl)
        try simp only [Act.put, List.setIfInBounds_toArray, List.set_cons_zero, List.set_cons_succ]
        refine wpAnyH_take (i := 6) (oi := ⟨some 37, _, _, _, _, _⟩) (v := ?_) rfl (by kernel_rfl) (by kernel_rfl) (by kernel_rfl) (fun _ _ _ h => h) (Or.inl ⟨by rfl, ?_⟩) (by assumption) ?_
        rotate_left 1
        · (intro w hSw; (try dsimp only at hSw); go_simp; all_goals with_reducible rfl)
        try simp only [Act.put, List.setIfInBounds_toArray, List.set_cons_zero, List.set_cons_succ]
        refine wpAnyH_take (i := 7) (oi := ⟨some 38, _, _, _, _, _⟩) (v := ?_) rfl (by kernel_rfl) (by kernel_rfl) (by kernel_rfl) (fun _ _ _ h => h) (Or.inl ⟨by rfl, ?_⟩) (by assumption) ?_
        rotate_left 1
        · (intro w hSw; (try dsimp only at hSw); go_simp; all_goals with_reducible rfl)
        try simp only [Act.put, List.setIfInBounds_toArray, List.set_cons_zero, List.set_cons_succ]
        refine wpAnyH_take (i := 8) (oi := ⟨some 39, _, _, _, _, _⟩) (v := ?_) rfl (by kernel_rfl) (by kernel_rfl) (by kernel_rfl) (fun _ _ _ h => h) (Or.inl ⟨by rfl, ?_⟩) (by assumption) ?_
        rotate_left 1
        · (intro w hSw; (try dsimp only at hSw); go_simp; all_goals with_reducible rfl)
        try simp only [Act.put, List.setIfInBounds_toArray, List.set_cons_zero, List.set_cons_succ]
        refine wpAnyH_take (i := 9) (oi := ⟨some 40, _, _, _, _, _⟩) (v := ?_) rfl (by kernel_rfl) (by kernel_rfl) (by kernel_rfl) (fun _ _ _ h => h) (Or.inl ⟨by rfl, ?_⟩) (by assumption) ?_
        rotate_left 1
        · (intro w hSw; (try dsimp only at hSw); go_simp; all_goals with_reducible rfl)
        try simp only [Act.put, List.setIfInBounds_toArray, List.set_cons_zero, List.set_cons_succ]
        refine wpAnyH_take (i := 10) (oi := ⟨some 41, _, _, _, _, _⟩) (v := ?_) rfl (by kernel_rfl) (by kernel_rfl) (by kernel_rfl) (fun _ _ _ h => h) (Or.inl ⟨by rfl, ?_⟩) (by assumption) ?_
        rotate_left 1
        · (intro w hSw; (try dsimp only at hSw); go_simp; all_goals with_reducible rfl)
        try simp only [Act.put, List.setIfInBounds_toArray, List.set_cons_zero, List.set_cons_succ]
        refine wpAnyH_take (i := 11) (oi := ⟨some 42, _, _, _, _, _⟩) (v := ?_) rfl (by kernel_rfl) (by kernel_rfl) (by kernel_rfl) (fun _ _ _ h => h) (Or.inl ⟨by rfl, ?_⟩) (by assumption) ?_
        rotate_left 1
        · (intro w hSw; (try dsimp only at hSw); go_simp; all_goals with_reducible rfl)
        try simp only [Act.put, List.setIfInBounds_toArray, List.set_cons_zero, List.set_cons_succ]
        refine wpAnyH_take (i := 12) (oi := ⟨some 43, _, _, _, _, _⟩) (v := ?_) rfl (by kernel_rfl) (by kernel_rfl) (by kernel_rfl) (fun _ _ _ h => h) (Or.inl ⟨by rfl, ?_⟩) (by assumption) ?_
        rotate_left 1
        · (intro w hSw; (try dsimp only at hSw); go_simp; all_goals with_reducible rfl)
        try simp only [Act.put, List.setIfInBounds_toArray, List.set_cons_zero, List.set_cons_succ]
        refine wpAnyH_take (i := 13) (oi := ⟨some 44, _, _, _, _, _⟩) (v := ?_) rfl (by kernel_rfl) (by kernel_rfl) (by kernel_rfl) (fun _ _ _ h => h) (Or.inl ⟨by rfl, ?_⟩) (by assumption) ?_
        rotate_left 1
        · (intro w hSw; (try dsimp only at hSw); go_simp; all_goals with_reducible rfl)
        try simp only [Act.put, List.setIfInBounds_toArray, List.set_cons_zero, List.set_cons_succ]
        refine wpAnyH_take (i := 14) (oi := ⟨some 11, _, _, _, _, _⟩) (v := ?_) rfl (by kernel_rfl) (by kernel_rfl) (by kernel_rfl) (fun _ _ _ h => h) (Or.inl ⟨by rfl, ?_⟩) (by assumption) ?_
        rotate_left 1
        · (intro w hSw; (try dsimp only at hSw); go_simp; all_goals with_reducible rfl)
        try simp only [Act.put, List.setIfInBounds_toArray, List.set_cons_zero, List.set_cons_succ]
        refine wpAnyH_done (by kernel_rfl) ?_ _
        go_wp2
        go_roundw
        case rel => exact ⟨2, 1, by omega, by rw [← WN.out], rfl, Lib.hid (by omega), Lib.hid (HFR.out.drew)⟩
        case measure => simp [intOf]
      · obtain rfl : z = 1 := by rw [HZV.out]; rfl
        obtain ⟨q, hq⟩ : ∃ q, q = a / 16 := ⟨_, rfl⟩
        have q1 : (a : Int) / 16 = (q : Int) := by omega
        have q2 := and15_16 q (by omega)
        have WN : Hid (strOf ((numL a).take 2) ++ dig16.extract (q % 16) (q % 16 + 1) = strOf ((numL a).take 3)) := Lib.hid (by
          rw [dig16_at _ (Nat.mod_lt _ (by decide)), strOf_append, take_more a 2 ha (by decide)]
          rw [hq])
        have sz : (strOf ((numL a).take 2)).size ≤ 5 := by rw [strOf_size, List.length_take]; omega
        clear hq
        obtain ⟨r, hr⟩ : ∃ r, r = q % 16 := ⟨_, rfl⟩
        rw [← hr] at q2 WN
        have hr16 : r < 16 := by omega
        obtain ⟨r2, hr2⟩ : ∃ r2, r2 = r + 1 := ⟨_, rfl⟩
        rw [← hr2] at WN
        have t1 : (r : Int) + 1 = (r2 : Int) := by omega
        have t2 : IntKind.u16.wrap (r2 : Int) = (r2 : Int) := by simp [IntKind.wrap, IntKind.signed, IntKind.bits]; omega
        have t3 : r ≤ r2 := by omega
        have t4 : r2 ≤ 16 := by omega
        have wv : IntKind.i64.wrap 4 = 4 := by decide
        obtain ⟨W0, hW0⟩ : ∃ W0, W0 = strOf ((numL a).take 2) := ⟨_, rfl⟩
        rw [← hW0] at WN sz ⊢
        obtain ⟨E, hE⟩ : ∃ E, E = dig16.extract r r2 := ⟨_, rfl⟩
        rw [← hE] at WN
        have EQ := fun z => run_dig r r2 t3 t4 z
        rw [← hE] at EQ
        have sE : E.size ≤ 16 := by
          have e0 := dig16_at r hr16
          rw [← hr2, ← hE] at e0
          rw [e0, strOf_size]; simp
        have nolim : ¬ 9223372036854775807 < W0.size + E.size := by omega
        clear hr hW0 hr2 hE
        go_wp2
        refine wp_region_held_drew (S := fun w' => Frm [] wr w') (by kernel_rfl) (Frm.drew (Frm.refl _ _)) (fun hHeld => ?_)
        refine wpAnyH_take (i := 0) (oi := ⟨some 31, _, _, _, _, _⟩) (v := ?_) rfl (by kernel_rfl) (by kernel_rfl) (by kernel_rfl) (fun _ _ _ h => h) (Or.inl ⟨by rfl, ?_⟩) (by assumption) ?_
        rotate_left 1
        · (intro w hSw; (try dsimp only at hSw); go_simp; all_goals with_reducible rfl)
        try simp only [Act.put, List.setIfInBounds_toArray, List.set_cons_zero, List.set_cons_succ]
        refine wpAnyH_take (i := 1) (oi := ⟨some 32, _, _, _, _, _⟩) (v := ?_) rfl (by kernel_rfl) (by kernel_rfl) (by kernel_rfl) (fun _ _ _ h => h) (Or.inl ⟨by rfl, ?_⟩) (by assumption) ?_
        rotate_left 1
        · (intro w hSw; (try dsimp only at hSw); go_simp; all_goals with_reducible rfl)
        try simp only [Act.put, List.setIfInBounds_toArray, List.set_cons_zero, List.set_cons_succ]
        refine wpAnyH_take (i := 2) (oi := ⟨some 33, _, _, _, _, _⟩) (v := ?_) rfl (by kernel_rfl) (by kernel_rfl) (by kernel_rfl) (fun _ _ _ h => h) (Or.inl ⟨by rfl, ?_⟩) (by assumption) ?_
        rotate_left 1
        · (intro w hSw; (try dsimp only at hSw); go_simp; all_goals with_reducible rfl)
        try simp only [Act.put, List.setIfInBounds_toArray, List.set_cons_zero, List.set_cons_succ]
        refine wpAnyH_take (i := 3) (oi := ⟨some 34, _, _, _, _, _⟩) (v := ?_) rfl (by kernel_rfl) (by kernel_rfl) (by kernel_rfl) (fun _ _ _ h => h) (Or.inl ⟨by rfl, ?_⟩) (by assumption) ?_
        rotate_left 1
        · (intro w hSw; (try dsimp only at hSw); go_simp; all_goals with_reducible rfl)
        try simp only [Act.put, List.setIfInBounds_toArray, List.set_cons_zero, List.set_cons_succ]
        refine wpAnyH_take (i := 4) (oi := ⟨some 35, _, _, _, _, _⟩) (v := ?_) rfl (by kernel_rfl) (by kernel_rfl) (by kernel_rfl) (fun _ _ _ h => h) (Or.inl ⟨by rfl, ?_⟩) (by assumption) ?_
        rotate_left 1
        · (intro w hSw; (try dsimp only at hSw); go_simp; all_goals with_reducible rfl)
        try simp only [Act.put, List.setIfInBounds_toArray, List.set_cons_zero, List.set_cons_succ]
        refine wpAnyH_take (i := 5) (oi := ⟨some 36, _, _, _, _, _⟩) (v := ?_) rfl (by kernel_rfl) (by kernel_rfl) (by kernel_rfl) (fun _ _ _ h => h) (Or.inl ⟨by rfl, ?_⟩) (by assumption) ?_
        rotate_left 1
        · (intro w hSw; (try dsimp only at hSw); go_simp; all_goals with_reducible rfl)
        try simp only [Act.put, List.setIfInBounds_toArray, List.set_cons_zero, List.set_cons_succ]
        refine wpAnyH_take (i := 6) (oi := ⟨some 37, _, _, _, _, _⟩) (v := ?_) rfl (by kernel_rfl) (by kernel_rfl) (by kernel_rfl) (fun _ _ _ h => h) (Or.inl ⟨by rfl, ?_⟩) (by assumption) ?_
        rotate_left 1
        · (intro w hSw; (try dsimp only at hSw); go_simp; all_goals with_reducible rfl)
        try simp only [Act.put, List.setIfInBounds_toArray, List.set_cons_zero, List.set_cons_succ]
        refine wpAnyH_take (i := 7) (oi := ⟨some 38, _, _, _, _, _⟩) (v := ?_) rfl (by kernel_rfl) (by kernel_rfl) (by kernel_rfl) (fun _ _ _ h => h) (Or.inl ⟨by rfl, ?_⟩) (by assumption) ?_
        rotate_left 1
        · (intro w hSw; (try dsimp only at hSw); go_simp; all_goals with_reducible rfl)
        try simp only [Act.put, List.setIfInBounds_toArray, List.set_cons_zero, List.set_cons_succ]
        refine wpAnyH_take (i := 8) (oi := ⟨some 39, _, _, _, _, _⟩) (v := ?_) rfl (by kernel_rfl) (by kernel_rfl) (by kernel_rfl) (fun _ _ _ h => h) (Or.inl ⟨by rfl, ?_⟩) (by assumption) ?_
        rotate_left 1
        · (intro w hSw; (try dsimp only at hSw); go_simp; all_goals with_reducible rfl)
        try simp only [Act.put, List.setIfInBounds_toArray, List.set_cons_zero, List.set_cons_succ]
        refine wpAnyH_take (i := 9) (oi := ⟨some 40, _, _, _, _, _⟩) (v := ?_) rfl (by kernel_rfl) (by kernel_rfl) (by kernel_rfl) (fun _ _ _ h => h) (Or.inl ⟨by rfl, ?_⟩) (by assumption) ?_
        rotate_left 1
        · (intro w hSw; (try dsimp only at hSw); go_simp; all_goals with_reducible rfl)
        try simp only [Act.put, List.setIfInBounds_toArray, List.set_cons_zero, List.set_cons_succ]
        refine wpAnyH_take (i := 10) (oi := ⟨some 41, _, _, _, _, _⟩) (v := ?_) rfl (by kernel_rfl) (by kernel_rfl) (by kernel_rfl) (fun _ _ _ h => h) (Or.inl ⟨by rfl, ?_⟩) (by assumption) ?_
        rotate_left 1
        · (intro w hSw; (try dsimp only at hSw); go_simp; all_goals with_reducible rfl)
        try simp only [Act.put, List.setIfInBounds_toArray, List.set_cons_zero, List.set_cons_succ]
        refine wpAnyH_take (i := 11) (oi := ⟨some 42, _, _, _, _, _⟩) (v := ?_) rfl (by kernel_rfl) (by kernel_rfl) (by kernel_rfl) (fun _ _ _ h => h) (Or.inl ⟨by rfl, ?_⟩) (by assumption) ?_
        rotate_left 1
        · (intro w hSw; (try dsimp only at hSw); go_simp; all_goals with_reducible rfl)
        try simp only [Act.put, List.setIfInBounds_toArray, List.set_cons_zero, List.set_cons_succ]
        refine wpAnyH_take (i := 12) (oi := ⟨some 43, _, _, _, _, _⟩) (v := ?_) rfl (by kernel_rfl) (by kernel_rfl) (by kernel_rfl) (fun _ _ _ h => h) (Or.inl ⟨by rfl, ?_⟩) (by assumption) ?_
        rotate_left 1
        · (intro w hSw; (try dsimp only at hSw); go_simp; all_goals with_reducible rfl)
        try simp only [Act.put, List.setIfInBounds_toArray, List.set_cons_zero, List.set_cons_succ]
        refine wpAnyH_take (i := 13) (oi := ⟨some 44, _, _, _, _, _⟩) (v := ?_) rfl (by kernel_rfl) (by kernel_rfl) (by kernel_rfl) (fun _ _ _ h => h) (Or.inl ⟨by rfl, ?_⟩) (by assumption) ?_
        rotate_left 1
        · (intro w hSw; (try dsimp only at hSw); go_simp; all_goals with_reducible rfl)
        try simp only [Act.put, List.setIfInBounds_toArray, List.set_cons_zero, List.set_cons_succ]
        refine wpAnyH_take (i := 14) (oi := ⟨some 11, _, _, _, _, _⟩) (v := ?_) rfl (by kernel_rfl) (by kernel_rfl) (by kernel_rfl) (fun _ _ _ h => h) (Or.inl ⟨by rfl, ?_⟩) (by assumption) ?_
        rotate_left 1
        · (intro w hSw; (try dsimp only at hSw); go_simp; all_goals with_reducible rfl)
        try simp only [Act.put, List.setIfInBounds_toArray, List.set_cons_zero, List.set_cons_succ]
        refine wpAnyH_done (by kernel_rfl) ?_ _
        go_wp2
        go_roundw
        case rel => exact ⟨3, 0, by omega, by rw [← WN.out], rfl, Lib.hid (by omega), Lib.hid (HFR.out.drew)⟩
        case measure => simp [intOf]
      · obtain rfl : z = 0 := by rw [HZV.out]; rfl
        have q2 := and15_16 a (by omega)
        have WN : Hid (strOf ((numL a).take 3) ++ dig16.extract (a % 16) (a % 16 + 1) = strOf ((numL a).take 4)) := Lib.hid (by
          rw [dig16_at _ (Nat.mod_lt _ (by decide)), strOf_append, take_more a 3 ha (by decide)]
          simp)
        have sz : (strOf ((numL a).take 3)).size ≤ 5 := by rw [strOf_size, List.length_take]; omega
        obtain ⟨r, hr⟩ : ∃ r, r = a % 16 := ⟨_, rfl⟩
        rw [← hr] at q2 WN
        have hr16 : r < 16 := by omega
        obtain ⟨r2, hr2⟩ : ∃ r2, r2 = r + 1 := ⟨_, rfl⟩
        rw [← hr2] at WN
        have t1 : (r : Int) + 1 = (r2 : Int) := by omega
        have t2 : IntKind.u16.wrap (r2 : Int) = (r2 : Int) := by simp [IntKind.wrap, IntKind.signed, IntKind.bits]; omega
        have t3 : r ≤ r2 := by omega
        have t4 : r2 ≤ 16 := by omega
        have wv : IntKind.i64.wrap 0 = 0 := by decide
        obtain ⟨W0, hW0⟩ : ∃ W0, W0 = strOf ((numL a).take 3) := ⟨_, rfl⟩
        rw [← hW0] at WN sz ⊢
        obtain ⟨E, hE⟩ : ∃ E, E = dig16.extract r r2 := ⟨_, rfl⟩
        rw [← hE] at WN
        have EQ := fun z => run_dig r r2 t3 t4 z
        rw [← hE] at EQ
        have sE : E.size ≤ 16 := by
          have e0 := dig16_at r hr16
          rw [← hr2, ← hE] at e0
          rw [e0, strOf_size]; simp
        have nolim : ¬ 9223372036854775807 < W0.size + E.size := by omega
        clear hr hW0 hr2 hE
        go_wp2
        refine wp_region_held_drew (S := fun w' => Frm [] wr w') (by kernel_rfl) (Frm.drew (Frm.refl _ _)) (fun hHeld => ?_)
        refine wpAnyH_take (i := 0) (oi := ⟨some 31, _, _, _, _, _⟩) (v := ?_) rfl (by kernel_rfl) (by kernel_rfl) (by kernel_rfl) (fun _ _ _ h => h) (Or.inl ⟨by rfl, ?_⟩) (by assumption) ?_
        rotate_left 1
        · (intro w hSw; (try dsimp only at hSw); go_simp; all_goals with_reducible rfl)
        try simp only [Act.put, List.setIfInBounds_toArray, List.set_cons_zero, List.set_cons_succ]
        refine wpAnyH_take (i := 1) (oi := ⟨some 32, _, _, _, _, _⟩) (v := ?_) rfl (by kernel_rfl) (by kernel_rfl) (by kernel_rfl) (fun _ _ _ h => h) (Or.inl ⟨by rfl, ?_⟩) (by assumption) ?_
        rotate_left 1
        · (intro w hSw; (try dsimp only at hSw); go_simp; all_goals with_reducible rfl)
        try simp only [Act.put, List.setIfInBounds_toArray, List.set_cons_zero, List.set_cons_succ]
        refine wpAnyH_take (i := 2) (oi := ⟨some 33, _, _, _, _, _⟩) (v := ?_) rfl (by kernel_rfl) (by kernel_rfl) (by kernel_rfl) (fun _ _ _ h => h) (Or.inl ⟨by rfl, ?_⟩) (by assumption) ?_
        rotate_left 1
        · (intro w hSw; (try dsimp only at hSw); go_simp; all_goals with_reducible rfl)
        try simp only [Act.put, List.setIfInBounds_toArray, List.set_cons_zero, List.set_cons_succ]
        refine wpAnyH_take (i := 3) (oi := ⟨some 34, _, _, _, _, _⟩) (v := ?_) rfl (by kernel_rfl) (by kernel_rfl) (by kernel_rfl) (fun _ _ _ h => h) (Or.inl ⟨by rfl, ?_⟩) (by assumption) ?_
        rotate_left 1
        · (intro w hSw; (try dsimp only at hSw); go_simp; all_goals with_reducible rfl)
        try simp only [Act.put, List.setIfInBounds_toArray, List.set_cons_zero, List.set_cons_succ]
        refine wpAnyH_take (i := 4) (oi := ⟨some 35, _, _, _, _, _⟩) (v := ?_) rfl (by kernel_rfl) (by kernel_rfl) (by kernel_rfl) (fun _ _ _ h => h) (Or.inl ⟨by rfl, ?_⟩) (by assumption) ?_
        rotate_left 1
        · (intro w hSw; (try dsimp only at hSw); go_simp; all_goals with_reducible rfl)
        try simp only [Act.put, List.setIfInBounds_toArray, List.set_cons_zero, List.set_cons_succ]
        refine wpAnyH_take (i := 5) (oi := ⟨some 36, _, _, _, _, _⟩) (v := ?_) rfl (by kernel_rfl) (by kernel_rfl) (by kernel_rfl) (fun _ _ _ h => h) (Or.inl ⟨by rfl, ?_⟩) (by assumption) ?_
        rotate_left 1
        · (intro w hSw; (try dsimp only at hSw); go_simp; all_goals with_reducible rfl)
        try simp only [Act.put, List.setIfInBounds_toArray, List.set_cons_zero, List.set_cons_succ]
        refine wpAnyH_take (i := 6) (oi := ⟨some 37, _, _, _, _, _⟩) (v := ?_) rfl (by kernel_rfl) (by kernel_rfl) (by kernel_rfl) (fun _ _ _ h => h) (Or.inl ⟨by rfl, ?_⟩) (by assumption) ?_
        rotate_left 1
        · (intro w hSw; (try dsimp only at hSw); go_simp; all_goals with_reducible rfl)
        try simp only [Act.put, List.setIfInBounds_toArray, List.set_cons_zero, List.set_cons_succ]
        refine wpAnyH_take (i := 7) (oi := ⟨some 38, _, _, _, _, _⟩) (v := ?_) rfl (by kernel_rfl) (by kernel_rfl) (by kernel_rfl) (fun _ _ _ h => h) (Or.inl ⟨by rfl, ?_⟩) (by assumption) ?_
        rotate_left 1
        · (intro w hSw; (try dsimp only at hSw); go_simp; all_goals with_reducible rfl)
        try simp only [Act.put, List.setIfInBounds_toArray, List.set_cons_zero, List.set_cons_succ]
        refine wpAnyH_take (i := 8) (oi := ⟨some 39, _, _, _, _, _⟩) (v := ?_) rfl (by kernel_rfl) (by kernel_rfl) (by kernel_rfl) (fun _ _ _ h => h) (Or.inl ⟨by rfl, ?_⟩) (by assumption) ?_
        rotate_left 1
        · (intro w hSw; (try dsimp only at hSw); go_simp; all_goals with_reducible rfl)
        try simp only [Act.put, List.setIfInBounds_toArray, List.set_cons_zero, List.set_cons_succ]
        refine wpAnyH_take (i := 9) (oi := ⟨some 40, _, _, _, _, _⟩) (v := ?_) rfl (by kernel_rfl) (by kernel_rfl) (by kernel_rfl) (fun _ _ _ h => h) (Or.inl ⟨by rfl, ?_⟩) (by assumption) ?_
        rotate_left 1
        · (intro w hSw; (try dsimp only at hSw); go_simp; all_goals with_reducible rfl)
        try simp only [Act.put, List.setIfInBounds_toArray, List.set_cons_zero, List.set_cons_succ]
        refine wpAnyH_take (i := 10) (oi := ⟨some 41, _, _, _, _, _⟩) (v := ?_) rfl (by kernel_rfl) (by kernel_rfl) (by kernel_rfl) (fun _ _ _ h => h) (Or.inl ⟨by rfl, ?_⟩) (by assumption) ?_
        rotate_left 1
        · (intro w hSw; (try dsimp only at hSw); go_simp; all_goals with_reducible rfl)
        try simp only [Act.put, List.setIfInBounds_toArray, List.set_cons_zero, List.set_cons_succ]
        refine wpAnyH_take (i := 11) (oi := ⟨some 42, _, _, _, _, _⟩) (v := ?_) rfl (by kernel_rfl) (by kernel_rfl) (by kernel_rfl) (fun _ _ _ h => h) (Or.inl ⟨by rfl, ?_⟩) (by assumption) ?_
        rotate_left 1
        · (intro w hSw; (try dsimp only at hSw); go_simp; all_goals with_reducible rfl)
        try simp only [Act.put, List.setIfInBounds_toArray, List.set_cons_zero, List.set_cons_succ]
        refine wpAnyH_take (i := 12) (oi := ⟨some 43, _, _, _, _, _⟩) (v := ?_) rfl (by kernel_rfl) (by kernel_rfl) (by kernel_rfl) (fun _ _ _ h => h) (Or.inl ⟨by rfl, ?_⟩) (by assumption) ?_
        rotate_left 1
        · (intro w hSw; (try dsimp only at hSw); go_simp; all_goals with_reducible rfl)
        try simp only [Act.put, List.setIfInBounds_toArray, List.set_cons_zero, List.set_cons_succ]
        refine wpAnyH_take (i := 13) (oi := ⟨some 44, _, _, _, _, _⟩) (v := ?_) rfl (by kernel_rfl) (by kernel_rfl) (by kernel_rfl) (fun _ _ _ h => h) (Or.inl ⟨by rfl, ?_⟩) (by assumption) ?_
        rotate_left 1
        · (intro w hSw; (try dsimp only at hSw); go_simp; all_goals with_reducible rfl)
        try simp only [Act.put, List.setIfInBounds_toArray, List.set_cons_zero, List.set_cons_succ]
        refine wpAnyH_take (i := 14) (oi := ⟨some 11, _, _, _, _, _⟩) (v := ?_) rfl (by kernel_rfl) (by kernel_rfl) (by kernel_rfl) (fun _ _ _ h => h) (Or.inl ⟨by rfl, ?_⟩) (by assumption) ?_
        rotate_left 1
        · (intro w hSw; (try dsimp only at hSw); go_simp; all_goals with_reducible rfl)
        try simp only [Act.put, List.setIfInBounds_toArray, List.set_cons_zero, List.set_cons_succ]
        refine wpAnyH_done (by kernel_rfl) ?_ _
        go_wp2
        go_roundw
        case rel => exact ⟨4, -1, by omega, by rw [← WN.out], rfl, Lib.hid (by omega), Lib.hid (HFR.out.drew)⟩
        case measure => simp [intOf]
    · obtain rfl : k = 4 := by omega
      obtain rfl : z = -1 := by rw [HZV.out]; rfl
      have e4 : (numL a).take 4 = numL a := List.take_of_length_le (by rw [numL_four ha]; simp)
      rw [e4]
      obtain ⟨W0, hW0⟩ : ∃ W0, W0 = strOf (numL a) := ⟨_, rfl⟩
      have sz : W0.size ≤ 5 := by rw [hW0, strOf_size, numL_four ha]; simp
      rw [← hW0] at XE ⊢
      clear hW0 e4
      have x9 := XL.out
      have XQ : ((X.extract 0 5).toList == (W0 ++ ⟨#[45]⟩).toList) = true := by rw [XE.out]; simp
      have HFR := HFR
      by_cases hac : a = c
      · have g1 : ((a : Int) == (c : Int)) = true := by simp [hac]
        by_cases hbd : b = d
        · have g2 : ((b : Int) == (d : Int)) = true := by simp [hbd]
          have g3 : (X.toList == Y.toList) = true := by rw [beq_iff_eq, HXY.out]; exact ⟨hac, hbd⟩
          clear hac hbd
          go_wp2_with fail
          (with_reducible refine (HZ.out _ HFR.out).mono ?_)
          rintro e w5 ⟨rfl, hf5⟩
          have FIN : Hid (Below w.heap.size w w5) := Lib.hid ((HFR.out.trans hf5 (U := []) (by simp) (by simp)).below (by simp) (Nat.le_refl _))
          clear hf5
          go_wp2
          go_ret
          exact ⟨rfl, FIN.out⟩
        · have g2 : ((b : Int) == (d : Int)) = false := by simp; omega
          have g3 : (X.toList == Y.toList) = false := by rw [beq_eq_false_iff_ne, ne_eq, HXY.out]; exact fun h => hbd h.2
          clear hac hbd
          go_wp2_with fail
          (with_reducible refine (HZ.out _ HFR.out).mono ?_)
          rintro e w5 ⟨rfl, hf5⟩
          have FIN : Hid (Below w.heap.size w w5) := Lib.hid ((HFR.out.trans hf5 (U := []) (by simp) (by simp)).below (by simp) (Nat.le_refl _))
          clear hf5
          go_wp2
          go_ret
          exact ⟨rfl, FIN.out⟩
      · have g1 : ((a : Int) == (c : Int)) = false := by simp; omega
        have g3 : (X.toList == Y.toList) = false := by rw [beq_eq_false_iff_ne, ne_eq, HXY.out]; exact fun h => hac h.1
        clear hac
        go_wp2_with fail
        (with_reducible refine (HZ.out _ HFR.out).mono ?_)
        rintro e w5 ⟨rfl, hf5⟩
        have FIN : Hid (Below w.heap.size w w5) := Lib.hid ((HFR.out.trans hf5 (U := []) (by simp) (by simp)).below (by simp) (Nat.le_refl _))
        clear hf5
        go_wp2
        go_ret
        exact ⟨rfl, FIN.out⟩
end Go.Proofs.YtbdgmpfdcmmfhaaDoor
