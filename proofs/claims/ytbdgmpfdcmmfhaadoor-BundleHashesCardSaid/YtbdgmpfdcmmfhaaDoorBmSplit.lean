/- Contracts of Split, Join. -/
import Derived.Test.YtbdgmpfdcmmfhaaDoorBmCut
import Derived.Test.YtbdgmpfdcmmfhaaDoorTail
import Derived.Deep.RegionWith
import Derived.Deep.DeepCutAuto
namespace Go.Proofs.YtbdgmpfdcmmfhaaDoor
open Go.RowKit
set_option maxRecDepth 100000

theorem i64v {a b : Nat} (h : a = b) : Value.int .i64 (a : Nat) = Value.int .i64 (b : Nat) := by rw [h]
set_option maxHeartbeats 4000000 in
theorem bmsplit_any {w : World} {p : Nat} {a : Option Addr} {cap : Nat} {L : List Nat} (k : Int) (h : Bm w p a cap L) (hk : (Lit.int .i64 k).wf = true) :
    Calls Tryd.prog 13 #[.pointer (some ⟨p, 0, none⟩), .int .i64 k] w (BmTo w p a (splF (Bf L) k) (splC (Bf L) k)) := by
  have c0 := h.tab.cell 0
  simp at c0
  obtain ⟨n, hn⟩ : ∃ n, n = L.length := ⟨_, rfl⟩
  rw [← hn] at c0
  have hn15 : n ≤ 15 := by have := h.ok.few; omega
  have hcap : n ≤ cap ∧ cap ≤ 9223372036854775807 := ⟨by have := h.le; omega, h.cm⟩
  have HS := Lib.hid (bmsearch_any (cap := cap) k h.slice h.ok hn)
  have HP := Lib.hid (bmparts_any w k)
  have HCN := Lib.hid (bmcount_any h)
  rw [← hn] at HCN
  obtain ⟨Q, hQ⟩ : ∃ Q, Q = BmTo w p a (splF (Bf L) k) (splC (Bf L) k) := ⟨_, rfl⟩
  have SAME : Hid (∀ c : Nat, splC (Bf L) k = c → c ≠ 0 → Q (.returned (.int .i64 (c : Nat))) w) := Lib.hid (fun c hc h0 => by
    rw [hQ]
    refine ⟨by rw [hc], ⟨a, cap, L, h, ?_, fun _ hg => .inl hg⟩, Frm.refl _ _⟩
    unfold splF; rw [if_neg (by rw [hc]; exact h0)])
  have HH := Lib.hid h
  have HN := Lib.hid hn
  rw [← hQ]
  have HQ := Lib.hid hQ
  have HK := Lib.hid hk
  clear hQ h hn hk
  go_enter Tryd.func13, Tryd.ntmps13
  go_wp2_with fail
  (with_reducible refine HS.out.mono ?_)
  rintro e z ⟨i, b, rfl, hz0, hat, hb⟩
  obtain rfl : w = z := hz0.symm
  have AT := Lib.hid hat
  have HB := Lib.hid hb
  clear hat hb
  by_cases hp : 0 < k ∧ k < 65536
  · have dp : decide (0 < k ∧ k < 65536) = true := decide_eq_true hp
    rw [dp] at HP
    obtain ⟨j, rfl⟩ : ∃ j : Nat, k = (j : Int) := ⟨k.toNat, by omega⟩
    have hno : ¬ ((j : Int) < 1 ∨ 65535 < (j : Int)) := by omega
    have hj1 : 0 < j := by omega
    have hj2 : j < 65536 := by omega
    have MEM : Hid (b = true ↔ j ∈ L) := Lib.hid (by
      rw [HB.out]
      exact ⟨fun ⟨x, hx, hm⟩ => by obtain rfl : j = x := by omega
                                   exact hm, fun hm => ⟨j, rfl, hm⟩⟩)
    clear dp
    cases b
    · have hnm : j ∉ L := fun hm => by have := MEM.out.2 hm; cases this
      have hbf : Bf L j = false := Bf_false.2 ⟨by omega, hnm⟩
      have SC : Hid (splC (Bf L) (j : Int) = if n = 15 then 14 else 0) := Lib.hid (by
        unfold splC
        rw [if_neg hno, if_neg (by rw [Int.toNat_natCast, hbf]; simp), allM_Bf HH.out.ok, List.length_cons, ← HN.out]
        by_cases e : n = 15
        · rw [if_pos (by omega), if_pos e]
        · rw [if_neg (by omega), if_neg e])
      by_cases h15 : n = 15
      · have EH := Lib.hid (SAME.out 14 (by rw [SC.out, if_pos h15]) (by decide))
        have hge : (16 : Int) ≤ ((n + 1 : Nat) : Int) := by omega
        have HNM := Lib.hid hnm
        clear hnm hbf hno h15
        go_wp2_with fail
        (with_reducible refine HP.out.mono ?_)
        rintro e z2 ⟨rfl, hz⟩
        obtain rfl : w = z2 := hz.symm
        go_wp2_with fail
        (with_reducible refine HCN.out.mono ?_)
        rintro e z3 ⟨rfl, hz3⟩
        obtain rfl : w = z3 := hz3.symm
        go_wp2
        exact EH.out
      · have hlt : n < 15 := by omega
        have hge : ¬ ((16 : Int) ≤ ((n + 1 : Nat) : Int)) := by omega
        have SC0 := Lib.hid (SC.out.trans (if_neg h15))
        have INS := Lib.hid (BmOk.ins HH.out.ok AT.out hnm hj1 hj2 (by rw [← HN.out]; exact hlt))
        have hin : i ≤ n := by have := AT.out.le; have := HN.out; omega
        have hic : i ≤ cap := by omega
        have cA := fun w => run_cutI_h w a n cap i hic
        have cB := fun w => run_cutI_l w a n cap i hin
        have CAT := Lib.hid (bmcat_three (j := j) (slin_take HH.out.slin i) (slin_drop HH.out.slin i) (show i = (L.take i).length by rw [List.length_take]; have := HN.out; omega) (show n - i = (L.drop i).length by rw [List.length_drop, HN.out]) (by rw [List.length_take, List.length_drop]; have := HN.out; omega))
        obtain ⟨aA, haA⟩ : ∃ aA, aA = cutI a cap 0 := ⟨_, rfl⟩
        obtain ⟨aB, haB⟩ : ∃ aB, aB = cutI a cap i := ⟨_, rfl⟩
        obtain ⟨nB, hnB⟩ : ∃ nB, nB = n - i := ⟨_, rfl⟩
        obtain ⟨cB', hcB'⟩ : ∃ cB', cB' = cap - i := ⟨_, rfl⟩
        rw [← haA] at cA CAT
        rw [← haB, ← hnB, ← hcB'] at cB
        rw [← haB, ← hnB, ← hcB'] at CAT
        obtain ⟨Z, hZ⟩ : ∃ Z, Z = L.take i ++ ([j] ++ L.drop i) := ⟨_, rfl⟩
        rw [← hZ] at CAT INS
        obtain ⟨zn, hzn⟩ : ∃ zn, zn = Z.length := ⟨_, rfl⟩
        rw [← hzn] at CAT
        have HZN := Lib.hid hzn
        have jI : (i : Int) ≤ (n : Int) := by omega
        have r0 : ∀ z, Frm [] w z → z.cell? ⟨p, 0, none⟩ = some (.slice a n cap) := fun z hz => (hz.cell (p := ⟨p, 0, none⟩) HH.out.tab.lt (by simp)).trans c0
        clear haA haB hnB hcB' hZ hzn hnm hbf hno h15 SC SAME HB
        go_wp2_with fail
        (with_reducible refine HP.out.mono ?_)
        rintro e z2 ⟨rfl, hz⟩
        obtain rfl : w = z2 := hz.symm
        go_wp2_with fail
        (with_reducible refine HCN.out.mono ?_)
        rintro e z3 ⟨rfl, hz3⟩
        obtain rfl : w = z3 := hz3.symm
        go_wp2
        refine wp_region_tail (S := fun w' => Frm [] w w') (tl := (fun j => j == 19)) (by kernel_rfl) (Frm.drew (Frm.refl _ _)) (fun hHeld => ?_)
        refine tail_take (i := 0) (oi := ⟨some 28, _, _, _, _, _⟩) (v := ?_) rfl (by kernel_rfl) (by kernel_rfl) (by kernel_rfl) (by kernel_rfl) (by kernel_rfl) (fun _ _ _ h => h) (Or.inl ⟨by rfl, ?_⟩) (by assumption) ?_
        rotate_left 1
        · (intro w hSw; (try dsimp only at hSw); go_simp; all_goals with_reducible rfl)
        try simp only [Act.put, List.setIfInBounds_toArray, List.set_cons_zero, List.set_cons_succ]
        refine tail_take (i := 1) (oi := ⟨some 29, _, _, _, _, _⟩) (v := ?_) rfl (by kernel_rfl) (by kernel_rfl) (by kernel_rfl) (by kernel_rfl) (by kernel_rfl) (fun _ _ _ h => h) (Or.inl ⟨by rfl, ?_⟩) (by assumption) ?_
        rotate_left 1
        · (intro w hSw; (try dsimp only at hSw); go_simp; all_goals with_reducible rfl)
        try simp only [Act.put, List.setIfInBounds_toArray, List.set_cons_zero, List.set_cons_succ]
        refine tail_take (i := 2) (oi := ⟨some 30, _, _, _, _, _⟩) (v := ?_) rfl (by kernel_rfl) (by kernel_rfl) (by kernel_rfl) (by kernel_rfl) (by kernel_rfl) (fun _ _ _ h => h) (Or.inl ⟨by rfl, ?_⟩) (by assumption) ?_
        rotate_left 1
        · (intro w hSw; (try dsimp only at hSw); go_simp; all_goals with_reducible rfl)
        try simp only [Act.put, List.setIfInBounds_toArray, List.set_cons_zero, List.set_cons_succ]
        refine tail_take (i := 3) (oi := ⟨some 31, _, _, _, _, _⟩) (v := ?_) rfl (by kernel_rfl) (by kernel_rfl) (by kernel_rfl) (by kernel_rfl) (by kernel_rfl) (fun _ _ _ h => h) (Or.inl ⟨by rfl, ?_⟩) (by assumption) ?_
        rotate_left 1
        · (intro w hSw; (try dsimp only at hSw); go_simp; all_goals with_reducible rfl)
        try simp only [Act.put, List.setIfInBounds_toArray, List.set_cons_zero, List.set_cons_succ]
        refine tail_take (i := 4) (oi := ⟨some 32, _, _, _, _, _⟩) (v := ?_) rfl (by kernel_rfl) (by kernel_rfl) (by kernel_rfl) (by kernel_rfl) (by kernel_rfl) (fun _ _ _ h => h) (Or.inl ⟨by rfl, ?_⟩) (by assumption) ?_
        rotate_left 1
        · (intro w hSw; (try dsimp only at hSw); go_simp; all_goals with_reducible rfl)
        try simp only [Act.put, List.setIfInBounds_toArray, List.set_cons_zero, List.set_cons_succ]
        refine tail_take (i := 5) (oi := ⟨some 33, _, _, _, _, _⟩) (v := ?_) rfl (by kernel_rfl) (by kernel_rfl) (by kernel_rfl) (by kernel_rfl) (by kernel_rfl) (fun _ _ _ h => h) (Or.inl ⟨by rfl, ?_⟩) (by assumption) ?_
        rotate_left 1
        · (intro w hSw; (try dsimp only at hSw); go_simp; all_goals with_reducible rfl)
        try simp only [Act.put, List.setIfInBounds_toArray, List.set_cons_zero, List.set_cons_succ]
        refine tail_take (i := 6) (oi := ⟨some 34, _, _, _, _, _⟩) (v := ?_) rfl (by kernel_rfl) (by kernel_rfl) (by kernel_rfl) (by kernel_rfl) (by kernel_rfl) (fun _ _ _ h => h) (Or.inl ⟨by rfl, ?_⟩) (by assumption) ?_
        rotate_left 1
        · (intro w hSw; (try dsimp only at hSw); go_simp; all_goals with_reducible rfl)
        try simp only [Act.put, List.setIfInBounds_toArray, List.set_cons_zero, List.set_cons_succ]
        refine tail_take (i := 7) (oi := ⟨some 35, _, _, _, _, _⟩) (v := ?_) rfl (by kernel_rfl) (by kernel_rfl) (by kernel_rfl) (by kernel_rfl) (by kernel_rfl) (fun _ _ _ h => h) (Or.inl ⟨by rfl, ?_⟩) (by assumption) ?_
        rotate_left 1
        · (intro w hSw; (try dsimp only at hSw); go_simp; all_goals with_reducible rfl)
        try simp only [Act.put, List.setIfInBounds_toArray, List.set_cons_zero, List.set_cons_succ]
        refine tail_take (i := 9) (oi := ⟨some 37, _, _, _, _, _⟩) (v := ?_) rfl (by kernel_rfl) (by kernel_rfl) (by kernel_rfl) (by kernel_rfl) (by kernel_rfl) (fun _ _ _ h => h) (Or.inl ⟨by rfl, ?_⟩) (by assumption) ?_
        rotate_left 1
        · (intro w hSw; (try dsimp only at hSw); go_simp; all_goals with_reducible rfl)
        try simp only [Act.put, List.setIfInBounds_toArray, List.set_cons_zero, List.set_cons_succ]
        refine tail_take (i := 10) (oi := ⟨some 38, _, _, _, _, _⟩) (v := ?_) rfl (by kernel_rfl) (by kernel_rfl) (by kernel_rfl) (by kernel_rfl) (by kernel_rfl) (fun _ _ _ h => h) (Or.inl ⟨by rfl, ?_⟩) (by assumption) ?_
        rotate_left 1
        · (intro w hSw; (try dsimp only at hSw); go_simp; all_goals with_reducible rfl)
        try simp only [Act.put, List.setIfInBounds_toArray, List.set_cons_zero, List.set_cons_succ]
        refine tail_take (i := 11) (oi := ⟨some 39, _, _, _, _, _⟩) (v := ?_) rfl (by kernel_rfl) (by kernel_rfl) (by kernel_rfl) (by kernel_rfl) (by kernel_rfl) (fun _ _ _ h => h) (Or.inl ⟨by rfl, ?_⟩) (by assumption) ?_
        rotate_left 1
        · (intro w hSw; (try dsimp only at hSw); go_simp; all_goals with_reducible rfl)
        try simp only [Act.put, List.setIfInBounds_toArray, List.set_cons_zero, List.set_cons_succ]
        refine tail_take (i := 12) (oi := ⟨some 40, _, _, _, _, _⟩) (v := ?_) rfl (by kernel_rfl) (by kernel_rfl) (by kernel_rfl) (by kernel_rfl) (by kernel_rfl) (fun _ _ _ h => h) (Or.inl ⟨by rfl, ?_⟩) (by assumption) ?_
        rotate_left 1
        · (intro w hSw; (try dsimp only at hSw); go_simp; all_goals with_reducible rfl)
        try simp only [Act.put, List.setIfInBounds_toArray, List.set_cons_zero, List.set_cons_succ]
        refine tail_take (i := 13) (oi := ⟨some 41, _, _, _, _, _⟩) (v := ?_) rfl (by kernel_rfl) (by kernel_rfl) (by kernel_rfl) (by kernel_rfl) (by kernel_rfl) (fun _ _ _ h => h) (Or.inl ⟨by rfl, ?_⟩) (by assumption) ?_
        rotate_left 1
        · (intro w hSw; (try dsimp only at hSw); go_simp; all_goals with_reducible rfl)
        try simp only [Act.put, List.setIfInBounds_toArray, List.set_cons_zero, List.set_cons_succ]
        refine tail_take (i := 14) (oi := ⟨some 42, _, _, _, _, _⟩) (v := ?_) rfl (by kernel_rfl) (by kernel_rfl) (by kernel_rfl) (by kernel_rfl) (by kernel_rfl) (fun _ _ _ h => h) (Or.inl ⟨by rfl, ?_⟩) (by assumption) ?_
        rotate_left 1
        · (intro w hSw; (try dsimp only at hSw); go_simp; all_goals with_reducible rfl)
        try simp only [Act.put, List.setIfInBounds_toArray, List.set_cons_zero, List.set_cons_succ]
        refine tail_one (i := 8) (o := ⟨some 36, _, _, _, _, _⟩) (by kernel_rfl) rfl (fun K hK => ?_)
        go_simp
        refine hK.out _ _ (fun _ => by repeat (first | assumption | apply Frm.alloc | apply Frm.drew | exact Frm.refl _ _)) (fun _ => ?_)
        clear hK K
        try simp only [Act.put, List.setIfInBounds_toArray, List.set_cons_zero, List.set_cons_succ]
        refine tail_one (i := 15) (o := ⟨some 43, _, _, _, _, _⟩) (by kernel_rfl) rfl (fun K hK => ?_)
        go_simp
        refine hK.out _ _ (fun _ => by repeat (first | assumption | apply Frm.alloc | apply Frm.drew | exact Frm.refl _ _)) (fun _ => ?_)
        clear hK K
        try simp only [Act.put, List.setIfInBounds_toArray, List.set_cons_zero, List.set_cons_succ]
        refine tail_one (i := 16) (o := ⟨some 44, _, _, _, _, _⟩) (by kernel_rfl) rfl (fun K hK => ?_)
        go_simp
        ((with_reducible refine CAT.out.mono ?_); rintro e w4 ⟨a4, c4, rfl, ho4, hf4⟩; have hHeld4 : Frm [] w w4 := hf4; have f0 := (hf4.whole HH.out.tab (by simp)).free 0; have HO := Lib.hid ho4; clear ho4)
        go_wp2_with fail
        refine hK.out _ _ (fun _ => by assumption) (fun _ => ?_)
        clear hK K
        try simp only [Act.put, List.setIfInBounds_toArray, List.set_cons_zero, List.set_cons_succ]
        refine tail_take (i := 17) (oi := ⟨some 45, _, _, _, _, _⟩) (v := ?_) rfl (by kernel_rfl) (by kernel_rfl) (by kernel_rfl) (by kernel_rfl) (by kernel_rfl) (fun _ _ _ h => h) (Or.inl ⟨by rfl, ?_⟩) (by assumption) ?_
        rotate_left 1
        · (intro w hSw; (try dsimp only at hSw); go_simp; all_goals with_reducible rfl)
        try simp only [Act.put, List.setIfInBounds_toArray, List.set_cons_zero, List.set_cons_succ]
        refine tail_take (i := 18) (oi := ⟨some 46, _, _, _, _, _⟩) (v := ?_) rfl (by kernel_rfl) (by kernel_rfl) (by kernel_rfl) (by kernel_rfl) (by kernel_rfl) (fun _ _ _ h => h) (Or.inl ⟨by rfl, ?_⟩) (by assumption) ?_
        rotate_left 1
        · (intro w hSw; (try dsimp only at hSw); go_simp; all_goals with_reducible rfl)
        try simp only [Act.put, List.setIfInBounds_toArray, List.set_cons_zero, List.set_cons_succ]
        refine tail_one (i := 19) (o := ⟨none, _, _, _, _, _⟩) (by kernel_rfl) rfl (fun K hK => ?_)
        go_simp
        refine hK.out _ _ (fun h => absurd h (by decide)) (fun _ => ?_)
        clear hK K
        try simp only [Act.put, List.setIfInBounds_toArray, List.set_cons_zero, List.set_cons_succ]
        refine tail_done (by kernel_rfl) ?_ _
        have FIN : Hid (Q (.returned (.int .i64 0)) (w4.setCell ⟨p, 0, none⟩ (.slice a4 zn c4))) := Lib.hid (by
          rw [HQ.out]
          refine ⟨by rw [SC0.out]; rfl, ⟨a4, c4, Z, HH.out.store hHeld4 HO.out HZN.out INS.out.1, ?_, fun g hg => .inr (HO.out.blk_lt g hg).1⟩, hHeld4.trans (U := [p]) ((Frm.refl [p] w4).setCell (.inl (by simp)) _) (by simp) (fun x hx => .inl hx)⟩
          rw [INS.out.2]
          unfold splF
          rw [if_pos SC0.out, Int.toNat_natCast])
        clear cA cB r0
        go_wp2
        exact FIN.out
    · have hm : j ∈ L := MEM.out.1 rfl
      have EH := Lib.hid (SAME.out 12 (by unfold splC; rw [if_neg hno, if_pos (by rw [Int.toNat_natCast]; exact Bf_true.2 (.inr hm))]) (by decide))
      clear hm hno
      go_wp2_with fail
      (with_reducible refine HP.out.mono ?_)
      rintro e z2 ⟨rfl, hz⟩
      obtain rfl : w = z2 := hz.symm
      go_wp2
      exact EH.out
  · have dp : decide (0 < k ∧ k < 65536) = false := decide_eq_false hp
    rw [dp] at HP
    have EH := Lib.hid (SAME.out 2 (by unfold splC; rw [if_pos (by omega)]) (by decide))
    clear hp dp
    go_wp2_with fail
    (with_reducible refine HP.out.mono ?_)
    rintro e z2 ⟨rfl, hz⟩
    obtain rfl : w = z2 := hz.symm
    go_wp2
    exact EH.out
set_option maxHeartbeats 4000000 in
theorem bmjoin_any {w : World} {p : Nat} {a : Option Addr} {cap : Nat} {L : List Nat} (k : Int) (h : Bm w p a cap L) (hk : (Lit.int .i64 k).wf = true) :
    Calls Tryd.prog 11 #[.pointer (some ⟨p, 0, none⟩), .int .i64 k] w (BmTo w p a (joinF (Bf L) k) (joinC (Bf L) k)) := by
  have c0 := h.tab.cell 0
  simp at c0
  obtain ⟨n, hn⟩ : ∃ n, n = L.length := ⟨_, rfl⟩
  rw [← hn] at c0
  have hn15 : n ≤ 15 := by have := h.ok.few; omega
  have hcap : n ≤ cap ∧ cap ≤ 9223372036854775807 := ⟨by have := h.le; omega, h.cm⟩
  have HS := Lib.hid (bmsearch_any (cap := cap) k h.slice h.ok hn)
  have HP := Lib.hid (bmparts_any w k)
  obtain ⟨Q, hQ⟩ : ∃ Q, Q = BmTo w p a (joinF (Bf L) k) (joinC (Bf L) k) := ⟨_, rfl⟩
  have SAME : Hid (∀ c : Nat, joinC (Bf L) k = c → c ≠ 0 → Q (.returned (.int .i64 (c : Nat))) w) := Lib.hid (fun c hc h0 => by
    rw [hQ]
    refine ⟨by rw [hc], ⟨a, cap, L, h, ?_, fun _ hg => .inl hg⟩, Frm.refl _ _⟩
    unfold joinF; rw [if_neg (by rw [hc]; exact h0)])
  have HH := Lib.hid h
  have HN := Lib.hid hn
  rw [← hQ]
  have HQ := Lib.hid hQ
  have HK := Lib.hid hk
  clear hQ h hn hk
  go_enter Tryd.func11, Tryd.ntmps11
  go_wp2_with fail
  (with_reducible refine HS.out.mono ?_)
  rintro e z ⟨i, b, rfl, hz0, hat, hb⟩
  obtain rfl : w = z := hz0.symm
  have AT := Lib.hid hat
  have HB := Lib.hid hb
  clear hat hb
  by_cases hp : 0 < k ∧ k < 65536
  · have dp : decide (0 < k ∧ k < 65536) = true := decide_eq_true hp
    rw [dp] at HP
    obtain ⟨j, rfl⟩ : ∃ j : Nat, k = (j : Int) := ⟨k.toNat, by omega⟩
    have hno : ¬ ((j : Int) < 1 ∨ 65535 < (j : Int)) := by omega
    have hj1 : 0 < j := by omega
    have hj2 : j < 65536 := by omega
    have MEM : Hid (b = true ↔ j ∈ L) := Lib.hid (by
      rw [HB.out]
      exact ⟨fun ⟨x, hx, hm⟩ => by obtain rfl : j = x := by omega
                                   exact hm, fun hm => ⟨j, rfl, hm⟩⟩)
    clear dp
    cases b
    · have hnm : j ∉ L := fun hm => by have := MEM.out.2 hm; cases this
      have hbf : Bf L j = false := Bf_false.2 ⟨by omega, hnm⟩
      have EH := Lib.hid (SAME.out 11 (by unfold joinC; rw [if_neg hno, if_neg (by rw [Int.toNat_natCast, hbf]; simp)]) (by decide))
      clear hnm hbf hno
      go_wp2_with fail
      (with_reducible refine HP.out.mono ?_)
      rintro e z2 ⟨rfl, hz⟩
      obtain rfl : w = z2 := hz.symm
      go_wp2
      exact EH.out
    · have hm : j ∈ L := MEM.out.1 rfl
      have SC0 : Hid (joinC (Bf L) (j : Int) = 0) := Lib.hid (by unfold joinC; rw [if_neg hno, if_pos (by rw [Int.toNat_natCast]; exact Bf_true.2 (.inr hm))])
      have DEL := Lib.hid (BmOk.del HH.out.ok AT.out hm)
      have hin : i < n := by have := DEL.out.1; have := HN.out; omega
      have hic : i ≤ cap := by omega
      have hin1 : i + 1 ≤ n := by omega
      have cA := fun w => run_cutI_h w a n cap i hic
      have cB := fun w => run_cutI_l w a n cap (i + 1) hin1
      have CAT := Lib.hid (bmcat_two (slin_take HH.out.slin i) (slin_drop HH.out.slin (i + 1)) (show i = (L.take i).length by rw [List.length_take]; have := HN.out; omega) (show n - (i + 1) = (L.drop (i + 1)).length by rw [List.length_drop, HN.out]) (by rw [List.length_take, List.length_drop]; have := HN.out; omega))
      obtain ⟨i1, hi1⟩ : ∃ i1, i1 = i + 1 := ⟨_, rfl⟩
      rw [← hi1] at cB CAT DEL hin1
      have b1 : (i : Int) + 1 = (i1 : Int) := by omega
      have b2 : IntKind.i64.wrap (i1 : Int) = (i1 : Int) := IntWalk.i64_in _ (by omega)
      have b3 : IntKind.i64.wrap ((i : Int) + 1) = (i1 : Int) := by rw [b1]; exact b2
      clear hi1
      obtain ⟨aA, haA⟩ : ∃ aA, aA = cutI a cap 0 := ⟨_, rfl⟩
      obtain ⟨aB, haB⟩ : ∃ aB, aB = cutI a cap i1 := ⟨_, rfl⟩
      obtain ⟨nB, hnB⟩ : ∃ nB, nB = n - i1 := ⟨_, rfl⟩
      obtain ⟨cB', hcB'⟩ : ∃ cB', cB' = cap - i1 := ⟨_, rfl⟩
      rw [← haA] at cA CAT
      rw [← haB, ← hnB, ← hcB'] at cB
      rw [← haB, ← hnB, ← hcB'] at CAT
      obtain ⟨Z, hZ⟩ : ∃ Z, Z = L.take i ++ L.drop i1 := ⟨_, rfl⟩
      rw [← hZ] at CAT DEL
      obtain ⟨zn, hzn⟩ : ∃ zn, zn = Z.length := ⟨_, rfl⟩
      rw [← hzn] at CAT
      have HZN := Lib.hid hzn
      have jI : (i : Int) ≤ (n : Int) := by omega
      have r0 : ∀ z, Frm [] w z → z.cell? ⟨p, 0, none⟩ = some (.slice a n cap) := fun z hz => (hz.cell (p := ⟨p, 0, none⟩) HH.out.tab.lt (by simp)).trans c0
      clear haA haB hnB hcB' hZ hzn hm hno SAME HB
      go_wp2_with fail
      (with_reducible refine HP.out.mono ?_)
      rintro e z2 ⟨rfl, hz⟩
      obtain rfl : w = z2 := hz.symm
      go_wp2
      refine wp_region_tail (S := fun w' => Frm [] w w') (tl := (fun j => j == 18)) (by kernel_rfl) (Frm.drew (Frm.refl _ _)) (fun hHeld => ?_)
      refine tail_take (i := 0) (oi := ⟨some 25, _, _, _, _, _⟩) (v := ?_) rfl (by kernel_rfl) (by kernel_rfl) (by kernel_rfl) (by kernel_rfl) (by kernel_rfl) (fun _ _ _ h => h) (Or.inl ⟨by rfl, ?_⟩) (by assumption) ?_
      rotate_left 1
      · (intro w hSw; (try dsimp only at hSw); go_simp; all_goals with_reducible rfl)
      try simp only [Act.put, List.setIfInBounds_toArray, List.set_cons_zero, List.set_cons_succ]
      refine tail_take (i := 1) (oi := ⟨some 26, _, _, _, _, _⟩) (v := ?_) rfl (by kernel_rfl) (by kernel_rfl) (by kernel_rfl) (by kernel_rfl) (by kernel_rfl) (fun _ _ _ h => h) (Or.inl ⟨by rfl, ?_⟩) (by assumption) ?_
      rotate_left 1
      · (intro w hSw; (try dsimp only at hSw); go_simp; all_goals with_reducible rfl)
      try simp only [Act.put, List.setIfInBounds_toArray, List.set_cons_zero, List.set_cons_succ]
      refine tail_take (i := 2) (oi := ⟨some 27, _, _, _, _, _⟩) (v := ?_) rfl (by kernel_rfl) (by kernel_rfl) (by kernel_rfl) (by kernel_rfl) (by kernel_rfl) (fun _ _ _ h => h) (Or.inl ⟨by rfl, ?_⟩) (by assumption) ?_
      rotate_left 1
      · (intro w hSw; (try dsimp only at hSw); go_simp; all_goals with_reducible rfl)
      try simp only [Act.put, List.setIfInBounds_toArray, List.set_cons_zero, List.set_cons_succ]
      refine tail_take (i := 3) (oi := ⟨some 28, _, _, _, _, _⟩) (v := ?_) rfl (by kernel_rfl) (by kernel_rfl) (by kernel_rfl) (by kernel_rfl) (by kernel_rfl) (fun _ _ _ h => h) (Or.inl ⟨by rfl, ?_⟩) (by assumption) ?_
      rotate_left 1
      · (intro w hSw; (try dsimp only at hSw); go_simp; all_goals with_reducible rfl)
      try simp only [Act.put, List.setIfInBounds_toArray, List.set_cons_zero, List.set_cons_succ]
      refine tail_take (i := 4) (oi := ⟨some 29, _, _, _, _, _⟩) (v := ?_) rfl (by kernel_rfl) (by kernel_rfl) (by kernel_rfl) (by kernel_rfl) (by kernel_rfl) (fun _ _ _ h => h) (Or.inl ⟨by rfl, ?_⟩) (by assumption) ?_
      rotate_left 1
      · (intro w hSw; (try dsimp only at hSw); go_simp; all_goals with_reducible rfl)
      try simp only [Act.put, List.setIfInBounds_toArray, List.set_cons_zero, List.set_cons_succ]
      refine tail_take (i := 5) (oi := ⟨some 30, _, _, _, _, _⟩) (v := ?_) rfl (by kernel_rfl) (by kernel_rfl) (by kernel_rfl) (by kernel_rfl) (by kernel_rfl) (fun _ _ _ h => h) (Or.inl ⟨by rfl, ?_⟩) (by assumption) ?_
      rotate_left 1
      · (intro w hSw; (try dsimp only at hSw); go_simp; all_goals with_reducible rfl)
      try simp only [Act.put, List.setIfInBounds_toArray, List.set_cons_zero, List.set_cons_succ]
      refine tail_take (i := 6) (oi := ⟨some 31, _, _, _, _, _⟩) (v := ?_) rfl (by kernel_rfl) (by kernel_rfl) (by kernel_rfl) (by kernel_rfl) (by kernel_rfl) (fun _ _ _ h => h) (Or.inl ⟨by rfl, ?_⟩) (by assumption) ?_
      rotate_left 1
      · (intro w hSw; (try dsimp only at hSw); go_simp; all_goals with_reducible rfl)
      try simp only [Act.put, List.setIfInBounds_toArray, List.set_cons_zero, List.set_cons_succ]
      refine tail_take (i := 7) (oi := ⟨some 32, _, _, _, _, _⟩) (v := ?_) rfl (by kernel_rfl) (by kernel_rfl) (by kernel_rfl) (by kernel_rfl) (by kernel_rfl) (fun _ _ _ h => h) (Or.inl ⟨by rfl, ?_⟩) (by assumption) ?_
      rotate_left 1
      · (intro w hSw; (try dsimp only at hSw); go_simp; all_goals with_reducible rfl)
      try simp only [Act.put, List.setIfInBounds_toArray, List.set_cons_zero, List.set_cons_succ]
      refine tail_take (i := 8) (oi := ⟨some 33, _, _, _, _, _⟩) (v := ?_) rfl (by kernel_rfl) (by kernel_rfl) (by kernel_rfl) (by kernel_rfl) (by kernel_rfl) (fun _ _ _ h => h) (Or.inl ⟨by rfl, ?_⟩) (by assumption) ?_
      rotate_left 1
      · (intro w hSw; (try dsimp only at hSw); go_simp; all_goals with_reducible rfl)
      try simp only [Act.put, List.setIfInBounds_toArray, List.set_cons_zero, List.set_cons_succ]
      refine tail_take (i := 9) (oi := ⟨some 34, _, _, _, _, _⟩) (v := ?_) rfl (by kernel_rfl) (by kernel_rfl) (by kernel_rfl) (by kernel_rfl) (by kernel_rfl) (fun _ _ _ h => h) (Or.inl ⟨by rfl, ?_⟩) (by assumption) ?_
      rotate_left 1
      · (intro w hSw; (try dsimp only at hSw); go_simp; all_goals with_reducible rfl)
      try simp only [Act.put, List.setIfInBounds_toArray, List.set_cons_zero, List.set_cons_succ]
      refine tail_take (i := 10) (oi := ⟨some 35, _, _, _, _, _⟩) (v := ?_) rfl (by kernel_rfl) (by kernel_rfl) (by kernel_rfl) (by kernel_rfl) (by kernel_rfl) (fun _ _ _ h => h) (Or.inl ⟨by rfl, ?_⟩) (by assumption) ?_
      rotate_left 1
      · (intro w hSw; (try dsimp only at hSw); go_simp; all_goals with_reducible rfl)
      try simp only [Act.put, List.setIfInBounds_toArray, List.set_cons_zero, List.set_cons_succ]
      refine tail_take (i := 11) (oi := ⟨some 36, _, _, _, _, _⟩) (v := ?_) rfl (by kernel_rfl) (by kernel_rfl) (by kernel_rfl) (by kernel_rfl) (by kernel_rfl) (fun _ _ _ h => h) (Or.inl ⟨by rfl, ?_⟩) (by assumption) ?_
      rotate_left 1
      · (intro w hSw; (try dsimp only at hSw); go_simp; all_goals with_reducible rfl)
      try simp only [Act.put, List.setIfInBounds_toArray, List.set_cons_zero, List.set_cons_succ]
      refine tail_take (i := 12) (oi := ⟨some 37, _, _, _, _, _⟩) (v := ?_) rfl (by kernel_rfl) (by kernel_rfl) (by kernel_rfl) (by kernel_rfl) (by kernel_rfl) (fun _ _ _ h => h) (Or.inl ⟨by rfl, ?_⟩) (by assumption) ?_
      rotate_left 1
      · (intro w hSw; (try dsimp only at hSw); go_simp; all_goals with_reducible rfl)
      try simp only [Act.put, List.setIfInBounds_toArray, List.set_cons_zero, List.set_cons_succ]
      refine tail_take (i := 13) (oi := ⟨some 38, _, _, _, _, _⟩) (v := ?_) rfl (by kernel_rfl) (by kernel_rfl) (by kernel_rfl) (by kernel_rfl) (by kernel_rfl) (fun _ _ _ h => h) (Or.inl ⟨by rfl, ?_⟩) (by assumption) ?_
      rotate_left 1
      · (intro w hSw; (try dsimp only at hSw); go_simp; all_goals with_reducible rfl)
      try simp only [Act.put, List.setIfInBounds_toArray, List.set_cons_zero, List.set_cons_succ]
      refine tail_one (i := 14) (o := ⟨some 39, _, _, _, _, _⟩) (by kernel_rfl) rfl (fun K hK => ?_)
      go_simp
      refine hK.out _ _ (fun _ => by repeat (first | assumption | apply Frm.alloc | apply Frm.drew | exact Frm.refl _ _)) (fun _ => ?_)
      clear hK K
      try simp only [Act.put, List.setIfInBounds_toArray, List.set_cons_zero, List.set_cons_succ]
      refine tail_one (i := 15) (o := ⟨some 40, _, _, _, _, _⟩) (by kernel_rfl) rfl (fun K hK => ?_)
      go_simp
      ((with_reducible refine CAT.out.mono ?_); rintro e w4 ⟨a4, c4, rfl, ho4, hf4⟩; have hHeld4 : Frm [] w w4 := hf4; have f0 := (hf4.whole HH.out.tab (by simp)).free 0; have HO := Lib.hid ho4; clear ho4)
      go_wp2_with fail
      refine hK.out _ _ (fun _ => by assumption) (fun _ => ?_)
      clear hK K
      try simp only [Act.put, List.setIfInBounds_toArray, List.set_cons_zero, List.set_cons_succ]
      refine tail_take (i := 16) (oi := ⟨some 41, _, _, _, _, _⟩) (v := ?_) rfl (by kernel_rfl) (by kernel_rfl) (by kernel_rfl) (by kernel_rfl) (by kernel_rfl) (fun _ _ _ h => h) (Or.inl ⟨by rfl, ?_⟩) (by assumption) ?_
      rotate_left 1
      · (intro w hSw; (try dsimp only at hSw); go_simp; all_goals with_reducible rfl)
      try simp only [Act.put, List.setIfInBounds_toArray, List.set_cons_zero, List.set_cons_succ]
      refine tail_take (i := 17) (oi := ⟨some 42, _, _, _, _, _⟩) (v := ?_) rfl (by kernel_rfl) (by kernel_rfl) (by kernel_rfl) (by kernel_rfl) (by kernel_rfl) (fun _ _ _ h => h) (Or.inl ⟨by rfl, ?_⟩) (by assumption) ?_
      rotate_left 1
      · (intro w hSw; (try dsimp only at hSw); go_simp; all_goals with_reducible rfl)
      try simp only [Act.put, List.setIfInBounds_toArray, List.set_cons_zero, List.set_cons_succ]
      refine tail_one (i := 18) (o := ⟨none, _, _, _, _, _⟩) (by kernel_rfl) rfl (fun K hK => ?_)
      go_simp
      refine hK.out _ _ (fun h => absurd h (by decide)) (fun _ => ?_)
      clear hK K
      try simp only [Act.put, List.setIfInBounds_toArray, List.set_cons_zero, List.set_cons_succ]
      refine tail_done (by kernel_rfl) ?_ _
      have FIN : Hid (Q (.returned (.int .i64 0)) (w4.setCell ⟨p, 0, none⟩ (.slice a4 zn c4))) := Lib.hid (by
        rw [HQ.out]
        refine ⟨by rw [SC0.out]; rfl, ⟨a4, c4, Z, HH.out.store hHeld4 HO.out HZN.out DEL.out.2.1, ?_, fun g hg => .inr (HO.out.blk_lt g hg).1⟩, hHeld4.trans (U := [p]) ((Frm.refl [p] w4).setCell (.inl (by simp)) _) (by simp) (fun x hx => .inl hx)⟩
        rw [DEL.out.2.2]
        unfold joinF
        rw [if_pos SC0.out, Int.toNat_natCast])
      clear cA cB r0
      go_wp2
      exact FIN.out
  · have dp : decide (0 < k ∧ k < 65536) = false := decide_eq_false hp
    rw [dp] at HP
    have EH := Lib.hid (SAME.out 2 (by unfold joinC; rw [if_pos (by omega)]) (by decide))
    clear hp dp
    go_wp2_with fail
    (with_reducible refine HP.out.mono ?_)
    rintro e z2 ⟨rfl, hz⟩
    obtain rfl : w = z2 := hz.symm
    go_wp2
    exact EH.out
end Go.Proofs.YtbdgmpfdcmmfhaaDoor
