/- OwnerPlays: the walk. -/
import Derived.Test.YtcbpppdmkhpkkaaGreatKH
import Derived.Test.YtcbpppdmkhpkkaaGreatYOwAwake
import Derived.Test.YtcbpppdmkhpkkaaGreatYInOa
import Derived.Test.YtcbpppdmkhpkkaaGreatKC
import Derived.Test.YtcbpppdmkhpkkaaGreatYTail
import Derived.Deep.DeepCutAuto
import Derived.Deep.CutBlock
import Derived.Deep.CutRange
import Derived.Deep.RegionHeld3
namespace Go.Proofs.YtcbpppdmkhpkkaaGreat
open Go.RowKit
set_option maxRecDepth 100000

theorem opn9_ok {n : Nat} (h : n < 100) : MCOk { kind := 3, ticks := n } := ⟨by show 3 < 256; decide, by show (0 : Nat) ≤ 5000; decide, ⟨by show (0 : Nat) ≤ 5000; decide, by intro x hx; cases hx⟩, by show 0 < 18446744073709551616; decide, by show 0 < 18446744073709551616; decide, by show n < 18446744073709551616; omega⟩
theorem tick9_ok {n : Nat} (h : n < 100) : MCOk { kind := 6, ticks := n } := ⟨by show 6 < 256; decide, by show (0 : Nat) ≤ 5000; decide, ⟨by show (0 : Nat) ≤ 5000; decide, by intro x hx; cases hx⟩, by show 0 < 18446744073709551616; decide, by show 0 < 18446744073709551616; decide, by show n < 18446744073709551616; omega⟩
theorem raw9_ok {key : ByteArray} {v : List Nat} {n : Nat} (hk : key.size ≤ 200) (hv : v.length ≤ 100) (h8 : ∀ x ∈ v, x < 256) (h : n < 100) : MCOk { kind := 1, key := key, val := v, want := n } := ⟨by show 1 < 256; decide, by show key.size ≤ 5000; omega, ⟨by show v.length ≤ 5000; omega, h8⟩, by show n < 18446744073709551616; omega, by show 0 < 18446744073709551616; decide, by show 0 < 18446744073709551616; decide⟩
set_option linter.unusedVariables false in
set_option maxHeartbeats 64000000 in
theorem ownerPlays_walk (a : Option Addr) (m cap : Nat) (ts : List Oa) (w : World) (h : Oas w a ts) (hm : m = ts.length) (h63 : m ≤ 9223372036854775807) :
    Calls Tryz.prog 3 #[.slice a m cap] w fun e w' => e = .returned (.bool true) ∧ Below w.heap.size w w' := by
  have A0 := Lib.hid (awake17_any w)
  have H := Lib.hid h
  have HM := Lib.hid hm
  have SN := Lib.hid (show ∀ z a1 a2 c1 c2 (Y1 Y2 : List Nx) (L : List Nd), L.length ≤ 256 → nds Y1 = L → nds Y2 = L → NL z [] a1 Y1 → NL z [] a2 Y2 → Calls Tryz.prog 18 #[.slice a1 Y1.length c1, .slice a2 Y2.length c2] z (TrueF z) from fun z a1 a2 c1 c2 Y1 Y2 L hL h1 h2 n1 n2 => by
    have e : Y2.length = Y1.length := by rw [← nds_len', ← nds_len', h1, h2]
    rw [e]
    exact sameNodes_true a1 a2 Y1.length c1 c2 Y1 Y2 [] [] z n1 n2 rfl (by rw [h1, h2]) (by rw [← nds_len', h1]; omega))
  clear h hm
  go_enter Tryz.func3, Tryz.ntmps3
  go_wp2_with fail
  (with_reducible refine A0.out.mono ?_)
  rintro e w0 ⟨rfl, hf0⟩
  have F0 := Lib.hid hf0
  have N0 := ko_new w0 4194304 w0 (Frm.refl _ _) (by decide)
  rw [show ((4194304 : Nat) : Int) = 4194304 from rfl] at N0
  have N0 := Lib.hid N0
  clear hf0 A0
  go_wp2_with fail
  (with_reducible refine N0.out.mono ?_)
  rintro e w1 ⟨k, rfl, hk1⟩
  have hT2 := tq_new hk1
  obtain ⟨q, hq⟩ : ∃ q, q = w1.heap.size := ⟨_, rfl⟩
  obtain ⟨w2, hw2⟩ : ∃ w2, w2 = w1.alloc (.cells #[.int .u64 0, .slice none 0 0, .int .u64 0, .slice none 0 0] 35) := ⟨_, rfl⟩
  rw [← hw2, ← hq] at hT2
  have T2 := Lib.hid hT2
  have HW2 := Lib.hid hw2
  have HG := Lib.hid hq
  clear hk1 hT2 hw2 hq N0
  go_upto_region 4 with (fail)
  rw [← HW2.out, ← HG.out]
  clear HW2 HG
  go_wp2
  go_loopw [34] (fun u34 wr => ∃ (j : Nat) (S : MS), j ≤ m ∧ u34 = .int .i64 (j : Nat) ∧ Hid (Tq w0 wr [] k q S S 4194304 (2 * j) (8208 * j))) (fun u34 _ => m - (intOf u34).toNat)
  case atStart => exact ⟨0, {}, Nat.zero_le _, rfl, T2⟩
  case round =>
    clear T2
    obtain ⟨j, S, hj, rfl, HT⟩ := hrel
    by_cases hlt : j < m
    · obtain ⟨b, off, rfl, hat⟩ := H.out (by have := HM.out; omega)
      have hW := (hat j (by have := HM.out; omega)).ok.val_b
      have hin := (hat j (by have := HM.out; omega)).keep (F0.out.trans HT.out.frm (U := []) (by simp) (by simp))
      obtain ⟨t, ht⟩ : ∃ t, t = ts.getD j default := ⟨_, rfl⟩
      rw [← ht] at hin hW
      clear ht hat
      obtain ⟨p0, p1, p2, p3, p4, hok⟩ := hin
      obtain ⟨kd, ses, br, key, va, vc, v⟩ := t
      have hkd := hok.k_lt
      have hses := hok.ses_lt
      have hbr := hok.br_lt
      have hkey := hok.key_le
      have hvn := hok.val_nil
      have hv8 := hok.val_b.1
      simp only at p0 p1 p2 p3 p4 hkd hses hbr hkey hvn hv8 hW
      have hv63 : v.length ≤ 9223372036854775807 := hW.2.1
      have HVW := Lib.hid hW
      have HV8 := Lib.hid hv8
      have HVN := Lib.hid hvn
      obtain ⟨w3, hw3⟩ : ∃ w3, w3 = wr.alloc (.cells #[.int .u8 (kd : Nat), .int .u64 (ses : Nat), .int .u64 (br : Nat), .string key, .slice va v.length vc] 38) := ⟨_, rfl⟩
      obtain ⟨g6, hg6⟩ : ∃ g6, g6 = wr.heap.size := ⟨_, rfl⟩
      have f3 : Frm [] wr w3 := by rw [hw3]; exact (Frm.refl _ _).alloc _
      have B3 : Hid (Whole w3 g6 38 #[.int .u8 (kd : Nat), .int .u64 (ses : Nat), .int .u64 (br : Nat), .string key, .slice va v.length vc]) := Lib.hid (by rw [hw3, hg6]; exact Whole.made _ _ _)
      have HT3 := Lib.hid (HT.out.same f3)
      have FR3 := Lib.hid f3
      have HW3 := Lib.hid hw3
      have HG6 := Lib.hid hg6
      have c3 := B3.out.cell 3
      have c4 := B3.out.cell 4
      simp only [List.getElem?_toArray, List.getElem?_cons_zero, List.getElem?_cons_succ] at c3 c4
      clear hok hW f3 hw3 hg6 hvn hv8
      go_upto_region 7 with (fail)
      rw [← HW3.out, ← HG6.out]
      by_cases hb1 : 60 < j
      · have d1 : decide ((60 : Int) < (j : Int)) = true := decide_eq_true (by omega)
        have HT := HT3
        clear c3 c4 HT3
        as_aux_lemma =>
          have KL : Hid (∀ z, Frm [] w3 z → Calls Tryz.prog 19 #[.pointer (some ⟨k, 0, none⟩), .string ⟨#[]⟩] z fun e w' => ∃ a' c' Y, nds Y = S.nodes ∧ e = .returned (.slice a' Y.length c') ∧ NL w' [] a' Y ∧ Frm [] z w') := Lib.hid (fun z hz => tq_plist (HT.out.same hz))
          have DL : Hid (∀ z, Frm [] w3 z → Calls Tryz.prog 20 #[.pointer (some ⟨q, 1, none⟩), .string ⟨#[]⟩] z fun e w' => ∃ a' c' Y, nds Y = S.nodes ∧ e = .returned (.slice a' Y.length c') ∧ NL w' [] a' Y ∧ Frm [] z w') := Lib.hid (fun z hz => tq_rlist (HT.out.same hz))
          have FL : Hid (S.nodes.length ≤ 256) := Lib.hid HT.out.ok.1.few
          have FE : Hid (∀ z, Frm [] w3 z → Below w.heap.size w z) := Lib.hid (fun z hz => ((F0.out.trans HT.out.frm (U := []) (by simp) (by simp)).trans hz (U := []) (by simp) (by simp)).below (by simp) (Nat.le_refl _))
          clear HT
          go_upto_region 35 with (fail)
          refine wp_region_held_drew (S := fun w' => Frm [] w3 w') (by kernel_rfl) (Frm.drew (Frm.refl _ _)) (fun hHeld => ?_)
          refine wpAnyH_take (i := 0) (oi := ⟨some 210, _, _, _, _, _⟩) (v := ?_) rfl (by kernel_rfl) (by kernel_rfl) (by kernel_rfl) (fun _ _ _ h => h) (Or.inl ⟨by rfl, ?_⟩) (by assumption) ?_
          rotate_left 1
          · (intro w hSw; (try dsimp only at hSw); go_simp; all_goals with_reducible rfl)
          try simp only [Act.put, List.setIfInBounds_toArray, List.set_cons_zero, List.set_cons_succ]
          refine wpAnyH_take (i := 2) (oi := ⟨some 212, _, _, _, _, _⟩) (v := ?_) rfl (by kernel_rfl) (by kernel_rfl) (by kernel_rfl) (fun _ _ _ h => h) (Or.inl ⟨by rfl, ?_⟩) (by assumption) ?_
          rotate_left 1
          · (intro w hSw; (try dsimp only at hSw); go_simp; all_goals with_reducible rfl)
          try simp only [Act.put, List.setIfInBounds_toArray, List.set_cons_zero, List.set_cons_succ]
          refine wpAnyH_take (i := 3) (oi := ⟨some 213, _, _, _, _, _⟩) (v := ?_) rfl (by kernel_rfl) (by kernel_rfl) (by kernel_rfl) (fun _ _ _ h => h) (Or.inl ⟨by rfl, ?_⟩) (by assumption) ?_
          rotate_left 1
          · (intro w hSw; (try dsimp only at hSw); go_simp; all_goals with_reducible rfl)
          try simp only [Act.put, List.setIfInBounds_toArray, List.set_cons_zero, List.set_cons_succ]
          refine wpAnyH_take (i := 4) (oi := ⟨some 214, _, _, _, _, _⟩) (v := ?_) rfl (by kernel_rfl) (by kernel_rfl) (by kernel_rfl) (fun _ _ _ h => h) (Or.inl ⟨by rfl, ?_⟩) (by assumption) ?_
          rotate_left 1
          · (intro w hSw; (try dsimp only at hSw); go_simp; all_goals with_reducible rfl)
          try simp only [Act.put, List.setIfInBounds_toArray, List.set_cons_zero, List.set_cons_succ]
          refine wpAnyH_ready (rs := [1]) (by kernel_rfl) (by simp) ?_
          refine AllReadyH.cons (o := ⟨some 211, _, _, _, _, _⟩) rfl (fun K hK => ?_) AllReadyH.nil
          go_simp
          ((with_reducible refine (KL.out _ (Frm.drew (Frm.refl [] w3))).mono ?_); rintro e wa ⟨a1, c1, Y1, hy1, rfl, hn1, hfa⟩; have S2 : Frm [] w3 wa := (Frm.drew (Frm.refl [] w3)).trans hfa (by simp) (by simp); clear hfa)
          go_wp2_with fail
          refine hK.out _ _ (by assumption) (fun hHeld => ?_)
          clear hK K
          try simp only [Act.put, List.setIfInBounds_toArray, List.set_cons_zero, List.set_cons_succ]
          refine wpAnyH_ready (rs := [5]) (by kernel_rfl) (by simp) ?_
          refine AllReadyH.cons (o := ⟨some 215, _, _, _, _, _⟩) rfl (fun K hK => ?_) AllReadyH.nil
          go_simp
          ((with_reducible refine (DL.out _ S2).mono ?_); rintro e wb ⟨a2, c2, Y2, hy2, rfl, hn2, hfb⟩; have S3 : Frm [] w3 wb := S2.trans hfb (by simp) (by simp))
          go_wp2_with fail
          refine hK.out _ _ (by assumption) (fun hHeld => ?_)
          clear hK K
          try simp only [Act.put, List.setIfInBounds_toArray, List.set_cons_zero, List.set_cons_succ]
          refine wpAnyH_ready (rs := [6]) (by kernel_rfl) (by simp) ?_
          refine AllReadyH.cons (o := ⟨some 216, _, _, _, _, _⟩) rfl (fun K hK => ?_) AllReadyH.nil
          go_simp
          ((with_reducible refine (SN.out wb _ _ _ _ _ _ _ FL.out hy1 hy2 (hn1.keep hfb (by simp) (by simp)) hn2).mono ?_); rintro e wc2 ⟨rfl, hfc⟩; have S4 : Frm [] w3 wc2 := S3.trans hfc (by simp) (by simp))
          go_wp2_with fail
          refine hK.out _ _ (by assumption) (fun hHeld => ?_)
          clear hK K
          try simp only [Act.put, List.setIfInBounds_toArray, List.set_cons_zero, List.set_cons_succ]
          refine wpAnyH_take (i := 7) (oi := ⟨some 2, _, _, _, _, _⟩) (v := ?_) rfl (by kernel_rfl) (by kernel_rfl) (by kernel_rfl) (fun _ _ _ h => h) (Or.inl ⟨by rfl, ?_⟩) (by assumption) ?_
          rotate_left 1
          · (intro w hSw; (try dsimp only at hSw); go_simp; all_goals with_reducible rfl)
          try simp only [Act.put, List.setIfInBounds_toArray, List.set_cons_zero, List.set_cons_succ]
          refine wpAnyH_done (by kernel_rfl) ?_ _
          have FIN := Lib.hid (FE.out _ S4)
          go_wp2
          go_ret
          exact ⟨rfl, FIN.out⟩
      have d1 : decide ((60 : Int) < (j : Int)) = false := decide_eq_false (by omega)
      by_cases hb2 : 100 < key.size
      · have d2 : decide ((100 : Int) < (key.size : Int)) = true := decide_eq_true (by omega)
        have HT := HT3
        clear c4 HT3
        as_aux_lemma =>
          have KL : Hid (∀ z, Frm [] w3 z → Calls Tryz.prog 19 #[.pointer (some ⟨k, 0, none⟩), .string ⟨#[]⟩] z fun e w' => ∃ a' c' Y, nds Y = S.nodes ∧ e = .returned (.slice a' Y.length c') ∧ NL w' [] a' Y ∧ Frm [] z w') := Lib.hid (fun z hz => tq_plist (HT.out.same hz))
          have DL : Hid (∀ z, Frm [] w3 z → Calls Tryz.prog 20 #[.pointer (some ⟨q, 1, none⟩), .string ⟨#[]⟩] z fun e w' => ∃ a' c' Y, nds Y = S.nodes ∧ e = .returned (.slice a' Y.length c') ∧ NL w' [] a' Y ∧ Frm [] z w') := Lib.hid (fun z hz => tq_rlist (HT.out.same hz))
          have FL : Hid (S.nodes.length ≤ 256) := Lib.hid HT.out.ok.1.few
          have FE : Hid (∀ z, Frm [] w3 z → Below w.heap.size w z) := Lib.hid (fun z hz => ((F0.out.trans HT.out.frm (U := []) (by simp) (by simp)).trans hz (U := []) (by simp) (by simp)).below (by simp) (Nat.le_refl _))
          clear HT
          go_upto_region 35 with (fail)
          refine wp_region_held_drew (S := fun w' => Frm [] w3 w') (by kernel_rfl) (Frm.drew (Frm.refl _ _)) (fun hHeld => ?_)
          refine wpAnyH_take (i := 0) (oi := ⟨some 210, _, _, _, _, _⟩) (v := ?_) rfl (by kernel_rfl) (by kernel_rfl) (by kernel_rfl) (fun _ _ _ h => h) (Or.inl ⟨by rfl, ?_⟩) (by assumption) ?_
          rotate_left 1
          · (intro w hSw; (try dsimp only at hSw); go_simp; all_goals with_reducible rfl)
          try simp only [Act.put, List.setIfInBounds_toArray, List.set_cons_zero, List.set_cons_succ]
          refine wpAnyH_take (i := 2) (oi := ⟨some 212, _, _, _, _, _⟩) (v := ?_) rfl (by kernel_rfl) (by kernel_rfl) (by kernel_rfl) (fun _ _ _ h => h) (Or.inl ⟨by rfl, ?_⟩) (by assumption) ?_
          rotate_left 1
          · (intro w hSw; (try dsimp only at hSw); go_simp; all_goals with_reducible rfl)
          try simp only [Act.put, List.setIfInBounds_toArray, List.set_cons_zero, List.set_cons_succ]
          refine wpAnyH_take (i := 3) (oi := ⟨some 213, _, _, _, _, _⟩) (v := ?_) rfl (by kernel_rfl) (by kernel_rfl) (by kernel_rfl) (fun _ _ _ h => h) (Or.inl ⟨by rfl, ?_⟩) (by assumption) ?_
          rotate_left 1
          · (intro w hSw; (try dsimp only at hSw); go_simp; all_goals with_reducible rfl)
          try simp only [Act.put, List.setIfInBounds_toArray, List.set_cons_zero, List.set_cons_succ]
          refine wpAnyH_take (i := 4) (oi := ⟨some 214, _, _, _, _, _⟩) (v := ?_) rfl (by kernel_rfl) (by kernel_rfl) (by kernel_rfl) (fun _ _ _ h => h) (Or.inl ⟨by rfl, ?_⟩) (by assumption) ?_
          rotate_left 1
          · (intro w hSw; (try dsimp only at hSw); go_simp; all_goals with_reducible rfl)
          try simp only [Act.put, List.setIfInBounds_toArray, List.set_cons_zero, List.set_cons_succ]
          refine wpAnyH_ready (rs := [1]) (by kernel_rfl) (by simp) ?_
          refine AllReadyH.cons (o := ⟨some 211, _, _, _, _, _⟩) rfl (fun K hK => ?_) AllReadyH.nil
          go_simp
          ((with_reducible refine (KL.out _ (Frm.drew (Frm.refl [] w3))).mono ?_); rintro e wa ⟨a1, c1, Y1, hy1, rfl, hn1, hfa⟩; have S2 : Frm [] w3 wa := (Frm.drew (Frm.refl [] w3)).trans hfa (by simp) (by simp); clear hfa)
          go_wp2_with fail
          refine hK.out _ _ (by assumption) (fun hHeld => ?_)
          clear hK K
          try simp only [Act.put, List.setIfInBounds_toArray, List.set_cons_zero, List.set_cons_succ]
          refine wpAnyH_ready (rs := [5]) (by kernel_rfl) (by simp) ?_
          refine AllReadyH.cons (o := ⟨some 215, _, _, _, _, _⟩) rfl (fun K hK => ?_) AllReadyH.nil
          go_simp
          ((with_reducible refine (DL.out _ S2).mono ?_); rintro e wb ⟨a2, c2, Y2, hy2, rfl, hn2, hfb⟩; have S3 : Frm [] w3 wb := S2.trans hfb (by simp) (by simp))
          go_wp2_with fail
          refine hK.out _ _ (by assumption) (fun hHeld => ?_)
          clear hK K
          try simp only [Act.put, List.setIfInBounds_toArray, List.set_cons_zero, List.set_cons_succ]
          refine wpAnyH_ready (rs := [6]) (by kernel_rfl) (by simp) ?_
          refine AllReadyH.cons (o := ⟨some 216, _, _, _, _, _⟩) rfl (fun K hK => ?_) AllReadyH.nil
          go_simp
          ((with_reducible refine (SN.out wb _ _ _ _ _ _ _ FL.out hy1 hy2 (hn1.keep hfb (by simp) (by simp)) hn2).mono ?_); rintro e wc2 ⟨rfl, hfc⟩; have S4 : Frm [] w3 wc2 := S3.trans hfc (by simp) (by simp))
          go_wp2_with fail
          refine hK.out _ _ (by assumption) (fun hHeld => ?_)
          clear hK K
          try simp only [Act.put, List.setIfInBounds_toArray, List.set_cons_zero, List.set_cons_succ]
          refine wpAnyH_take (i := 7) (oi := ⟨some 2, _, _, _, _, _⟩) (v := ?_) rfl (by kernel_rfl) (by kernel_rfl) (by kernel_rfl) (fun _ _ _ h => h) (Or.inl ⟨by rfl, ?_⟩) (by assumption) ?_
          rotate_left 1
          · (intro w hSw; (try dsimp only at hSw); go_simp; all_goals with_reducible rfl)
          try simp only [Act.put, List.setIfInBounds_toArray, List.set_cons_zero, List.set_cons_succ]
          refine wpAnyH_done (by kernel_rfl) ?_ _
          have FIN := Lib.hid (FE.out _ S4)
          go_wp2
          go_ret
          exact ⟨rfl, FIN.out⟩
      have d2 : decide ((100 : Int) < (key.size : Int)) = false := decide_eq_false (by omega)
      by_cases hb3 : 100 < v.length
      · have d3 : decide ((100 : Int) < (v.length : Int)) = true := decide_eq_true (by omega)
        have HT := HT3
        clear HT3
        as_aux_lemma =>
          have KL : Hid (∀ z, Frm [] w3 z → Calls Tryz.prog 19 #[.pointer (some ⟨k, 0, none⟩), .string ⟨#[]⟩] z fun e w' => ∃ a' c' Y, nds Y = S.nodes ∧ e = .returned (.slice a' Y.length c') ∧ NL w' [] a' Y ∧ Frm [] z w') := Lib.hid (fun z hz => tq_plist (HT.out.same hz))
          have DL : Hid (∀ z, Frm [] w3 z → Calls Tryz.prog 20 #[.pointer (some ⟨q, 1, none⟩), .string ⟨#[]⟩] z fun e w' => ∃ a' c' Y, nds Y = S.nodes ∧ e = .returned (.slice a' Y.length c') ∧ NL w' [] a' Y ∧ Frm [] z w') := Lib.hid (fun z hz => tq_rlist (HT.out.same hz))
          have FL : Hid (S.nodes.length ≤ 256) := Lib.hid HT.out.ok.1.few
          have FE : Hid (∀ z, Frm [] w3 z → Below w.heap.size w z) := Lib.hid (fun z hz => ((F0.out.trans HT.out.frm (U := []) (by simp) (by simp)).trans hz (U := []) (by simp) (by simp)).below (by simp) (Nat.le_refl _))
          clear HT
          go_upto_region 35 with (fail)
          refine wp_region_held_drew (S := fun w' => Frm [] w3 w') (by kernel_rfl) (Frm.drew (Frm.refl _ _)) (fun hHeld => ?_)
          refine wpAnyH_take (i := 0) (oi := ⟨some 210, _, _, _, _, _⟩) (v := ?_) rfl (by kernel_rfl) (by kernel_rfl) (by kernel_rfl) (fun _ _ _ h => h) (Or.inl ⟨by rfl, ?_⟩) (by assumption) ?_
          rotate_left 1
          · (intro w hSw; (try dsimp only at hSw); go_simp; all_goals with_reducible rfl)
          try simp only [Act.put, List.setIfInBounds_toArray, List.set_cons_zero, List.set_cons_succ]
          refine wpAnyH_take (i := 2) (oi := ⟨some 212, _, _, _, _, _⟩) (v := ?_) rfl (by kernel_rfl) (by kernel_rfl) (by kernel_rfl) (fun _ _ _ h => h) (Or.inl ⟨by rfl, ?_⟩) (by assumption) ?_
          rotate_left 1
          · (intro w hSw; (try dsimp only at hSw); go_simp; all_goals with_reducible rfl)
          try simp only [Act.put, List.setIfInBounds_toArray, List.set_cons_zero, List.set_cons_succ]
          refine wpAnyH_take (i := 3) (oi := ⟨some 213, _, _, _, _, _⟩) (v := ?_) rfl (by kernel_rfl) (by kernel_rfl) (by kernel_rfl) (fun _ _ _ h => h) (Or.inl ⟨by rfl, ?_⟩) (by assumption) ?_
          rotate_left 1
          · (intro w hSw; (try dsimp only at hSw); go_simp; all_goals with_reducible rfl)
          try simp only [Act.put, List.setIfInBounds_toArray, List.set_cons_zero, List.set_cons_succ]
          refine wpAnyH_take (i := 4) (oi := ⟨some 214, _, _, _, _, _⟩) (v := ?_) rfl (by kernel_rfl) (by kernel_rfl) (by kernel_rfl) (fun _ _ _ h => h) (Or.inl ⟨by rfl, ?_⟩) (by assumption) ?_
          rotate_left 1
          · (intro w hSw; (try dsimp only at hSw); go_simp; all_goals with_reducible rfl)
          try simp only [Act.put, List.setIfInBounds_toArray, List.set_cons_zero, List.set_cons_succ]
          refine wpAnyH_ready (rs := [1]) (by kernel_rfl) (by simp) ?_
          refine AllReadyH.cons (o := ⟨some 211, _, _, _, _, _⟩) rfl (fun K hK => ?_) AllReadyH.nil
          go_simp
          ((with_reducible refine (KL.out _ (Frm.drew (Frm.refl [] w3))).mono ?_); rintro e wa ⟨a1, c1, Y1, hy1, rfl, hn1, hfa⟩; have S2 : Frm [] w3 wa := (Frm.drew (Frm.refl [] w3)).trans hfa (by simp) (by simp); clear hfa)
          go_wp2_with fail
          refine hK.out _ _ (by assumption) (fun hHeld => ?_)
          clear hK K
          try simp only [Act.put, List.setIfInBounds_toArray, List.set_cons_zero, List.set_cons_succ]
          refine wpAnyH_ready (rs := [5]) (by kernel_rfl) (by simp) ?_
          refine AllReadyH.cons (o := ⟨some 215, _, _, _, _, _⟩) rfl (fun K hK => ?_) AllReadyH.nil
          go_simp
          ((with_reducible refine (DL.out _ S2).mono ?_); rintro e wb ⟨a2, c2, Y2, hy2, rfl, hn2, hfb⟩; have S3 : Frm [] w3 wb := S2.trans hfb (by simp) (by simp))
          go_wp2_with fail
          refine hK.out _ _ (by assumption) (fun hHeld => ?_)
          clear hK K
          try simp only [Act.put, List.setIfInBounds_toArray, List.set_cons_zero, List.set_cons_succ]
          refine wpAnyH_ready (rs := [6]) (by kernel_rfl) (by simp) ?_
          refine AllReadyH.cons (o := ⟨some 216, _, _, _, _, _⟩) rfl (fun K hK => ?_) AllReadyH.nil
          go_simp
          ((with_reducible refine (SN.out wb _ _ _ _ _ _ _ FL.out hy1 hy2 (hn1.keep hfb (by simp) (by simp)) hn2).mono ?_); rintro e wc2 ⟨rfl, hfc⟩; have S4 : Frm [] w3 wc2 := S3.trans hfc (by simp) (by simp))
          go_wp2_with fail
          refine hK.out _ _ (by assumption) (fun hHeld => ?_)
          clear hK K
          try simp only [Act.put, List.setIfInBounds_toArray, List.set_cons_zero, List.set_cons_succ]
          refine wpAnyH_take (i := 7) (oi := ⟨some 2, _, _, _, _, _⟩) (v := ?_) rfl (by kernel_rfl) (by kernel_rfl) (by kernel_rfl) (fun _ _ _ h => h) (Or.inl ⟨by rfl, ?_⟩) (by assumption) ?_
          rotate_left 1
          · (intro w hSw; (try dsimp only at hSw); go_simp; all_goals with_reducible rfl)
          try simp only [Act.put, List.setIfInBounds_toArray, List.set_cons_zero, List.set_cons_succ]
          refine wpAnyH_done (by kernel_rfl) ?_ _
          have FIN := Lib.hid (FE.out _ S4)
          go_wp2
          go_ret
          exact ⟨rfl, FIN.out⟩
      have d3 : decide ((100 : Int) < (v.length : Int)) = false := decide_eq_false (by omega)
      clear HT3
      go_upto_if 57 with (fail)
      go_cut [7, 34] from 34 to 209 (fun v7 v34 wx => v34 = .int .i64 (j : Nat) ∧ ∃ s : ByteArray, v7 = .string s ∧ Hid (s.size ≤ 100) ∧ Hid (Frm [] w3 wx))
      case first =>
        clear d1 d2 d3
        by_cases h40 : key.size < 40
        · have d1 : decide ((key.size : Int) < (40 : Int)) = true := decide_eq_true (by omega)
          rcases (by omega : key.size % 3 = 0 ∨ key.size % 3 = 1 ∨ key.size % 3 = 2) with e3 | e3 | e3
          · have r1 : (key.size : Int).tmod 3 = 0 := by rw [Int.tmod_eq_emod_of_nonneg (by omega)]; omega
            have r2 : (key.size : Int) % 3 = 0 := by omega
            clear e3
            go_wp2_with fail
            go_meet
            case rel => exact ⟨rfl, _, rfl, Lib.hid (by decide), Lib.hid (by repeat (first | assumption | apply Frm.drew | apply Frm.alloc | exact Frm.refl _ _))⟩
          · have r1 : (key.size : Int).tmod 3 = 1 := by rw [Int.tmod_eq_emod_of_nonneg (by omega)]; omega
            have r2 : (key.size : Int) % 3 = 1 := by omega
            clear e3
            go_wp2_with fail
            go_meet
            case rel => exact ⟨rfl, _, rfl, Lib.hid (by decide), Lib.hid (by repeat (first | assumption | apply Frm.drew | apply Frm.alloc | exact Frm.refl _ _))⟩
          · have r1 : (key.size : Int).tmod 3 = 2 := by rw [Int.tmod_eq_emod_of_nonneg (by omega)]; omega
            have r2 : (key.size : Int) % 3 = 2 := by omega
            clear e3
            go_wp2_with fail
            go_meet
            case rel => exact ⟨rfl, _, rfl, Lib.hid (by decide), Lib.hid (by repeat (first | assumption | apply Frm.drew | apply Frm.alloc | exact Frm.refl _ _))⟩
        · have d1 : decide ((key.size : Int) < (40 : Int)) = false := decide_eq_false (by omega)
          go_wp2_with fail
          go_meet
          case rel => exact ⟨rfl, _, rfl, Lib.hid (by omega), Lib.hid (Frm.refl _ _)⟩
      case rest =>
        obtain ⟨rfl, s, rfl, HS, HF4⟩ := hcut
        rename World => w4
        obtain ⟨m6, hm6⟩ : ∃ m6, m6 = kd % 6 := ⟨_, rfl⟩
        obtain ⟨s5, hs5⟩ : ∃ s5, s5 = ses % 5 := ⟨_, rfl⟩
        obtain ⟨b9, hb9⟩ : ∃ b9, b9 = br % 9 := ⟨_, rfl⟩
        obtain ⟨o9, ho9⟩ : ∃ o9, o9 = 1 + b9 := ⟨_, rfl⟩
        have t1 : (kd : Int).tmod 6 = (m6 : Int) := by rw [Int.tmod_eq_emod_of_nonneg (by omega)]; omega
        have t2 : (kd : Int) % 6 = (m6 : Int) := by omega
        have t3 : (ses : Int).tmod 5 = (s5 : Int) := by rw [Int.tmod_eq_emod_of_nonneg (by omega)]; omega
        have t4 : (ses : Int) % 5 = (s5 : Int) := by omega
        have t5 : (br : Int).tmod 9 = (b9 : Int) := by rw [Int.tmod_eq_emod_of_nonneg (by omega)]; omega
        have t6 : (br : Int) % 9 = (b9 : Int) := by omega
        have t7 : (1 : Int) + (b9 : Int) = (o9 : Int) := by omega
        have v1 : IntKind.u8.wrap (m6 : Int) = (m6 : Int) := by simp [IntKind.wrap, IntKind.bits, IntKind.signed]; omega
        have v2 : IntKind.u64.wrap (s5 : Int) = (s5 : Int) := by simp [IntKind.wrap, IntKind.bits, IntKind.signed]; omega
        have v3 : IntKind.u64.wrap (b9 : Int) = (b9 : Int) := by simp [IntKind.wrap, IntKind.bits, IntKind.signed]; omega
        have v4 : IntKind.u64.wrap (o9 : Int) = (o9 : Int) := by simp [IntKind.wrap, IntKind.bits, IntKind.signed]; omega
        have hm66 : m6 = 0 ∨ m6 = 1 ∨ m6 = 2 ∨ m6 = 3 ∨ m6 = 4 ∨ m6 = 5 := by omega
        have hs5l : s5 < 5 := by omega
        have ho9l : o9 < 10 := by omega
        clear hm6 hs5 hb9 ho9 d1 d2 d3 c3 c4
        have b4 := HF4.out.whole B3.out (by simp)
        have c0 := b4.cell 0
        have c1 := b4.cell 1
        have c2 := b4.cell 2
        have c4 := b4.cell 4
        simp only [List.getElem?_toArray, List.getElem?_cons_zero, List.getElem?_cons_succ] at c0 c1 c2 c4
        obtain ⟨g9, hg9⟩ : ∃ g9, g9 = w4.heap.size := ⟨_, rfl⟩
        obtain ⟨w5, hw5⟩ : ∃ w5, w5 = w4.alloc (.cells #[.int .u8 3, .string ⟨#[]⟩, .slice none 0 0, .int .u64 0, .int .u64 0, .int .u64 (o9 : Nat)] 42) := ⟨_, rfl⟩
        have f45 : Frm [] w4 w5 := by rw [hw5]; exact (Frm.refl _ _).alloc _
        have f35 : Frm [] wr w5 := (FR3.out.trans HF4.out (U := []) (by simp) (by simp)).trans f45 (by simp) (by simp)
        have B9 : Hid (Whole w5 g9 42 #[.int .u8 3, .string ⟨#[]⟩, .slice none 0 0, .int .u64 0, .int .u64 0, .int .u64 (o9 : Nat)]) := Lib.hid (by rw [hw5, hg9]; exact Whole.made _ _ _)
        have B6 := Lib.hid (f45.whole b4 (by simp))
        have G6L : Hid (wr.heap.size ≤ g6 ∧ g6 < w4.heap.size) := Lib.hid ⟨by rw [HG6.out]; exact Nat.le_refl _, b4.lt⟩
        have GNE : Hid (g6 ≠ g9) := Lib.hid (by have := G6L.out.2; omega)
        have HT5 : Hid (Tq w0 w5 [g9, g6] k q S S 4194304 (2 * j) (8208 * j)) := Lib.hid (HT.out.here f35 (fun x hx => by
          have := HF4.out.size
          have := FR3.out.size
          have := G6L.out.1
          simp at hx
          rcases hx with rfl | rfl
          · exact .inr (by omega)
          · exact .inr this) (fun x hx => by
          simp at hx
          rcases hx with rfl | rfl
          · exact B9.out.lt
          · exact B6.out.lt))
        have FR5 := Lib.hid f35
        have HB9 : Hid (w0.heap.size ≤ g9) := Lib.hid (by have := HT.out.frm.size; have := HF4.out.size; have := FR3.out.size; omega)
        have HW5 := Lib.hid hw5
        have HG9 := Lib.hid hg9
        clear b4 f45 f35 hw5 hg9
        go_upto_region 13 with (fail)
        rw [← HW5.out, ← HG9.out]
        clear c0 c1 c2 c4
        have c0 := B6.out.cell 0
        have c1 := B6.out.cell 1
        have c2 := B6.out.cell 2
        have c4 := B6.out.cell 4
        simp only [List.getElem?_toArray, List.getElem?_cons_zero, List.getElem?_cons_succ] at c0 c1 c2 c4
        rcases hm66 with rfl | rfl | rfl | rfl | rfl | rfl
        ·
          as_aux_lemma =>
            have PA := tq_pacq s5 br s HT5.out (by omega) (by omega) hbr (by have := HS.out; omega) (by omega)
            obtain ⟨R, hR⟩ : ∃ R, R = acqR S s5 br s := ⟨_, rfl⟩
            obtain ⟨E, hE⟩ : ∃ E, E = acqE S s5 br s := ⟨_, rfl⟩
            rw [← hR, ← hE] at PA
            have PA := Lib.hid PA
            go_wp2_with fail
            (with_reducible refine PA.out.mono ?_)
            rintro e w6 ⟨rfl, ht6, hz6⟩
            have B66 := hz6 g6 (by simp) _ _ B6.out
            have RA := tq_racq s5 br s ht6 (by omega) hbr (by have := HS.out; omega)
            rw [← hR, ← hE] at RA
            have RA := Lib.hid RA
            have c2' := B66.cell 2
            simp only [List.getElem?_toArray, List.getElem?_cons_zero, List.getElem?_cons_succ] at c2'
            clear hR hE ht6 hz6 PA B66 c0 c1 c2 c4
            go_wp2_with fail
            (with_reducible refine RA.out.mono ?_)
            rintro e w7 ⟨rfl, ht7, _⟩
            have R9 : Hid (Tq w0 w7 [] k q (acqS S s5 br s) (acqS S s5 br s) 4194304 (2 * (j + 1)) (8208 * (j + 1))) := Lib.hid ((ht7.here (Frm.refl _ _) (by simp) (by simp)).more (by omega) (by omega))
            have x1 : ((R : Int) != (R : Int)) = false := by simp
            have x2 : ((E : Int) != (E : Int)) = false := by simp
            clear ht7 RA c2'
            go_wp2
            go_roundw
            case rel => exact ⟨j + 1, _, by omega, by go_num, R9⟩
            case measure => simp [intOf]; omega
        ·
          as_aux_lemma =>
            have PA := tq_pacq s5 br s HT5.out (by omega) (by omega) hbr (by have := HS.out; omega) (by omega)
            obtain ⟨R, hR⟩ : ∃ R, R = acqR S s5 br s := ⟨_, rfl⟩
            obtain ⟨E, hE⟩ : ∃ E, E = acqE S s5 br s := ⟨_, rfl⟩
            rw [← hR, ← hE] at PA
            have PA := Lib.hid PA
            go_wp2_with fail
            (with_reducible refine PA.out.mono ?_)
            rintro e w6 ⟨rfl, ht6, hz6⟩
            have B66 := hz6 g6 (by simp) _ _ B6.out
            have RA := tq_racq s5 br s ht6 (by omega) hbr (by have := HS.out; omega)
            rw [← hR, ← hE] at RA
            have RA := Lib.hid RA
            have c2' := B66.cell 2
            simp only [List.getElem?_toArray, List.getElem?_cons_zero, List.getElem?_cons_succ] at c2'
            clear hR hE ht6 hz6 PA B66 c0 c1 c2 c4
            go_wp2_with fail
            (with_reducible refine RA.out.mono ?_)
            rintro e w7 ⟨rfl, ht7, _⟩
            have R9 : Hid (Tq w0 w7 [] k q (acqS S s5 br s) (acqS S s5 br s) 4194304 (2 * (j + 1)) (8208 * (j + 1))) := Lib.hid ((ht7.here (Frm.refl _ _) (by simp) (by simp)).more (by omega) (by omega))
            have x1 : ((R : Int) != (R : Int)) = false := by simp
            have x2 : ((E : Int) != (E : Int)) = false := by simp
            clear ht7 RA c2'
            go_wp2
            go_roundw
            case rel => exact ⟨j + 1, _, by omega, by go_num, R9⟩
            case measure => simp [intOf]; omega
        ·
          as_aux_lemma =>
            have PA := tq_prel s5 s HT5.out (by omega) (by have := HS.out; omega) (by omega)
            obtain ⟨E, hE⟩ : ∃ E, E = relE S s5 s := ⟨_, rfl⟩
            rw [← hE] at PA
            have PA := Lib.hid PA
            go_wp2_with fail
            (with_reducible refine PA.out.mono ?_)
            rintro e w6 ⟨rfl, ht6, _⟩
            have RA := tq_rrel s5 s ht6 (by omega) (by have := HS.out; omega)
            rw [← hE] at RA
            have RA := Lib.hid RA
            clear hE ht6 PA
            go_wp2_with fail
            (with_reducible refine RA.out.mono ?_)
            rintro e w7 ⟨rfl, ht7, _⟩
            have R9 : Hid (Tq w0 w7 [] k q (relS S s5 s) (relS S s5 s) 4194304 (2 * (j + 1)) (8208 * (j + 1))) := Lib.hid ((ht7.here (Frm.refl _ _) (by simp) (by simp)).more (by omega) (by omega))
            have x2 : ((E : Int) != (E : Int)) = false := by simp
            clear ht7 RA
            go_wp2
            go_roundw
            case rel => exact ⟨j + 1, _, by omega, by go_num, R9⟩
            case measure => simp [intOf]; omega
        ·
          have BC : Hid (Whole w5 g9 42 #[.int .u8 3, .string ⟨#[]⟩, .slice none 0 0, .int .u64 0, .int .u64 0, .int .u64 (o9 : Nat)]) := B9
          have T6 := HT5
          have HBV : Hid (∀ z, Frm [] w0 z → Bytes z none []) := Lib.hid (fun _ _ => Bytes.nil _)
          have HC : Hid (MCOk { kind := 3, ticks := o9 } ∧ Bytes w5 none [] ∧ (3 : Nat) ≠ 7 ∧ (0 : Nat) ≤ 4000) := Lib.hid ⟨opn9_ok (by omega), Bytes.nil _, by decide, by decide⟩
          clear HT5 B9
          as_aux_lemma =>
            have d0 := BC.out.cell 0
            have d1 := BC.out.cell 1
            have d2 := BC.out.cell 2
            have d3 := BC.out.cell 3
            have d4 := BC.out.cell 4
            have d5 := BC.out.cell 5
            simp only [List.getElem?_toArray, List.getElem?_cons_zero, List.getElem?_cons_succ] at d0 d1 d2 d3 d4 d5
            have PD := tq_pdo ({ kind := 3, ticks := o9 } : MC) none 0 T6.out (by omega) HC.out.1 HC.out.2.1 (fun _ => rfl) HC.out.2.2.1 HC.out.2.2.2 (by omega)
            rw [show cmdV ({ kind := 3, ticks := o9 } : MC) none 0 = .agg #[.int .u8 3, .string ⟨#[]⟩, .slice none 0 0, .int .u64 0, .int .u64 0, .int .u64 (o9 : Nat)] from rfl] at PD
            obtain ⟨E, hE⟩ : ∃ E, E = doE S ({ kind := 3, ticks := o9 } : MC) := ⟨_, rfl⟩
            obtain ⟨S1, hS1⟩ : ∃ S1, S1 = doS S ({ kind := 3, ticks := o9 } : MC) := ⟨_, rfl⟩
            rw [← hE, ← hS1] at PD
            have PD := Lib.hid PD
            go_wp2_with fail
            (with_reducible refine PD.out.mono ?_)
            rintro e w7 ⟨r7, ga7, gn7, gc7, rfl, ht7, hz7⟩
            have BC7 := hz7 g9 (by simp) _ _ BC.out
            clear d0 d1 d2 d3 d4 d5
            have d0 := BC7.cell 0
            have d1 := BC7.cell 1
            have d2 := BC7.cell 2
            have d3 := BC7.cell 3
            have d4 := BC7.cell 4
            have d5 := BC7.cell 5
            simp only [List.getElem?_toArray, List.getElem?_cons_zero, List.getElem?_cons_succ] at d0 d1 d2 d3 d4 d5
            have RD := tq_rdo ({ kind := 3, ticks := o9 } : MC) none 0 ht7 HC.out.1 (HBV.out w7 ht7.frm) (fun _ => rfl)
            rw [show cmdV ({ kind := 3, ticks := o9 } : MC) none 0 = .agg #[.int .u8 3, .string ⟨#[]⟩, .slice none 0 0, .int .u64 0, .int .u64 0, .int .u64 (o9 : Nat)] from rfl] at RD
            rw [← hE, ← hS1] at RD
            have RD := Lib.hid RD
            clear hE hS1 ht7 hz7 PD BC7
            go_wp2_with fail
            (with_reducible refine RD.out.mono ?_)
            rintro e w8 ⟨r8, ga8, gn8, gc8, rfl, ht8, _⟩
            clear d0 d1 d2 d3 d4 d5
            have T8 := Lib.hid ht8
            have HV := Lib.hid (tq_hld s ht8 (by have := HS.out; omega))
            clear ht8 RD
            go_wp2_with fail
            (with_reducible refine HV.out.mono ?_)
            intro e w9 hr9
            obtain ⟨rfl, hf9⟩ := hr9
            have T9 := Lib.hid (T8.out.same hf9)
            have G1 : Hid _ := Lib.hid (tq_get (ownK s) T9.out)
            obtain ⟨d, hd⟩ : ∃ d, d = getN S1.nodes (ownK s) := ⟨_, rfl⟩
            obtain ⟨c, hc⟩ : ∃ c, c = getN S1.nodes (epK s) := ⟨_, rfl⟩
            obtain ⟨is, his⟩ : ∃ is, is = isN S1.nodes (ownK s) := ⟨_, rfl⟩
            obtain ⟨ie, hie⟩ : ∃ ie, ie = isN S1.nodes (epK s) := ⟨_, rfl⟩
            have hv : hldV S1 s = if is = true then .tuple #[.int .u64 (numB d.v : Nat), .int .u64 (numB c.v : Nat), .bool true] else .tuple #[.int .u64 0, .int .u64 0, .bool false] := by unfold hldV; rw [his, hd, hc]; rfl
            rw [hv]
            have GE2 : Hid (∀ z, Frm [] w9 z → Calls Tryz.prog 16 #[.pointer (some ⟨q, 1, none⟩), .string (epK s)] z fun e w' => ∃ a c', e = .returned (.tuple #[.agg #[.string c.k, .slice a c.v.length c', .int .u64 (c.ver : Nat), .int .u64 (c.own : Nat)], .bool ie]) ∧ Bytes w' a c.v ∧ Frm [] z w') := Lib.hid (fun z hz => by rw [hc, hie]; exact tq_get (epK s) (T9.out.same hz))
            rw [← hd, ← his] at G1
            unfold ownK at G1
            unfold epK at GE2

            obtain ⟨dk, dv, dver, down⟩ := d
            obtain ⟨ck, cv, cver, cown⟩ := c
            simp only at G1 GE2
            have R9 : Hid (∀ z, Frm [] w9 z → Tq w0 z [] k q S1 S1 4194304 (2 * (j + 1)) (8208 * (j + 1))) := Lib.hid (fun z hz => ((T9.out.same hz).here (Frm.refl _ _) (by simp) (by simp)).more (by omega) (by omega))
            have nl4 : ¬ 9223372036854775807 < 4 + s.size := by have := HS.out; omega
            have nl6 : ¬ 9223372036854775807 < 6 + s.size := by have := HS.out; omega
            have x2 : ((E : Int) != (E : Int)) = false := by simp
            clear hd hc his hie hv hf9 HV T8 T9
            cases is
            · rw [if_neg (show ¬ (false = true) by decide)]
              go_wp2_with fail
              (with_reducible refine G1.out.mono ?_)
              rintro e w10 ⟨oa, oc, rfl, hbo, hf10⟩
              have GE2 := Lib.hid (GE2.out _ (hf10.alloc (.cells #[.string dk, .slice oa dv.length oc, .int .u64 (dver : Nat), .int .u64 (down : Nat)] 58)))
              have F11 := Lib.hid (hf10.alloc (.cells #[.string dk, .slice oa dv.length oc, .int .u64 (dver : Nat), .int .u64 (down : Nat)] 58))
              clear hf10 hbo G1
              go_wp2_with fail
              (with_reducible refine GE2.out.mono ?_)
              rintro e w12 ⟨na, nc, rfl, hbn, hf12⟩
              have R13 := Lib.hid (R9.out _ ((F11.out.trans hf12 (U := []) (by simp) (by simp)).alloc (.cells #[.string ck, .slice na cv.length nc, .int .u64 (cver : Nat), .int .u64 (cown : Nat)] 58)))
              clear hf12 hbn GE2 F11 R9
              go_wp2
              go_roundw
              case rel => exact ⟨j + 1, _, by omega, by go_num, R13⟩
              case measure => simp [intOf]; omega
            · rw [if_pos (show true = true from rfl)]
              go_wp2_with fail
              (with_reducible refine G1.out.mono ?_)
              rintro e w10 ⟨oa, oc, rfl, hbo, hf10⟩
              obtain ⟨g23, hg23⟩ : ∃ g23, g23 = w10.heap.size := ⟨_, rfl⟩
              obtain ⟨w11, hw11⟩ : ∃ w11, w11 = w10.alloc (.cells #[.string dk, .slice oa dv.length oc, .int .u64 (dver : Nat), .int .u64 (down : Nat)] 58) := ⟨_, rfl⟩
              have f1011 : Frm [] w10 w11 := by rw [hw11]; exact (Frm.refl _ _).alloc _
              have BO : Hid (Whole w11 g23 58 #[.string dk, .slice oa dv.length oc, .int .u64 (dver : Nat), .int .u64 (down : Nat)]) := Lib.hid (by rw [hw11, hg23]; exact Whole.made _ _ _)
              have BB := Lib.hid (f1011.bytes hbo (by simp))
              have F11 : Hid (Frm [] w9 w11) := Lib.hid (hf10.trans f1011 (by simp) (by simp))
              have GE2 := Lib.hid (GE2.out _ F11.out)
              have HW11 := Lib.hid hw11
              have HG23 := Lib.hid hg23
              clear hf10 hbo G1 f1011 hw11 hg23
              go_wp2_with fail
              rw [← HW11.out, ← HG23.out]
              (with_reducible refine GE2.out.mono ?_)
              rintro e w12 ⟨na, nc, rfl, hbn, hf12⟩
              obtain ⟨g25, hg25⟩ : ∃ g25, g25 = w12.heap.size := ⟨_, rfl⟩
              obtain ⟨w13, hw13⟩ : ∃ w13, w13 = w12.alloc (.cells #[.string ck, .slice na cv.length nc, .int .u64 (cver : Nat), .int .u64 (cown : Nat)] 58) := ⟨_, rfl⟩
              have f1213 : Frm [] w12 w13 := by rw [hw13]; exact (Frm.refl _ _).alloc _
              have f1113 : Frm [] w11 w13 := hf12.trans f1213 (by simp) (by simp)
              have BN : Hid (Whole w13 g25 58 #[.string ck, .slice na cv.length nc, .int .u64 (cver : Nat), .int .u64 (cown : Nat)]) := Lib.hid (by rw [hw13, hg25]; exact Whole.made _ _ _)
              have BBN := Lib.hid (f1213.bytes hbn (by simp))
              have BO13 := Lib.hid (f1113.whole BO.out (by simp))
              have N1 := Lib.hid (ownumber_any oa dv.length oc dv w13 (f1113.bytes BB.out (by simp)) rfl)
              have F13 : Hid (Frm [] w9 w13) := Lib.hid (F11.out.trans f1113 (by simp) (by simp))
              have o1 := BO13.out.cell 1
              simp only [List.getElem?_toArray, List.getElem?_cons_zero, List.getElem?_cons_succ] at o1
              have HW13 := Lib.hid hw13
              have HG25 := Lib.hid hg25
              obtain ⟨N, hN⟩ : ∃ N, N = numB dv := ⟨_, rfl⟩
              rw [← hN] at N1 ⊢
              obtain ⟨M, hM⟩ : ∃ M, M = numB cv := ⟨_, rfl⟩
              rw [← hM]
              have HM := Lib.hid hM
              have y1 : ((N : Int) != (N : Int)) = false := by simp
              have y2 : ((M : Int) != (M : Int)) = false := by simp
              clear hf12 hbn GE2 f1213 f1113 hw13 hg25 hN hM
              go_upto_region 32 with (fail)
              rw [← HW13.out, ← HG25.out]
              go_wp2_with fail
              (with_reducible refine N1.out.mono ?_)
              rintro e w14 ⟨rfl, hf14⟩
              have n1 := (hf14.whole BN.out (by simp)).cell 1
              simp only [List.getElem?_toArray, List.getElem?_cons_zero, List.getElem?_cons_succ] at n1
              have N2 := ownumber_any na cv.length nc cv w14 (hf14.bytes BBN.out (by simp)) rfl
              rw [← HM.out] at N2
              have N2 := Lib.hid N2
              have F14 : Hid (Frm [] w9 w14) := Lib.hid (F13.out.trans hf14 (by simp) (by simp))
              clear hf14 o1 N1
              go_wp2_with fail
              (with_reducible refine N2.out.mono ?_)
              rintro e w15 ⟨rfl, hf15⟩
              have R15 := Lib.hid (R9.out _ (F14.out.trans hf15 (U := []) (by simp) (by simp)))
              clear hf15 n1 N2 R9
              go_wp2
              go_roundw
              case rel => exact ⟨j + 1, _, by omega, by go_num, R15⟩
              case measure => simp [intOf]; omega
        ·
          obtain ⟨b6, hb6⟩ : ∃ b6, b6 = br % 6 := ⟨_, rfl⟩
          have r1 : (br : Int).tmod 6 = (b6 : Int) := by rw [Int.tmod_eq_emod_of_nonneg (by omega)]; omega
          have r2 : (br : Int) % 6 = (b6 : Int) := by omega
          have r3 : IntKind.u64.wrap (b6 : Int) = (b6 : Int) := by simp [IntKind.wrap, IntKind.bits, IntKind.signed]; omega
          have b6l : b6 < 6 := by omega
          clear hb6
          have x0 := B9.out.cell 0
          have x1 := B9.out.cell 1
          have x2 := B9.out.cell 2
          have x3 := B9.out.cell 3
          have x4 := B9.out.cell 4
          have x5 := B9.out.cell 5
          have k0 := B9.out.free 0
          have k1 := B9.out.free 1
          have k2 := B9.out.free 2
          have k3 := B9.out.free 3
          have k4 := B9.out.free 4
          have k5 := B9.out.free 5
          simp only [List.getElem?_toArray, List.getElem?_cons_zero, List.getElem?_cons_succ] at x0 x1 x2 x3 x4 x5
          obtain ⟨w6, hw6⟩ : ∃ w6, w6 = (((((w5.setCell ⟨g9, 0, none⟩ (.int .u8 6)).setCell ⟨g9, 1, none⟩ (.string ⟨#[]⟩)).setCell ⟨g9, 2, none⟩ (.slice none 0 0)).setCell ⟨g9, 3, none⟩ (.int .u64 0)).setCell ⟨g9, 4, none⟩ (.int .u64 0)).setCell ⟨g9, 5, none⟩ (.int .u64 (b6 : Nat)) := ⟨_, rfl⟩
          have fst : Frm [] w5 w5 := Frm.refl _ _
          have f56 : Frm [g9] w5 w6 := by rw [hw6]; exact (((((((fst.weak (U := [g9]) (by simp))).setCell (.inl (by simp)) _).setCell (.inl (by simp)) _).setCell (.inl (by simp)) _).setCell (.inl (by simp)) _).setCell (.inl (by simp)) _).setCell (.inl (by simp)) _
          have BC : Hid (Whole w6 g9 42 #[.int .u8 6, .string ⟨#[]⟩, .slice none 0 0, .int .u64 0, .int .u64 0, .int .u64 (b6 : Nat)]) := Lib.hid (by
            rw [hw6]
            have := ((((((fst.whole B9.out (by simp)).put 0 (.int .u8 6)).put 1 (.string ⟨#[]⟩)).put 2 (.slice none 0 0)).put 3 (.int .u64 0)).put 4 (.int .u64 0)).put 5 (.int .u64 (b6 : Nat))
            simpa using this)
          have T6 : Hid (Tq w0 w6 [g9, g6] k q S S 4194304 (2 * j) (8208 * j)) := Lib.hid (HT5.out.store f56 (by simp) HB9.out)
          have HW6 := Lib.hid hw6
          clear fst f56 hw6
          have HBV : Hid (∀ z, Frm [] w0 z → Bytes z none []) := Lib.hid (fun _ _ => Bytes.nil _)
          have HC : Hid (MCOk { kind := 6, ticks := b6 } ∧ Bytes w6 none [] ∧ (6 : Nat) ≠ 7 ∧ (0 : Nat) ≤ 4000) := Lib.hid ⟨tick9_ok (by omega), Bytes.nil _, by decide, by decide⟩
          go_upto_region 27 with (fail)
          rw [← HW6.out]
          clear HT5 B9 HW6 k0 k1 k2 k3 k4 k5 x0 x1 x2 x3 x4 x5
          as_aux_lemma =>
            have d0 := BC.out.cell 0
            have d1 := BC.out.cell 1
            have d2 := BC.out.cell 2
            have d3 := BC.out.cell 3
            have d4 := BC.out.cell 4
            have d5 := BC.out.cell 5
            simp only [List.getElem?_toArray, List.getElem?_cons_zero, List.getElem?_cons_succ] at d0 d1 d2 d3 d4 d5
            have PD := tq_pdo ({ kind := 6, ticks := b6 } : MC) none 0 T6.out (by omega) HC.out.1 HC.out.2.1 (fun _ => rfl) HC.out.2.2.1 HC.out.2.2.2 (by omega)
            rw [show cmdV ({ kind := 6, ticks := b6 } : MC) none 0 = .agg #[.int .u8 6, .string ⟨#[]⟩, .slice none 0 0, .int .u64 0, .int .u64 0, .int .u64 (b6 : Nat)] from rfl] at PD
            obtain ⟨E, hE⟩ : ∃ E, E = doE S ({ kind := 6, ticks := b6 } : MC) := ⟨_, rfl⟩
            obtain ⟨S1, hS1⟩ : ∃ S1, S1 = doS S ({ kind := 6, ticks := b6 } : MC) := ⟨_, rfl⟩
            rw [← hE, ← hS1] at PD
            have PD := Lib.hid PD
            go_wp2_with fail
            (with_reducible refine PD.out.mono ?_)
            rintro e w7 ⟨r7, ga7, gn7, gc7, rfl, ht7, hz7⟩
            have BC7 := hz7 g9 (by simp) _ _ BC.out
            clear d0 d1 d2 d3 d4 d5
            have d0 := BC7.cell 0
            have d1 := BC7.cell 1
            have d2 := BC7.cell 2
            have d3 := BC7.cell 3
            have d4 := BC7.cell 4
            have d5 := BC7.cell 5
            simp only [List.getElem?_toArray, List.getElem?_cons_zero, List.getElem?_cons_succ] at d0 d1 d2 d3 d4 d5
            have RD := tq_rdo ({ kind := 6, ticks := b6 } : MC) none 0 ht7 HC.out.1 (HBV.out w7 ht7.frm) (fun _ => rfl)
            rw [show cmdV ({ kind := 6, ticks := b6 } : MC) none 0 = .agg #[.int .u8 6, .string ⟨#[]⟩, .slice none 0 0, .int .u64 0, .int .u64 0, .int .u64 (b6 : Nat)] from rfl] at RD
            rw [← hE, ← hS1] at RD
            have RD := Lib.hid RD
            clear hE hS1 ht7 hz7 PD BC7
            go_wp2_with fail
            (with_reducible refine RD.out.mono ?_)
            rintro e w8 ⟨r8, ga8, gn8, gc8, rfl, ht8, _⟩
            clear d0 d1 d2 d3 d4 d5
            have T8 := Lib.hid ht8
            have HV := Lib.hid (tq_hld s ht8 (by have := HS.out; omega))
            clear ht8 RD
            go_wp2_with fail
            (with_reducible refine HV.out.mono ?_)
            intro e w9 hr9
            obtain ⟨rfl, hf9⟩ := hr9
            have T9 := Lib.hid (T8.out.same hf9)
            have G1 : Hid _ := Lib.hid (tq_get (ownK s) T9.out)
            obtain ⟨d, hd⟩ : ∃ d, d = getN S1.nodes (ownK s) := ⟨_, rfl⟩
            obtain ⟨c, hc⟩ : ∃ c, c = getN S1.nodes (epK s) := ⟨_, rfl⟩
            obtain ⟨is, his⟩ : ∃ is, is = isN S1.nodes (ownK s) := ⟨_, rfl⟩
            obtain ⟨ie, hie⟩ : ∃ ie, ie = isN S1.nodes (epK s) := ⟨_, rfl⟩
            have hv : hldV S1 s = if is = true then .tuple #[.int .u64 (numB d.v : Nat), .int .u64 (numB c.v : Nat), .bool true] else .tuple #[.int .u64 0, .int .u64 0, .bool false] := by unfold hldV; rw [his, hd, hc]; rfl
            rw [hv]
            have GE2 : Hid (∀ z, Frm [] w9 z → Calls Tryz.prog 16 #[.pointer (some ⟨q, 1, none⟩), .string (epK s)] z fun e w' => ∃ a c', e = .returned (.tuple #[.agg #[.string c.k, .slice a c.v.length c', .int .u64 (c.ver : Nat), .int .u64 (c.own : Nat)], .bool ie]) ∧ Bytes w' a c.v ∧ Frm [] z w') := Lib.hid (fun z hz => by rw [hc, hie]; exact tq_get (epK s) (T9.out.same hz))
            rw [← hd, ← his] at G1
            unfold ownK at G1
            unfold epK at GE2

            obtain ⟨dk, dv, dver, down⟩ := d
            obtain ⟨ck, cv, cver, cown⟩ := c
            simp only at G1 GE2
            have R9 : Hid (∀ z, Frm [] w9 z → Tq w0 z [] k q S1 S1 4194304 (2 * (j + 1)) (8208 * (j + 1))) := Lib.hid (fun z hz => ((T9.out.same hz).here (Frm.refl _ _) (by simp) (by simp)).more (by omega) (by omega))
            have nl4 : ¬ 9223372036854775807 < 4 + s.size := by have := HS.out; omega
            have nl6 : ¬ 9223372036854775807 < 6 + s.size := by have := HS.out; omega
            have x2 : ((E : Int) != (E : Int)) = false := by simp
            clear hd hc his hie hv hf9 HV T8 T9
            cases is
            · rw [if_neg (show ¬ (false = true) by decide)]
              go_wp2_with fail
              (with_reducible refine G1.out.mono ?_)
              rintro e w10 ⟨oa, oc, rfl, hbo, hf10⟩
              have GE2 := Lib.hid (GE2.out _ (hf10.alloc (.cells #[.string dk, .slice oa dv.length oc, .int .u64 (dver : Nat), .int .u64 (down : Nat)] 58)))
              have F11 := Lib.hid (hf10.alloc (.cells #[.string dk, .slice oa dv.length oc, .int .u64 (dver : Nat), .int .u64 (down : Nat)] 58))
              clear hf10 hbo G1
              go_wp2_with fail
              (with_reducible refine GE2.out.mono ?_)
              rintro e w12 ⟨na, nc, rfl, hbn, hf12⟩
              have R13 := Lib.hid (R9.out _ ((F11.out.trans hf12 (U := []) (by simp) (by simp)).alloc (.cells #[.string ck, .slice na cv.length nc, .int .u64 (cver : Nat), .int .u64 (cown : Nat)] 58)))
              clear hf12 hbn GE2 F11 R9
              go_wp2
              go_roundw
              case rel => exact ⟨j + 1, _, by omega, by go_num, R13⟩
              case measure => simp [intOf]; omega
            · rw [if_pos (show true = true from rfl)]
              go_wp2_with fail
              (with_reducible refine G1.out.mono ?_)
              rintro e w10 ⟨oa, oc, rfl, hbo, hf10⟩
              obtain ⟨g23, hg23⟩ : ∃ g23, g23 = w10.heap.size := ⟨_, rfl⟩
              obtain ⟨w11, hw11⟩ : ∃ w11, w11 = w10.alloc (.cells #[.string dk, .slice oa dv.length oc, .int .u64 (dver : Nat), .int .u64 (down : Nat)] 58) := ⟨_, rfl⟩
              have f1011 : Frm [] w10 w11 := by rw [hw11]; exact (Frm.refl _ _).alloc _
              have BO : Hid (Whole w11 g23 58 #[.string dk, .slice oa dv.length oc, .int .u64 (dver : Nat), .int .u64 (down : Nat)]) := Lib.hid (by rw [hw11, hg23]; exact Whole.made _ _ _)
              have BB := Lib.hid (f1011.bytes hbo (by simp))
              have F11 : Hid (Frm [] w9 w11) := Lib.hid (hf10.trans f1011 (by simp) (by simp))
              have GE2 := Lib.hid (GE2.out _ F11.out)
              have HW11 := Lib.hid hw11
              have HG23 := Lib.hid hg23
              clear hf10 hbo G1 f1011 hw11 hg23
              go_wp2_with fail
              rw [← HW11.out, ← HG23.out]
              (with_reducible refine GE2.out.mono ?_)
              rintro e w12 ⟨na, nc, rfl, hbn, hf12⟩
              obtain ⟨g25, hg25⟩ : ∃ g25, g25 = w12.heap.size := ⟨_, rfl⟩
              obtain ⟨w13, hw13⟩ : ∃ w13, w13 = w12.alloc (.cells #[.string ck, .slice na cv.length nc, .int .u64 (cver : Nat), .int .u64 (cown : Nat)] 58) := ⟨_, rfl⟩
              have f1213 : Frm [] w12 w13 := by rw [hw13]; exact (Frm.refl _ _).alloc _
              have f1113 : Frm [] w11 w13 := hf12.trans f1213 (by simp) (by simp)
              have BN : Hid (Whole w13 g25 58 #[.string ck, .slice na cv.length nc, .int .u64 (cver : Nat), .int .u64 (cown : Nat)]) := Lib.hid (by rw [hw13, hg25]; exact Whole.made _ _ _)
              have BBN := Lib.hid (f1213.bytes hbn (by simp))
              have BO13 := Lib.hid (f1113.whole BO.out (by simp))
              have N1 := Lib.hid (ownumber_any oa dv.length oc dv w13 (f1113.bytes BB.out (by simp)) rfl)
              have F13 : Hid (Frm [] w9 w13) := Lib.hid (F11.out.trans f1113 (by simp) (by simp))
              have o1 := BO13.out.cell 1
              simp only [List.getElem?_toArray, List.getElem?_cons_zero, List.getElem?_cons_succ] at o1
              have HW13 := Lib.hid hw13
              have HG25 := Lib.hid hg25
              obtain ⟨N, hN⟩ : ∃ N, N = numB dv := ⟨_, rfl⟩
              rw [← hN] at N1 ⊢
              obtain ⟨M, hM⟩ : ∃ M, M = numB cv := ⟨_, rfl⟩
              rw [← hM]
              have HM := Lib.hid hM
              have y1 : ((N : Int) != (N : Int)) = false := by simp
              have y2 : ((M : Int) != (M : Int)) = false := by simp
              clear hf12 hbn GE2 f1213 f1113 hw13 hg25 hN hM
              go_upto_region 32 with (fail)
              rw [← HW13.out, ← HG25.out]
              go_wp2_with fail
              (with_reducible refine N1.out.mono ?_)
              rintro e w14 ⟨rfl, hf14⟩
              have n1 := (hf14.whole BN.out (by simp)).cell 1
              simp only [List.getElem?_toArray, List.getElem?_cons_zero, List.getElem?_cons_succ] at n1
              have N2 := ownumber_any na cv.length nc cv w14 (hf14.bytes BBN.out (by simp)) rfl
              rw [← HM.out] at N2
              have N2 := Lib.hid N2
              have F14 : Hid (Frm [] w9 w14) := Lib.hid (F13.out.trans hf14 (by simp) (by simp))
              clear hf14 o1 N1
              go_wp2_with fail
              (with_reducible refine N2.out.mono ?_)
              rintro e w15 ⟨rfl, hf15⟩
              have R15 := Lib.hid (R9.out _ (F14.out.trans hf15 (U := []) (by simp) (by simp)))
              clear hf15 n1 N2 R9
              go_wp2
              go_roundw
              case rel => exact ⟨j + 1, _, by omega, by go_num, R15⟩
              case measure => simp [intOf]; omega
        ·
          rcases (by omega : br % 2 = 0 ∨ br % 2 = 1) with e2 | e2
          ·
            have r1 : (br : Int).tmod 2 = 0 := by rw [Int.tmod_eq_emod_of_nonneg (by omega)]; omega
            have r2 : (br : Int) % 2 = 0 := by omega
            clear e2
            have nlk : ¬ 9223372036854775807 < 4 + s.size := by have := HS.out; omega
            have g2 : ∀ z, Frm [] w5 z → z.cell? ⟨g6, 2, none⟩ = some (.int .u64 (br : Nat)) := fun z hz => (hz.whole B6.out (by simp)).cell 2
            have g4 : ∀ z, Frm [] w5 z → z.cell? ⟨g6, 4, none⟩ = some (.slice va v.length vc) := fun z hz => (hz.whole B6.out (by simp)).cell 4
            have gx0 : ∀ z, Frm [] w5 z → z.cell? ⟨g9, 0, none⟩ = some (.int .u8 3) := fun z hz => (hz.whole B9.out (by simp)).cell 0
            have gk0 : ∀ z, Frm [] w5 z → z.frozen? ⟨g9, 0, none⟩ = false := fun z hz => (hz.whole B9.out (by simp)).free 0
            have gx1 : ∀ z, Frm [] w5 z → z.cell? ⟨g9, 1, none⟩ = some (.string ⟨#[]⟩) := fun z hz => (hz.whole B9.out (by simp)).cell 1
            have gk1 : ∀ z, Frm [] w5 z → z.frozen? ⟨g9, 1, none⟩ = false := fun z hz => (hz.whole B9.out (by simp)).free 1
            have gx2 : ∀ z, Frm [] w5 z → z.cell? ⟨g9, 2, none⟩ = some (.slice none 0 0) := fun z hz => (hz.whole B9.out (by simp)).cell 2
            have gk2 : ∀ z, Frm [] w5 z → z.frozen? ⟨g9, 2, none⟩ = false := fun z hz => (hz.whole B9.out (by simp)).free 2
            have gx3 : ∀ z, Frm [] w5 z → z.cell? ⟨g9, 3, none⟩ = some (.int .u64 0) := fun z hz => (hz.whole B9.out (by simp)).cell 3
            have gk3 : ∀ z, Frm [] w5 z → z.frozen? ⟨g9, 3, none⟩ = false := fun z hz => (hz.whole B9.out (by simp)).free 3
            have gx4 : ∀ z, Frm [] w5 z → z.cell? ⟨g9, 4, none⟩ = some (.int .u64 0) := fun z hz => (hz.whole B9.out (by simp)).cell 4
            have gk4 : ∀ z, Frm [] w5 z → z.frozen? ⟨g9, 4, none⟩ = false := fun z hz => (hz.whole B9.out (by simp)).free 4
            have gx5 : ∀ z, Frm [] w5 z → z.cell? ⟨g9, 5, none⟩ = some (.int .u64 (o9 : Nat)) := fun z hz => (hz.whole B9.out (by simp)).cell 5
            have gk5 : ∀ z, Frm [] w5 z → z.frozen? ⟨g9, 5, none⟩ = false := fun z hz => (hz.whole B9.out (by simp)).free 5
            go_upto_region 26 with (fail)
            clear c0 c1 c2 c4
            refine wp_region_tail (S := fun w' => Frm [] w5 w') (tl := (fun j => j == 12)) (by kernel_rfl) (Frm.drew (Frm.refl _ _)) (fun hHeld => ?_)
            refine tail_take (i := 1) (oi := ⟨some 124, _, _, _, _, _⟩) (v := ?_) rfl (by kernel_rfl) (by kernel_rfl) (by kernel_rfl) (by kernel_rfl) (by kernel_rfl) (fun _ _ _ h => h) (Or.inl ⟨by rfl, ?_⟩) (by assumption) ?_
            rotate_left 1
            · (intro w hSw; (try dsimp only at hSw); go_simp; all_goals with_reducible rfl)
            try simp only [Act.put, List.setIfInBounds_toArray, List.set_cons_zero, List.set_cons_succ]
            refine tail_take (i := 2) (oi := ⟨some 125, _, _, _, _, _⟩) (v := ?_) rfl (by kernel_rfl) (by kernel_rfl) (by kernel_rfl) (by kernel_rfl) (by kernel_rfl) (fun _ _ _ h => h) (Or.inl ⟨by rfl, ?_⟩) (by assumption) ?_
            rotate_left 1
            · (intro w hSw; (try dsimp only at hSw); go_simp; all_goals with_reducible rfl)
            try simp only [Act.put, List.setIfInBounds_toArray, List.set_cons_zero, List.set_cons_succ]
            refine tail_take (i := 3) (oi := ⟨some 126, _, _, _, _, _⟩) (v := ?_) rfl (by kernel_rfl) (by kernel_rfl) (by kernel_rfl) (by kernel_rfl) (by kernel_rfl) (fun _ _ _ h => h) (Or.inl ⟨by rfl, ?_⟩) (by assumption) ?_
            rotate_left 1
            · (intro w hSw; (try dsimp only at hSw); go_simp; all_goals with_reducible rfl)
            try simp only [Act.put, List.setIfInBounds_toArray, List.set_cons_zero, List.set_cons_succ]
            refine tail_take (i := 6) (oi := ⟨some 129, _, _, _, _, _⟩) (v := ?_) rfl (by kernel_rfl) (by kernel_rfl) (by kernel_rfl) (by kernel_rfl) (by kernel_rfl) (fun _ _ _ h => h) (Or.inl ⟨by rfl, ?_⟩) (by assumption) ?_
            rotate_left 1
            · (intro w hSw; (try dsimp only at hSw); go_simp; all_goals with_reducible rfl)
            try simp only [Act.put, List.setIfInBounds_toArray, List.set_cons_zero, List.set_cons_succ]
            refine tail_take (i := 8) (oi := ⟨some 131, _, _, _, _, _⟩) (v := ?_) rfl (by kernel_rfl) (by kernel_rfl) (by kernel_rfl) (by kernel_rfl) (by kernel_rfl) (fun _ _ _ h => h) (Or.inl ⟨by rfl, ?_⟩) (by assumption) ?_
            rotate_left 1
            · (intro w hSw; (try dsimp only at hSw); go_simp; all_goals with_reducible rfl)
            try simp only [Act.put, List.setIfInBounds_toArray, List.set_cons_zero, List.set_cons_succ]
            refine tail_take (i := 9) (oi := ⟨some 132, _, _, _, _, _⟩) (v := ?_) rfl (by kernel_rfl) (by kernel_rfl) (by kernel_rfl) (by kernel_rfl) (by kernel_rfl) (fun _ _ _ h => h) (Or.inl ⟨by rfl, ?_⟩) (by assumption) ?_
            rotate_left 1
            · (intro w hSw; (try dsimp only at hSw); go_simp; all_goals with_reducible rfl)
            try simp only [Act.put, List.setIfInBounds_toArray, List.set_cons_zero, List.set_cons_succ]
            refine tail_take (i := 10) (oi := ⟨some 133, _, _, _, _, _⟩) (v := ?_) rfl (by kernel_rfl) (by kernel_rfl) (by kernel_rfl) (by kernel_rfl) (by kernel_rfl) (fun _ _ _ h => h) (Or.inl ⟨by rfl, ?_⟩) (by assumption) ?_
            rotate_left 1
            · (intro w hSw; (try dsimp only at hSw); go_simp; all_goals with_reducible rfl)
            try simp only [Act.put, List.setIfInBounds_toArray, List.set_cons_zero, List.set_cons_succ]
            refine tail_one (i := 0) (o := ⟨some 123, _, _, _, _, _⟩) (by kernel_rfl) rfl (fun K hK => ?_)
            go_simp
            refine hK.out _ _ (fun _ => by repeat (first | assumption | apply Frm.alloc | apply Frm.drew | exact Frm.refl _ _)) (fun hM => ?_)
            have hHeldN := hM rfl
            clear hM
            clear hK K
            try simp only [Act.put, List.setIfInBounds_toArray, List.set_cons_zero, List.set_cons_succ]
            refine tail_take (i := 4) (oi := ⟨some 127, _, _, _, _, _⟩) (v := ?_) rfl (by kernel_rfl) (by kernel_rfl) (by kernel_rfl) (by kernel_rfl) (by kernel_rfl) (fun _ _ _ h => h) (Or.inl ⟨by rfl, ?_⟩) (by assumption) ?_
            rotate_left 1
            · (intro w hSw; (try dsimp only at hSw); go_simp; all_goals with_reducible rfl)
            try simp only [Act.put, List.setIfInBounds_toArray, List.set_cons_zero, List.set_cons_succ]
            refine tail_one (i := 5) (o := ⟨some 128, _, _, _, _, _⟩) (by kernel_rfl) rfl (fun K hK => ?_)
            go_simp
            refine hK.out _ _ (fun _ => by assumption) (fun _ => ?_)
            clear hK K
            try simp only [Act.put, List.setIfInBounds_toArray, List.set_cons_zero, List.set_cons_succ]
            refine tail_take (i := 7) (oi := ⟨some 130, _, _, _, _, _⟩) (v := ?_) rfl (by kernel_rfl) (by kernel_rfl) (by kernel_rfl) (by kernel_rfl) (by kernel_rfl) (fun _ _ _ h => h) (Or.inl ⟨by rfl, ?_⟩) (by assumption) ?_
            rotate_left 1
            · (intro w hSw; (try dsimp only at hSw); go_simp; all_goals with_reducible rfl)
            try simp only [Act.put, List.setIfInBounds_toArray, List.set_cons_zero, List.set_cons_succ]
            refine tail_take (i := 11) (oi := ⟨some 134, _, _, _, _, _⟩) (v := ?_) rfl (by kernel_rfl) (by kernel_rfl) (by kernel_rfl) (by kernel_rfl) (by kernel_rfl) (fun _ _ _ h => h) (Or.inl ⟨by rfl, ?_⟩) (by assumption) ?_
            rotate_left 1
            · (intro w hSw; (try dsimp only at hSw); go_simp; all_goals with_reducible rfl)
            try simp only [Act.put, List.setIfInBounds_toArray, List.set_cons_zero, List.set_cons_succ]
            (have hA : Frm [] w5 (w5.alloc (.cells #[.string ⟨#[111, 119, 110, 47]⟩, .string ⟨#[101, 112, 111, 99, 104, 47]⟩] 9)) := (Frm.refl _ _).alloc _; have hx0 := gx0 _ hA; have hk0 := gk0 _ hA; have hx1 := gx1 _ hA; have hk1 := gk1 _ hA; have hx2 := gx2 _ hA; have hk2 := gk2 _ hA; have hx3 := gx3 _ hA; have hk3 := gk3 _ hA; have hx4 := gx4 _ hA; have hk4 := gk4 _ hA; have hx5 := gx5 _ hA; have hk5 := gk5 _ hA)
            refine tail_one (i := 12) (o := ⟨none, _, _, _, _, _⟩) (by kernel_rfl) rfl (fun K hK => ?_)
            go_simp
            refine hK.out _ _ (fun h => absurd h (by decide)) (fun _ => ?_)
            clear hK K
            try simp only [Act.put, List.setIfInBounds_toArray, List.set_cons_zero, List.set_cons_succ]
            refine tail_done (by kernel_rfl) ?_ _
            have fA : Frm [] w5 (w5.alloc (.cells #[.string ⟨#[111, 119, 110, 47]⟩, .string ⟨#[101, 112, 111, 99, 104, 47]⟩] 9)) := (Frm.refl _ _).alloc _
            obtain ⟨w6, hw6⟩ : ∃ w6, w6 = (((((((w5.alloc (.cells #[.string ⟨#[111, 119, 110, 47]⟩, .string ⟨#[101, 112, 111, 99, 104, 47]⟩] 9)).setCell ⟨g9, 0, none⟩ (.int .u8 1)).setCell ⟨g9, 1, none⟩ (.string (⟨#[111, 119, 110, 47]⟩ ++ s))).setCell ⟨g9, 2, none⟩ (.slice va v.length vc)).setCell ⟨g9, 3, none⟩ (.int .u64 (s5 : Nat))).setCell ⟨g9, 4, none⟩ (.int .u64 0)).setCell ⟨g9, 5, none⟩ (.int .u64 0)).drew := ⟨_, rfl⟩
            have f56 : Frm [g9] w5 w6 := by rw [hw6]; exact Frm.drew (((((((fA.weak (U := [g9]) (by simp)).setCell (.inl (by simp)) _).setCell (.inl (by simp)) _).setCell (.inl (by simp)) _).setCell (.inl (by simp)) _).setCell (.inl (by simp)) _).setCell (.inl (by simp)) _)
            have BC : Hid (Whole w6 g9 42 #[.int .u8 1, .string (⟨#[111, 119, 110, 47]⟩ ++ s), .slice va v.length vc, .int .u64 (s5 : Nat), .int .u64 0, .int .u64 0]) := Lib.hid (by
              rw [hw6]
              refine (Frm.drew (Frm.refl [] _)).whole ?_ (by simp)
              have := (((((((fA.whole B9.out (by simp)).put 0 (.int .u8 1)).put 1 (.string (⟨#[111, 119, 110, 47]⟩ ++ s))).put 2 (.slice va v.length vc)).put 3 (.int .u64 (s5 : Nat))).put 4 (.int .u64 0)).put 5 (.int .u64 0))
              simpa using this)
            have T6 : Hid (Tq w0 w6 [g9, g6] k q S S 4194304 (2 * j) (8208 * j)) := Lib.hid (HT5.out.store f56 (by simp) HB9.out)
            have HW6 := Lib.hid hw6
            have HBV : Hid (∀ z, Frm [] w0 z → Bytes z va v) := Lib.hid (fun z hz => (F0.out.trans hz (U := []) (by simp) (by simp)).bytes HVW.out (by simp))
            have ksz : (⟨#[111, 119, 110, 47]⟩ ++ s).size = 4 + s.size := by rw [ByteArray.size_append]; rfl
            have HC : Hid (MCOk { kind := 1, key := (⟨#[111, 119, 110, 47]⟩ ++ s), val := v, want := s5 } ∧ Bytes w6 va v ∧ (1 : Nat) ≠ 7 ∧ (⟨#[111, 119, 110, 47]⟩ ++ s).size + v.length ≤ 4000) := Lib.hid ⟨raw9_ok (by rw [ksz]; have := HS.out; omega) (by omega) HV8.out (by omega), HBV.out w6 T6.out.frm, by decide, by rw [ksz]; have := HS.out; omega⟩
            rw [← HW6.out]
            clear fA f56 hw6 ksz HT5 B9 gx0 gx1 gx2 gx3 gx4 gx5 gk0 gk1 gk2 gk3 gk4 gk5 hx0 hx1 hx2 hx3 hx4 hx5 hk0 hk1 hk2 hk3 hk4 hk5 hA hHeldN HW6 hHeld g2 g4 nlk
            as_aux_lemma =>
              have d0 := BC.out.cell 0
              have d1 := BC.out.cell 1
              have d2 := BC.out.cell 2
              have d3 := BC.out.cell 3
              have d4 := BC.out.cell 4
              have d5 := BC.out.cell 5
              simp only [List.getElem?_toArray, List.getElem?_cons_zero, List.getElem?_cons_succ] at d0 d1 d2 d3 d4 d5
              have PD := tq_pdo ({ kind := 1, key := (⟨#[111, 119, 110, 47]⟩ ++ s), val := v, want := s5 } : MC) va vc T6.out (by omega) HC.out.1 HC.out.2.1 HVN.out HC.out.2.2.1 HC.out.2.2.2 (by omega)
              rw [show cmdV ({ kind := 1, key := (⟨#[111, 119, 110, 47]⟩ ++ s), val := v, want := s5 } : MC) va vc = .agg #[.int .u8 1, .string (⟨#[111, 119, 110, 47]⟩ ++ s), .slice va v.length vc, .int .u64 (s5 : Nat), .int .u64 0, .int .u64 0] from rfl] at PD
              obtain ⟨E, hE⟩ : ∃ E, E = doE S ({ kind := 1, key := (⟨#[111, 119, 110, 47]⟩ ++ s), val := v, want := s5 } : MC) := ⟨_, rfl⟩
              obtain ⟨S1, hS1⟩ : ∃ S1, S1 = doS S ({ kind := 1, key := (⟨#[111, 119, 110, 47]⟩ ++ s), val := v, want := s5 } : MC) := ⟨_, rfl⟩
              rw [← hE, ← hS1] at PD
              have PD := Lib.hid PD
              go_wp2_with fail
              (with_reducible refine PD.out.mono ?_)
              rintro e w7 ⟨r7, ga7, gn7, gc7, rfl, ht7, hz7⟩
              have BC7 := hz7 g9 (by simp) _ _ BC.out
              clear d0 d1 d2 d3 d4 d5
              have d0 := BC7.cell 0
              have d1 := BC7.cell 1
              have d2 := BC7.cell 2
              have d3 := BC7.cell 3
              have d4 := BC7.cell 4
              have d5 := BC7.cell 5
              simp only [List.getElem?_toArray, List.getElem?_cons_zero, List.getElem?_cons_succ] at d0 d1 d2 d3 d4 d5
              have RD := tq_rdo ({ kind := 1, key := (⟨#[111, 119, 110, 47]⟩ ++ s), val := v, want := s5 } : MC) va vc ht7 HC.out.1 (HBV.out w7 ht7.frm) HVN.out
              rw [show cmdV ({ kind := 1, key := (⟨#[111, 119, 110, 47]⟩ ++ s), val := v, want := s5 } : MC) va vc = .agg #[.int .u8 1, .string (⟨#[111, 119, 110, 47]⟩ ++ s), .slice va v.length vc, .int .u64 (s5 : Nat), .int .u64 0, .int .u64 0] from rfl] at RD
              rw [← hE, ← hS1] at RD
              have RD := Lib.hid RD
              clear hE hS1 ht7 hz7 PD BC7
              go_wp2_with fail
              (with_reducible refine RD.out.mono ?_)
              rintro e w8 ⟨r8, ga8, gn8, gc8, rfl, ht8, _⟩
              clear d0 d1 d2 d3 d4 d5
              have T8 := Lib.hid ht8
              have HV := Lib.hid (tq_hld s ht8 (by have := HS.out; omega))
              clear ht8 RD
              go_wp2_with fail
              (with_reducible refine HV.out.mono ?_)
              intro e w9 hr9
              obtain ⟨rfl, hf9⟩ := hr9
              have T9 := Lib.hid (T8.out.same hf9)
              have G1 : Hid _ := Lib.hid (tq_get (ownK s) T9.out)
              obtain ⟨d, hd⟩ : ∃ d, d = getN S1.nodes (ownK s) := ⟨_, rfl⟩
              obtain ⟨c, hc⟩ : ∃ c, c = getN S1.nodes (epK s) := ⟨_, rfl⟩
              obtain ⟨is, his⟩ : ∃ is, is = isN S1.nodes (ownK s) := ⟨_, rfl⟩
              obtain ⟨ie, hie⟩ : ∃ ie, ie = isN S1.nodes (epK s) := ⟨_, rfl⟩
              have hv : hldV S1 s = if is = true then .tuple #[.int .u64 (numB d.v : Nat), .int .u64 (numB c.v : Nat), .bool true] else .tuple #[.int .u64 0, .int .u64 0, .bool false] := by unfold hldV; rw [his, hd, hc]; rfl
              rw [hv]
              have GE2 : Hid (∀ z, Frm [] w9 z → Calls Tryz.prog 16 #[.pointer (some ⟨q, 1, none⟩), .string (epK s)] z fun e w' => ∃ a c', e = .returned (.tuple #[.agg #[.string c.k, .slice a c.v.length c', .int .u64 (c.ver : Nat), .int .u64 (c.own : Nat)], .bool ie]) ∧ Bytes w' a c.v ∧ Frm [] z w') := Lib.hid (fun z hz => by rw [hc, hie]; exact tq_get (epK s) (T9.out.same hz))
              rw [← hd, ← his] at G1
              unfold ownK at G1
              unfold epK at GE2

              obtain ⟨dk, dv, dver, down⟩ := d
              obtain ⟨ck, cv, cver, cown⟩ := c
              simp only at G1 GE2
              have R9 : Hid (∀ z, Frm [] w9 z → Tq w0 z [] k q S1 S1 4194304 (2 * (j + 1)) (8208 * (j + 1))) := Lib.hid (fun z hz => ((T9.out.same hz).here (Frm.refl _ _) (by simp) (by simp)).more (by omega) (by omega))
              have nl4 : ¬ 9223372036854775807 < 4 + s.size := by have := HS.out; omega
              have nl6 : ¬ 9223372036854775807 < 6 + s.size := by have := HS.out; omega
              have x2 : ((E : Int) != (E : Int)) = false := by simp
              clear hd hc his hie hv hf9 HV T8 T9
              cases is
              · rw [if_neg (show ¬ (false = true) by decide)]
                go_wp2_with fail
                (with_reducible refine G1.out.mono ?_)
                rintro e w10 ⟨oa, oc, rfl, hbo, hf10⟩
                have GE2 := Lib.hid (GE2.out _ (hf10.alloc (.cells #[.string dk, .slice oa dv.length oc, .int .u64 (dver : Nat), .int .u64 (down : Nat)] 58)))
                have F11 := Lib.hid (hf10.alloc (.cells #[.string dk, .slice oa dv.length oc, .int .u64 (dver : Nat), .int .u64 (down : Nat)] 58))
                clear hf10 hbo G1
                go_wp2_with fail
                (with_reducible refine GE2.out.mono ?_)
                rintro e w12 ⟨na, nc, rfl, hbn, hf12⟩
                have R13 := Lib.hid (R9.out _ ((F11.out.trans hf12 (U := []) (by simp) (by simp)).alloc (.cells #[.string ck, .slice na cv.length nc, .int .u64 (cver : Nat), .int .u64 (cown : Nat)] 58)))
                clear hf12 hbn GE2 F11 R9
                go_wp2
                go_roundw
                case rel => exact ⟨j + 1, _, by omega, by go_num, R13⟩
                case measure => simp [intOf]; omega
              · rw [if_pos (show true = true from rfl)]
                go_wp2_with fail
                (with_reducible refine G1.out.mono ?_)
                rintro e w10 ⟨oa, oc, rfl, hbo, hf10⟩
                obtain ⟨g23, hg23⟩ : ∃ g23, g23 = w10.heap.size := ⟨_, rfl⟩
                obtain ⟨w11, hw11⟩ : ∃ w11, w11 = w10.alloc (.cells #[.string dk, .slice oa dv.length oc, .int .u64 (dver : Nat), .int .u64 (down : Nat)] 58) := ⟨_, rfl⟩
                have f1011 : Frm [] w10 w11 := by rw [hw11]; exact (Frm.refl _ _).alloc _
                have BO : Hid (Whole w11 g23 58 #[.string dk, .slice oa dv.length oc, .int .u64 (dver : Nat), .int .u64 (down : Nat)]) := Lib.hid (by rw [hw11, hg23]; exact Whole.made _ _ _)
                have BB := Lib.hid (f1011.bytes hbo (by simp))
                have F11 : Hid (Frm [] w9 w11) := Lib.hid (hf10.trans f1011 (by simp) (by simp))
                have GE2 := Lib.hid (GE2.out _ F11.out)
                have HW11 := Lib.hid hw11
                have HG23 := Lib.hid hg23
                clear hf10 hbo G1 f1011 hw11 hg23
                go_wp2_with fail
                rw [← HW11.out, ← HG23.out]
                (with_reducible refine GE2.out.mono ?_)
                rintro e w12 ⟨na, nc, rfl, hbn, hf12⟩
                obtain ⟨g25, hg25⟩ : ∃ g25, g25 = w12.heap.size := ⟨_, rfl⟩
                obtain ⟨w13, hw13⟩ : ∃ w13, w13 = w12.alloc (.cells #[.string ck, .slice na cv.length nc, .int .u64 (cver : Nat), .int .u64 (cown : Nat)] 58) := ⟨_, rfl⟩
                have f1213 : Frm [] w12 w13 := by rw [hw13]; exact (Frm.refl _ _).alloc _
                have f1113 : Frm [] w11 w13 := hf12.trans f1213 (by simp) (by simp)
                have BN : Hid (Whole w13 g25 58 #[.string ck, .slice na cv.length nc, .int .u64 (cver : Nat), .int .u64 (cown : Nat)]) := Lib.hid (by rw [hw13, hg25]; exact Whole.made _ _ _)
                have BBN := Lib.hid (f1213.bytes hbn (by simp))
                have BO13 := Lib.hid (f1113.whole BO.out (by simp))
                have N1 := Lib.hid (ownumber_any oa dv.length oc dv w13 (f1113.bytes BB.out (by simp)) rfl)
                have F13 : Hid (Frm [] w9 w13) := Lib.hid (F11.out.trans f1113 (by simp) (by simp))
                have o1 := BO13.out.cell 1
                simp only [List.getElem?_toArray, List.getElem?_cons_zero, List.getElem?_cons_succ] at o1
                have HW13 := Lib.hid hw13
                have HG25 := Lib.hid hg25
                obtain ⟨N, hN⟩ : ∃ N, N = numB dv := ⟨_, rfl⟩
                rw [← hN] at N1 ⊢
                obtain ⟨M, hM⟩ : ∃ M, M = numB cv := ⟨_, rfl⟩
                rw [← hM]
                have HM := Lib.hid hM
                have y1 : ((N : Int) != (N : Int)) = false := by simp
                have y2 : ((M : Int) != (M : Int)) = false := by simp
                clear hf12 hbn GE2 f1213 f1113 hw13 hg25 hN hM
                go_upto_region 32 with (fail)
                rw [← HW13.out, ← HG25.out]
                go_wp2_with fail
                (with_reducible refine N1.out.mono ?_)
                rintro e w14 ⟨rfl, hf14⟩
                have n1 := (hf14.whole BN.out (by simp)).cell 1
                simp only [List.getElem?_toArray, List.getElem?_cons_zero, List.getElem?_cons_succ] at n1
                have N2 := ownumber_any na cv.length nc cv w14 (hf14.bytes BBN.out (by simp)) rfl
                rw [← HM.out] at N2
                have N2 := Lib.hid N2
                have F14 : Hid (Frm [] w9 w14) := Lib.hid (F13.out.trans hf14 (by simp) (by simp))
                clear hf14 o1 N1
                go_wp2_with fail
                (with_reducible refine N2.out.mono ?_)
                rintro e w15 ⟨rfl, hf15⟩
                have R15 := Lib.hid (R9.out _ (F14.out.trans hf15 (U := []) (by simp) (by simp)))
                clear hf15 n1 N2 R9
                go_wp2
                go_roundw
                case rel => exact ⟨j + 1, _, by omega, by go_num, R15⟩
                case measure => simp [intOf]; omega
          ·
            have r1 : (br : Int).tmod 2 = 1 := by rw [Int.tmod_eq_emod_of_nonneg (by omega)]; omega
            have r2 : (br : Int) % 2 = 1 := by omega
            clear e2
            have nlk : ¬ 9223372036854775807 < 6 + s.size := by have := HS.out; omega
            have g2 : ∀ z, Frm [] w5 z → z.cell? ⟨g6, 2, none⟩ = some (.int .u64 (br : Nat)) := fun z hz => (hz.whole B6.out (by simp)).cell 2
            have g4 : ∀ z, Frm [] w5 z → z.cell? ⟨g6, 4, none⟩ = some (.slice va v.length vc) := fun z hz => (hz.whole B6.out (by simp)).cell 4
            have gx0 : ∀ z, Frm [] w5 z → z.cell? ⟨g9, 0, none⟩ = some (.int .u8 3) := fun z hz => (hz.whole B9.out (by simp)).cell 0
            have gk0 : ∀ z, Frm [] w5 z → z.frozen? ⟨g9, 0, none⟩ = false := fun z hz => (hz.whole B9.out (by simp)).free 0
            have gx1 : ∀ z, Frm [] w5 z → z.cell? ⟨g9, 1, none⟩ = some (.string ⟨#[]⟩) := fun z hz => (hz.whole B9.out (by simp)).cell 1
            have gk1 : ∀ z, Frm [] w5 z → z.frozen? ⟨g9, 1, none⟩ = false := fun z hz => (hz.whole B9.out (by simp)).free 1
            have gx2 : ∀ z, Frm [] w5 z → z.cell? ⟨g9, 2, none⟩ = some (.slice none 0 0) := fun z hz => (hz.whole B9.out (by simp)).cell 2
            have gk2 : ∀ z, Frm [] w5 z → z.frozen? ⟨g9, 2, none⟩ = false := fun z hz => (hz.whole B9.out (by simp)).free 2
            have gx3 : ∀ z, Frm [] w5 z → z.cell? ⟨g9, 3, none⟩ = some (.int .u64 0) := fun z hz => (hz.whole B9.out (by simp)).cell 3
            have gk3 : ∀ z, Frm [] w5 z → z.frozen? ⟨g9, 3, none⟩ = false := fun z hz => (hz.whole B9.out (by simp)).free 3
            have gx4 : ∀ z, Frm [] w5 z → z.cell? ⟨g9, 4, none⟩ = some (.int .u64 0) := fun z hz => (hz.whole B9.out (by simp)).cell 4
            have gk4 : ∀ z, Frm [] w5 z → z.frozen? ⟨g9, 4, none⟩ = false := fun z hz => (hz.whole B9.out (by simp)).free 4
            have gx5 : ∀ z, Frm [] w5 z → z.cell? ⟨g9, 5, none⟩ = some (.int .u64 (o9 : Nat)) := fun z hz => (hz.whole B9.out (by simp)).cell 5
            have gk5 : ∀ z, Frm [] w5 z → z.frozen? ⟨g9, 5, none⟩ = false := fun z hz => (hz.whole B9.out (by simp)).free 5
            go_upto_region 26 with (fail)
            clear c0 c1 c2 c4
            refine wp_region_tail (S := fun w' => Frm [] w5 w') (tl := (fun j => j == 12)) (by kernel_rfl) (Frm.drew (Frm.refl _ _)) (fun hHeld => ?_)
            refine tail_take (i := 1) (oi := ⟨some 124, _, _, _, _, _⟩) (v := ?_) rfl (by kernel_rfl) (by kernel_rfl) (by kernel_rfl) (by kernel_rfl) (by kernel_rfl) (fun _ _ _ h => h) (Or.inl ⟨by rfl, ?_⟩) (by assumption) ?_
            rotate_left 1
            · (intro w hSw; (try dsimp only at hSw); go_simp; all_goals with_reducible rfl)
            try simp only [Act.put, List.setIfInBounds_toArray, List.set_cons_zero, List.set_cons_succ]
            refine tail_take (i := 2) (oi := ⟨some 125, _, _, _, _, _⟩) (v := ?_) rfl (by kernel_rfl) (by kernel_rfl) (by kernel_rfl) (by kernel_rfl) (by kernel_rfl) (fun _ _ _ h => h) (Or.inl ⟨by rfl, ?_⟩) (by assumption) ?_
            rotate_left 1
            · (intro w hSw; (try dsimp only at hSw); go_simp; all_goals with_reducible rfl)
            try simp only [Act.put, List.setIfInBounds_toArray, List.set_cons_zero, List.set_cons_succ]
            refine tail_take (i := 3) (oi := ⟨some 126, _, _, _, _, _⟩) (v := ?_) rfl (by kernel_rfl) (by kernel_rfl) (by kernel_rfl) (by kernel_rfl) (by kernel_rfl) (fun _ _ _ h => h) (Or.inl ⟨by rfl, ?_⟩) (by assumption) ?_
            rotate_left 1
            · (intro w hSw; (try dsimp only at hSw); go_simp; all_goals with_reducible rfl)
            try simp only [Act.put, List.setIfInBounds_toArray, List.set_cons_zero, List.set_cons_succ]
            refine tail_take (i := 6) (oi := ⟨some 129, _, _, _, _, _⟩) (v := ?_) rfl (by kernel_rfl) (by kernel_rfl) (by kernel_rfl) (by kernel_rfl) (by kernel_rfl) (fun _ _ _ h => h) (Or.inl ⟨by rfl, ?_⟩) (by assumption) ?_
            rotate_left 1
            · (intro w hSw; (try dsimp only at hSw); go_simp; all_goals with_reducible rfl)
            try simp only [Act.put, List.setIfInBounds_toArray, List.set_cons_zero, List.set_cons_succ]
            refine tail_take (i := 8) (oi := ⟨some 131, _, _, _, _, _⟩) (v := ?_) rfl (by kernel_rfl) (by kernel_rfl) (by kernel_rfl) (by kernel_rfl) (by kernel_rfl) (fun _ _ _ h => h) (Or.inl ⟨by rfl, ?_⟩) (by assumption) ?_
            rotate_left 1
            · (intro w hSw; (try dsimp only at hSw); go_simp; all_goals with_reducible rfl)
            try simp only [Act.put, List.setIfInBounds_toArray, List.set_cons_zero, List.set_cons_succ]
            refine tail_take (i := 9) (oi := ⟨some 132, _, _, _, _, _⟩) (v := ?_) rfl (by kernel_rfl) (by kernel_rfl) (by kernel_rfl) (by kernel_rfl) (by kernel_rfl) (fun _ _ _ h => h) (Or.inl ⟨by rfl, ?_⟩) (by assumption) ?_
            rotate_left 1
            · (intro w hSw; (try dsimp only at hSw); go_simp; all_goals with_reducible rfl)
            try simp only [Act.put, List.setIfInBounds_toArray, List.set_cons_zero, List.set_cons_succ]
            refine tail_take (i := 10) (oi := ⟨some 133, _, _, _, _, _⟩) (v := ?_) rfl (by kernel_rfl) (by kernel_rfl) (by kernel_rfl) (by kernel_rfl) (by kernel_rfl) (fun _ _ _ h => h) (Or.inl ⟨by rfl, ?_⟩) (by assumption) ?_
            rotate_left 1
            · (intro w hSw; (try dsimp only at hSw); go_simp; all_goals with_reducible rfl)
            try simp only [Act.put, List.setIfInBounds_toArray, List.set_cons_zero, List.set_cons_succ]
            refine tail_one (i := 0) (o := ⟨some 123, _, _, _, _, _⟩) (by kernel_rfl) rfl (fun K hK => ?_)
            go_simp
            refine hK.out _ _ (fun _ => by repeat (first | assumption | apply Frm.alloc | apply Frm.drew | exact Frm.refl _ _)) (fun hM => ?_)
            have hHeldN := hM rfl
            clear hM
            clear hK K
            try simp only [Act.put, List.setIfInBounds_toArray, List.set_cons_zero, List.set_cons_succ]
            refine tail_take (i := 4) (oi := ⟨some 127, _, _, _, _, _⟩) (v := ?_) rfl (by kernel_rfl) (by kernel_rfl) (by kernel_rfl) (by kernel_rfl) (by kernel_rfl) (fun _ _ _ h => h) (Or.inl ⟨by rfl, ?_⟩) (by assumption) ?_
            rotate_left 1
            · (intro w hSw; (try dsimp only at hSw); go_simp; all_goals with_reducible rfl)
            try simp only [Act.put, List.setIfInBounds_toArray, List.set_cons_zero, List.set_cons_succ]
            refine tail_one (i := 5) (o := ⟨some 128, _, _, _, _, _⟩) (by kernel_rfl) rfl (fun K hK => ?_)
            go_simp
            refine hK.out _ _ (fun _ => by assumption) (fun _ => ?_)
            clear hK K
            try simp only [Act.put, List.setIfInBounds_toArray, List.set_cons_zero, List.set_cons_succ]
            refine tail_take (i := 7) (oi := ⟨some 130, _, _, _, _, _⟩) (v := ?_) rfl (by kernel_rfl) (by kernel_rfl) (by kernel_rfl) (by kernel_rfl) (by kernel_rfl) (fun _ _ _ h => h) (Or.inl ⟨by rfl, ?_⟩) (by assumption) ?_
            rotate_left 1
            · (intro w hSw; (try dsimp only at hSw); go_simp; all_goals with_reducible rfl)
            try simp only [Act.put, List.setIfInBounds_toArray, List.set_cons_zero, List.set_cons_succ]
            refine tail_take (i := 11) (oi := ⟨some 134, _, _, _, _, _⟩) (v := ?_) rfl (by kernel_rfl) (by kernel_rfl) (by kernel_rfl) (by kernel_rfl) (by kernel_rfl) (fun _ _ _ h => h) (Or.inl ⟨by rfl, ?_⟩) (by assumption) ?_
            rotate_left 1
            · (intro w hSw; (try dsimp only at hSw); go_simp; all_goals with_reducible rfl)
            try simp only [Act.put, List.setIfInBounds_toArray, List.set_cons_zero, List.set_cons_succ]
            (have hA : Frm [] w5 (w5.alloc (.cells #[.string ⟨#[111, 119, 110, 47]⟩, .string ⟨#[101, 112, 111, 99, 104, 47]⟩] 9)) := (Frm.refl _ _).alloc _; have hx0 := gx0 _ hA; have hk0 := gk0 _ hA; have hx1 := gx1 _ hA; have hk1 := gk1 _ hA; have hx2 := gx2 _ hA; have hk2 := gk2 _ hA; have hx3 := gx3 _ hA; have hk3 := gk3 _ hA; have hx4 := gx4 _ hA; have hk4 := gk4 _ hA; have hx5 := gx5 _ hA; have hk5 := gk5 _ hA)
            refine tail_one (i := 12) (o := ⟨none, _, _, _, _, _⟩) (by kernel_rfl) rfl (fun K hK => ?_)
            go_simp
            refine hK.out _ _ (fun h => absurd h (by decide)) (fun _ => ?_)
            clear hK K
            try simp only [Act.put, List.setIfInBounds_toArray, List.set_cons_zero, List.set_cons_succ]
            refine tail_done (by kernel_rfl) ?_ _
            have fA : Frm [] w5 (w5.alloc (.cells #[.string ⟨#[111, 119, 110, 47]⟩, .string ⟨#[101, 112, 111, 99, 104, 47]⟩] 9)) := (Frm.refl _ _).alloc _
            obtain ⟨w6, hw6⟩ : ∃ w6, w6 = (((((((w5.alloc (.cells #[.string ⟨#[111, 119, 110, 47]⟩, .string ⟨#[101, 112, 111, 99, 104, 47]⟩] 9)).setCell ⟨g9, 0, none⟩ (.int .u8 1)).setCell ⟨g9, 1, none⟩ (.string (⟨#[101, 112, 111, 99, 104, 47]⟩ ++ s))).setCell ⟨g9, 2, none⟩ (.slice va v.length vc)).setCell ⟨g9, 3, none⟩ (.int .u64 (s5 : Nat))).setCell ⟨g9, 4, none⟩ (.int .u64 0)).setCell ⟨g9, 5, none⟩ (.int .u64 0)).drew := ⟨_, rfl⟩
            have f56 : Frm [g9] w5 w6 := by rw [hw6]; exact Frm.drew (((((((fA.weak (U := [g9]) (by simp)).setCell (.inl (by simp)) _).setCell (.inl (by simp)) _).setCell (.inl (by simp)) _).setCell (.inl (by simp)) _).setCell (.inl (by simp)) _).setCell (.inl (by simp)) _)
            have BC : Hid (Whole w6 g9 42 #[.int .u8 1, .string (⟨#[101, 112, 111, 99, 104, 47]⟩ ++ s), .slice va v.length vc, .int .u64 (s5 : Nat), .int .u64 0, .int .u64 0]) := Lib.hid (by
              rw [hw6]
              refine (Frm.drew (Frm.refl [] _)).whole ?_ (by simp)
              have := (((((((fA.whole B9.out (by simp)).put 0 (.int .u8 1)).put 1 (.string (⟨#[101, 112, 111, 99, 104, 47]⟩ ++ s))).put 2 (.slice va v.length vc)).put 3 (.int .u64 (s5 : Nat))).put 4 (.int .u64 0)).put 5 (.int .u64 0))
              simpa using this)
            have T6 : Hid (Tq w0 w6 [g9, g6] k q S S 4194304 (2 * j) (8208 * j)) := Lib.hid (HT5.out.store f56 (by simp) HB9.out)
            have HW6 := Lib.hid hw6
            have HBV : Hid (∀ z, Frm [] w0 z → Bytes z va v) := Lib.hid (fun z hz => (F0.out.trans hz (U := []) (by simp) (by simp)).bytes HVW.out (by simp))
            have ksz : (⟨#[101, 112, 111, 99, 104, 47]⟩ ++ s).size = 6 + s.size := by rw [ByteArray.size_append]; rfl
            have HC : Hid (MCOk { kind := 1, key := (⟨#[101, 112, 111, 99, 104, 47]⟩ ++ s), val := v, want := s5 } ∧ Bytes w6 va v ∧ (1 : Nat) ≠ 7 ∧ (⟨#[101, 112, 111, 99, 104, 47]⟩ ++ s).size + v.length ≤ 4000) := Lib.hid ⟨raw9_ok (by rw [ksz]; have := HS.out; omega) (by omega) HV8.out (by omega), HBV.out w6 T6.out.frm, by decide, by rw [ksz]; have := HS.out; omega⟩
            rw [← HW6.out]
            clear fA f56 hw6 ksz HT5 B9 gx0 gx1 gx2 gx3 gx4 gx5 gk0 gk1 gk2 gk3 gk4 gk5 hx0 hx1 hx2 hx3 hx4 hx5 hk0 hk1 hk2 hk3 hk4 hk5 hA hHeldN HW6 hHeld g2 g4 nlk
            as_aux_lemma =>
              have d0 := BC.out.cell 0
              have d1 := BC.out.cell 1
              have d2 := BC.out.cell 2
              have d3 := BC.out.cell 3
              have d4 := BC.out.cell 4
              have d5 := BC.out.cell 5
              simp only [List.getElem?_toArray, List.getElem?_cons_zero, List.getElem?_cons_succ] at d0 d1 d2 d3 d4 d5
              have PD := tq_pdo ({ kind := 1, key := (⟨#[101, 112, 111, 99, 104, 47]⟩ ++ s), val := v, want := s5 } : MC) va vc T6.out (by omega) HC.out.1 HC.out.2.1 HVN.out HC.out.2.2.1 HC.out.2.2.2 (by omega)
              rw [show cmdV ({ kind := 1, key := (⟨#[101, 112, 111, 99, 104, 47]⟩ ++ s), val := v, want := s5 } : MC) va vc = .agg #[.int .u8 1, .string (⟨#[101, 112, 111, 99, 104, 47]⟩ ++ s), .slice va v.length vc, .int .u64 (s5 : Nat), .int .u64 0, .int .u64 0] from rfl] at PD
              obtain ⟨E, hE⟩ : ∃ E, E = doE S ({ kind := 1, key := (⟨#[101, 112, 111, 99, 104, 47]⟩ ++ s), val := v, want := s5 } : MC) := ⟨_, rfl⟩
              obtain ⟨S1, hS1⟩ : ∃ S1, S1 = doS S ({ kind := 1, key := (⟨#[101, 112, 111, 99, 104, 47]⟩ ++ s), val := v, want := s5 } : MC) := ⟨_, rfl⟩
              rw [← hE, ← hS1] at PD
              have PD := Lib.hid PD
              go_wp2_with fail
              (with_reducible refine PD.out.mono ?_)
              rintro e w7 ⟨r7, ga7, gn7, gc7, rfl, ht7, hz7⟩
              have BC7 := hz7 g9 (by simp) _ _ BC.out
              clear d0 d1 d2 d3 d4 d5
              have d0 := BC7.cell 0
              have d1 := BC7.cell 1
              have d2 := BC7.cell 2
              have d3 := BC7.cell 3
              have d4 := BC7.cell 4
              have d5 := BC7.cell 5
              simp only [List.getElem?_toArray, List.getElem?_cons_zero, List.getElem?_cons_succ] at d0 d1 d2 d3 d4 d5
              have RD := tq_rdo ({ kind := 1, key := (⟨#[101, 112, 111, 99, 104, 47]⟩ ++ s), val := v, want := s5 } : MC) va vc ht7 HC.out.1 (HBV.out w7 ht7.frm) HVN.out
              rw [show cmdV ({ kind := 1, key := (⟨#[101, 112, 111, 99, 104, 47]⟩ ++ s), val := v, want := s5 } : MC) va vc = .agg #[.int .u8 1, .string (⟨#[101, 112, 111, 99, 104, 47]⟩ ++ s), .slice va v.length vc, .int .u64 (s5 : Nat), .int .u64 0, .int .u64 0] from rfl] at RD
              rw [← hE, ← hS1] at RD
              have RD := Lib.hid RD
              clear hE hS1 ht7 hz7 PD BC7
              go_wp2_with fail
              (with_reducible refine RD.out.mono ?_)
              rintro e w8 ⟨r8, ga8, gn8, gc8, rfl, ht8, _⟩
              clear d0 d1 d2 d3 d4 d5
              have T8 := Lib.hid ht8
              have HV := Lib.hid (tq_hld s ht8 (by have := HS.out; omega))
              clear ht8 RD
              go_wp2_with fail
              (with_reducible refine HV.out.mono ?_)
              intro e w9 hr9
              obtain ⟨rfl, hf9⟩ := hr9
              have T9 := Lib.hid (T8.out.same hf9)
              have G1 : Hid _ := Lib.hid (tq_get (ownK s) T9.out)
              obtain ⟨d, hd⟩ : ∃ d, d = getN S1.nodes (ownK s) := ⟨_, rfl⟩
              obtain ⟨c, hc⟩ : ∃ c, c = getN S1.nodes (epK s) := ⟨_, rfl⟩
              obtain ⟨is, his⟩ : ∃ is, is = isN S1.nodes (ownK s) := ⟨_, rfl⟩
              obtain ⟨ie, hie⟩ : ∃ ie, ie = isN S1.nodes (epK s) := ⟨_, rfl⟩
              have hv : hldV S1 s = if is = true then .tuple #[.int .u64 (numB d.v : Nat), .int .u64 (numB c.v : Nat), .bool true] else .tuple #[.int .u64 0, .int .u64 0, .bool false] := by unfold hldV; rw [his, hd, hc]; rfl
              rw [hv]
              have GE2 : Hid (∀ z, Frm [] w9 z → Calls Tryz.prog 16 #[.pointer (some ⟨q, 1, none⟩), .string (epK s)] z fun e w' => ∃ a c', e = .returned (.tuple #[.agg #[.string c.k, .slice a c.v.length c', .int .u64 (c.ver : Nat), .int .u64 (c.own : Nat)], .bool ie]) ∧ Bytes w' a c.v ∧ Frm [] z w') := Lib.hid (fun z hz => by rw [hc, hie]; exact tq_get (epK s) (T9.out.same hz))
              rw [← hd, ← his] at G1
              unfold ownK at G1
              unfold epK at GE2

              obtain ⟨dk, dv, dver, down⟩ := d
              obtain ⟨ck, cv, cver, cown⟩ := c
              simp only at G1 GE2
              have R9 : Hid (∀ z, Frm [] w9 z → Tq w0 z [] k q S1 S1 4194304 (2 * (j + 1)) (8208 * (j + 1))) := Lib.hid (fun z hz => ((T9.out.same hz).here (Frm.refl _ _) (by simp) (by simp)).more (by omega) (by omega))
              have nl4 : ¬ 9223372036854775807 < 4 + s.size := by have := HS.out; omega
              have nl6 : ¬ 9223372036854775807 < 6 + s.size := by have := HS.out; omega
              have x2 : ((E : Int) != (E : Int)) = false := by simp
              clear hd hc his hie hv hf9 HV T8 T9
              cases is
              · rw [if_neg (show ¬ (false = true) by decide)]
                go_wp2_with fail
                (with_reducible refine G1.out.mono ?_)
                rintro e w10 ⟨oa, oc, rfl, hbo, hf10⟩
                have GE2 := Lib.hid (GE2.out _ (hf10.alloc (.cells #[.string dk, .slice oa dv.length oc, .int .u64 (dver : Nat), .int .u64 (down : Nat)] 58)))
                have F11 := Lib.hid (hf10.alloc (.cells #[.string dk, .slice oa dv.length oc, .int .u64 (dver : Nat), .int .u64 (down : Nat)] 58))
                clear hf10 hbo G1
                go_wp2_with fail
                (with_reducible refine GE2.out.mono ?_)
                rintro e w12 ⟨na, nc, rfl, hbn, hf12⟩
                have R13 := Lib.hid (R9.out _ ((F11.out.trans hf12 (U := []) (by simp) (by simp)).alloc (.cells #[.string ck, .slice na cv.length nc, .int .u64 (cver : Nat), .int .u64 (cown : Nat)] 58)))
                clear hf12 hbn GE2 F11 R9
                go_wp2
                go_roundw
                case rel => exact ⟨j + 1, _, by omega, by go_num, R13⟩
                case measure => simp [intOf]; omega
              · rw [if_pos (show true = true from rfl)]
                go_wp2_with fail
                (with_reducible refine G1.out.mono ?_)
                rintro e w10 ⟨oa, oc, rfl, hbo, hf10⟩
                obtain ⟨g23, hg23⟩ : ∃ g23, g23 = w10.heap.size := ⟨_, rfl⟩
                obtain ⟨w11, hw11⟩ : ∃ w11, w11 = w10.alloc (.cells #[.string dk, .slice oa dv.length oc, .int .u64 (dver : Nat), .int .u64 (down : Nat)] 58) := ⟨_, rfl⟩
                have f1011 : Frm [] w10 w11 := by rw [hw11]; exact (Frm.refl _ _).alloc _
                have BO : Hid (Whole w11 g23 58 #[.string dk, .slice oa dv.length oc, .int .u64 (dver : Nat), .int .u64 (down : Nat)]) := Lib.hid (by rw [hw11, hg23]; exact Whole.made _ _ _)
                have BB := Lib.hid (f1011.bytes hbo (by simp))
                have F11 : Hid (Frm [] w9 w11) := Lib.hid (hf10.trans f1011 (by simp) (by simp))
                have GE2 := Lib.hid (GE2.out _ F11.out)
                have HW11 := Lib.hid hw11
                have HG23 := Lib.hid hg23
                clear hf10 hbo G1 f1011 hw11 hg23
                go_wp2_with fail
                rw [← HW11.out, ← HG23.out]
                (with_reducible refine GE2.out.mono ?_)
                rintro e w12 ⟨na, nc, rfl, hbn, hf12⟩
                obtain ⟨g25, hg25⟩ : ∃ g25, g25 = w12.heap.size := ⟨_, rfl⟩
                obtain ⟨w13, hw13⟩ : ∃ w13, w13 = w12.alloc (.cells #[.string ck, .slice na cv.length nc, .int .u64 (cver : Nat), .int .u64 (cown : Nat)] 58) := ⟨_, rfl⟩
                have f1213 : Frm [] w12 w13 := by rw [hw13]; exact (Frm.refl _ _).alloc _
                have f1113 : Frm [] w11 w13 := hf12.trans f1213 (by simp) (by simp)
                have BN : Hid (Whole w13 g25 58 #[.string ck, .slice na cv.length nc, .int .u64 (cver : Nat), .int .u64 (cown : Nat)]) := Lib.hid (by rw [hw13, hg25]; exact Whole.made _ _ _)
                have BBN := Lib.hid (f1213.bytes hbn (by simp))
                have BO13 := Lib.hid (f1113.whole BO.out (by simp))
                have N1 := Lib.hid (ownumber_any oa dv.length oc dv w13 (f1113.bytes BB.out (by simp)) rfl)
                have F13 : Hid (Frm [] w9 w13) := Lib.hid (F11.out.trans f1113 (by simp) (by simp))
                have o1 := BO13.out.cell 1
                simp only [List.getElem?_toArray, List.getElem?_cons_zero, List.getElem?_cons_succ] at o1
                have HW13 := Lib.hid hw13
                have HG25 := Lib.hid hg25
                obtain ⟨N, hN⟩ : ∃ N, N = numB dv := ⟨_, rfl⟩
                rw [← hN] at N1 ⊢
                obtain ⟨M, hM⟩ : ∃ M, M = numB cv := ⟨_, rfl⟩
                rw [← hM]
                have HM := Lib.hid hM
                have y1 : ((N : Int) != (N : Int)) = false := by simp
                have y2 : ((M : Int) != (M : Int)) = false := by simp
                clear hf12 hbn GE2 f1213 f1113 hw13 hg25 hN hM
                go_upto_region 32 with (fail)
                rw [← HW13.out, ← HG25.out]
                go_wp2_with fail
                (with_reducible refine N1.out.mono ?_)
                rintro e w14 ⟨rfl, hf14⟩
                have n1 := (hf14.whole BN.out (by simp)).cell 1
                simp only [List.getElem?_toArray, List.getElem?_cons_zero, List.getElem?_cons_succ] at n1
                have N2 := ownumber_any na cv.length nc cv w14 (hf14.bytes BBN.out (by simp)) rfl
                rw [← HM.out] at N2
                have N2 := Lib.hid N2
                have F14 : Hid (Frm [] w9 w14) := Lib.hid (F13.out.trans hf14 (by simp) (by simp))
                clear hf14 o1 N1
                go_wp2_with fail
                (with_reducible refine N2.out.mono ?_)
                rintro e w15 ⟨rfl, hf15⟩
                have R15 := Lib.hid (R9.out _ (F14.out.trans hf15 (U := []) (by simp) (by simp)))
                clear hf15 n1 N2 R9
                go_wp2
                go_roundw
                case rel => exact ⟨j + 1, _, by omega, by go_num, R15⟩
                case measure => simp [intOf]; omega
    · obtain rfl : j = m := by omega
      as_aux_lemma =>
        have KL : Hid (∀ z, Frm [] wr z → Calls Tryz.prog 19 #[.pointer (some ⟨k, 0, none⟩), .string ⟨#[]⟩] z fun e w' => ∃ a' c' Y, nds Y = S.nodes ∧ e = .returned (.slice a' Y.length c') ∧ NL w' [] a' Y ∧ Frm [] z w') := Lib.hid (fun z hz => tq_plist (HT.out.same hz))
        have DL : Hid (∀ z, Frm [] wr z → Calls Tryz.prog 20 #[.pointer (some ⟨q, 1, none⟩), .string ⟨#[]⟩] z fun e w' => ∃ a' c' Y, nds Y = S.nodes ∧ e = .returned (.slice a' Y.length c') ∧ NL w' [] a' Y ∧ Frm [] z w') := Lib.hid (fun z hz => tq_rlist (HT.out.same hz))
        have FL : Hid (S.nodes.length ≤ 256) := Lib.hid HT.out.ok.1.few
        have FE : Hid (∀ z, Frm [] wr z → Below w.heap.size w z) := Lib.hid (fun z hz => ((F0.out.trans HT.out.frm (U := []) (by simp) (by simp)).trans hz (U := []) (by simp) (by simp)).below (by simp) (Nat.le_refl _))
        clear HT
        go_upto_region 35 with (fail)
        refine wp_region_held_drew (S := fun w' => Frm [] wr w') (by kernel_rfl) (Frm.drew (Frm.refl _ _)) (fun hHeld => ?_)
        refine wpAnyH_take (i := 0) (oi := ⟨some 210, _, _, _, _, _⟩) (v := ?_) rfl (by kernel_rfl) (by kernel_rfl) (by kernel_rfl) (fun _ _ _ h => h) (Or.inl ⟨by rfl, ?_⟩) (by assumption) ?_
        rotate_left 1
        · (intro w hSw; (try dsimp only at hSw); go_simp; all_goals with_reducible rfl)
        try simp only [Act.put, List.setIfInBounds_toArray, List.set_cons_zero, List.set_cons_succ]
        refine wpAnyH_take (i := 2) (oi := ⟨some 212, _, _, _, _, _⟩) (v := ?_) rfl (by kernel_rfl) (by kernel_rfl) (by kernel_rfl) (fun _ _ _ h => h) (Or.inl ⟨by rfl, ?_⟩) (by assumption) ?_
        rotate_left 1
        · (intro w hSw; (try dsimp only at hSw); go_simp; all_goals with_reducible rfl)
        try simp only [Act.put, List.setIfInBounds_toArray, List.set_cons_zero, List.set_cons_succ]
        refine wpAnyH_take (i := 3) (oi := ⟨some 213, _, _, _, _, _⟩) (v := ?_) rfl (by kernel_rfl) (by kernel_rfl) (by kernel_rfl) (fun _ _ _ h => h) (Or.inl ⟨by rfl, ?_⟩) (by assumption) ?_
        rotate_left 1
        · (intro w hSw; (try dsimp only at hSw); go_simp; all_goals with_reducible rfl)
        try simp only [Act.put, List.setIfInBounds_toArray, List.set_cons_zero, List.set_cons_succ]
        refine wpAnyH_take (i := 4) (oi := ⟨some 214, _, _, _, _, _⟩) (v := ?_) rfl (by kernel_rfl) (by kernel_rfl) (by kernel_rfl) (fun _ _ _ h => h) (Or.inl ⟨by rfl, ?_⟩) (by assumption) ?_
        rotate_left 1
        · (intro w hSw; (try dsimp only at hSw); go_simp; all_goals with_reducible rfl)
        try simp only [Act.put, List.setIfInBounds_toArray, List.set_cons_zero, List.set_cons_succ]
        refine wpAnyH_ready (rs := [1]) (by kernel_rfl) (by simp) ?_
        refine AllReadyH.cons (o := ⟨some 211, _, _, _, _, _⟩) rfl (fun K hK => ?_) AllReadyH.nil
        go_simp
        ((with_reducible refine (KL.out _ (Frm.drew (Frm.refl [] wr))).mono ?_); rintro e wa ⟨a1, c1, Y1, hy1, rfl, hn1, hfa⟩; have S2 : Frm [] wr wa := (Frm.drew (Frm.refl [] wr)).trans hfa (by simp) (by simp); clear hfa)
        go_wp2_with fail
        refine hK.out _ _ (by assumption) (fun hHeld => ?_)
        clear hK K
        try simp only [Act.put, List.setIfInBounds_toArray, List.set_cons_zero, List.set_cons_succ]
        refine wpAnyH_ready (rs := [5]) (by kernel_rfl) (by simp) ?_
        refine AllReadyH.cons (o := ⟨some 215, _, _, _, _, _⟩) rfl (fun K hK => ?_) AllReadyH.nil
        go_simp
        ((with_reducible refine (DL.out _ S2).mono ?_); rintro e wb ⟨a2, c2, Y2, hy2, rfl, hn2, hfb⟩; have S3 : Frm [] wr wb := S2.trans hfb (by simp) (by simp))
        go_wp2_with fail
        refine hK.out _ _ (by assumption) (fun hHeld => ?_)
        clear hK K
        try simp only [Act.put, List.setIfInBounds_toArray, List.set_cons_zero, List.set_cons_succ]
        refine wpAnyH_ready (rs := [6]) (by kernel_rfl) (by simp) ?_
        refine AllReadyH.cons (o := ⟨some 216, _, _, _, _, _⟩) rfl (fun K hK => ?_) AllReadyH.nil
        go_simp
        ((with_reducible refine (SN.out wb _ _ _ _ _ _ _ FL.out hy1 hy2 (hn1.keep hfb (by simp) (by simp)) hn2).mono ?_); rintro e wc2 ⟨rfl, hfc⟩; have S4 : Frm [] wr wc2 := S3.trans hfc (by simp) (by simp))
        go_wp2_with fail
        refine hK.out _ _ (by assumption) (fun hHeld => ?_)
        clear hK K
        try simp only [Act.put, List.setIfInBounds_toArray, List.set_cons_zero, List.set_cons_succ]
        refine wpAnyH_take (i := 7) (oi := ⟨some 2, _, _, _, _, _⟩) (v := ?_) rfl (by kernel_rfl) (by kernel_rfl) (by kernel_rfl) (fun _ _ _ h => h) (Or.inl ⟨by rfl, ?_⟩) (by assumption) ?_
        rotate_left 1
        · (intro w hSw; (try dsimp only at hSw); go_simp; all_goals with_reducible rfl)
        try simp only [Act.put, List.setIfInBounds_toArray, List.set_cons_zero, List.set_cons_succ]
        refine wpAnyH_done (by kernel_rfl) ?_ _
        have FIN := Lib.hid (FE.out _ S4)
        go_wp2
        go_ret
        exact ⟨rfl, FIN.out⟩
end Go.Proofs.YtcbpppdmkhpkkaaGreat
