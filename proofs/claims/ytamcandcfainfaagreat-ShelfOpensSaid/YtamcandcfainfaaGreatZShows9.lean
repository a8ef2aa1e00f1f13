/- Contract of the law's shows: both nodes have the same of a ledger. -/
import Derived.Test.YtamcandcfainfaaGreatMX
import Derived.Test.YtamcandcfainfaaGreatZRdAdd
import Derived.Test.YtamcandcfainfaaGreatZShSame
import Derived.Deep.RegionHeld3
namespace Go.Proofs.YtamcandcfainfaaGreat
open Go.RowKit
set_option maxRecDepth 100000
set_option maxHeartbeats 16000000 in
/-- P: what is known of both nodes; it lives where nothing of what there was is written. -/
theorem shows9_any {w0 w : World} {p q dp room mm : Nat} {S : Nd9} {l : List Nat} (P : World → Prop) (i k : Nat) (hi : i < N64) (hk : k < N64) (hhere : ∀ z z', P z → Frm [] z z' → P z') (hnv : ∀ z, P z → ∃ D, Nv w0 z D p dp S l room) (hm : mm ≤ 900000)
    (hof : Calls Tryz.prog 24 #[.pointer (some ⟨q, 0, none⟩), .int .u64 (i : Nat)] w fun e w' => ∃ (at' g : Nat) (a : Option Addr) (n c : Nat) (X : List Ix) (rn rc : Nat), e = .returned (.int .i64 (at' : Nat)) ∧ P w' ∧ At9 w' q g at' (S i) a n c X rn rc mm) :
    Calls Tryz.prog 10 #[.pointer (some ⟨p, 0, none⟩), .pointer (some ⟨q, 0, none⟩), .int .u64 (i : Nat), .int .u64 (k : Nat)] w fun e w' => e = .returned (.bool true) ∧ P w' := by
  have HH := Lib.hid hhere
  have HNV := Lib.hid hnv
  have HOF := Lib.hid hof
  clear hhere hnv hof
  go_enter Tryz.func10, Tryz.ntmps10
  go_wp2_with fail
  (with_reducible refine HOF.out.mono ?_)
  rintro e w1 ⟨at', g, xa, xn, xc, X, rn, rc, rfl, hp1, h9⟩
  have b0 := h9.box
  obtain ⟨idn, c0⟩ := h9.idc
  have c1 := h9.fen
  have c2 := h9.gone
  have c3 := h9.sure
  have c4 := h9.items
  have lt := h9.lt
  have few : rn ≤ 1000000 := by have := h9.few.1; omega
  obtain ⟨x, hx⟩ : ∃ x, x = S i := ⟨_, rfl⟩
  rw [← hx] at c1 c2 c3 h9
  obtain ⟨gn, hgn⟩ : ∃ gn, gn = x.gone := ⟨_, rfl⟩
  obtain ⟨fn, hfn⟩ : ∃ fn, fn = x.fen := ⟨_, rfl⟩
  obtain ⟨sn, hsn⟩ : ∃ sn, sn = x.sure := ⟨_, rfl⟩
  rw [← hgn] at c2
  rw [← hfn] at c1
  rw [← hsn] at c3
  obtain ⟨w2, hw2⟩ : ∃ w2, w2 = w1.alloc (.cells #[.int .u64 (idn : Nat), .bool fn, .bool gn, .int .u64 (sn : Nat), .slice xa xn xc] 82) := ⟨_, rfl⟩
  obtain ⟨lb, hlb⟩ : ∃ lb, lb = w1.heap.size := ⟨_, rfl⟩
  have hWL := Whole.made w1 82 #[.int .u64 (idn : Nat), .bool fn, .bool gn, .int .u64 (sn : Nat), .slice xa xn xc]
  rw [← hw2, ← hlb] at hWL
  have hf2 : Frm [] w1 w2 := by rw [hw2]; exact (Frm.refl _ _).alloc _
  have HP2 := Lib.hid (HH.out _ _ hp1 hf2)
  obtain ⟨D2, hv2⟩ := HNV.out _ HP2.out
  have HAB := Lib.hid (nv_about i hv2 hi)
  rw [← hx, ← hgn, ← hfn, ← hsn] at HAB
  have HRDF := Lib.hid (fun (z : World) (hz : Frm [] w2 z) => by
    obtain ⟨D, hv⟩ := HNV.out z (HH.out _ _ HP2.out hz)
    have h := nv_read i k hv hi hk
    rw [← hx] at h
    exact h)
  have HLIF := Lib.hid (fun (z : World) (hz : Frm [] w2 z) => by
    obtain ⟨D, hv⟩ := HNV.out z (HH.out _ _ HP2.out hz)
    have h := (nv_list i hv hi).mono (R' := fun e w' => ∃ a c X, its X = (S i).ents ∧ e = .returned (.slice a X.length c) ∧ IL w' [] a X ∧ Frm [] z w') (fun e w' hq => by obtain ⟨a, c, X, h1, h2, h3, h4, _⟩ := hq; exact ⟨a, c, X, h1, h2, h3, h4⟩)
    rw [← hx] at h
    exact h)
  have HLK := Lib.hid (lookE_ix (k := k) h9.its h9.rise)
  have HIL := Lib.hid (h9.il.keep hf2 (F' := []) (by simp) (by simp))
  have HXN := Lib.hid h9.len
  have HXF : Hid (X.length ≤ 1000000) := Lib.hid (by have := h9.few.2; omega)
  have HITS := Lib.hid h9.its
  have HWL := Lib.hid hWL
  have HW2 := Lib.hid hw2
  have HLB := Lib.hid hlb
  clear hp1 h9 hx hgn hfn hsn hw2 hlb hWL hf2 hv2 HOF
  go_wp2_with fail
  rw [← HW2.out, ← HLB.out]
  clear b0 c0 c1 c2 c3 c4 lt few
  (with_reducible refine HAB.out.mono ?_)
  rintro e w3 ⟨rfl, hf3⟩
  have HF3 := Lib.hid hf3
  have HRD := Lib.hid (HRDF.out w3 hf3)
  obtain ⟨o, ho⟩ : ∃ o, o = lookE x.ents k := ⟨_, rfl⟩
  rw [← ho] at HRD HLK
  obtain ⟨ok, hok⟩ : ∃ ok, ok = o.isSome := ⟨_, rfl⟩
  rw [← hok] at HRD
  have HOK := Lib.hid hok
  clear hf3 HAB ho hok HRDF
  go_wp2_with fail
  (with_reducible refine HRD.out.mono ?_)
  rintro e w4 ⟨ra, rdn, rdc, rfl, hrn, hro, hr8, hf4⟩
  have HF4 : Hid (Frm [] w2 w4) := Lib.hid (HF3.out.trans hf4 (by simp) (by simp))
  have HWL4 := Lib.hid (HF4.out.whole HWL.out (by simp))
  have HIL4 := Lib.hid (HIL.out.keep HF4.out (F' := []) (by simp) (by simp))
  have HIT := Lib.hid (ritem_any lb 0 k xn xc xa X (HWL4.out.cell 4) HXN.out HIL4.out (by have := HXF.out; have := HXN.out; omega))
  have HRB : Hid (Bytes w4 ra (o.getD [])) := by
    rw [hrn] at hro
    exact Lib.hid (bytes_of_own hro hr8).2.1
  have HRN := Lib.hid hrn
  clear hrn hro hr8 hf4 HRD
  go_wp2_with fail
  (with_reducible refine HIT.out.mono ?_)
  rintro e w4' ⟨rfl, rfl⟩
  clear HIT
  have hl1 := HWL4.out.cell 1
  have hl2 := HWL4.out.cell 2
  have hl3 := HWL4.out.cell 3
  have hl4 := HWL4.out.cell 4
  simp at hl1 hl2 hl3 hl4
  have L1 : ∀ y, Frm [] w4 y → y.cell? ⟨lb, 1, none⟩ = some (.bool fn) := fun y hy => (hy.whole HWL4.out (by simp)).cell 1
  have L2 : ∀ y, Frm [] w4 y → y.cell? ⟨lb, 2, none⟩ = some (.bool gn) := fun y hy => (hy.whole HWL4.out (by simp)).cell 2
  have L3 : ∀ y, Frm [] w4 y → y.cell? ⟨lb, 3, none⟩ = some (.int .u64 (sn : Nat)) := fun y hy => (hy.whole HWL4.out (by simp)).cell 3
  have L4 : ∀ y, Frm [] w4 y → y.cell? ⟨lb, 4, none⟩ = some (.slice xa xn xc) := fun y hy => (hy.whole HWL4.out (by simp)).cell 4
  have bf : (fn == fn) = true := by simp
  have bg : (gn == gn) = true := by simp
  have bs : ((sn : Int) == (sn : Int)) = true := by simp
  have hLL := Lib.hid (fun (z : World) (hz : Frm [] w4 z) => HLIF.out z (HF4.out.trans hz (by simp) (by simp)))
  have HPZ : Hid (∀ z, Frm [] w4 z → P z) := Lib.hid fun z hz => HH.out _ _ HP2.out (HF4.out.trans hz (by simp) (by simp))
  obtain ⟨iv, hiv⟩ : ∃ iv, iv = ixI X k := ⟨_, rfl⟩
  rw [← hiv]
  by_cases hin : ixN X k < X.length
  · obtain ⟨j, hj⟩ : ∃ j, j = ixN X k := ⟨_, rfl⟩
    have hivj : iv = (j : Nat) := by rw [hiv]; unfold ixI; rw [if_pos hin, hj]
    have hoj : o = some (X.getD j default).t.2 := by rw [HLK.out, if_pos hin, hj]
    rw [← hj] at hin
    obtain ⟨xb, xo, hxa, x0, x1, okx⟩ := HIL4.out.at hin
    subst hxa
    have hjn : j < xn := by have := HXN.out; omega
    generalize X.getD j default = y at hoj x0 x1 okx
    obtain ⟨⟨yk, yv⟩, ya, yc⟩ := y
    have hyb := okx.bytes
    simp only at x0 x1 hyb hoj
    have hok : ok = true := by rw [HOK.out, hoj]; rfl
    obtain ⟨vn, hvn⟩ : ∃ vn, vn = yv.length := ⟨_, rfl⟩
    rw [← hvn] at x1
    have hrb := HRB.out
    have hrn := HRN.out
    rw [hoj] at hrb hrn
    simp only [Option.getD_some] at hrb hrn
    subst hok
    have hge : decide ((0 : Int) ≤ (j : Int)) = true := decide_eq_true (by omega)
    obtain ⟨s1, hs1⟩ : ∃ s1, s1 = strOf yv := ⟨_, rfl⟩
    have v1 : ∀ e, (convert 35 9 (.slice ya vn yc)).run Tryz.prog (w4.drewN e) = .ok (.string s1) (w4.drewN e) := fun e => by
      rw [hs1]; exact run_to_string (P := Tryz.prog) (e := 5) Tryz.underlying35 Tryz.underlying5 Tryz.underlying9 (((Frm.refl [] w4).drewN e).bytes hyb (by simp)) hvn
    have v2 : ∀ e, (convert 35 9 (.slice ra rdn rdc)).run Tryz.prog (w4.drewN e) = .ok (.string s1) (w4.drewN e) := fun e => by
      rw [hs1]; exact run_to_string (P := Tryz.prog) (e := 5) Tryz.underlying35 Tryz.underlying5 Tryz.underlying9 (((Frm.refl [] w4).drewN e).bytes hrb (by simp)) hrn
    have hee : (s1.toList == s1.toList) = true := by simp
    have hti : decide (0 ≤ j) = true := by simp
    subst hivj
    clear hiv hs1 hyb hrb hrn hoj okx x0 hj hin hvn
    go_wp2
    go_quiet (fail)
    go_wp2
    refine wp_region_held_drew (S := fun w' => Frm [] w4 w') (by kernel_rfl) (by first | exact (Frm.refl _ _).drewN _ | exact (((Frm.refl _ _).drewN _).drewN _).drew | exact ((Frm.refl _ _).drewN _).drew | exact (Frm.refl _ _).drew) (fun hHeld => ?_)
    refine wpAnyH_take (i := 0) (oi := ⟨some 71, _, _, _, _, _⟩) (v := ?_) rfl (by kernel_rfl) (by kernel_rfl) (by kernel_rfl) (fun _ _ _ h => h) (Or.inl ⟨by rfl, ?_⟩) (by assumption) ?_
    rotate_left 1
    · (intro w hSw; (try dsimp only at hSw); go_simp; all_goals with_reducible rfl)
    try simp only [Act.put, List.setIfInBounds_toArray, List.set_cons_zero, List.set_cons_succ]
    refine wpAnyH_take (i := 1) (oi := ⟨some 72, _, _, _, _, _⟩) (v := ?_) rfl (by kernel_rfl) (by kernel_rfl) (by kernel_rfl) (fun _ _ _ h => h) (Or.inl ⟨by rfl, ?_⟩) (by assumption) ?_
    rotate_left 1
    · (intro w hSw; (try dsimp only at hSw); go_simp; all_goals with_reducible rfl)
    try simp only [Act.put, List.setIfInBounds_toArray, List.set_cons_zero, List.set_cons_succ]
    refine wpAnyH_take (i := 2) (oi := ⟨some 73, _, _, _, _, _⟩) (v := ?_) rfl (by kernel_rfl) (by kernel_rfl) (by kernel_rfl) (fun _ _ _ h => h) (Or.inl ⟨by rfl, ?_⟩) (by assumption) ?_
    rotate_left 1
    · (intro w hSw; (try dsimp only at hSw); go_simp; all_goals with_reducible rfl)
    try simp only [Act.put, List.setIfInBounds_toArray, List.set_cons_zero, List.set_cons_succ]
    refine wpAnyH_take (i := 3) (oi := ⟨some 74, _, _, _, _, _⟩) (v := ?_) rfl (by kernel_rfl) (by kernel_rfl) (by kernel_rfl) (fun _ _ _ h => h) (Or.inl ⟨by rfl, ?_⟩) (by assumption) ?_
    rotate_left 1
    · (intro w hSw; (try dsimp only at hSw); go_simp; all_goals with_reducible rfl)
    try simp only [Act.put, List.setIfInBounds_toArray, List.set_cons_zero, List.set_cons_succ]
    refine wpAnyH_take (i := 4) (oi := ⟨some 75, _, _, _, _, _⟩) (v := ?_) rfl (by kernel_rfl) (by kernel_rfl) (by kernel_rfl) (fun _ _ _ h => h) (Or.inl ⟨by rfl, ?_⟩) (by assumption) ?_
    rotate_left 1
    · (intro w hSw; (try dsimp only at hSw); go_simp; all_goals with_reducible rfl)
    try simp only [Act.put, List.setIfInBounds_toArray, List.set_cons_zero, List.set_cons_succ]
    refine wpAnyH_take (i := 5) (oi := ⟨some 76, _, _, _, _, _⟩) (v := ?_) rfl (by kernel_rfl) (by kernel_rfl) (by kernel_rfl) (fun _ _ _ h => h) (Or.inl ⟨by rfl, ?_⟩) (by assumption) ?_
    rotate_left 1
    · (intro w hSw; (try dsimp only at hSw); go_simp; all_goals with_reducible rfl)
    try simp only [Act.put, List.setIfInBounds_toArray, List.set_cons_zero, List.set_cons_succ]
    refine wpAnyH_take (i := 6) (oi := ⟨some 77, _, _, _, _, _⟩) (v := ?_) rfl (by kernel_rfl) (by kernel_rfl) (by kernel_rfl) (fun _ _ _ h => h) (Or.inl ⟨by rfl, ?_⟩) (by assumption) ?_
    rotate_left 1
    · (intro w hSw; (try dsimp only at hSw); go_simp; all_goals with_reducible rfl)
    try simp only [Act.put, List.setIfInBounds_toArray, List.set_cons_zero, List.set_cons_succ]
    refine wpAnyH_take (i := 7) (oi := ⟨some 78, _, _, _, _, _⟩) (v := ?_) rfl (by kernel_rfl) (by kernel_rfl) (by kernel_rfl) (fun _ _ _ h => h) (Or.inl ⟨by rfl, ?_⟩) (by assumption) ?_
    rotate_left 1
    · (intro w hSw; (try dsimp only at hSw); go_simp; all_goals with_reducible rfl)
    try simp only [Act.put, List.setIfInBounds_toArray, List.set_cons_zero, List.set_cons_succ]
    refine wpAnyH_take (i := 8) (oi := ⟨some 79, _, _, _, _, _⟩) (v := ?_) rfl (by kernel_rfl) (by kernel_rfl) (by kernel_rfl) (fun _ _ _ h => h) (Or.inl ⟨by rfl, ?_⟩) (by assumption) ?_
    rotate_left 1
    · (intro w hSw; (try dsimp only at hSw); go_simp; all_goals with_reducible rfl)
    try simp only [Act.put, List.setIfInBounds_toArray, List.set_cons_zero, List.set_cons_succ]
    refine wpAnyH_take (i := 9) (oi := ⟨some 80, _, _, _, _, _⟩) (v := ?_) rfl (by kernel_rfl) (by kernel_rfl) (by kernel_rfl) (fun _ _ _ h => h) (Or.inl ⟨by rfl, ?_⟩) (by assumption) ?_
    rotate_left 1
    · (intro w hSw; (try dsimp only at hSw); go_simp; all_goals with_reducible rfl)
    try simp only [Act.put, List.setIfInBounds_toArray, List.set_cons_zero, List.set_cons_succ]
    refine wpAnyH_take (i := 10) (oi := ⟨some 81, _, _, _, _, _⟩) (v := ?_) rfl (by kernel_rfl) (by kernel_rfl) (by kernel_rfl) (fun _ _ _ h => h) (Or.inl ⟨by rfl, ?_⟩) (by assumption) ?_
    rotate_left 1
    · (intro w hSw; (try dsimp only at hSw); go_simp; all_goals with_reducible rfl)
    try simp only [Act.put, List.setIfInBounds_toArray, List.set_cons_zero, List.set_cons_succ]
    refine wpAnyH_take (i := 11) (oi := ⟨some 82, _, _, _, _, _⟩) (v := ?_) rfl (by kernel_rfl) (by kernel_rfl) (by kernel_rfl) (fun _ _ _ h => h) (Or.inl ⟨by rfl, ?_⟩) (by assumption) ?_
    rotate_left 1
    · (intro w hSw; (try dsimp only at hSw); go_simp; all_goals with_reducible rfl)
    try simp only [Act.put, List.setIfInBounds_toArray, List.set_cons_zero, List.set_cons_succ]
    refine wpAnyH_take (i := 12) (oi := ⟨some 83, _, _, _, _, _⟩) (v := ?_) rfl (by kernel_rfl) (by kernel_rfl) (by kernel_rfl) (fun _ _ _ h => h) (Or.inl ⟨by rfl, ?_⟩) (by assumption) ?_
    rotate_left 1
    · (intro w hSw; (try dsimp only at hSw); go_simp; all_goals with_reducible rfl)
    try simp only [Act.put, List.setIfInBounds_toArray, List.set_cons_zero, List.set_cons_succ]
    refine wpAnyH_take (i := 13) (oi := ⟨some 84, _, _, _, _, _⟩) (v := ?_) rfl (by kernel_rfl) (by kernel_rfl) (by kernel_rfl) (fun _ _ _ h => h) (Or.inl ⟨by rfl, ?_⟩) (by assumption) ?_
    rotate_left 1
    · (intro w hSw; (try dsimp only at hSw); go_simp; all_goals with_reducible rfl)
    try simp only [Act.put, List.setIfInBounds_toArray, List.set_cons_zero, List.set_cons_succ]
    refine wpAnyH_take (i := 14) (oi := ⟨some 85, _, _, _, _, _⟩) (v := ?_) rfl (by kernel_rfl) (by kernel_rfl) (by kernel_rfl) (fun _ _ _ h => h) (Or.inl ⟨by rfl, ?_⟩) (by assumption) ?_
    rotate_left 1
    · (intro w hSw; (try dsimp only at hSw); go_simp; all_goals with_reducible rfl)
    try simp only [Act.put, List.setIfInBounds_toArray, List.set_cons_zero, List.set_cons_succ]
    refine wpAnyH_take (i := 15) (oi := ⟨some 86, _, _, _, _, _⟩) (v := ?_) rfl (by kernel_rfl) (by kernel_rfl) (by kernel_rfl) (fun _ _ _ h => h) (Or.inl ⟨by rfl, ?_⟩) (by assumption) ?_
    rotate_left 1
    · (intro w hSw; (try dsimp only at hSw); go_simp; all_goals with_reducible rfl)
    try simp only [Act.put, List.setIfInBounds_toArray, List.set_cons_zero, List.set_cons_succ]
    refine wpAnyH_take (i := 16) (oi := ⟨some 87, _, _, _, _, _⟩) (v := ?_) rfl (by kernel_rfl) (by kernel_rfl) (by kernel_rfl) (fun _ _ _ h => h) (Or.inl ⟨by rfl, ?_⟩) (by assumption) ?_
    rotate_left 1
    · (intro w hSw; (try dsimp only at hSw); go_simp; all_goals with_reducible rfl)
    try simp only [Act.put, List.setIfInBounds_toArray, List.set_cons_zero, List.set_cons_succ]
    refine wpAnyH_take (i := 17) (oi := ⟨some 88, _, _, _, _, _⟩) (v := ?_) rfl (by kernel_rfl) (by kernel_rfl) (by kernel_rfl) (fun _ _ _ h => h) (Or.inl ⟨by rfl, ?_⟩) (by assumption) ?_
    rotate_left 1
    · (intro w hSw; (try dsimp only at hSw); go_simp; all_goals with_reducible rfl)
    try simp only [Act.put, List.setIfInBounds_toArray, List.set_cons_zero, List.set_cons_succ]
    refine wpAnyH_take (i := 18) (oi := ⟨some 89, _, _, _, _, _⟩) (v := ?_) rfl (by kernel_rfl) (by kernel_rfl) (by kernel_rfl) (fun _ _ _ h => h) (Or.inl ⟨by rfl, ?_⟩) (by assumption) ?_
    rotate_left 1
    · (intro w hSw; (try dsimp only at hSw); go_simp; all_goals with_reducible rfl)
    try simp only [Act.put, List.setIfInBounds_toArray, List.set_cons_zero, List.set_cons_succ]
    refine wpAnyH_take (i := 20) (oi := ⟨some 91, _, _, _, _, _⟩) (v := ?_) rfl (by kernel_rfl) (by kernel_rfl) (by kernel_rfl) (fun _ _ _ h => h) (Or.inl ⟨by rfl, ?_⟩) (by assumption) ?_
    rotate_left 1
    · (intro w hSw; (try dsimp only at hSw); go_simp; all_goals with_reducible rfl)
    try simp only [Act.put, List.setIfInBounds_toArray, List.set_cons_zero, List.set_cons_succ]
    refine wpAnyH_take (i := 21) (oi := ⟨some 92, _, _, _, _, _⟩) (v := ?_) rfl (by kernel_rfl) (by kernel_rfl) (by kernel_rfl) (fun _ _ _ h => h) (Or.inl ⟨by rfl, ?_⟩) (by assumption) ?_
    rotate_left 1
    · (intro w hSw; (try dsimp only at hSw); go_simp; all_goals with_reducible rfl)
    try simp only [Act.put, List.setIfInBounds_toArray, List.set_cons_zero, List.set_cons_succ]
    refine wpAnyH_ready (rs := [19]) (by kernel_rfl) (by simp) ?_
    refine AllReadyH.cons (o := ⟨some 90, _, _, _, _, _⟩) rfl (fun K hK => ?_) AllReadyH.nil
    go_simp
    (go_at_call 28; (refine (hLL.out _ (by first | exact (Frm.refl _ _).drewN _ | exact (((Frm.refl _ _).drewN _).drewN _).drew | exact ((Frm.refl _ _).drewN _).drew | exact (Frm.refl _ _).drew)).mono ?_); rintro e w5 ⟨la, lc, Y, hits, rfl, hil, hf5⟩; have S5 : Frm [] w4 w5 := Frm.trans (U := []) ((by first | exact (Frm.refl _ _).drewN _ | exact (((Frm.refl _ _).drewN _).drewN _).drew | exact ((Frm.refl _ _).drewN _).drew | exact (Frm.refl _ _).drew) : Frm [] w4 _) hf5 (by simp) (by simp); have hyn : Y.length = xn := (its_len (hits.trans HITS.out.symm)).trans HXN.out.symm; rw [hyn])
    go_wp2_with fail
    refine hK.out _ _ (by assumption) (fun hHeld => ?_)
    clear hK K
    try simp only [Act.put, List.setIfInBounds_toArray, List.set_cons_zero, List.set_cons_succ]
    refine wpAnyH_ready (rs := [22]) (by kernel_rfl) (by simp) ?_
    refine AllReadyH.cons (o := ⟨some 93, _, _, _, _, _⟩) rfl (fun K hK => ?_) AllReadyH.nil
    go_simp
    (go_at_call 27; (refine (sameItems_true la (some ⟨xb, xo, none⟩) xn lc xc Y X [] [] w5 hil (HIL4.out.keep S5 (F' := []) (by simp) (by simp)) hyn.symm (hits.trans HITS.out.symm) (by have := HXF.out; have := HXN.out; omega)).mono ?_); rintro e w6 ⟨rfl, hf6⟩; have S6 : Frm [] w4 w6 := S5.trans hf6 (by simp) (by simp); have HF6 := Lib.hid S6)
    go_wp2_with fail
    refine hK.out _ _ (by assumption) (fun hHeld => ?_)
    clear hK K
    try simp only [Act.put, List.setIfInBounds_toArray, List.set_cons_zero, List.set_cons_succ]
    refine wpAnyH_take (i := 23) (oi := ⟨some 94, _, _, _, _, _⟩) (v := ?_) rfl (by kernel_rfl) (by kernel_rfl) (by kernel_rfl) (fun _ _ _ h => h) (Or.inl ⟨by rfl, ?_⟩) (by assumption) ?_
    rotate_left 1
    · (intro w hSw; (try dsimp only at hSw); go_simp; all_goals with_reducible rfl)
    try simp only [Act.put, List.setIfInBounds_toArray, List.set_cons_zero, List.set_cons_succ]
    refine wpAnyH_take (i := 24) (oi := ⟨some 8, _, _, _, _, _⟩) (v := ?_) rfl (by kernel_rfl) (by kernel_rfl) (by kernel_rfl) (fun _ _ _ h => h) (Or.inl ⟨by rfl, ?_⟩) (by assumption) ?_
    rotate_left 1
    · (intro w hSw; (try dsimp only at hSw); go_simp; all_goals with_reducible rfl)
    try simp only [Act.put, List.setIfInBounds_toArray, List.set_cons_zero, List.set_cons_succ]
    refine wpAnyH_done (by kernel_rfl) ?_ _
    clear L1 L2 L3 L4 S6
    go_wp2
    go_ret
    exact ⟨rfl, HPZ.out _ HF6.out⟩
  · have hivj : iv = -1 := by rw [hiv]; unfold ixI; rw [if_neg hin]
    have hoj : o = none := by rw [HLK.out, if_neg hin]
    have hok : ok = false := by rw [HOK.out, hoj]; rfl
    have hrn := HRN.out
    rw [hoj] at hrn
    simp at hrn
    subst hrn
    subst hok
    subst hivj
    clear hiv hin hoj
    go_wp2
    go_quiet (fail)
    go_wp2
    refine wp_region_held_drew (S := fun w' => Frm [] w4 w') (by kernel_rfl) (by first | exact (Frm.refl _ _).drewN _ | exact (((Frm.refl _ _).drewN _).drewN _).drew | exact ((Frm.refl _ _).drewN _).drew | exact (Frm.refl _ _).drew) (fun hHeld => ?_)
    refine wpAnyH_take (i := 0) (oi := ⟨some 71, _, _, _, _, _⟩) (v := ?_) rfl (by kernel_rfl) (by kernel_rfl) (by kernel_rfl) (fun _ _ _ h => h) (Or.inl ⟨by rfl, ?_⟩) (by assumption) ?_
    rotate_left 1
    · (intro w hSw; (try dsimp only at hSw); go_simp; all_goals with_reducible rfl)
    try simp only [Act.put, List.setIfInBounds_toArray, List.set_cons_zero, List.set_cons_succ]
    refine wpAnyH_take (i := 1) (oi := ⟨some 72, _, _, _, _, _⟩) (v := ?_) rfl (by kernel_rfl) (by kernel_rfl) (by kernel_rfl) (fun _ _ _ h => h) (Or.inl ⟨by rfl, ?_⟩) (by assumption) ?_
    rotate_left 1
    · (intro w hSw; (try dsimp only at hSw); go_simp; all_goals with_reducible rfl)
    try simp only [Act.put, List.setIfInBounds_toArray, List.set_cons_zero, List.set_cons_succ]
    refine wpAnyH_take (i := 2) (oi := ⟨some 73, _, _, _, _, _⟩) (v := ?_) rfl (by kernel_rfl) (by kernel_rfl) (by kernel_rfl) (fun _ _ _ h => h) (Or.inl ⟨by rfl, ?_⟩) (by assumption) ?_
    rotate_left 1
    · (intro w hSw; (try dsimp only at hSw); go_simp; all_goals with_reducible rfl)
    try simp only [Act.put, List.setIfInBounds_toArray, List.set_cons_zero, List.set_cons_succ]
    refine wpAnyH_take (i := 3) (oi := ⟨some 74, _, _, _, _, _⟩) (v := ?_) rfl (by kernel_rfl) (by kernel_rfl) (by kernel_rfl) (fun _ _ _ h => h) (Or.inl ⟨by rfl, ?_⟩) (by assumption) ?_
    rotate_left 1
    · (intro w hSw; (try dsimp only at hSw); go_simp; all_goals with_reducible rfl)
    try simp only [Act.put, List.setIfInBounds_toArray, List.set_cons_zero, List.set_cons_succ]
    refine wpAnyH_take (i := 4) (oi := ⟨some 75, _, _, _, _, _⟩) (v := ?_) rfl (by kernel_rfl) (by kernel_rfl) (by kernel_rfl) (fun _ _ _ h => h) (Or.inl ⟨by rfl, ?_⟩) (by assumption) ?_
    rotate_left 1
    · (intro w hSw; (try dsimp only at hSw); go_simp; all_goals with_reducible rfl)
    try simp only [Act.put, List.setIfInBounds_toArray, List.set_cons_zero, List.set_cons_succ]
    refine wpAnyH_take (i := 5) (oi := ⟨some 76, _, _, _, _, _⟩) (v := ?_) rfl (by kernel_rfl) (by kernel_rfl) (by kernel_rfl) (fun _ _ _ h => h) (Or.inl ⟨by rfl, ?_⟩) (by assumption) ?_
    rotate_left 1
    · (intro w hSw; (try dsimp only at hSw); go_simp; all_goals with_reducible rfl)
    try simp only [Act.put, List.setIfInBounds_toArray, List.set_cons_zero, List.set_cons_succ]
    refine wpAnyH_take (i := 6) (oi := ⟨some 77, _, _, _, _, _⟩) (v := ?_) rfl (by kernel_rfl) (by kernel_rfl) (by kernel_rfl) (fun _ _ _ h => h) (Or.inl ⟨by rfl, ?_⟩) (by assumption) ?_
    rotate_left 1
    · (intro w hSw; (try dsimp only at hSw); go_simp; all_goals with_reducible rfl)
    try simp only [Act.put, List.setIfInBounds_toArray, List.set_cons_zero, List.set_cons_succ]
    refine wpAnyH_take (i := 7) (oi := ⟨some 78, _, _, _, _, _⟩) (v := ?_) rfl (by kernel_rfl) (by kernel_rfl) (by kernel_rfl) (fun _ _ _ h => h) (Or.inl ⟨by rfl, ?_⟩) (by assumption) ?_
    rotate_left 1
    · (intro w hSw; (try dsimp only at hSw); go_simp; all_goals with_reducible rfl)
    try simp only [Act.put, List.setIfInBounds_toArray, List.set_cons_zero, List.set_cons_succ]
    refine wpAnyH_take (i := 8) (oi := ⟨some 79, _, _, _, _, _⟩) (v := ?_) rfl (by kernel_rfl) (by kernel_rfl) (by kernel_rfl) (fun _ _ _ h => h) (Or.inl ⟨by rfl, ?_⟩) (by assumption) ?_
    rotate_left 1
    · (intro w hSw; (try dsimp only at hSw); go_simp; all_goals with_reducible rfl)
    try simp only [Act.put, List.setIfInBounds_toArray, List.set_cons_zero, List.set_cons_succ]
    refine wpAnyH_take (i := 9) (oi := ⟨some 80, _, _, _, _, _⟩) (v := ?_) rfl (by kernel_rfl) (by kernel_rfl) (by kernel_rfl) (fun _ _ _ h => h) (Or.inl ⟨by rfl, ?_⟩) (by assumption) ?_
    rotate_left 1
    · (intro w hSw; (try dsimp only at hSw); go_simp; all_goals with_reducible rfl)
    try simp only [Act.put, List.setIfInBounds_toArray, List.set_cons_zero, List.set_cons_succ]
    refine wpAnyH_take (i := 10) (oi := ⟨some 81, _, _, _, _, _⟩) (v := ?_) rfl (by kernel_rfl) (by kernel_rfl) (by kernel_rfl) (fun _ _ _ h => h) (Or.inl ⟨by rfl, ?_⟩) (by assumption) ?_
    rotate_left 1
    · (intro w hSw; (try dsimp only at hSw); go_simp; all_goals with_reducible rfl)
    try simp only [Act.put, List.setIfInBounds_toArray, List.set_cons_zero, List.set_cons_succ]
    refine wpAnyH_take (i := 11) (oi := ⟨some 82, _, _, _, _, _⟩) (v := ?_) rfl (by kernel_rfl) (by kernel_rfl) (by kernel_rfl) (fun _ _ _ h => h) (Or.inl ⟨by rfl, ?_⟩) (by assumption) ?_
    rotate_left 1
    · (intro w hSw; (try dsimp only at hSw); go_simp; all_goals with_reducible rfl)
    try simp only [Act.put, List.setIfInBounds_toArray, List.set_cons_zero, List.set_cons_succ]
    refine wpAnyH_take (i := 12) (oi := ⟨some 83, _, _, _, _, _⟩) (v := ?_) rfl (by kernel_rfl) (by kernel_rfl) (by kernel_rfl) (fun _ _ _ h => h) (Or.inl ⟨by rfl, ?_⟩) (by assumption) ?_
    rotate_left 1
    · (intro w hSw; (try dsimp only at hSw); go_simp; all_goals with_reducible rfl)
    try simp only [Act.put, List.setIfInBounds_toArray, List.set_cons_zero, List.set_cons_succ]
    refine wpAnyH_take (i := 13) (oi := ⟨some 84, _, _, _, _, _⟩) (v := ?_) rfl (by kernel_rfl) (by kernel_rfl) (by kernel_rfl) (fun _ _ _ h => h) (Or.inl ⟨by rfl, ?_⟩) (by assumption) ?_
    rotate_left 1
    · (intro w hSw; (try dsimp only at hSw); go_simp; all_goals with_reducible rfl)
    try simp only [Act.put, List.setIfInBounds_toArray, List.set_cons_zero, List.set_cons_succ]
    refine wpAnyH_take (i := 14) (oi := ⟨some 85, _, _, _, _, _⟩) (v := ?_) rfl (by kernel_rfl) (by kernel_rfl) (by kernel_rfl) (fun _ _ _ h => h) (Or.inl ⟨by rfl, ?_⟩) (by assumption) ?_
    rotate_left 1
    · (intro w hSw; (try dsimp only at hSw); go_simp; all_goals with_reducible rfl)
    try simp only [Act.put, List.setIfInBounds_toArray, List.set_cons_zero, List.set_cons_succ]
    refine wpAnyH_take (i := 15) (oi := ⟨some 86, _, _, _, _, _⟩) (v := ?_) rfl (by kernel_rfl) (by kernel_rfl) (by kernel_rfl) (fun _ _ _ h => h) (Or.inl ⟨by rfl, ?_⟩) (by assumption) ?_
    rotate_left 1
    · (intro w hSw; (try dsimp only at hSw); go_simp; all_goals with_reducible rfl)
    try simp only [Act.put, List.setIfInBounds_toArray, List.set_cons_zero, List.set_cons_succ]
    refine wpAnyH_take (i := 16) (oi := ⟨some 87, _, _, _, _, _⟩) (v := ?_) rfl (by kernel_rfl) (by kernel_rfl) (by kernel_rfl) (fun _ _ _ h => h) (Or.inl ⟨by rfl, ?_⟩) (by assumption) ?_
    rotate_left 1
    · (intro w hSw; (try dsimp only at hSw); go_simp; all_goals with_reducible rfl)
    try simp only [Act.put, List.setIfInBounds_toArray, List.set_cons_zero, List.set_cons_succ]
    refine wpAnyH_take (i := 17) (oi := ⟨some 88, _, _, _, _, _⟩) (v := ?_) rfl (by kernel_rfl) (by kernel_rfl) (by kernel_rfl) (fun _ _ _ h => h) (Or.inl ⟨by rfl, ?_⟩) (by assumption) ?_
    rotate_left 1
    · (intro w hSw; (try dsimp only at hSw); go_simp; all_goals with_reducible rfl)
    try simp only [Act.put, List.setIfInBounds_toArray, List.set_cons_zero, List.set_cons_succ]
    refine wpAnyH_take (i := 18) (oi := ⟨some 89, _, _, _, _, _⟩) (v := ?_) rfl (by kernel_rfl) (by kernel_rfl) (by kernel_rfl) (fun _ _ _ h => h) (Or.inl ⟨by rfl, ?_⟩) (by assumption) ?_
    rotate_left 1
    · (intro w hSw; (try dsimp only at hSw); go_simp; all_goals with_reducible rfl)
    try simp only [Act.put, List.setIfInBounds_toArray, List.set_cons_zero, List.set_cons_succ]
    refine wpAnyH_take (i := 20) (oi := ⟨some 91, _, _, _, _, _⟩) (v := ?_) rfl (by kernel_rfl) (by kernel_rfl) (by kernel_rfl) (fun _ _ _ h => h) (Or.inl ⟨by rfl, ?_⟩) (by assumption) ?_
    rotate_left 1
    · (intro w hSw; (try dsimp only at hSw); go_simp; all_goals with_reducible rfl)
    try simp only [Act.put, List.setIfInBounds_toArray, List.set_cons_zero, List.set_cons_succ]
    refine wpAnyH_take (i := 21) (oi := ⟨some 92, _, _, _, _, _⟩) (v := ?_) rfl (by kernel_rfl) (by kernel_rfl) (by kernel_rfl) (fun _ _ _ h => h) (Or.inl ⟨by rfl, ?_⟩) (by assumption) ?_
    rotate_left 1
    · (intro w hSw; (try dsimp only at hSw); go_simp; all_goals with_reducible rfl)
    try simp only [Act.put, List.setIfInBounds_toArray, List.set_cons_zero, List.set_cons_succ]
    refine wpAnyH_ready (rs := [19]) (by kernel_rfl) (by simp) ?_
    refine AllReadyH.cons (o := ⟨some 90, _, _, _, _, _⟩) rfl (fun K hK => ?_) AllReadyH.nil
    go_simp
    (go_at_call 28; (refine (hLL.out _ (by first | exact (Frm.refl _ _).drewN _ | exact (((Frm.refl _ _).drewN _).drewN _).drew | exact ((Frm.refl _ _).drewN _).drew | exact (Frm.refl _ _).drew)).mono ?_); rintro e w5 ⟨la, lc, Y, hits, rfl, hil, hf5⟩; have S5 : Frm [] w4 w5 := Frm.trans (U := []) ((by first | exact (Frm.refl _ _).drewN _ | exact (((Frm.refl _ _).drewN _).drewN _).drew | exact ((Frm.refl _ _).drewN _).drew | exact (Frm.refl _ _).drew) : Frm [] w4 _) hf5 (by simp) (by simp); have hyn : Y.length = xn := (its_len (hits.trans HITS.out.symm)).trans HXN.out.symm; rw [hyn])
    go_wp2_with fail
    refine hK.out _ _ (by assumption) (fun hHeld => ?_)
    clear hK K
    try simp only [Act.put, List.setIfInBounds_toArray, List.set_cons_zero, List.set_cons_succ]
    refine wpAnyH_ready (rs := [22]) (by kernel_rfl) (by simp) ?_
    refine AllReadyH.cons (o := ⟨some 93, _, _, _, _, _⟩) rfl (fun K hK => ?_) AllReadyH.nil
    go_simp
    (go_at_call 27; (refine (sameItems_true la (xa) xn lc xc Y X [] [] w5 hil (HIL4.out.keep S5 (F' := []) (by simp) (by simp)) hyn.symm (hits.trans HITS.out.symm) (by have := HXF.out; have := HXN.out; omega)).mono ?_); rintro e w6 ⟨rfl, hf6⟩; have S6 : Frm [] w4 w6 := S5.trans hf6 (by simp) (by simp); have HF6 := Lib.hid S6)
    go_wp2_with fail
    refine hK.out _ _ (by assumption) (fun hHeld => ?_)
    clear hK K
    try simp only [Act.put, List.setIfInBounds_toArray, List.set_cons_zero, List.set_cons_succ]
    refine wpAnyH_take (i := 23) (oi := ⟨some 94, _, _, _, _, _⟩) (v := ?_) rfl (by kernel_rfl) (by kernel_rfl) (by kernel_rfl) (fun _ _ _ h => h) (Or.inl ⟨by rfl, ?_⟩) (by assumption) ?_
    rotate_left 1
    · (intro w hSw; (try dsimp only at hSw); go_simp; all_goals with_reducible rfl)
    try simp only [Act.put, List.setIfInBounds_toArray, List.set_cons_zero, List.set_cons_succ]
    refine wpAnyH_take (i := 24) (oi := ⟨some 8, _, _, _, _, _⟩) (v := ?_) rfl (by kernel_rfl) (by kernel_rfl) (by kernel_rfl) (fun _ _ _ h => h) (Or.inl ⟨by rfl, ?_⟩) (by assumption) ?_
    rotate_left 1
    · (intro w hSw; (try dsimp only at hSw); go_simp; all_goals with_reducible rfl)
    try simp only [Act.put, List.setIfInBounds_toArray, List.set_cons_zero, List.set_cons_succ]
    refine wpAnyH_done (by kernel_rfl) ?_ _
    clear L1 L2 L3 L4 S6
    go_wp2
    go_ret
    exact ⟨rfl, HPZ.out _ HF6.out⟩
end Go.Proofs.YtamcandcfainfaaGreat
