/- Contract of the document's write. -/
import Derived.Test.YtamcandcfainfaaGreatMX
import Derived.Test.YtamcandcfainfaaGreatZRd
import Derived.Test.YtamcandcfainfaaGreatZRwPut
import Derived.Deep.RegionHeld3
namespace Go.Proofs.YtamcandcfainfaaGreat
open Go.RowKit
set_option maxRecDepth 100000
theorem say1_of {S : Nd9} {b : List Nat} {i : Nat} {x : Lg} (h : shPre S b = some (i, x, [])) : say1 S b = some (updS S i x) := by unfold say1; rw [h]; rfl
/-- The disk's own block may turn, but for what it is asked here. -/
def SmD (w : World) (m : Nat) (v : Value) (y : World) : Prop := Frm [m] w y ∧ y.cell? ⟨m, 2, none⟩ = some v
set_option maxHeartbeats 8000000 in
theorem rdwrite_any {w0 w : World} {B : Nat} {G W : List Nat} {q m : Nat} {S : Nd9} {l : List Nat} {room mm : Nat} {b : List Nat} {i : Nat} {x : Lg} {ba : Option Addr} {bc : Nat} (hsay : say1 S b = some (updS S i x)) (h : Rd w B G W q m S l room mm) (hG : ∀ y ∈ G, y < w.heap.size) (hm : mm ≤ 800000) (hw : Rw w0 w ba bc b) (h8 : ∀ y ∈ b, y < 256) (hb4 : b.length ≤ 4096) (hlt : ∀ y ∈ W, y < w0.heap.size) :
    Calls Tryz.prog 34 #[.pointer (some ⟨q, 0, none⟩), .slice ba b.length bc] w fun e w' => e = .returned (.int .i64 (jc l b room : Nat)) ∧ RdTo w w' B G W q m (swS S l b room i x) (jl l b room) room (mm + 2) := by
  have hd0 := h
  obtain ⟨La, Lc, R, Gd, hs, hn, hr, ho, hW⟩ := h
  obtain ⟨bn, hbn⟩ : ∃ bn, bn = b.length := ⟨_, rfl⟩
  have hob := bytes_of_own hw.own h8
  have hoff : b ≠ [] → ∀ y, ba = some y → y.block ∉ W := fun _ y hy hm' => by
    have h1 := hw.new y.block (by rw [hy]; simp [ob])
    have h2 := hlt _ hm'
    omega
  have hcap : bn ≤ bc := by
    rcases hw.own.2 with ⟨hv, _⟩ | ⟨g, cap, cur, hv, _, _, h1, _⟩
    · simp only [Value.slice.injEq] at hv; omega
    · simp only [Value.slice.injEq] at hv; omega
  rw [← hbn]
  have HBN := Lib.hid hbn
  have HCAP := Lib.hid hcap
  have hb5 : bn ≤ 4096 := by omega
  have HBY := Lib.hid hob.2.1
  have HNIL := Lib.hid hob.2.2
  have HOFF := Lib.hid hoff
  have c1 := hs.box.cell 1
  simp at c1
  have hqd : q ∉ Gd := fun hm' => (hs.out q (by unfold rwB; simp)).1 (List.mem_append_left _ hm')
  have hql := hs.lt q (by unfold rwB; simp)
  have q1 : ∀ y, Frm Gd w y → y.cell? ⟨q, 1, none⟩ = some (.pointer (some ⟨m, 0, none⟩)) := fun y hy => (hy.cell (p := ⟨q, 1, none⟩) hql hqd).trans c1
  have HQ1 := Lib.hid q1
  have HFR := Lib.hid (fun (z : World) (hz : Frm [] w z) => ref_frame_any ba bn bc b z (hz.bytes' HBY.out (by simp)) HBN.out HNIL.out (by omega))
  have HFN : Hid (∀ (z : World) (fa : Option Addr) (fc : Nat), Bytes z fa (fr b) → fa = none → fc = 0) := Lib.hid fun z fa fc h e => by
    subst e
    rcases h.2.2 with h | ⟨b, off, h, _⟩
    · have := congrArg List.length h; rw [fr_length] at this; simp at this
    · cases h
  have HRF := Lib.hid (fun (y : World) (hy : Frm [] w y) => hr.keep hy (by simp))
  have HR := Lib.hid hr
  have HS := Lib.hid hs
  have HD := Lib.hid hd0
  have HN := Lib.hid hn
  have HO := Lib.hid ho
  have HW := Lib.hid hW
  have HG := Lib.hid hG
  have HSAY := Lib.hid hsay
  have HM := hm
  obtain ⟨Q, hQ⟩ : ∃ Q : Ending → World → Prop, Q = fun e w' => e = .returned (.int .i64 (jc l b room : Nat)) ∧ RdTo w w' B G W q m (swS S l b room i x) (jl l b room) room (mm + 2) := ⟨_, rfl⟩
  have HQ := Lib.hid hQ
  rw [← hQ]
  clear hd0 hs hn hr ho hW hob hoff hbn hw h8 hlt hsay hG hcap c1 hQ
  go_enter Tryz.func34, Tryz.ntmps34
  by_cases hrm : room < l.length + (bn + 8)
  · have hrl : room < l.length + (b.length + 8) := by have := HBN.out; omega
    have hrs : b.length + 8 ≤ 1000000 := by omega
    go_wp2
    refine wp_region_held_drew (S := fun w' => Frm Gd w w') (by kernel_rfl) (Frm.drew (Frm.refl _ _)) (fun hHeld => ?_)
    refine wpAnyH_take (i := 0) (oi := ⟨some 6, _, _, _, _, _⟩) (v := ?_) rfl (by kernel_rfl) (by kernel_rfl) (by kernel_rfl) (fun _ _ _ h => h) (Or.inl ⟨by rfl, ?_⟩) (by assumption) ?_
    rotate_left 1
    · (intro w hSw; (try dsimp only at hSw); go_simp; all_goals with_reducible rfl)
    try simp only [Act.put, List.setIfInBounds_toArray, List.set_cons_zero, List.set_cons_succ]
    refine wpAnyH_take (i := 1) (oi := ⟨some 7, _, _, _, _, _⟩) (v := ?_) rfl (by kernel_rfl) (by kernel_rfl) (by kernel_rfl) (fun _ _ _ h => h) (Or.inl ⟨by rfl, ?_⟩) (by assumption) ?_
    rotate_left 1
    · (intro w hSw; (try dsimp only at hSw); go_simp; all_goals with_reducible rfl)
    try simp only [Act.put, List.setIfInBounds_toArray, List.set_cons_zero, List.set_cons_succ]
    refine wpAnyH_take (i := 2) (oi := ⟨some 8, _, _, _, _, _⟩) (v := ?_) rfl (by kernel_rfl) (by kernel_rfl) (by kernel_rfl) (fun _ _ _ h => h) (Or.inl ⟨by rfl, ?_⟩) (by assumption) ?_
    rotate_left 1
    · (intro w hSw; (try dsimp only at hSw); go_simp; all_goals with_reducible rfl)
    try simp only [Act.put, List.setIfInBounds_toArray, List.set_cons_zero, List.set_cons_succ]
    refine wpAnyH_take (i := 3) (oi := ⟨some 9, _, _, _, _, _⟩) (v := ?_) rfl (by kernel_rfl) (by kernel_rfl) (by kernel_rfl) (fun _ _ _ h => h) (Or.inl ⟨by rfl, ?_⟩) (by assumption) ?_
    rotate_left 1
    · (intro w hSw; (try dsimp only at hSw); go_simp; all_goals with_reducible rfl)
    try simp only [Act.put, List.setIfInBounds_toArray, List.set_cons_zero, List.set_cons_succ]
    refine wpAnyH_take (i := 4) (oi := ⟨some 10, _, _, _, _, _⟩) (v := ?_) rfl (by kernel_rfl) (by kernel_rfl) (by kernel_rfl) (fun _ _ _ h => h) (Or.inl ⟨by rfl, ?_⟩) (by assumption) ?_
    rotate_left 1
    · (intro w hSw; (try dsimp only at hSw); go_simp; all_goals with_reducible rfl)
    try simp only [Act.put, List.setIfInBounds_toArray, List.set_cons_zero, List.set_cons_succ]
    refine wpAnyH_ready (rs := [5]) (by kernel_rfl) (by simp) ?_
    refine AllReadyH.cons (o := ⟨some 11, _, _, _, _, _⟩) rfl (fun K hK => ?_) AllReadyH.nil
    go_simp
    (go_at_call 40; (with_reducible refine (HFR.out _ (Frm.refl [] w).drew).mono ?_); rintro e w4 ⟨fa, fc, rfl, hfb, hf4⟩; have S4 : Frm [] w w4 := (Frm.refl [] w).drew.trans hf4 (by simp) (by simp); have S4g : Frm Gd w w4 := S4.weak (by simp))
    go_wp2_with fail
    refine hK.out _ _ (by assumption) (fun hHeld => ?_)
    clear hK K
    try simp only [Act.put, List.setIfInBounds_toArray, List.set_cons_zero, List.set_cons_succ]
    refine wpAnyH_ready (rs := [6]) (by kernel_rfl) (by simp) ?_
    refine AllReadyH.cons (o := ⟨some 12, _, _, _, _, _⟩) rfl (fun K hK => ?_) AllReadyH.nil
    go_simp
    (go_at_call 54; (refine (rappend_full fa _ fc (HRF.out _ S4) (by rw [fr_length]; omega) (by rw [fr_length]; omega)).mono ?_); rintro e w5 ⟨rfl, n5, rfl⟩; have S5 : Frm Gd w (w4.drewN n5) := S4g.drewN _)
    go_wp2_with fail
    refine hK.out _ _ (by assumption) (fun hHeld => ?_)
    clear hK K
    try simp only [Act.put, List.setIfInBounds_toArray, List.set_cons_zero, List.set_cons_succ]
    refine wpAnyH_take (i := 7) (oi := ⟨some 5, _, _, _, _, _⟩) (v := ?_) rfl (by kernel_rfl) (by kernel_rfl) (by kernel_rfl) (fun _ _ _ h => h) (Or.inl ⟨by rfl, ?_⟩) (by assumption) ?_
    rotate_left 1
    · (intro w hSw; (try dsimp only at hSw); go_simp; all_goals with_reducible rfl)
    try simp only [Act.put, List.setIfInBounds_toArray, List.set_cons_zero, List.set_cons_succ]
    refine wpAnyH_done (by kernel_rfl) ?_ _
    have HE : Hid (∀ z, Frm [] w z → Q (.returned (.int .i64 8)) z) := Lib.hid fun z hz => by
      have hj : jc l b room = 8 := by unfold jc; rw [if_neg (by omega), if_pos hrl]
      rw [HQ.out]
      dsimp only
      unfold swS jl
      rw [hj, if_neg (by decide), if_neg (by decide)]
      exact ⟨rfl, RdTo.same HD.out hz (by omega)⟩
    have HZ : Hid (Frm [] w (w4.drewN n5)) := Lib.hid (S4.drewN _)
    clear q1 hrm hrl hrs S5 S4 S4g hf4 hfb
    go_wp2
    exact HE.out _ (by first | exact HZ.out | exact HZ.out.drewN _ | exact HZ.out.drew)
  · have hrl : l.length + (b.length + 8) ≤ room := by have := HBN.out; omega
    have HRL := Lib.hid hrl
    clear hrm
    go_wp2
    refine wp_region_held_drew (S := fun w' => Frm Gd w w') (by kernel_rfl) (Frm.drew (Frm.refl _ _)) (fun hHeld => ?_)
    refine wpAnyH_take (i := 0) (oi := ⟨some 6, _, _, _, _, _⟩) (v := ?_) rfl (by kernel_rfl) (by kernel_rfl) (by kernel_rfl) (fun _ _ _ h => h) (Or.inl ⟨by rfl, ?_⟩) (by assumption) ?_
    rotate_left 1
    · (intro w hSw; (try dsimp only at hSw); go_simp; all_goals with_reducible rfl)
    try simp only [Act.put, List.setIfInBounds_toArray, List.set_cons_zero, List.set_cons_succ]
    refine wpAnyH_take (i := 1) (oi := ⟨some 7, _, _, _, _, _⟩) (v := ?_) rfl (by kernel_rfl) (by kernel_rfl) (by kernel_rfl) (fun _ _ _ h => h) (Or.inl ⟨by rfl, ?_⟩) (by assumption) ?_
    rotate_left 1
    · (intro w hSw; (try dsimp only at hSw); go_simp; all_goals with_reducible rfl)
    try simp only [Act.put, List.setIfInBounds_toArray, List.set_cons_zero, List.set_cons_succ]
    refine wpAnyH_take (i := 2) (oi := ⟨some 8, _, _, _, _, _⟩) (v := ?_) rfl (by kernel_rfl) (by kernel_rfl) (by kernel_rfl) (fun _ _ _ h => h) (Or.inl ⟨by rfl, ?_⟩) (by assumption) ?_
    rotate_left 1
    · (intro w hSw; (try dsimp only at hSw); go_simp; all_goals with_reducible rfl)
    try simp only [Act.put, List.setIfInBounds_toArray, List.set_cons_zero, List.set_cons_succ]
    refine wpAnyH_take (i := 3) (oi := ⟨some 9, _, _, _, _, _⟩) (v := ?_) rfl (by kernel_rfl) (by kernel_rfl) (by kernel_rfl) (fun _ _ _ h => h) (Or.inl ⟨by rfl, ?_⟩) (by assumption) ?_
    rotate_left 1
    · (intro w hSw; (try dsimp only at hSw); go_simp; all_goals with_reducible rfl)
    try simp only [Act.put, List.setIfInBounds_toArray, List.set_cons_zero, List.set_cons_succ]
    refine wpAnyH_take (i := 4) (oi := ⟨some 10, _, _, _, _, _⟩) (v := ?_) rfl (by kernel_rfl) (by kernel_rfl) (by kernel_rfl) (fun _ _ _ h => h) (Or.inl ⟨by rfl, ?_⟩) (by assumption) ?_
    rotate_left 1
    · (intro w hSw; (try dsimp only at hSw); go_simp; all_goals with_reducible rfl)
    try simp only [Act.put, List.setIfInBounds_toArray, List.set_cons_zero, List.set_cons_succ]
    refine wpAnyH_ready (rs := [5]) (by kernel_rfl) (by simp) ?_
    refine AllReadyH.cons (o := ⟨some 11, _, _, _, _, _⟩) rfl (fun K hK => ?_) AllReadyH.nil
    go_simp
    (go_at_call 40; (with_reducible refine (HFR.out _ (Frm.refl [] w).drew).mono ?_); rintro e w4 ⟨fa, fc, rfl, hfb, hf4⟩; have S4 : Frm [] w w4 := (Frm.refl [] w).drew.trans hf4 (by simp) (by simp); have S4g : Frm Gd w w4 := S4.weak (by simp))
    go_wp2_with fail
    refine hK.out _ _ (by assumption) (fun hHeld => ?_)
    clear hK K
    try simp only [Act.put, List.setIfInBounds_toArray, List.set_cons_zero, List.set_cons_succ]
    refine wpAnyH_ready (rs := [6]) (by kernel_rfl) (by simp) ?_
    refine AllReadyH.cons (o := ⟨some 12, _, _, _, _, _⟩) rfl (fun K hK => ?_) AllReadyH.nil
    go_simp
    (go_at_call 54; (refine (rappend_ok fa _ fc (fr b) (HRF.out _ S4) hfb rfl (HFN.out _ _ _ hfb) (by rw [fr_length]; omega)).mono ?_); rintro e w5 ⟨rfl, Gd', hrf5, hf5, hx5⟩; have S5 : Frm Gd w w5 := S4.trans hf5 (by simp) (fun x hx => .inl hx))
    go_wp2_with fail
    refine hK.out _ _ (by assumption) (fun hHeld => ?_)
    clear hK K
    try simp only [Act.put, List.setIfInBounds_toArray, List.set_cons_zero, List.set_cons_succ]
    refine wpAnyH_take (i := 7) (oi := ⟨some 5, _, _, _, _, _⟩) (v := ?_) rfl (by kernel_rfl) (by kernel_rfl) (by kernel_rfl) (fun _ _ _ h => h) (Or.inl ⟨by rfl, ?_⟩) (by assumption) ?_
    rotate_left 1
    · (intro w hSw; (try dsimp only at hSw); go_simp; all_goals with_reducible rfl)
    try simp only [Act.put, List.setIfInBounds_toArray, List.set_cons_zero, List.set_cons_succ]
    refine wpAnyH_done (by kernel_rfl) ?_ _
    clear q1 hrl
    have HRF5 := Lib.hid hrf5
    obtain ⟨hs5, da, dcap, hm5, hh5, hGd5⟩ := hrf5
    obtain ⟨dn, hdn⟩ : ∃ dn, dn = (l ++ fr b).length := ⟨_, rfl⟩
    rw [← hdn] at hm5
    have HDN := Lib.hid hdn
    have hm2 : w5.drew.cell? ⟨m, 2, none⟩ = some (.slice da dn dcap) := hm5.cell 2
    have hmf : w5.frozen? ⟨m, 1, none⟩ = false := hm5.free 1
    have hmc : w5.cell? ⟨m, 1, none⟩ = some (.int .i64 (l.length : Nat)) := hm5.cell 1
    have hqm : q ≠ m := fun h => hqd (h ▸ HR.out.mem)
    have q1 : ∀ y, SmD w5 m (.slice da dn dcap) y → y.cell? ⟨q, 1, none⟩ = some (.pointer (some ⟨m, 0, none⟩)) := fun y hy => (hy.1.cell (p := ⟨q, 1, none⟩) (Nat.lt_of_lt_of_le hql S5.size) (by simpa using hqm)).trans (HQ1.out _ S5)
    have m2 : ∀ y, SmD w5 m (.slice da dn dcap) y → y.cell? ⟨m, 2, none⟩ = some (.slice da dn dcap) := fun y hy => hy.2
    have HS5 := Lib.hid S5
    have HX5 := Lib.hid hx5
    have HF4 := Lib.hid S4
    have HQM := Lib.hid hqm
    clear hs5 hm5 hh5 hGd5 hdn hf5 hx5 S5 S4 S4g hfb hf4 hqm
    go_wp2
    refine wp_region_held_drew (S := fun w' => SmD w5 m (.slice da dn dcap) w') (by kernel_rfl) ⟨(Frm.refl _ _).drew, hm2⟩ (fun hHeld => ?_)
    refine wpAnyH_take (i := 0) (oi := ⟨some 16, _, _, _, _, _⟩) (v := ?_) rfl (by kernel_rfl) (by kernel_rfl) (by kernel_rfl) (fun _ _ _ h => h) (Or.inl ⟨by rfl, ?_⟩) (by assumption) ?_
    rotate_left 1
    · (intro w hSw; (try dsimp only at hSw); go_simp; all_goals with_reducible rfl)
    try simp only [Act.put, List.setIfInBounds_toArray, List.set_cons_zero, List.set_cons_succ]
    refine wpAnyH_take (i := 1) (oi := ⟨some 17, _, _, _, _, _⟩) (v := ?_) rfl (by kernel_rfl) (by kernel_rfl) (by kernel_rfl) (fun _ _ _ h => h) (Or.inl ⟨by rfl, ?_⟩) (by assumption) ?_
    rotate_left 1
    · (intro w hSw; (try dsimp only at hSw); go_simp; all_goals with_reducible rfl)
    try simp only [Act.put, List.setIfInBounds_toArray, List.set_cons_zero, List.set_cons_succ]
    refine wpAnyH_take (i := 2) (oi := ⟨some 18, _, _, _, _, _⟩) (v := ?_) rfl (by kernel_rfl) (by kernel_rfl) (by kernel_rfl) (fun _ _ _ h => h) (Or.inl ⟨by rfl, ?_⟩) (by assumption) ?_
    rotate_left 1
    · (intro w hSw; (try dsimp only at hSw); go_simp; all_goals with_reducible rfl)
    try simp only [Act.put, List.setIfInBounds_toArray, List.set_cons_zero, List.set_cons_succ]
    refine wpAnyH_take (i := 3) (oi := ⟨some 19, _, _, _, _, _⟩) (v := ?_) rfl (by kernel_rfl) (by kernel_rfl) (by kernel_rfl) (fun _ _ _ h => h) (Or.inl ⟨by rfl, ?_⟩) (by assumption) ?_
    rotate_left 1
    · (intro w hSw; (try dsimp only at hSw); go_simp; all_goals with_reducible rfl)
    try simp only [Act.put, List.setIfInBounds_toArray, List.set_cons_zero, List.set_cons_succ]
    refine wpAnyH_take (i := 4) (oi := ⟨some 20, _, _, _, _, _⟩) (v := ?_) rfl (by kernel_rfl) (by kernel_rfl) (by kernel_rfl) (fun _ _ _ h => h) (Or.inl ⟨by rfl, ?_⟩) (by assumption) ?_
    rotate_left 1
    · (intro w hSw; (try dsimp only at hSw); go_simp; all_goals with_reducible rfl)
    try simp only [Act.put, List.setIfInBounds_toArray, List.set_cons_zero, List.set_cons_succ]
    refine wpAnyH_take (i := 5) (oi := ⟨some 21, _, _, _, _, _⟩) (v := ?_) rfl (by kernel_rfl) (by kernel_rfl) (by kernel_rfl) (fun _ _ _ h => h) (Or.inl ⟨by rfl, ?_⟩) (by assumption) ?_
    rotate_left 1
    · (intro w hSw; (try dsimp only at hSw); go_simp; all_goals with_reducible rfl)
    try simp only [Act.put, List.setIfInBounds_toArray, List.set_cons_zero, List.set_cons_succ]
    refine wpAnyH_take (i := 6) (oi := ⟨some 22, _, _, _, _, _⟩) (v := ?_) rfl (by kernel_rfl) (by kernel_rfl) (by kernel_rfl) (fun _ _ _ h => h) (Or.inl ⟨by rfl, ?_⟩) (by assumption) ?_
    rotate_left 1
    · (intro w hSw; (try dsimp only at hSw); go_simp; all_goals with_reducible rfl)
    try simp only [Act.put, List.setIfInBounds_toArray, List.set_cons_zero, List.set_cons_succ]
    refine wpAnyH_take (i := 7) (oi := ⟨some 23, _, _, _, _, _⟩) (v := ?_) rfl (by kernel_rfl) (by kernel_rfl) (by kernel_rfl) (fun _ _ _ h => h) (Or.inl ⟨by rfl, ?_⟩) (by assumption) ?_
    rotate_left 1
    · (intro w hSw; (try dsimp only at hSw); go_simp; all_goals with_reducible rfl)
    try simp only [Act.put, List.setIfInBounds_toArray, List.set_cons_zero, List.set_cons_succ]
    refine wpAnyH_take (i := 8) (oi := ⟨some 24, _, _, _, _, _⟩) (v := ?_) rfl (by kernel_rfl) (by kernel_rfl) (by kernel_rfl) (fun _ _ _ h => h) (Or.inl ⟨by rfl, ?_⟩) (by assumption) ?_
    rotate_left 1
    · (intro w hSw; (try dsimp only at hSw); go_simp; all_goals with_reducible rfl)
    try simp only [Act.put, List.setIfInBounds_toArray, List.set_cons_zero, List.set_cons_succ]
    refine wpAnyH_take (i := 9) (oi := ⟨some 25, _, _, _, _, _⟩) (v := ?_) rfl (by kernel_rfl) (by kernel_rfl) (by kernel_rfl) (fun _ _ _ h => h) (Or.inl ⟨by rfl, ?_⟩) (by assumption) ?_
    rotate_left 1
    · (intro w hSw; (try dsimp only at hSw); go_simp; all_goals with_reducible rfl)
    try simp only [Act.put, List.setIfInBounds_toArray, List.set_cons_zero, List.set_cons_succ]
    refine wpAnyH_take (i := 10) (oi := ⟨some 26, _, _, _, _, _⟩) (v := ?_) rfl (by kernel_rfl) (by kernel_rfl) (by kernel_rfl) (fun _ _ _ h => h) (Or.inl ⟨by rfl, ?_⟩) (by assumption) ?_
    rotate_left 1
    · (intro w hSw; (try dsimp only at hSw); go_simp; all_goals with_reducible rfl)
    try simp only [Act.put, List.setIfInBounds_toArray, List.set_cons_zero, List.set_cons_succ]
    refine wpAnyH_take (i := 11) (oi := ⟨some 27, _, _, _, _, _⟩) (v := ?_) rfl (by kernel_rfl) (by kernel_rfl) (by kernel_rfl) (fun _ _ _ h => h) (Or.inl ⟨by rfl, ?_⟩) (by assumption) ?_
    rotate_left 1
    · (intro w hSw; (try dsimp only at hSw); go_simp; all_goals with_reducible rfl)
    try simp only [Act.put, List.setIfInBounds_toArray, List.set_cons_zero, List.set_cons_succ]
    refine wpAnyH_take (i := 12) (oi := ⟨some 28, _, _, _, _, _⟩) (v := ?_) rfl (by kernel_rfl) (by kernel_rfl) (by kernel_rfl) (fun _ _ _ h => h) (Or.inl ⟨by rfl, ?_⟩) (by assumption) ?_
    rotate_left 1
    · (intro w hSw; (try dsimp only at hSw); go_simp; all_goals with_reducible rfl)
    try simp only [Act.put, List.setIfInBounds_toArray, List.set_cons_zero, List.set_cons_succ]
    refine wpAnyH_take (i := 13) (oi := ⟨some 29, _, _, _, _, _⟩) (v := ?_) rfl (by kernel_rfl) (by kernel_rfl) (by kernel_rfl) (fun _ _ _ h => h) (Or.inl ⟨by rfl, ?_⟩) (by assumption) ?_
    rotate_left 1
    · (intro w hSw; (try dsimp only at hSw); go_simp; all_goals with_reducible rfl)
    try simp only [Act.put, List.setIfInBounds_toArray, List.set_cons_zero, List.set_cons_succ]
    refine wpAnyH_ready (rs := [14]) (by kernel_rfl) (by simp) ?_
    refine AllReadyH.cons (o := ⟨none, _, _, _, _, _⟩) rfl (fun K hK => ?_) AllReadyH.nil
    go_simp
    have S6 : SmD w5 m (.slice da dn dcap) (w5.drew.setCell ⟨m, 1, none⟩ (.int .i64 (dn : Nat))) := ⟨(Frm.refl _ _).drew.setCell (.inl (by simp)) _, (World.cell?_setCell_other _ _ _ _ (by simp)).trans hm2⟩
    refine hK.out _ _ (by assumption) (fun hHeld => ?_)
    clear hK K
    try simp only [Act.put, List.setIfInBounds_toArray, List.set_cons_zero, List.set_cons_succ]
    refine wpAnyH_done (by kernel_rfl) ?_ _
    clear q1 m2 hm2 hmf hmc
    obtain ⟨w6, hw6⟩ : ∃ w6, w6 = (w5.setCell ⟨m, 1, none⟩ (.int .i64 (dn : Nat))).drew := ⟨_, rfl⟩
    rw [← hw6]
    have hf56 : Frm [m] w5 w6 := by rw [hw6]; exact ((Frm.refl _ _).setCell (.inl (by simp)) _).drew
    have hf6 : Frm Gd w w6 := HS5.out.trans hf56 (fun x hx => hx) (fun x hx => .inl (by simp at hx; subst hx; exact HR.out.mem))
    have hrf6 : Rf w6 B m Gd' (l ++ fr b) (l ++ fr b).length room := by
      have h1 := (HRF5.out.sureN).keep (Frm.refl [] _).drew (by simp)
      rw [← HDN.out, ← hw6] at h1
      rw [← HDN.out]
      exact h1
    have hX : ∀ x ∈ Gd', x ∈ Gd ∨ w.heap.size ≤ x := fun x hx => by
      rcases HX5.out x hx with h1 | h1
      · exact .inl h1
      · have h3 := HF4.out.size; exact .inr (by omega)
    have hs6 := HS.out.keep (F' := Gd' ++ G) hf6 (fun x hx => .inl (List.mem_append_left _ hx)) (fun x hx => by
      rcases List.mem_append.1 hx with h1 | h1
      · exact (hX x h1).imp (List.mem_append_left _) id
      · exact .inl (List.mem_append_right _ h1))
    have hF6 : ∀ x ∈ Gd' ++ G, x < w6.heap.size := fun x hx => by
      rcases List.mem_append.1 hx with h1 | h1
      · exact (hrf6.lt x h1).2
      · exact Nat.lt_of_lt_of_le (HG.out x h1) hf6.size
    have HSY := Lib.hid (rsays_any ba bn bc b hs6 hF6 (by omega) (hf6.bytes' HBY.out (fun hne y hy hm' => HOFF.out hne y hy (by rw [HW.out]; exact List.mem_append_right _ hm'))) HBN.out HCAP.out HNIL.out (by have := HBN.out; omega) (fun hne y hy hm' => HOFF.out hne y hy (by rw [HW.out]; exact List.mem_append_left _ hm')))
    have HF6 := Lib.hid hf6
    have HRF6 := Lib.hid hrf6
    have HX := Lib.hid hX
    have HS6 := Lib.hid hs6
    clear hw6 hf56 hf6 hrf6 hX hs6 hF6
    go_wp2_with fail
    (with_reducible refine HSY.out.mono ?_)
    rintro e w7 ⟨La', Lc', R', rfl, hrs, hnode, hf7, hx7⟩
    have HE : Hid (Q (.returned (.int .i64 0)) w7) := Lib.hid (by
      have hj : jc l b room = 0 := by unfold jc; rw [if_neg (by have := HBN.out; omega), if_neg (by have := HRL.out; omega)]
      rw [HQ.out]
      dsimp only
      unfold swS jl
      rw [hj, if_pos rfl, if_pos rfl]
      refine ⟨rfl, rwB q La' R' ++ Gd', ⟨La', Lc', R', Gd', hrs, hnode _ (by rw [HN.out]; exact HSAY.out), HRF6.out.keep hf7 (fun x hx hm' => (HS6.out.out x hm').1 (List.mem_append_left _ hx)), fun x hx hm' => ?_, rfl⟩, ?_, fun x hx => ?_⟩
      · rcases HX.out x hx with h1 | h1
        · exact HO.out x h1 hm'
        · have := HG.out x hm'; omega
      · rw [HW.out]
        exact HF6.out.trans hf7 (fun x hx => List.mem_append_right _ hx) (fun x hx => .inl (List.mem_append_left _ hx))
      · rw [HW.out]
        rcases List.mem_append.1 hx with h1 | h1
        · rcases hx7 x h1 with h2 | h2
          · exact .inl (List.mem_append_left _ h2)
          · have := HF6.out.size; exact .inr (by omega)
        · exact (HX.out x h1).imp (List.mem_append_right _) id)
    clear hrs hnode hf7 hx7 HSY
    go_wp2
    exact HE.out
end Go.Proofs.YtamcandcfainfaaGreat
