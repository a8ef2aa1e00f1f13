/- Contract of the document's keeper's Do. -/
import Derived.Test.YtomgiockelhfiaaGreatZRk
namespace Go.Proofs.YtomgiockelhfiaaGreat
open Go.RowKit
set_option maxRecDepth 100000
theorem recB_does (S : MS) (c : MC) : recB (doS S c) c = recB S c := by
  unfold recB
  by_cases h : c.kind = 7
  · rw [if_pos h, if_pos h]
    have : doS S c = S := by unfold doS; rw [if_neg (by omega), if_neg (by omega), if_neg (by omega), if_neg (by omega), if_neg (by omega), if_neg (by omega)]
    rw [this]
  · rw [if_neg h, if_neg h]
theorem cb_lt {v : List Nat} (h : ∀ x ∈ v, x < 256) : ∀ x ∈ cb v, x < 256 := by
  intro x hx
  unfold cb at hx
  rcases List.mem_append.1 hx with h1 | h1
  · exact be_lt _ _ x h1
  · exact h x h1
theorem app_lt {a b : List Nat} (h : ∀ x ∈ a, x < 256) (k : ∀ x ∈ b, x < 256) : ∀ x ∈ a ++ b, x < 256 := fun x hx => (List.mem_append.1 hx).elim (h x) (k x)
theorem flat_lt {α : Type} {f : α → List Nat} {X : List α} (h : ∀ y ∈ X, ∀ x ∈ f y, x < 256) : ∀ x ∈ X.flatMap f, x < 256 := fun x hx => by
  obtain ⟨y, hy, hx⟩ := List.mem_flatMap.1 hx
  exact h y hy x hx
theorem recB_lt {S : MS} {c : MC} (hc : MCOk c) (hv : ∀ d ∈ S.nodes, ∀ x ∈ d.v, x < 256) : ∀ x ∈ recB S c, x < 256 := by
  unfold recB
  refine app_lt (be_lt _ _) ?_
  split
  · unfold encS
    exact app_lt (app_lt (app_lt (app_lt (app_lt (be_lt _ _) (be_lt _ _)) (be_lt _ _)) (flat_lt fun y _ => by unfold encX; exact app_lt (app_lt (be_lt _ _) (be_lt _ _)) (be_lt _ _))) (be_lt _ _)) (flat_lt fun d hd => by unfold encN; exact app_lt (app_lt (app_lt (cb_lt (strL_lt _)) (cb_lt (hv d hd))) (be_lt _ _)) (be_lt _ _))
  · unfold encC
    exact app_lt (app_lt (app_lt (app_lt (cb_lt (strL_lt _)) (cb_lt hc.val.2)) (be_lt _ _)) (be_lt _ _)) (be_lt _ _)
theorem Ds.v8 {w : World} {B q : Nat} {F : List Nat} {S : MS} (h : Ds w B q F S) : ∀ d ∈ S.nodes, ∀ x ∈ d.v, x < 256 := by
  obtain ⟨a, c, X, ht, ha⟩ := h.tree
  intro d hd
  obtain ⟨y, hy, rfl⟩ := List.mem_map.1 (ha.perm.mem_iff.2 hd)
  exact (ht.row.nl.ok y hy).bytes.1
/-- The disk's own block may turn, but for what it is asked here. -/
def SmF (w : World) (m : Nat) (v : Value) (y : World) : Prop := Frm [m] w y ∧ y.cell? ⟨m, 2, none⟩ = some v
/-- What Do of the document's keeper answers and leaves. -/
def RkEnd (w : World) (B q m : Nat) (G Gd : List Nat) (S : MS) (l : List Nat) (room : Nat) (c : MC) (e : Ending) (w' : World) : Prop :=
  ∃ ga gc Gd', e = .returned (.tuple #[.int .u64 (kN S l room c : Nat), .slice ga (kG S l room c).length gc, .int .i64 (kE S l room c : Nat)]) ∧ ValsAt w' ga (uvs (kG S l room c)) ∧ (∀ x, ga = some x → w.heap.size ≤ x.block) ∧
    Rk w' B q m G Gd' (kS S l room c) (kL S l room c) room ∧ Frm (q :: Gd) w w' ∧ (∀ x ∈ Gd', x ∈ Gd ∨ w.heap.size ≤ x)
theorem RkEnd.bad {w w' : World} {B q m : Nat} {G Gd : List Nat} {S : MS} {l : List Nat} {room : Nat} {c : MC} {n : Nat} (he : kE S l room c = n) (hn : n ≠ 0) (hk : Rk w B q m G Gd S l room) (hf : Frm [] w w') :
    RkEnd w B q m G Gd S l room c (.returned (.tuple #[.int .u64 0, .slice none 0 0, .int .i64 (n : Nat)])) w' := by
  have h0 : ¬ kE S l room c = 0 := by rw [he]; exact hn
  unfold RkEnd kN kG kS kL
  rw [if_neg h0, if_neg h0, if_neg h0, if_neg h0, he]
  exact ⟨none, 0, Gd, rfl, .inl rfl, (fun q hq => by cases hq), hk.keep hf (by simp) (fun x hx => .inl hx), hf.weak (by simp), fun x hx => .inl hx⟩
set_option maxHeartbeats 8000000 in
theorem rkdo_any {w : World} {B q m : Nat} {G Gd : List Nat} {S : MS} {l : List Nat} {room : Nat} (c : MC) (a : Option Addr) (cap : Nat) (h : Rk w B q m G Gd S l room) (hM : MOk S) (hc : MCOk c) (hG : ∀ x ∈ G, x < w.heap.size) (hb : Bytes w a c.val) (hnil : a = none → cap = 0) :
    Calls Tryz.prog 36 #[.pointer (some ⟨q, 0, none⟩), cmdV c a cap] w (RkEnd w B q m G Gd S l room c) := by
  obtain ⟨w0, hw0⟩ : ∃ w0, w0 = w.alloc (.cells (cmdC c a cap) 51) := ⟨_, rfl⟩
  obtain ⟨g, hg⟩ : ∃ g, g = w.heap.size := ⟨_, rfl⟩
  obtain ⟨hW, hf0⟩ := cmd_at hw0 hg
  have hFl : ∀ x ∈ Gd ++ G, x < w.heap.size := fun x hx => by
    rcases List.mem_append.1 hx with h1 | h1
    · exact (h.rf.lt x h1).2
    · exact hG x h1
  have h0 := h.keep (G' := G) hf0 (by simp) (fun x hx => .inl hx)
  have hF0 : ∀ x ∈ Gd ++ G, x < w0.heap.size := fun x hx => Nat.lt_of_lt_of_le (hFl x hx) hf0.size
  obtain ⟨ta, tn, tc, ba, bn, bc, c1, c3, CP⟩ := h0.ds.cells hF0
  obtain ⟨w1, hw1⟩ : ∃ w1, w1 = w0.alloc (.cells #[.int .u64 (S.now : Nat), .slice ta tn tc, .int .u64 (S.last : Nat), .slice ba bn bc] 46) := ⟨_, rfl⟩
  obtain ⟨p, hp⟩ : ∃ p, p = w0.heap.size := ⟨_, rfl⟩
  have hW1 := Whole.made w0 46 #[.int .u64 (S.now : Nat), .slice ta tn tc, .int .u64 (S.last : Nat), .slice ba bn bc]
  rw [← hw1, ← hp] at hW1
  have hf1 : Frm [] w0 w1 := by rw [hw1]; exact (Frm.refl _ _).alloc _
  have hD1 : Ds w1 B p (q :: (Gd ++ G)) S := CP w1 p hf1 (by omega) hW1
  have hgp : g ≠ p := by have := hW.lt; omega
  have hqp : q ≠ p := by have := h0.ds.plt; omega
  have hbb : Bytes w1 a c.val := hf1.bytes' (hf0.bytes' hb (by simp)) (by simp)
  have hF1 : ∀ x ∈ q :: (Gd ++ G), x < w1.heap.size := fun x hx => by
    rcases List.mem_cons.1 hx with rfl | hx
    · exact Nat.lt_of_lt_of_le h0.ds.plt hf1.size
    · exact Nat.lt_of_lt_of_le (hF0 x hx) hf1.size
  have HDO := Lib.hid (rdo_any c a cap hD1 hM hc hF1 hbb hnil)
  have HWC := Lib.hid (fun (z : World) (hz : Frm [p] w1 z) => (hz.whole (hf1.whole hW (by simp)) (by simpa using hgp) : Whole z g 51 (cmdC c a cap)))
  have H1 := Lib.hid (h0.keep (G' := p :: G) hf1 (by simp) (fun x hx => by
    rcases List.mem_cons.1 hx with rfl | hx
    · exact .inr (by omega)
    · exact .inl hx))
  have HF01 := Lib.hid (hf0.trans hf1 (U := []) (by simp) (by simp))
  have HF1 := Lib.hid hF1
  have HM := Lib.hid hM
  have HC := Lib.hid hc
  have HB := Lib.hid hb
  have HNIL := Lib.hid hnil
  have HW0 := Lib.hid hw0
  have HW1 := Lib.hid hw1
  have HG := Lib.hid hg
  have HP := Lib.hid hp
  have HPW : Hid (w.heap.size ≤ p) := Lib.hid (by have := hf0.size; omega)
  have HGL := Lib.hid hG
  have n0 := h0.ds.n0
  have n2 := h0.ds.c2
  have HH := Lib.hid h
  obtain ⟨Q, hQ⟩ : ∃ Q, Q = RkEnd w B q m G Gd S l room c := ⟨_, rfl⟩
  have HQ := Lib.hid hQ
  rw [← hQ]
  rw [show cmdV c a cap = .agg #[.int .u8 (c.kind : Nat), .string c.key, .slice a c.val.length cap, .int .u64 (c.want : Nat), .int .u64 (c.ses : Nat), .int .u64 (c.ticks : Nat)] from rfl] at HDO ⊢
  rw [show cmdC c a cap = #[.int .u8 (c.kind : Nat), .string c.key, .slice a c.val.length cap, .int .u64 (c.want : Nat), .int .u64 (c.ses : Nat), .int .u64 (c.ticks : Nat)] from rfl] at HW0
  have k0 := (HWC.out w1 (Frm.refl _ _)).cell 0
  have k1 := (HWC.out w1 (Frm.refl _ _)).cell 1
  have k2 := (HWC.out w1 (Frm.refl _ _)).cell 2
  have k3 := (HWC.out w1 (Frm.refl _ _)).cell 3
  have k4 := (HWC.out w1 (Frm.refl _ _)).cell 4
  have k5 := (HWC.out w1 (Frm.refl _ _)).cell 5
  simp [cmdC] at k0 k1 k2 k3 k4 k5
  rw [HW0.out] at n0 n2 c1 c3
  rw [HW1.out, HW0.out] at k0 k1 k2 k3 k4 k5
  clear h hM hc hG hb hnil hW hf0 hFl h0 hF0 CP hW1 hf1 hD1 hgp hqp hbb hF1 hw0 hw1 hg hp hQ
  go_enter Tryz.func36, Tryz.ntmps36
  go_wp2_with fail
  rw [← HW0.out, ← HW1.out]
  have e1 : w.heap.size + 1 = p := by rw [HP.out, HW0.out]; simp
  rw [e1, ← HG.out]
  clear e1 n0 n2 c1 c3 k0 k1 k2 k3 k4 k5
  (with_reducible refine HDO.out.mono ?_)
  rintro e w2 ⟨ga, gc, rfl, hgv, hga, hd2, hf2, _⟩
  obtain ⟨en, hen⟩ : ∃ en, en = doE S c := ⟨_, rfl⟩
  rw [← hen]
  have HEN := Lib.hid hen
  have HD2 := Lib.hid hd2
  have HGV := Lib.hid hgv
  have HGA : Hid (∀ x, ga = some x → w.heap.size ≤ x.block) := Lib.hid fun x hx => by have h1 := hga x hx; have h2 := HF01.out.size; omega
  have H2 := Lib.hid (H1.out.keep (G' := p :: G) hf2 (fun x hx => .inl (by simp at hx; simp [hx])) (fun x hx => .inl hx))
  have HF02 : Hid (Frm [] w w2) := Lib.hid (HF01.out.trans hf2 (by simp) (fun x hx => .inr (by simp at hx; subst hx; exact HPW.out)))
  have hWC2 := HWC.out w2 hf2
  have k0 := hWC2.cell 0
  have k1 := hWC2.cell 1
  have k2 := hWC2.cell 2
  have k3 := hWC2.cell 3
  have k4 := hWC2.cell 4
  have k5 := hWC2.cell 5
  simp [cmdC] at k0 k1 k2 k3 k4 k5
  have HF12 := Lib.hid hf2
  clear hen hgv hga hd2 hf2 hWC2 HDO HWC
  obtain ⟨gn, hgn⟩ : ∃ gn, gn = (doG S c).length := ⟨_, rfl⟩
  have HGN := Lib.hid hgn
  rw [← hgn]
  clear hgn
  by_cases hz : en = 0
  · subst hz
    obtain ⟨rl, hrl⟩ : ∃ rl, rl = recB S c := ⟨_, rfl⟩
    have HRL := Lib.hid hrl
    have HRE := Lib.hid (rrec_any c a cap HD2.out (HM.out.does HC.out) HC.out (fun x hx => Nat.lt_of_lt_of_le (HF1.out x hx) HF12.out.size) (HF02.out.bytes' HB.out (by simp)) HNIL.out)
    rw [recB_does, ← hrl] at HRE
    rw [show cmdV c a cap = .agg #[.int .u8 (c.kind : Nat), .string c.key, .slice a c.val.length cap, .int .u64 (c.want : Nat), .int .u64 (c.ses : Nat), .int .u64 (c.ticks : Nat)] from rfl] at HRE
    have h8 : ∀ x ∈ rl, x < 256 := by rw [hrl]; exact recB_lt HC.out H2.out.ds.v8
    have H8 := Lib.hid h8
    clear hrl h8
    go_wp2_with fail
    (with_reducible refine HRE.out.mono ?_)
    rintro e w3 ⟨ra, rn, rc, LR, rfl, RR⟩
    clear HRE k0 k1 k2 k3 k4 k5
    have H3 := Lib.hid (H2.out.keep (G' := p :: G) RR.out.frm (by simp) (fun x hx => .inl hx))
    have HF23 := Lib.hid RR.out.frm
    have HBR := Lib.hid (bytes_of_own RR.out.own H8.out)
    have HRF := Lib.hid (fun (y : World) (hy : Frm [] w3 y) => H3.out.rf.keep hy (by simp))
    have LL : Hid (rn = rl.length) := LR
    have HKE : Hid (kE S l room c = jc l rl room) := Lib.hid (by unfold kE; rw [if_neg (by rw [← HEN.out]; simp), ← HRL.out])
    clear RR LR
    by_cases h3 : 4096 < rn
    · have hd : decide ((4096 : Int) < (rn : Int)) = true := by simp; omega
      have hd2 : decide (4096 < rn) = true := by simp; omega
      have HE : Hid (Q (.returned (.tuple #[.int .u64 0, .slice none 0 0, .int .i64 3])) w3) := Lib.hid (by
        rw [HQ.out]
        exact RkEnd.bad (n := 3) (by rw [HKE.out]; unfold jc; rw [if_pos (by have := LL.out; omega)]) (by decide) HH.out (HF02.out.trans HF23.out (by simp) (by simp)))
      clear h3
      go_wp2
      exact HE.out
    · have hd : decide ((4096 : Int) < (rn : Int)) = false := by simp; omega
      have hd2 : decide (4096 < rn) = false := by simp; omega
      have HFR := Lib.hid (fun (z : World) (hz : Frm [] w3 z) => ref_frame_any ra rn rc rl z (hz.bytes' HBR.out.2.1 (by simp)) LL.out HBR.out.2.2 (by omega))
      have HFN : Hid (∀ (z : World) (fa : Option Addr) (fc : Nat), Bytes z fa (fr rl) → fa = none → fc = 0) := Lib.hid fun z fa fc h e => by
        subst e
        rcases h.2.2 with h | ⟨b, off, h, _⟩
        · have := congrArg List.length h; rw [fr_length] at this; simp at this
        · cases h
      have q4 : ∀ y, Frm Gd w3 y → y.cell? ⟨q, 4, none⟩ = some (.pointer (some ⟨m, 0, none⟩)) := fun y hy => (hy.cell (p := ⟨q, 4, none⟩) H3.out.ds.plt H3.out.qd).trans H3.out.c4
      have HQ4 := Lib.hid q4
      have H3N : Hid (¬ 4096 < rn) := Lib.hid h3
      clear h3
      by_cases hr : room < l.length + (rn + 8)
      · have HR := Lib.hid hr
        have hrl : room < l.length + (rl.length + 8) := by have := LL.out; omega
        have hrs : rl.length + 8 ≤ 1000000 := by have := H3N.out; have := LL.out; omega
        go_wp2
        refine wp_region_held_drew (S := fun w' => Frm Gd w3 w') (by kernel_rfl) (Frm.drew (Frm.refl _ _)) (fun hHeld => ?_)
        refine wpAnyH_take (i := 0) (oi := ⟨some 31, _, _, _, _, _⟩) (v := ?_) rfl (by kernel_rfl) (by kernel_rfl) (by kernel_rfl) (fun _ _ _ h => h) (Or.inl ⟨by rfl, ?_⟩) (by assumption) ?_
        rotate_left 1
        · (intro w hSw; (try dsimp only at hSw); go_simp; all_goals with_reducible rfl)
        try simp only [Act.put, List.setIfInBounds_toArray, List.set_cons_zero, List.set_cons_succ]
        refine wpAnyH_take (i := 1) (oi := ⟨some 32, _, _, _, _, _⟩) (v := ?_) rfl (by kernel_rfl) (by kernel_rfl) (by kernel_rfl) (fun _ _ _ h => h) (Or.inl ⟨by rfl, ?_⟩) (by assumption) ?_
        rotate_left 1
        · (intro w hSw; (try dsimp only at hSw); go_simp; all_goals with_reducible rfl)
        try simp only [Act.put, List.setIfInBounds_toArray, List.set_cons_zero, List.set_cons_succ]
        refine wpAnyH_take (i := 2) (oi := ⟨some 33, _, _, _, _, _⟩) (v := ?_) rfl (by kernel_rfl) (by kernel_rfl) (by kernel_rfl) (fun _ _ _ h => h) (Or.inl ⟨by rfl, ?_⟩) (by assumption) ?_
        rotate_left 1
        · (intro w hSw; (try dsimp only at hSw); go_simp; all_goals with_reducible rfl)
        try simp only [Act.put, List.setIfInBounds_toArray, List.set_cons_zero, List.set_cons_succ]
        refine wpAnyH_take (i := 3) (oi := ⟨some 34, _, _, _, _, _⟩) (v := ?_) rfl (by kernel_rfl) (by kernel_rfl) (by kernel_rfl) (fun _ _ _ h => h) (Or.inl ⟨by rfl, ?_⟩) (by assumption) ?_
        rotate_left 1
        · (intro w hSw; (try dsimp only at hSw); go_simp; all_goals with_reducible rfl)
        try simp only [Act.put, List.setIfInBounds_toArray, List.set_cons_zero, List.set_cons_succ]
        refine wpAnyH_take (i := 4) (oi := ⟨some 35, _, _, _, _, _⟩) (v := ?_) rfl (by kernel_rfl) (by kernel_rfl) (by kernel_rfl) (fun _ _ _ h => h) (Or.inl ⟨by rfl, ?_⟩) (by assumption) ?_
        rotate_left 1
        · (intro w hSw; (try dsimp only at hSw); go_simp; all_goals with_reducible rfl)
        try simp only [Act.put, List.setIfInBounds_toArray, List.set_cons_zero, List.set_cons_succ]
        refine wpAnyH_ready (rs := [5]) (by kernel_rfl) (by simp) ?_
        refine AllReadyH.cons (o := ⟨some 36, _, _, _, _, _⟩) rfl (fun K hK => ?_) AllReadyH.nil
        go_simp
        (go_at_call 60; (with_reducible refine (HFR.out _ (Frm.refl [] w3).drew).mono ?_); rintro e w4 ⟨fa, fc, rfl, hfb, hf4⟩; have S4 : Frm [] w3 w4 := (Frm.refl [] w3).drew.trans hf4 (by simp) (by simp); have S4g : Frm Gd w3 w4 := S4.weak (by simp))
        go_wp2_with fail
        refine hK.out _ _ (by assumption) (fun hHeld => ?_)
        clear hK K
        try simp only [Act.put, List.setIfInBounds_toArray, List.set_cons_zero, List.set_cons_succ]
        refine wpAnyH_ready (rs := [6]) (by kernel_rfl) (by simp) ?_
        refine AllReadyH.cons (o := ⟨some 37, _, _, _, _, _⟩) rfl (fun K hK => ?_) AllReadyH.nil
        go_simp
        (go_at_call 86; (refine (rappend_full fa _ fc (HRF.out _ S4) (by rw [fr_length]; omega) (by rw [fr_length]; omega)).mono ?_); rintro e w5 ⟨rfl, n5, rfl⟩; have S5 : Frm Gd w3 (w4.drewN n5) := S4g.drewN _)
        go_wp2_with fail
        refine hK.out _ _ (by assumption) (fun hHeld => ?_)
        clear hK K
        try simp only [Act.put, List.setIfInBounds_toArray, List.set_cons_zero, List.set_cons_succ]
        refine wpAnyH_take (i := 7) (oi := ⟨some 12, _, _, _, _, _⟩) (v := ?_) rfl (by kernel_rfl) (by kernel_rfl) (by kernel_rfl) (fun _ _ _ h => h) (Or.inl ⟨by rfl, ?_⟩) (by assumption) ?_
        rotate_left 1
        · (intro w hSw; (try dsimp only at hSw); go_simp; all_goals with_reducible rfl)
        try simp only [Act.put, List.setIfInBounds_toArray, List.set_cons_zero, List.set_cons_succ]
        refine wpAnyH_done (by kernel_rfl) ?_ _
        have HE : Hid (Q (.returned (.tuple #[.int .u64 0, .slice none 0 0, .int .i64 8])) (w4.drewN n5)) := Lib.hid (by
          rw [HQ.out]
          exact RkEnd.bad (n := 8) (by rw [HKE.out]; unfold jc; rw [if_neg (by have := H3N.out; have := LL.out; omega), if_pos hrl]) (by decide) HH.out ((HF02.out.trans HF23.out (U := []) (by simp) (by simp)).trans (S4.drewN n5) (by simp) (by simp)))
        clear q4 hr hrl hrs
        go_wp2
        exact HE.out
      · have HR := Lib.hid hr
        have hrl : l.length + (rl.length + 8) ≤ room := by have := LL.out; omega
        have HRLL := Lib.hid hrl
        go_wp2
        refine wp_region_held_drew (S := fun w' => Frm Gd w3 w') (by kernel_rfl) (Frm.drew (Frm.refl _ _)) (fun hHeld => ?_)
        refine wpAnyH_take (i := 0) (oi := ⟨some 31, _, _, _, _, _⟩) (v := ?_) rfl (by kernel_rfl) (by kernel_rfl) (by kernel_rfl) (fun _ _ _ h => h) (Or.inl ⟨by rfl, ?_⟩) (by assumption) ?_
        rotate_left 1
        · (intro w hSw; (try dsimp only at hSw); go_simp; all_goals with_reducible rfl)
        try simp only [Act.put, List.setIfInBounds_toArray, List.set_cons_zero, List.set_cons_succ]
        refine wpAnyH_take (i := 1) (oi := ⟨some 32, _, _, _, _, _⟩) (v := ?_) rfl (by kernel_rfl) (by kernel_rfl) (by kernel_rfl) (fun _ _ _ h => h) (Or.inl ⟨by rfl, ?_⟩) (by assumption) ?_
        rotate_left 1
        · (intro w hSw; (try dsimp only at hSw); go_simp; all_goals with_reducible rfl)
        try simp only [Act.put, List.setIfInBounds_toArray, List.set_cons_zero, List.set_cons_succ]
        refine wpAnyH_take (i := 2) (oi := ⟨some 33, _, _, _, _, _⟩) (v := ?_) rfl (by kernel_rfl) (by kernel_rfl) (by kernel_rfl) (fun _ _ _ h => h) (Or.inl ⟨by rfl, ?_⟩) (by assumption) ?_
        rotate_left 1
        · (intro w hSw; (try dsimp only at hSw); go_simp; all_goals with_reducible rfl)
        try simp only [Act.put, List.setIfInBounds_toArray, List.set_cons_zero, List.set_cons_succ]
        refine wpAnyH_take (i := 3) (oi := ⟨some 34, _, _, _, _, _⟩) (v := ?_) rfl (by kernel_rfl) (by kernel_rfl) (by kernel_rfl) (fun _ _ _ h => h) (Or.inl ⟨by rfl, ?_⟩) (by assumption) ?_
        rotate_left 1
        · (intro w hSw; (try dsimp only at hSw); go_simp; all_goals with_reducible rfl)
        try simp only [Act.put, List.setIfInBounds_toArray, List.set_cons_zero, List.set_cons_succ]
        refine wpAnyH_take (i := 4) (oi := ⟨some 35, _, _, _, _, _⟩) (v := ?_) rfl (by kernel_rfl) (by kernel_rfl) (by kernel_rfl) (fun _ _ _ h => h) (Or.inl ⟨by rfl, ?_⟩) (by assumption) ?_
        rotate_left 1
        · (intro w hSw; (try dsimp only at hSw); go_simp; all_goals with_reducible rfl)
        try simp only [Act.put, List.setIfInBounds_toArray, List.set_cons_zero, List.set_cons_succ]
        refine wpAnyH_ready (rs := [5]) (by kernel_rfl) (by simp) ?_
        refine AllReadyH.cons (o := ⟨some 36, _, _, _, _, _⟩) rfl (fun K hK => ?_) AllReadyH.nil
        go_simp
        (go_at_call 60; (with_reducible refine (HFR.out _ (Frm.refl [] w3).drew).mono ?_); rintro e w4 ⟨fa, fc, rfl, hfb, hf4⟩; have S4 : Frm [] w3 w4 := (Frm.refl [] w3).drew.trans hf4 (by simp) (by simp); have S4g : Frm Gd w3 w4 := S4.weak (by simp))
        go_wp2_with fail
        refine hK.out _ _ (by assumption) (fun hHeld => ?_)
        clear hK K
        try simp only [Act.put, List.setIfInBounds_toArray, List.set_cons_zero, List.set_cons_succ]
        refine wpAnyH_ready (rs := [6]) (by kernel_rfl) (by simp) ?_
        refine AllReadyH.cons (o := ⟨some 37, _, _, _, _, _⟩) rfl (fun K hK => ?_) AllReadyH.nil
        go_simp
        (go_at_call 86; (refine (rappend_ok fa _ fc (fr rl) (HRF.out _ S4) hfb rfl (HFN.out _ _ _ hfb) (by rw [fr_length]; omega)).mono ?_); rintro e w5 ⟨rfl, Gd', hrf5, hf5, hx5⟩; have S5 : Frm Gd w3 w5 := S4.trans hf5 (by simp) (fun x hx => .inl hx))
        go_wp2_with fail
        refine hK.out _ _ (by assumption) (fun hHeld => ?_)
        clear hK K
        try simp only [Act.put, List.setIfInBounds_toArray, List.set_cons_zero, List.set_cons_succ]
        refine wpAnyH_take (i := 7) (oi := ⟨some 12, _, _, _, _, _⟩) (v := ?_) rfl (by kernel_rfl) (by kernel_rfl) (by kernel_rfl) (fun _ _ _ h => h) (Or.inl ⟨by rfl, ?_⟩) (by assumption) ?_
        rotate_left 1
        · (intro w hSw; (try dsimp only at hSw); go_simp; all_goals with_reducible rfl)
        try simp only [Act.put, List.setIfInBounds_toArray, List.set_cons_zero, List.set_cons_succ]
        refine wpAnyH_done (by kernel_rfl) ?_ _
        clear q4 hr hrl
        have HRF5 := Lib.hid hrf5
        obtain ⟨hs5, da, dcap, hm5, hh5, hGd5⟩ := hrf5
        obtain ⟨dn, hdn⟩ : ∃ dn, dn = (l ++ fr rl).length := ⟨_, rfl⟩
        rw [← hdn] at hm5
        have HDN := Lib.hid hdn
        have hm2 : w5.drew.cell? ⟨m, 2, none⟩ = some (.slice da dn dcap) := hm5.cell 2
        have hmf : w5.frozen? ⟨m, 1, none⟩ = false := hm5.free 1
        have hmc : w5.cell? ⟨m, 1, none⟩ = some (.int .i64 (l.length : Nat)) := hm5.cell 1
        have hqm : q ≠ m := fun h => H3.out.qd (h ▸ H3.out.rf.mem)
        have q4 : ∀ y, SmF w5 m (.slice da dn dcap) y → y.cell? ⟨q, 4, none⟩ = some (.pointer (some ⟨m, 0, none⟩)) := fun y hy => (hy.1.cell (p := ⟨q, 4, none⟩) (Nat.lt_of_lt_of_le H3.out.ds.plt S5.size) (by simpa using hqm)).trans (HQ4.out _ S5)
        have m2 : ∀ y, SmF w5 m (.slice da dn dcap) y → y.cell? ⟨m, 2, none⟩ = some (.slice da dn dcap) := fun y hy => hy.2
        have HS5 := Lib.hid S5
        have HX5 := Lib.hid hx5
        have HF4 := Lib.hid S4
        clear hs5 hm5 hh5 hGd5 hdn hf5 hx5 S5 S4 S4g hfb hf4 hd hd2
        go_wp2
        refine wp_region_held_drew (S := fun w' => SmF w5 m (.slice da dn dcap) w') (by kernel_rfl) ⟨(Frm.refl _ _).drew, hm2⟩ (fun hHeld => ?_)
        refine wpAnyH_take (i := 0) (oi := ⟨some 41, _, _, _, _, _⟩) (v := ?_) rfl (by kernel_rfl) (by kernel_rfl) (by kernel_rfl) (fun _ _ _ h => h) (Or.inl ⟨by rfl, ?_⟩) (by assumption) ?_
        rotate_left 1
        · (intro w hSw; (try dsimp only at hSw); go_simp; all_goals with_reducible rfl)
        try simp only [Act.put, List.setIfInBounds_toArray, List.set_cons_zero, List.set_cons_succ]
        refine wpAnyH_take (i := 1) (oi := ⟨some 42, _, _, _, _, _⟩) (v := ?_) rfl (by kernel_rfl) (by kernel_rfl) (by kernel_rfl) (fun _ _ _ h => h) (Or.inl ⟨by rfl, ?_⟩) (by assumption) ?_
        rotate_left 1
        · (intro w hSw; (try dsimp only at hSw); go_simp; all_goals with_reducible rfl)
        try simp only [Act.put, List.setIfInBounds_toArray, List.set_cons_zero, List.set_cons_succ]
        refine wpAnyH_take (i := 2) (oi := ⟨some 43, _, _, _, _, _⟩) (v := ?_) rfl (by kernel_rfl) (by kernel_rfl) (by kernel_rfl) (fun _ _ _ h => h) (Or.inl ⟨by rfl, ?_⟩) (by assumption) ?_
        rotate_left 1
        · (intro w hSw; (try dsimp only at hSw); go_simp; all_goals with_reducible rfl)
        try simp only [Act.put, List.setIfInBounds_toArray, List.set_cons_zero, List.set_cons_succ]
        refine wpAnyH_take (i := 3) (oi := ⟨some 44, _, _, _, _, _⟩) (v := ?_) rfl (by kernel_rfl) (by kernel_rfl) (by kernel_rfl) (fun _ _ _ h => h) (Or.inl ⟨by rfl, ?_⟩) (by assumption) ?_
        rotate_left 1
        · (intro w hSw; (try dsimp only at hSw); go_simp; all_goals with_reducible rfl)
        try simp only [Act.put, List.setIfInBounds_toArray, List.set_cons_zero, List.set_cons_succ]
        refine wpAnyH_take (i := 4) (oi := ⟨some 45, _, _, _, _, _⟩) (v := ?_) rfl (by kernel_rfl) (by kernel_rfl) (by kernel_rfl) (fun _ _ _ h => h) (Or.inl ⟨by rfl, ?_⟩) (by assumption) ?_
        rotate_left 1
        · (intro w hSw; (try dsimp only at hSw); go_simp; all_goals with_reducible rfl)
        try simp only [Act.put, List.setIfInBounds_toArray, List.set_cons_zero, List.set_cons_succ]
        refine wpAnyH_take (i := 5) (oi := ⟨some 46, _, _, _, _, _⟩) (v := ?_) rfl (by kernel_rfl) (by kernel_rfl) (by kernel_rfl) (fun _ _ _ h => h) (Or.inl ⟨by rfl, ?_⟩) (by assumption) ?_
        rotate_left 1
        · (intro w hSw; (try dsimp only at hSw); go_simp; all_goals with_reducible rfl)
        try simp only [Act.put, List.setIfInBounds_toArray, List.set_cons_zero, List.set_cons_succ]
        refine wpAnyH_take (i := 6) (oi := ⟨some 47, _, _, _, _, _⟩) (v := ?_) rfl (by kernel_rfl) (by kernel_rfl) (by kernel_rfl) (fun _ _ _ h => h) (Or.inl ⟨by rfl, ?_⟩) (by assumption) ?_
        rotate_left 1
        · (intro w hSw; (try dsimp only at hSw); go_simp; all_goals with_reducible rfl)
        try simp only [Act.put, List.setIfInBounds_toArray, List.set_cons_zero, List.set_cons_succ]
        refine wpAnyH_take (i := 7) (oi := ⟨some 48, _, _, _, _, _⟩) (v := ?_) rfl (by kernel_rfl) (by kernel_rfl) (by kernel_rfl) (fun _ _ _ h => h) (Or.inl ⟨by rfl, ?_⟩) (by assumption) ?_
        rotate_left 1
        · (intro w hSw; (try dsimp only at hSw); go_simp; all_goals with_reducible rfl)
        try simp only [Act.put, List.setIfInBounds_toArray, List.set_cons_zero, List.set_cons_succ]
        refine wpAnyH_take (i := 8) (oi := ⟨some 49, _, _, _, _, _⟩) (v := ?_) rfl (by kernel_rfl) (by kernel_rfl) (by kernel_rfl) (fun _ _ _ h => h) (Or.inl ⟨by rfl, ?_⟩) (by assumption) ?_
        rotate_left 1
        · (intro w hSw; (try dsimp only at hSw); go_simp; all_goals with_reducible rfl)
        try simp only [Act.put, List.setIfInBounds_toArray, List.set_cons_zero, List.set_cons_succ]
        refine wpAnyH_take (i := 9) (oi := ⟨some 50, _, _, _, _, _⟩) (v := ?_) rfl (by kernel_rfl) (by kernel_rfl) (by kernel_rfl) (fun _ _ _ h => h) (Or.inl ⟨by rfl, ?_⟩) (by assumption) ?_
        rotate_left 1
        · (intro w hSw; (try dsimp only at hSw); go_simp; all_goals with_reducible rfl)
        try simp only [Act.put, List.setIfInBounds_toArray, List.set_cons_zero, List.set_cons_succ]
        refine wpAnyH_take (i := 10) (oi := ⟨some 51, _, _, _, _, _⟩) (v := ?_) rfl (by kernel_rfl) (by kernel_rfl) (by kernel_rfl) (fun _ _ _ h => h) (Or.inl ⟨by rfl, ?_⟩) (by assumption) ?_
        rotate_left 1
        · (intro w hSw; (try dsimp only at hSw); go_simp; all_goals with_reducible rfl)
        try simp only [Act.put, List.setIfInBounds_toArray, List.set_cons_zero, List.set_cons_succ]
        refine wpAnyH_take (i := 11) (oi := ⟨some 52, _, _, _, _, _⟩) (v := ?_) rfl (by kernel_rfl) (by kernel_rfl) (by kernel_rfl) (fun _ _ _ h => h) (Or.inl ⟨by rfl, ?_⟩) (by assumption) ?_
        rotate_left 1
        · (intro w hSw; (try dsimp only at hSw); go_simp; all_goals with_reducible rfl)
        try simp only [Act.put, List.setIfInBounds_toArray, List.set_cons_zero, List.set_cons_succ]
        refine wpAnyH_take (i := 12) (oi := ⟨some 53, _, _, _, _, _⟩) (v := ?_) rfl (by kernel_rfl) (by kernel_rfl) (by kernel_rfl) (fun _ _ _ h => h) (Or.inl ⟨by rfl, ?_⟩) (by assumption) ?_
        rotate_left 1
        · (intro w hSw; (try dsimp only at hSw); go_simp; all_goals with_reducible rfl)
        try simp only [Act.put, List.setIfInBounds_toArray, List.set_cons_zero, List.set_cons_succ]
        refine wpAnyH_take (i := 13) (oi := ⟨some 54, _, _, _, _, _⟩) (v := ?_) rfl (by kernel_rfl) (by kernel_rfl) (by kernel_rfl) (fun _ _ _ h => h) (Or.inl ⟨by rfl, ?_⟩) (by assumption) ?_
        rotate_left 1
        · (intro w hSw; (try dsimp only at hSw); go_simp; all_goals with_reducible rfl)
        try simp only [Act.put, List.setIfInBounds_toArray, List.set_cons_zero, List.set_cons_succ]
        refine wpAnyH_ready (rs := [14]) (by kernel_rfl) (by simp) ?_
        refine AllReadyH.cons (o := ⟨none, _, _, _, _, _⟩) rfl (fun K hK => ?_) AllReadyH.nil
        go_simp
        have S6 : SmF w5 m (.slice da dn dcap) (w5.drew.setCell ⟨m, 1, none⟩ (.int .i64 (dn : Nat))) := ⟨(Frm.refl _ _).drew.setCell (.inl (by simp)) _, (World.cell?_setCell_other _ _ _ _ (by simp)).trans hm2⟩
        refine hK.out _ _ (by assumption) (fun hHeld => ?_)
        clear hK K
        try simp only [Act.put, List.setIfInBounds_toArray, List.set_cons_zero, List.set_cons_succ]
        refine wpAnyH_done (by kernel_rfl) ?_ _
        clear q4 m2 hm2 hmf
        obtain ⟨w6, hw6⟩ : ∃ w6, w6 = (w5.setCell ⟨m, 1, none⟩ (.int .i64 (dn : Nat))).drew := ⟨_, rfl⟩
        rw [← hw6]
        have hf56 : Frm [m] w5 w6 := by rw [hw6]; exact ((Frm.refl _ _).setCell (.inl (by simp)) _).drew
        have hf35 : Frm Gd w3 w5 := HS5.out
        have hf26 : Frm Gd w2 w6 := (HF23.out.trans hf35 (U := Gd) (by simp) (fun x hx => .inl hx)).trans hf56 (fun x hx => hx) (fun x hx => .inl (by simp at hx; subst hx; exact H3.out.rf.mem))
        have hpG : p ∉ Gd := fun hm => by have h1 := (HH.out.rf.lt p hm).2; have h2 := HPW.out; omega
        have hF2 : ∀ x ∈ q :: (Gd ++ G), x < w2.heap.size := fun x hx => Nat.lt_of_lt_of_le (HF1.out x hx) HF12.out.size
        obtain ⟨ta2, tn2, tc2, ba2, bn2, bc2, e1, e3, _⟩ := HD2.out.cells hF2
        have hpl := HD2.out.plt
        have p0 : w6.cell? ⟨p, 0, none⟩ = some (.int .u64 ((doS S c).now : Nat)) := (hf26.cell (p := ⟨p, 0, none⟩) hpl hpG).trans HD2.out.n0
        have p1 : w6.cell? ⟨p, 1, none⟩ = some (.slice ta2 tn2 tc2) := (hf26.cell (p := ⟨p, 1, none⟩) hpl hpG).trans e1
        have p2 : w6.cell? ⟨p, 2, none⟩ = some (.int .u64 ((doS S c).last : Nat)) := (hf26.cell (p := ⟨p, 2, none⟩) hpl hpG).trans HD2.out.c2
        have p3 : w6.cell? ⟨p, 3, none⟩ = some (.slice ba2 bn2 bc2) := (hf26.cell (p := ⟨p, 3, none⟩) hpl hpG).trans e3
        have hql := H2.out.ds.plt
        have hqG := H2.out.qd
        have f0 : w6.frozen? ⟨q, 0, none⟩ = false := (hf26.frozen (p := ⟨q, 0, none⟩) hql hqG).trans (H2.out.ds.free 0)
        have f1 : w6.frozen? ⟨q, 1, none⟩ = false := (hf26.frozen (p := ⟨q, 1, none⟩) hql hqG).trans (H2.out.ds.free 1)
        have f2 : w6.frozen? ⟨q, 2, none⟩ = false := (hf26.frozen (p := ⟨q, 2, none⟩) hql hqG).trans (H2.out.ds.free 2)
        have f3 : w6.frozen? ⟨q, 3, none⟩ = false := (hf26.frozen (p := ⟨q, 3, none⟩) hql hqG).trans (H2.out.ds.free 3)
        obtain ⟨ta0, tn0, tc0, ba0, bn0, bc0, g1, g3, _⟩ := H2.out.ds.cells (fun x hx => by
          simp only [List.mem_append, List.mem_cons] at hx
          rcases hx with h1 | rfl | h1
          · exact hF2 x (by simp [h1])
          · exact hpl
          · exact hF2 x (by simp [h1]))
        have b0 : w6.cell? ⟨q, 0, none⟩ = some (.int .u64 (S.now : Nat)) := (hf26.cell (p := ⟨q, 0, none⟩) hql hqG).trans H2.out.ds.n0
        have b1 : w6.cell? ⟨q, 1, none⟩ = some (.slice ta0 tn0 tc0) := (hf26.cell (p := ⟨q, 1, none⟩) hql hqG).trans g1
        have b2 : w6.cell? ⟨q, 2, none⟩ = some (.int .u64 (S.last : Nat)) := (hf26.cell (p := ⟨q, 2, none⟩) hql hqG).trans H2.out.ds.c2
        have b3 : w6.cell? ⟨q, 3, none⟩ = some (.slice ba0 bn0 bc0) := (hf26.cell (p := ⟨q, 3, none⟩) hql hqG).trans g3
        obtain ⟨w7, hw7⟩ : ∃ w7, w7 = (((w6.setCell ⟨q, 0, none⟩ (.int .u64 ((doS S c).now : Nat))).setCell ⟨q, 1, none⟩ (.slice ta2 tn2 tc2)).setCell ⟨q, 2, none⟩ (.int .u64 ((doS S c).last : Nat))).setCell ⟨q, 3, none⟩ (.slice ba2 bn2 bc2) := ⟨_, rfl⟩
        have hf67 : Frm [q] w6 w7 := by rw [hw7]; exact ((((Frm.refl _ _).setCell (.inl (by simp)) _).setCell (.inl (by simp)) _).setCell (.inl (by simp)) _).setCell (.inl (by simp)) _
        have x0 : w7.cell? ⟨q, 0, none⟩ = some (.int .u64 ((doS S c).now : Nat)) := by rw [hw7, World.cell?_setCell_other _ _ _ _ (by simp), World.cell?_setCell_other _ _ _ _ (by simp), World.cell?_setCell_other _ _ _ _ (by simp), World.cell?_setCell_same _ _ _ b0]
        have x1 : w7.cell? ⟨q, 1, none⟩ = some (.slice ta2 tn2 tc2) := by rw [hw7, World.cell?_setCell_other _ _ _ _ (by simp), World.cell?_setCell_other _ _ _ _ (by simp), World.cell?_setCell_same _ _ _ ((World.cell?_setCell_other _ _ _ _ (by simp)).trans b1)]
        have x2 : w7.cell? ⟨q, 2, none⟩ = some (.int .u64 ((doS S c).last : Nat)) := by rw [hw7, World.cell?_setCell_other _ _ _ _ (by simp), World.cell?_setCell_same _ _ _ ((World.cell?_setCell_other _ _ _ _ (by simp)).trans ((World.cell?_setCell_other _ _ _ _ (by simp)).trans b2))]
        have x3 : w7.cell? ⟨q, 3, none⟩ = some (.slice ba2 bn2 bc2) := by rw [hw7, World.cell?_setCell_same _ _ _ ((World.cell?_setCell_other _ _ _ _ (by simp)).trans ((World.cell?_setCell_other _ _ _ _ (by simp)).trans ((World.cell?_setCell_other _ _ _ _ (by simp)).trans b3)))]
        have x4 : w7.cell? ⟨q, 4, none⟩ = some (.pointer (some ⟨m, 0, none⟩)) := by rw [hw7, World.cell?_setCell_other _ _ _ _ (by simp), World.cell?_setCell_other _ _ _ _ (by simp), World.cell?_setCell_other _ _ _ _ (by simp), World.cell?_setCell_other _ _ _ _ (by simp)]; exact (hf26.cell (p := ⟨q, 4, none⟩) hql hqG).trans H2.out.c4
        have hfz : ∀ j, w7.frozen? ⟨q, j, none⟩ = false := fun j => by
          rw [hw7, World.frozen?_setCell, World.frozen?_setCell, World.frozen?_setCell, World.frozen?_setCell]
          exact (hf26.frozen (p := ⟨q, j, none⟩) hql hqG).trans (H2.out.ds.free j)
        have hrf6 : Rf w6 B m Gd' (l ++ fr rl) (l ++ fr rl).length room := by
          have h1 := (HRF5.out.sure).keep (Frm.refl [] _).drew (by simp)
          rw [← HDN.out, ← hw6] at h1
          rw [← HDN.out]
          exact h1
        have hX : ∀ x ∈ Gd', x ∈ Gd ∨ w2.heap.size ≤ x := fun x hx => by
          rcases HX5.out x hx with h1 | h1
          · exact .inl h1
          · have h2 := HF23.out.size; have h3 := HF4.out.size; exact .inr (by omega)
        have hqG' : q ∉ Gd' := fun hm => by
          rcases hX q hm with h1 | h1
          · exact hqG h1
          · omega
        have HE : Hid (Q (.returned (.tuple #[.int .u64 (doN S c : Nat), .slice ga gn gc, .int .i64 0])) w7) := Lib.hid (by
          rw [HQ.out]
          have hj : jc l rl room = 0 := by unfold jc; rw [if_neg (by have := H3N.out; have := LL.out; omega), if_neg (by have := HRLL.out; omega)]
          have h0 : kE S l room c = 0 := HKE.out.trans hj
          unfold RkEnd kN kG kS kL
          rw [if_pos h0, if_pos h0, if_pos h0, if_pos h0, h0, ← HRL.out, ← HGN.out]
          have hsub : ∀ x ∈ q :: (Gd' ++ G), x ∈ q :: (Gd ++ (Gd' ++ G)) := fun x hx => by
            simp only [List.mem_cons, List.mem_append] at hx ⊢
            rcases hx with h | h | h
            · exact .inl h
            · exact .inr (.inr (.inl h))
            · exact .inr (.inr (.inr h))
          have hup : ∀ x ∈ Gd ++ (Gd' ++ G), x ∈ Gd ++ G ∨ w2.heap.size ≤ x := fun x hx => by
            simp only [List.mem_append] at hx ⊢
            rcases hx with h | h | h
            · exact .inl (.inl h)
            · exact (hX x h).imp .inl id
            · exact .inl (.inr h)
          have hP : Ds w6 B p (q :: (Gd' ++ G)) (doS S c) := ((HD2.out.more (F' := q :: (Gd ++ (Gd' ++ G))) (Frm.refl _ _) (fun x hx => by
            rcases List.mem_cons.1 hx with rfl | hx
            · exact .inl (by simp)
            · exact (hup x hx).imp (fun h => List.mem_cons_of_mem _ h) id)).keep hf26 hpG (fun x hx => .inl (by simp [hx]))).more (Frm.refl _ _) (fun x hx => .inl (hsub x hx))
          have hQ6 : Ds w6 B q (Gd' ++ G) S := ((H2.out.ds.more (F' := Gd ++ (Gd' ++ G)) (Frm.refl _ _) (fun x hx => by
            rcases hup x hx with h | h
            · refine .inl ?_
              simp only [List.mem_append, List.mem_cons] at h ⊢
              exact h.imp id .inr
            · exact .inr h)).keep hf26 hqG (fun x hx => .inl (by simp [hx]))).more (Frm.refl _ _) (fun x hx => .inl (by simp only [List.mem_append] at hx ⊢; exact .inr hx))
          have hf06 : Frm Gd w w6 := HF02.out.trans hf26 (by simp) (fun x hx => .inl hx)
          refine ⟨ga, gc, Gd', rfl, ?_, HGA.out, ⟨hP.back hQ6 hf67 (x0.trans p0.symm) (x1.trans p1.symm) (x2.trans p2.symm) (x3.trans p3.symm) hfz, x4, hrf6.keep hf67 (fun x hx hm => by simp at hm; subst hm; exact hqG' hx), fun x hx hm => ?_⟩, hf06.trans hf67 (U := q :: Gd) (fun x hx => by simp [hx]) (fun x hx => .inl (by simp at hx; simp [hx])), fun x hx => ?_⟩
          · refine (HGV.out.keep hf26 (fun _ y hy hm => ?_)).keep hf67 (fun _ y hy hm => ?_)
            · have h1 := HGA.out y hy; have h2 := (HH.out.rf.lt _ hm).2; omega
            · have h1 := HGA.out y hy; have h2 := HH.out.ds.plt; simp at hm; omega
          · rcases List.mem_cons.1 hx with rfl | hx
            · exact HH.out.out x (by simp) hm
            · rcases HX5.out x hx with h1 | h1
              · exact HH.out.out x (by simp [h1]) hm
              · have h2 := HGL.out x hm; have h3 := HF02.out.size; have h4 := HF23.out.size; have h5 := HF4.out.size; omega
          · rcases hX x hx with h1 | h1
            · exact .inl h1
            · have := HF02.out.size; exact .inr (by omega))
        have HW7 := Lib.hid hw7
        clear hw6 hf56 hf35 hf26 hpG hF2 e1 e3 hpl hql hqG g1 g3 hw7 hf67 x0 x1 x2 x3 x4 hfz hrf6 hX hqG'
        go_wp2
        rw [← HW7.out]
        exact HE.out
  · have hne : ((en : Int) != 0) = true := by rw [bne_iff_ne]; omega
    have HE : Hid (Q (.returned (.tuple #[.int .u64 0, .slice none 0 0, .int .i64 (en : Nat)])) w2) := Lib.hid (by
      rw [HQ.out]
      exact RkEnd.bad (by unfold kE; rw [if_pos (by rw [← HEN.out]; exact hz), HEN.out]) hz HH.out HF02.out)
    clear hz k0 k1 k2 k3 k4 k5
    go_wp2
    exact HE.out
end Go.Proofs.YtomgiockelhfiaaGreat
