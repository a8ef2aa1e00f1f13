/- Contract of the document's Bytes. -/
import Derived.Test.YtghadpihmhaepaaDCqEncode
import Derived.Test.YtghadpihmhaepaaCD
namespace Go.Proofs.Ytghadpihmhaepaa
open Go.RowKit
set_option maxRecDepth 100000
/-- A row of bytes of the call's own, since w0. -/
structure RcW (w0 z : World) (a : Option Addr) (n cap : Nat) (l : List Nat) : Prop where
  len : n = l.length
  own : z.ownsRow w0.heap.size 5 1 (.slice a n cap) n (l.map u8v)
  frm : Frm [] w0 z
  new : ∀ x ∈ ob a, w0.heap.size ≤ x
theorem RcW.start (w0 : World) : RcW w0 w0 none 0 0 [] := ⟨rfl, World.ownsRow_nil _ _ _ _, Frm.refl _ _, by simp [ob]⟩
theorem RcW.keep {w0 z z' : World} {a : Option Addr} {n cap : Nat} {l : List Nat} (h : RcW w0 z a n cap l) (hf : Frm [] z z') : RcW w0 z' a n cap l :=
  ⟨h.len, hf.own h.own (fun _ _ hm => by simp at hm), h.frm.trans hf (by simp) (by simp), h.new⟩
def RcE (w0 : World) (l : List Nat) (e : Ending) (z' : World) : Prop := ∃ a' n' cap', e = .returned (.slice a' n' cap') ∧ Hid (RcW w0 z' a' n' cap' l)
theorem rc_put {w0 z : World} {a : Option Addr} {n0 cap : Nat} {l : List Nat} (n k : Nat) (i : Int) (hi : i = (k : Nat)) (h : RcW w0 z a n0 cap l) (hn : n < 18446744073709551616) (hk : k ≤ 8) (hfit : l.length ≤ 100000000) :
    Calls Try.prog 60 #[.slice a n0 cap, .int .u64 n, .int .i64 i] z (RcE w0 (l ++ be k n)) := by
  obtain ⟨h0, h1, h2, h3⟩ := h
  subst h0; subst hi
  refine (ref_put_any w0.heap.size a cap l n k z h1 h2.size hn hk (by omega)).mono fun e w' hp => ?_
  obtain ⟨a', cap', he, ho, hf, hx⟩ := hp
  have hs := h2.size
  exact ⟨a', _, cap', he, Lib.hid ⟨rfl, ho, h2.trans hf (by simp) (fun x hx => .inr (h3 x hx)), fun x hm => by
    rcases hx x hm with h1 | h1
    · exact h3 x h1
    · omega⟩⟩
theorem encHels_few (H : List Hel) (hb : ∀ h ∈ H, h.2.length ≤ 100) : (H.flatMap encHel).length ≤ H.length * 1610 := by
  induction H with
  | nil => simp
  | cons x H ih =>
    rw [List.flatMap_cons, List.length_append, encHel_length, List.length_cons]
    have h1 := ih (fun h hh => hb h (by simp [hh]))
    have h2 := hb x (by simp)
    omega
set_option linter.unusedSimpArgs false in
set_option maxHeartbeats 8000000 in
theorem crbytes_any (m : Ps) (a : Option Addr) (n cap : Nat) (F : List Nat) (Y : List Hx) (w : World) (h : HxL w F a Y) (hn : n = Y.length) (hsz : n ≤ 100) (hr : ∀ x ∈ Y, x.t.2.length ≤ 100) (hm : m.fits) :
    Calls Try.prog 30 #[.slice none 0 0, crsV m a n cap] w (RcE w (encCrs ⟨m, hels Y⟩)) := by
  obtain ⟨w1, hw1⟩ : ∃ w1, w1 = w.alloc (.cells #[.int .u64 (m.l : Nat), .int .u64 (m.e : Nat), .slice a n cap] 28) := ⟨_, rfl⟩
  have F1 : Hid (Frm [] w w1) := Lib.hid (by rw [hw1]; exact (Frm.refl _ _).alloc _)
  obtain ⟨g, hg⟩ : ∃ g, g = w.heap.size := ⟨_, rfl⟩
  have B1 : Hid (Whole w1 g 28 #[.int .u64 (m.l : Nat), .int .u64 (m.e : Nat), .slice a n cap]) := Lib.hid (by rw [hw1, hg]; exact Whole.made _ _ _)
  have H1 : Hid (HxL w1 [] a Y) := Lib.hid (h.keep F1.out (by simp) (by simp))
  have HN := Lib.hid hn; clear hn
  have HR := Lib.hid hr; clear hr
  obtain ⟨ml, me⟩ := m
  have M1 := Lib.hid hm.1
  have M2 := Lib.hid hm.2
  simp only at M1 M2
  have FIN : Hid (∀ a' n' c' z, RcW w1 z a' n' c' (encCrs ⟨⟨ml, me⟩, hels Y⟩) → RcE w (encCrs ⟨⟨ml, me⟩, hels Y⟩) (.returned (.slice a' n' c')) z) := Lib.hid (fun a' n' c' z hz => ⟨a', n', c', rfl, Lib.hid ⟨hz.len, own_baseC hz.own F1.out.size, F1.out.trans hz.frm (by simp) (by simp), fun x hx => Nat.le_trans F1.out.size (hz.new x hx)⟩⟩)
  obtain ⟨Q, hQ⟩ : ∃ Q, Q = RcE w (encCrs ⟨⟨ml, me⟩, hels Y⟩) := ⟨_, rfl⟩
  rw [← hQ] at FIN ⊢
  unfold encCrs at FIN
  simp only [hels_length] at FIN
  rw [← HN.out] at FIN
  have EL : Hid (∀ k, (((hels Y).take k).flatMap encHel).length ≤ 161000) := Lib.hid (fun k => by
    have h1 := encHels_few ((hels Y).take k) (fun h hh => by
      have h2 := List.mem_of_mem_take hh
      obtain ⟨x, hx, rfl⟩ := List.mem_map.1 h2
      exact HR.out x hx)
    have h3 : ((hels Y).take k).length ≤ n := by rw [HN.out, ← hels_length Y]; exact List.length_take_le' k _
    have h4 : ((hels Y).take k).length * 1610 ≤ n * 1610 := Nat.mul_le_mul_right _ h3
    omega)
  have r0 : ∀ z, Frm [] w1 z → z.cell? ⟨g, 0, none⟩ = some (.int .u64 (ml : Nat)) := fun z hz => (hz.whole B1.out (by simp)).cell 0
  have r1 : ∀ z, Frm [] w1 z → z.cell? ⟨g, 1, none⟩ = some (.int .u64 (me : Nat)) := fun z hz => (hz.whole B1.out (by simp)).cell 1
  have r2 : ∀ z, Frm [] w1 z → z.cell? ⟨g, 2, none⟩ = some (.slice a n cap) := fun z hz => (hz.whole B1.out (by simp)).cell 2
  have W0 := Lib.hid (RcW.start w1)
  unfold crsV
  simp only at hw1 ⊢
  have HW1 := Lib.hid hw1
  clear hw1 hQ hm h
  have wn : IntKind.u64.wrap (n : Int) = (n : Int) := by simp [IntKind.wrap, IntKind.bits, IntKind.signed]; omega
  go_enter Try.func30, Try.ntmps30
  go_upto_region 1 with (fail)
  rw [← HW1.out, ← hg]
  have HG := Lib.hid hg; clear hg
  refine wp_region_held_drew (S := fun w' => Frm [] w1 w') (by kernel_rfl) (Frm.drew (Frm.refl _ _)) (fun hHeld => ?_)
  refine wpAnyH_take (i := 0) (oi := ⟨some 8, _, _, _, _, _⟩) (v := ?_) rfl (by kernel_rfl) (by kernel_rfl) (by kernel_rfl) (fun _ _ _ h => h) (Or.inl ⟨by rfl, ?_⟩) (by assumption) ?_
  rotate_left 1
  · (intro w hSw; (try dsimp only at hSw); go_simp; all_goals with_reducible rfl)
  try simp only [Act.put, List.setIfInBounds_toArray, List.set_cons_zero, List.set_cons_succ]
  refine wpAnyH_take (i := 1) (oi := ⟨some 9, _, _, _, _, _⟩) (v := ?_) rfl (by kernel_rfl) (by kernel_rfl) (by kernel_rfl) (fun _ _ _ h => h) (Or.inl ⟨by rfl, ?_⟩) (by assumption) ?_
  rotate_left 1
  · (intro w hSw; (try dsimp only at hSw); go_simp; all_goals with_reducible rfl)
  try simp only [Act.put, List.setIfInBounds_toArray, List.set_cons_zero, List.set_cons_succ]
  refine wpAnyH_take (i := 2) (oi := ⟨some 10, _, _, _, _, _⟩) (v := ?_) rfl (by kernel_rfl) (by kernel_rfl) (by kernel_rfl) (fun _ _ _ h => h) (Or.inl ⟨by rfl, ?_⟩) (by assumption) ?_
  rotate_left 1
  · (intro w hSw; (try dsimp only at hSw); go_simp; all_goals with_reducible rfl)
  try simp only [Act.put, List.setIfInBounds_toArray, List.set_cons_zero, List.set_cons_succ]
  refine wpAnyH_take (i := 3) (oi := ⟨some 11, _, _, _, _, _⟩) (v := ?_) rfl (by kernel_rfl) (by kernel_rfl) (by kernel_rfl) (fun _ _ _ h => h) (Or.inl ⟨by rfl, ?_⟩) (by assumption) ?_
  rotate_left 1
  · (intro w hSw; (try dsimp only at hSw); go_simp; all_goals with_reducible rfl)
  try simp only [Act.put, List.setIfInBounds_toArray, List.set_cons_zero, List.set_cons_succ]
  refine wpAnyH_take (i := 5) (oi := ⟨some 13, _, _, _, _, _⟩) (v := ?_) rfl (by kernel_rfl) (by kernel_rfl) (by kernel_rfl) (fun _ _ _ h => h) (Or.inl ⟨by rfl, ?_⟩) (by assumption) ?_
  rotate_left 1
  · (intro w hSw; (try dsimp only at hSw); go_simp; all_goals with_reducible rfl)
  try simp only [Act.put, List.setIfInBounds_toArray, List.set_cons_zero, List.set_cons_succ]
  refine wpAnyH_take (i := 6) (oi := ⟨some 14, _, _, _, _, _⟩) (v := ?_) rfl (by kernel_rfl) (by kernel_rfl) (by kernel_rfl) (fun _ _ _ h => h) (Or.inl ⟨by rfl, ?_⟩) (by assumption) ?_
  rotate_left 1
  · (intro w hSw; (try dsimp only at hSw); go_simp; all_goals with_reducible rfl)
  try simp only [Act.put, List.setIfInBounds_toArray, List.set_cons_zero, List.set_cons_succ]
  refine wpAnyH_take (i := 7) (oi := ⟨some 15, _, _, _, _, _⟩) (v := ?_) rfl (by kernel_rfl) (by kernel_rfl) (by kernel_rfl) (fun _ _ _ h => h) (Or.inl ⟨by rfl, ?_⟩) (by assumption) ?_
  rotate_left 1
  · (intro w hSw; (try dsimp only at hSw); go_simp; all_goals with_reducible rfl)
  try simp only [Act.put, List.setIfInBounds_toArray, List.set_cons_zero, List.set_cons_succ]
  refine wpAnyH_ready (rs := [4]) (by kernel_rfl) (by simp) ?_
  refine AllReadyH.cons (o := ⟨some 12, _, _, _, _, _⟩) rfl (fun K hK => ?_) AllReadyH.nil
  go_simp
  go_at_call 60; (with_reducible refine (rc_put ml 8 8 rfl (W0.out.keep hHeld) M1.out (by decide) (by simp)).mono ?_); rintro e v1 ⟨a1, n1, c1, rfl, hq1⟩; have R1 := Lib.hid hq1.out; clear hq1; have hHeld1 : Frm [] w1 v1 := R1.out.frm
  go_wp2_with fail
  refine hK.out _ _ (by assumption) (fun hHeld => ?_)
  clear hK K
  try simp only [Act.put, List.setIfInBounds_toArray, List.set_cons_zero, List.set_cons_succ]
  refine wpAnyH_ready (rs := [8]) (by kernel_rfl) (by simp) ?_
  refine AllReadyH.cons (o := ⟨some 16, _, _, _, _, _⟩) rfl (fun K hK => ?_) AllReadyH.nil
  go_simp
  go_at_call 60; (with_reducible refine (rc_put me 8 8 rfl R1.out M2.out (by decide) (by simp [be_length])).mono ?_); rintro e v2 ⟨a2, n2, c2, rfl, hq2⟩; have R2 := Lib.hid hq2.out; clear hq2; have hHeld2 : Frm [] w1 v2 := R2.out.frm
  go_wp2_with fail
  refine hK.out _ _ (by assumption) (fun hHeld => ?_)
  clear hK K
  try simp only [Act.put, List.setIfInBounds_toArray, List.set_cons_zero, List.set_cons_succ]
  refine wpAnyH_take (i := 9) (oi := ⟨some 0, _, _, _, _, _⟩) (v := ?_) rfl (by kernel_rfl) (by kernel_rfl) (by kernel_rfl) (fun _ _ _ h => h) (Or.inl ⟨by rfl, ?_⟩) (by assumption) ?_
  rotate_left 1
  · (intro w hSw; (try dsimp only at hSw); go_simp; all_goals with_reducible rfl)
  try simp only [Act.put, List.setIfInBounds_toArray, List.set_cons_zero, List.set_cons_succ]
  refine wpAnyH_done (by kernel_rfl) ?_ _
  have x2 := r2 _ R2.out.frm
  go_wp2_with fail
  (with_reducible refine (rc_put n 2 2 rfl R2.out (by omega) (by decide) (by simp [be_length])).mono ?_)
  rintro e v3 ⟨a3, n3, c3, rfl, hq3⟩
  have R3 := Lib.hid hq3.out
  clear hq3 x2
  obtain ⟨hd, hhd⟩ : ∃ hd, hd = be 8 ml ++ be 8 me ++ be 2 n := ⟨_, rfl⟩
  have HDL : Hid (hd.length = 18) := Lib.hid (by rw [hhd]; simp [be_length])
  rw [List.nil_append, ← hhd] at R3
  rw [← hhd] at FIN
  clear hhd W0 wn
  go_wp2
  go_loopw [0, 5] (fun s0 s5 wr => ∃ (k : Nat) (a' : Option Addr) (n' c' : Nat), k ≤ n ∧ s5 = .int .i64 (k : Nat) ∧ s0 = .slice a' n' c' ∧ Hid (RcW w1 wr a' n' c' (hd ++ ((hels Y).take k).flatMap encHel))) (fun _ s5 _ => n - (intOf s5).toNat)
  case atStart => exact ⟨0, a3, n3, c3, Nat.zero_le _, rfl, rfl, Lib.hid (by simpa using R3.out)⟩
  case round =>
    obtain ⟨k, a', n', c', hk, rfl, rfl, HP⟩ := hrel
    have x2 := r2 _ HP.out.frm
    by_cases hlt : k < n
    · have hlt' : (k : Int) < (n : Int) := by omega
      have kY : k < Y.length := by have := HN.out; omega
      have h1at := fun z (hz : Frm [] w1 z) => (H1.out.sub hz).at (i := k) kY
      obtain ⟨b, off, rfl, _⟩ := h1at _ (Frm.refl _ _)
      have d0 : ∀ z, Frm [] w1 z → z.cell? ⟨b, off + k * 2, none⟩ = some (.int .u64 ((Y.getD k default).t.1 : Nat)) := fun z hz => by
        obtain ⟨b', off', e, h2, _⟩ := h1at z hz
        cases e
        exact h2
      have d1 : ∀ z, Frm [] w1 z → z.cell? ⟨b, off + k * 2 + 1, none⟩ = some (.slice (Y.getD k default).a (Y.getD k default).t.2.length (Y.getD k default).c) := fun z hz => by
        obtain ⟨b', off', e, _, h2, _⟩ := h1at z hz
        cases e
        exact h2
      have hok := (h1at _ (Frm.refl [] w1)).choose_spec.choose_spec.2.2.2
      have EK := hels_getD Y k
      have TK := flat_take encHel (hels Y) default (k := k) (by rw [hels_length]; exact kY)
      rw [EK] at TK
      obtain ⟨x, hx⟩ : ∃ x, x = Y.getD k default := ⟨_, rfl⟩
      have XL : Hid (x.t.2.length ≤ 100) := Lib.hid (HR.out x (by rw [hx]; simp [kY]))
      rw [← hx] at d0 d1 hok TK
      have OK := Lib.hid hok
      have TK := Lib.hid TK
      have LB : Hid ((hd ++ ((hels Y).take k).flatMap encHel).length ≤ 161018) := Lib.hid (by have h1 := HDL.out; have h2 := EL.out k; rw [List.length_append]; omega)
      obtain ⟨b0, hb0⟩ : ∃ b0, b0 = hd ++ ((hels Y).take k).flatMap encHel := ⟨_, rfl⟩
      rw [← hb0] at HP LB
      have HB0 := Lib.hid hb0
      clear hx hok EK kY hb0 h1at
      obtain ⟨⟨led, rs⟩, ra, rc⟩ := x
      have LEDF : Hid (led < 18446744073709551616) := Lib.hid OK.out.num
      have RSR : Hid (Rr w1 ra rs) := Lib.hid OK.out.rs
      simp only at d0 d1 XL
      obtain ⟨rn, hrn⟩ : ∃ rn, rn = rs.length := ⟨_, rfl⟩
      rw [← hrn] at d1 XL
      have rn100 : rn ≤ 100 := XL.out
      have wrn : IntKind.u64.wrap (rn : Int) = (rn : Int) := by simp [IntKind.wrap, IntKind.bits, IntKind.signed]; omega
      have RN := Lib.hid hrn; clear hrn
      have v0 := d0 _ HP.out.frm
      go_wp2_with fail
      (with_reducible refine (rc_put led 8 8 rfl HP.out LEDF.out (by decide) (by have := LB.out; omega)).mono ?_)
      rintro e v5 ⟨a5, n5, c5, rfl, hq5⟩
      have R5 := Lib.hid hq5.out
      clear hq5 v0 x2
      have v1 := d1 _ R5.out.frm
      have x2 := r2 _ R5.out.frm
      go_wp2_with fail
      (with_reducible refine (rc_put rn 2 2 rfl R5.out (by omega) (by decide) (by have := LB.out; simp only [List.length_append, be_length]; omega)).mono ?_)
      rintro e v6 ⟨a6, n6, c6, rfl, hq6⟩
      have R6 := Lib.hid hq6.out
      clear hq6 v1 x2 R5
      obtain ⟨hd5, hhd5⟩ : ∃ hd, hd = b0 ++ (be 8 led ++ be 2 rn) := ⟨_, rfl⟩
      have HD5 : Hid (hd5.length ≤ 161028) := Lib.hid (by rw [hhd5]; have := LB.out; simp only [List.length_append, be_length]; omega)
      rw [List.append_assoc, ← hhd5] at R6
      have EH : Hid (b0 ++ encHel (led, rs) = hd5 ++ rs.flatMap encRg) := Lib.hid (by unfold encHel; simp only; rw [hhd5, RN.out]; simp only [List.append_assoc])
      clear hhd5
      go_wp2
      go_loopw [0, 7] (fun s0 s7 wi => ∃ (j : Nat) (a' : Option Addr) (n' c' : Nat), j ≤ rn ∧ s7 = .int .i64 (j : Nat) ∧ s0 = .slice a' n' c' ∧ Hid (RcW w1 wi a' n' c' (hd5 ++ (rs.take j).flatMap encRg))) (fun _ s7 _ => rn - (intOf s7).toNat)
      case atStart => exact ⟨0, a6, n6, c6, Nat.zero_le _, rfl, rfl, Lib.hid (by simpa using R6.out)⟩
      case round =>
        obtain ⟨j, aj, nj, cj, hj, rfl, rfl, HJ⟩ := hrel
        by_cases hlj : j < rn
        · have hlj' : (j : Int) < (rn : Int) := by omega
          have jr : j < rs.length := by have := RN.out; omega
          obtain ⟨b', off', rfl, hc⟩ := RSR.out.2 (by omega)
          obtain ⟨e0, e1⟩ := hc j jr
          have BD := getD_bd RSR.out.1 j
          have TJ := Lib.hid (flat_take encRg rs (0, 0) jr)
          have JL : Hid (((rs.take j).flatMap encRg).length ≤ 1600) := Lib.hid (by
            have h1 := encRgs_length (rs.take j)
            have h2 := List.length_take_le' j rs
            have h4 := RN.out
            omega)
          obtain ⟨r, hr⟩ : ∃ r, r = rs.getD j (0, 0) := ⟨_, rfl⟩
          rw [← hr] at e0 e1 BD TJ
          have RD := Lib.hid BD
          clear hr hc jr BD
          obtain ⟨lo, hi⟩ := r
          simp only at e0 e1 RD
          have t0 : ∀ z, Frm [] w1 z → z.cell? ⟨b', off' + j * 2, none⟩ = some (.int .u64 (lo : Nat)) := fun z hz => (hz.cell (p := ⟨b', off' + j * 2, none⟩) (block_lt_of_cell e0) (by simp)).trans e0
          have t1 : ∀ z, Frm [] w1 z → z.cell? ⟨b', off' + j * 2 + 1, none⟩ = some (.int .u64 (hi : Nat)) := fun z hz => (hz.cell (p := ⟨b', off' + j * 2 + 1, none⟩) (block_lt_of_cell e1) (by simp)).trans e1
          have hfr := HJ.out.frm
          have RJ := Lib.hid (fun z (hz : Frm [] wr z) => HJ.out.keep hz)
          have FJ := Lib.hid (fun z (hz : Frm [] wr z) => HJ.out.frm.trans hz (U := []) (by simp) (by simp))
          have hfrd : Frm [] w1 wr.drew := hfr.drew
          clear e0 e1 hfr
          go_upto_region 12 with (fail)
          refine wp_region_held_drew (S := fun w' => Frm [] w1 w') (by kernel_rfl) hfrd (fun hHeld => ?_)
          refine wpAnyH_take (i := 0) (oi := ⟨some 55, _, _, _, _, _⟩) (v := ?_) rfl (by kernel_rfl) (by kernel_rfl) (by kernel_rfl) (fun _ _ _ h => h) (Or.inl ⟨by rfl, ?_⟩) (by assumption) ?_
          rotate_left 1
          · (intro w hSw; (try dsimp only at hSw); go_simp; all_goals with_reducible rfl)
          try simp only [Act.put, List.setIfInBounds_toArray, List.set_cons_zero, List.set_cons_succ]
          refine wpAnyH_take (i := 1) (oi := ⟨some 56, _, _, _, _, _⟩) (v := ?_) rfl (by kernel_rfl) (by kernel_rfl) (by kernel_rfl) (fun _ _ _ h => h) (Or.inl ⟨by rfl, ?_⟩) (by assumption) ?_
          rotate_left 1
          · (intro w hSw; (try dsimp only at hSw); go_simp; all_goals with_reducible rfl)
          try simp only [Act.put, List.setIfInBounds_toArray, List.set_cons_zero, List.set_cons_succ]
          refine wpAnyH_take (i := 2) (oi := ⟨some 57, _, _, _, _, _⟩) (v := ?_) rfl (by kernel_rfl) (by kernel_rfl) (by kernel_rfl) (fun _ _ _ h => h) (Or.inl ⟨by rfl, ?_⟩) (by assumption) ?_
          rotate_left 1
          · (intro w hSw; (try dsimp only at hSw); go_simp; all_goals with_reducible rfl)
          try simp only [Act.put, List.setIfInBounds_toArray, List.set_cons_zero, List.set_cons_succ]
          refine wpAnyH_take (i := 3) (oi := ⟨some 58, _, _, _, _, _⟩) (v := ?_) rfl (by kernel_rfl) (by kernel_rfl) (by kernel_rfl) (fun _ _ _ h => h) (Or.inl ⟨by rfl, ?_⟩) (by assumption) ?_
          rotate_left 1
          · (intro w hSw; (try dsimp only at hSw); go_simp; all_goals with_reducible rfl)
          try simp only [Act.put, List.setIfInBounds_toArray, List.set_cons_zero, List.set_cons_succ]
          refine wpAnyH_take (i := 4) (oi := ⟨some 59, _, _, _, _, _⟩) (v := ?_) rfl (by kernel_rfl) (by kernel_rfl) (by kernel_rfl) (fun _ _ _ h => h) (Or.inl ⟨by rfl, ?_⟩) (by assumption) ?_
          rotate_left 1
          · (intro w hSw; (try dsimp only at hSw); go_simp; all_goals with_reducible rfl)
          try simp only [Act.put, List.setIfInBounds_toArray, List.set_cons_zero, List.set_cons_succ]
          refine wpAnyH_take (i := 5) (oi := ⟨some 60, _, _, _, _, _⟩) (v := ?_) rfl (by kernel_rfl) (by kernel_rfl) (by kernel_rfl) (fun _ _ _ h => h) (Or.inl ⟨by rfl, ?_⟩) (by assumption) ?_
          rotate_left 1
          · (intro w hSw; (try dsimp only at hSw); go_simp; all_goals with_reducible rfl)
          try simp only [Act.put, List.setIfInBounds_toArray, List.set_cons_zero, List.set_cons_succ]
          refine wpAnyH_take (i := 7) (oi := ⟨some 62, _, _, _, _, _⟩) (v := ?_) rfl (by kernel_rfl) (by kernel_rfl) (by kernel_rfl) (fun _ _ _ h => h) (Or.inl ⟨by rfl, ?_⟩) (by assumption) ?_
          rotate_left 1
          · (intro w hSw; (try dsimp only at hSw); go_simp; all_goals with_reducible rfl)
          try simp only [Act.put, List.setIfInBounds_toArray, List.set_cons_zero, List.set_cons_succ]
          refine wpAnyH_take (i := 8) (oi := ⟨some 63, _, _, _, _, _⟩) (v := ?_) rfl (by kernel_rfl) (by kernel_rfl) (by kernel_rfl) (fun _ _ _ h => h) (Or.inl ⟨by rfl, ?_⟩) (by assumption) ?_
          rotate_left 1
          · (intro w hSw; (try dsimp only at hSw); go_simp; all_goals with_reducible rfl)
          try simp only [Act.put, List.setIfInBounds_toArray, List.set_cons_zero, List.set_cons_succ]
          refine wpAnyH_take (i := 9) (oi := ⟨some 64, _, _, _, _, _⟩) (v := ?_) rfl (by kernel_rfl) (by kernel_rfl) (by kernel_rfl) (fun _ _ _ h => h) (Or.inl ⟨by rfl, ?_⟩) (by assumption) ?_
          rotate_left 1
          · (intro w hSw; (try dsimp only at hSw); go_simp; all_goals with_reducible rfl)
          try simp only [Act.put, List.setIfInBounds_toArray, List.set_cons_zero, List.set_cons_succ]
          refine wpAnyH_take (i := 10) (oi := ⟨some 65, _, _, _, _, _⟩) (v := ?_) rfl (by kernel_rfl) (by kernel_rfl) (by kernel_rfl) (fun _ _ _ h => h) (Or.inl ⟨by rfl, ?_⟩) (by assumption) ?_
          rotate_left 1
          · (intro w hSw; (try dsimp only at hSw); go_simp; all_goals with_reducible rfl)
          try simp only [Act.put, List.setIfInBounds_toArray, List.set_cons_zero, List.set_cons_succ]
          refine wpAnyH_take (i := 11) (oi := ⟨some 66, _, _, _, _, _⟩) (v := ?_) rfl (by kernel_rfl) (by kernel_rfl) (by kernel_rfl) (fun _ _ _ h => h) (Or.inl ⟨by rfl, ?_⟩) (by assumption) ?_
          rotate_left 1
          · (intro w hSw; (try dsimp only at hSw); go_simp; all_goals with_reducible rfl)
          try simp only [Act.put, List.setIfInBounds_toArray, List.set_cons_zero, List.set_cons_succ]
          refine wpAnyH_ready (rs := [6]) (by kernel_rfl) (by simp) ?_
          refine AllReadyH.cons (o := ⟨some 61, _, _, _, _, _⟩) rfl (fun K hK => ?_) AllReadyH.nil
          go_simp
          go_at_call 60; (with_reducible refine (rc_put lo 8 8 rfl (RJ.out _ (Frm.drew (Frm.refl _ _))) RD.out.1 (by decide) (by have h1 := HD5.out; have h2 := JL.out; rw [List.length_append]; omega)).mono ?_); rintro e v7 ⟨a7, n7, c7, rfl, hq7⟩; have R7 := Lib.hid hq7.out; clear hq7; have hHeld1 : Frm [] w1 v7 := R7.out.frm
          go_wp2_with fail
          refine hK.out _ _ (by assumption) (fun hHeld => ?_)
          clear hK K
          try simp only [Act.put, List.setIfInBounds_toArray, List.set_cons_zero, List.set_cons_succ]
          refine wpAnyH_ready (rs := [12]) (by kernel_rfl) (by simp) ?_
          refine AllReadyH.cons (o := ⟨some 67, _, _, _, _, _⟩) rfl (fun K hK => ?_) AllReadyH.nil
          go_simp
          go_at_call 60; (with_reducible refine (rc_put hi 8 8 rfl R7.out RD.out.2 (by decide) (by have h1 := HD5.out; have h2 := JL.out; simp only [List.length_append, be_length]; omega)).mono ?_); rintro e v8 ⟨a8, n8, c8, rfl, hq8⟩; have R8 := Lib.hid hq8.out; clear hq8; have hHeld2 : Frm [] w1 v8 := R8.out.frm
          go_wp2_with fail
          refine hK.out _ _ (by assumption) (fun hHeld => ?_)
          clear hK K
          try simp only [Act.put, List.setIfInBounds_toArray, List.set_cons_zero, List.set_cons_succ]
          refine wpAnyH_take (i := 13) (oi := ⟨some 0, _, _, _, _, _⟩) (v := ?_) rfl (by kernel_rfl) (by kernel_rfl) (by kernel_rfl) (fun _ _ _ h => h) (Or.inl ⟨by rfl, ?_⟩) (by assumption) ?_
          rotate_left 1
          · (intro w hSw; (try dsimp only at hSw); go_simp; all_goals with_reducible rfl)
          try simp only [Act.put, List.setIfInBounds_toArray, List.set_cons_zero, List.set_cons_succ]
          refine wpAnyH_done (by kernel_rfl) ?_ _
          have NX : Hid (RcW w1 v8 a8 n8 c8 (hd5 ++ (rs.take (j + 1)).flatMap encRg)) := Lib.hid (by
            rw [TJ.out, show encRg (lo, hi) = be 8 lo ++ be 8 hi from rfl, ← List.append_assoc, ← List.append_assoc]
            exact R8.out)
          clear t0 t1
          go_wp2
          go_roundw
          case rel => exact ⟨j + 1, a8, n8, c8, by omega, by go_num, rfl, NX⟩
          case measure => simp [intOf]; omega
        · obtain rfl : j = rn := by omega
          have NX : Hid (RcW w1 wr aj nj cj (hd ++ ((hels Y).take (k + 1)).flatMap encHel)) := Lib.hid (by
            have h1 := HJ.out
            rw [List.take_of_length_le (by rw [← RN.out]; exact Nat.le_refl _), ← EH.out] at h1
            rw [TK.out, ← List.append_assoc, ← HB0.out]
            exact h1)
          clear d0 d1
          go_wp2
          go_roundw
          case rel => exact ⟨k + 1, aj, nj, cj, by omega, by go_num, rfl, NX⟩
          case measure => simp [intOf]; omega
    · obtain rfl : k = n := by omega
      have HE : Hid (Q (.returned (.slice a' n' c')) wr) := Lib.hid (FIN.out a' n' c' wr (by
        have h1 := HP.out
        rw [List.take_of_length_le (by rw [hels_length, ← HN.out]; exact Nat.le_refl _)] at h1
        exact h1))
      clear r0 r1 r2
      go_wp2
      exact HE.out
end Go.Proofs.Ytghadpihmhaepaa
