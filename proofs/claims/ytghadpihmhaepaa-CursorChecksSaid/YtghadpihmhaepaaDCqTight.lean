/- Contract of the program's tight. -/
import Derived.Test.YtghadpihmhaepaaCC
import Derived.Test.YtghadpihmhaepaaDCqFree
import Derived.Test.YtghadpihmhaepaaDTail
import Derived.Deep.DeepCutAuto
namespace Go.Proofs.Ytghadpihmhaepaa
open Go.RowKit
set_option maxRecDepth 100000

/-- Made tight. -/
def CqTi (w : World) (F : List Nat) (X : List Ld) (o : Nat) (m : Ps) (H : List Hel) (e : Ending) (w' : World) : Prop := ∃ (M : Ps) (Z : List Hx) (a : Option Addr) (zn c : Nat), e = .returned (crsV M a zn c) ∧ Hid (zn = Z.length) ∧ Hid (Reach X o H m M ∧ Stop X o H M ∧ M.e < 18446744073709551616) ∧ Hid (hels Z = leftH M H) ∧ Hid (HxL w' F a Z ∧ CapOk a Z.length c) ∧ Hid (Frm [] w w')
set_option maxHeartbeats 8000000 in
theorem cqtight_any (al : Option Addr) (nl cl : Nat) (X : List Ld) (o : Nat) (m : Ps) (a : Option Addr) (n cap : Nat) (F : List Nat) (Y : List Hx) (w : World) (hx : LdL w [] al X) (hnl : nl = X.length) (hszl : nl < 4611686018427387904) (ho : o < 18446744073709551616) (hfx : ∀ x ∈ X, x.fits) (h : HxL w F a Y) (hs : Srt (hels Y)) (hn : n = Y.length) (hsz : n ≤ 100000) (hr : RgsOk Y) (hF : ∀ x ∈ F, x < w.heap.size) (hme : m.e < 18446744073709551616) :
    Calls Try.prog 35 #[.slice al nl cl, .int .u64 (o : Nat), crsV m a n cap] w (CqTi w F X o m (hels Y)) := by
  obtain ⟨w1, hw1⟩ : ∃ w1, w1 = (w.alloc (.cells #[.int .u64 (m.l : Nat), .int .u64 (m.e : Nat), .slice a n cap] 28)).alloc (.cells #[.int .u64 0, .int .u64 0, .slice none 0 0] 28) := ⟨_, rfl⟩
  obtain ⟨g, hg⟩ : ∃ g, g = w.heap.size := ⟨_, rfl⟩
  have F1 : Hid (Frm [] w w1) := Lib.hid (by rw [hw1]; exact ((Frm.refl _ _).alloc _).alloc _)
  have B0 : Hid (Whole w1 g 28 #[.int .u64 (m.l : Nat), .int .u64 (m.e : Nat), .slice a n cap]) := Lib.hid (by rw [hw1, hg]; exact (Whole.made _ _ _).alloc _)
  have B1 : Hid (Whole w1 (g + 1) 28 #[.int .u64 0, .int .u64 0, .slice none 0 0]) := Lib.hid (by
    rw [hw1, hg]
    have := Whole.made (w.alloc (.cells #[.int .u64 (m.l : Nat), .int .u64 (m.e : Nat), .slice a n cap] 28)) 28 #[.int .u64 0, .int .u64 0, .slice none 0 0]
    rwa [World.size_alloc] at this)
  have GS : Hid (w.heap.size ≤ g) := Lib.hid (by omega)
  have FREE := Lib.hid (fun z (hz : Frm [] w z) => cqfree_any al nl cl X o a n cap F Y m z (hx.sub hz) hnl hszl ho hfx (h.sub hz) hs hn (by omega) hr hme)
  have LEFT := Lib.hid (fun z (M : Ps) (hz : Frm [] w z) (hgz : g + 1 < z.heap.size) (hm : M.e < 18446744073709551616) => cqleft_any a n cap ((g + 1) :: F) Y M z (h.keep hz (by simp) (fun x hx => by
    rcases List.mem_cons.1 hx with rfl | hx
    · exact .inr (by omega)
    · exact .inl hx)) hn hsz hr (fun x hx => by
    rcases List.mem_cons.1 hx with rfl | hx
    · exact hgz
    · exact Nat.lt_of_lt_of_le (hF x hx) hz.size) hm)
  clear hx hnl h hs hn hr hF hfx ho
  obtain ⟨Q, hQ⟩ : ∃ Q, Q = CqTi w F X o m (hels Y) := ⟨_, rfl⟩
  rw [← hQ]
  have HQ := Lib.hid hQ; clear hQ
  unfold crsV
  obtain ⟨ml, me⟩ := m
  unfold FreeEnd Ps.val at FREE
  unfold LeftEnd Ps.val at LEFT
  simp only at hw1 B0 FREE LEFT ⊢
  have HW1 := Lib.hid hw1; clear hw1
  have V0 : Hid (∀ (z : World) (ul ue : Nat) (a : Option Addr) (sl c : Nat) (tm : Array Value), tm.getD 6 undef = .pointer (some ⟨g + 1, 0, none⟩) → Whole z (g + 1) 28 #[.int .u64 (ul : Nat), .int .u64 (ue : Nat), .slice a sl c] → (results Try.f35 tm).run Try.prog z = .ok (.agg #[.int .u64 (ul : Nat), .int .u64 (ue : Nat), .slice a sl c]) z) := Lib.hid (fun z ul ue a sl c tm h6 hw => by
    have c0 := hw.cell 0
    have c1 := hw.cell 1
    have c2 := hw.cell 2
    simp at c0 c1 c2
    have h6' : tm[6]?.getD undef = .pointer (some ⟨g + 1, 0, none⟩) := by simpa using h6
    simp [results, Try.results35, go_sem, c0, c1, c2, h6'])
  have HG := Lib.hid hg; clear hg
  have r0 : ∀ z, Frm [] w1 z → z.cell? ⟨g, 0, none⟩ = some (.int .u64 (ml : Nat)) := fun z hz => (hz.whole B0.out (by simp)).cell 0
  have r1 : ∀ z, Frm [] w1 z → z.cell? ⟨g, 1, none⟩ = some (.int .u64 (me : Nat)) := fun z hz => (hz.whole B0.out (by simp)).cell 1
  have r2 : ∀ z, Frm [] w1 z → z.cell? ⟨g, 2, none⟩ = some (.slice a n cap) := fun z hz => (hz.whole B0.out (by simp)).cell 2
  have p0 := r0 _ (Frm.refl _ _)
  have p1 := r1 _ (Frm.refl _ _)
  have p2 := r2 _ (Frm.refl _ _)
  go_enter Try.func35, Try.ntmps35
  go_wp2_with fail
  rw [← HW1.out, ← HG.out]
  (with_reducible refine (FREE.out _ F1.out).mono ?_)
  rintro e w2 ⟨M, q, b, rfl, _, RE, ST, M64, hf2⟩
  have RE := Lib.hid RE
  have ST := Lib.hid ST
  have M64 := Lib.hid M64
  have F2 := Lib.hid hf2
  clear hf2 p0 p1 p2
  go_upto_region 2 with (fail)
  obtain ⟨W, hW⟩ : ∃ W, W = (w2.alloc (.cells #[.int .u64 (M.l : Nat), .int .u64 (M.e : Nat)] 25)).alloc (.cells #[.int .u64 (q.l : Nat), .int .u64 (q.e : Nat)] 25) := ⟨_, rfl⟩
  obtain ⟨y, hy⟩ : ∃ y, y = w2.heap.size := ⟨_, rfl⟩
  rw [← hW, ← hy]
  have FW : Hid (Frm [] w1 W) := Lib.hid (by rw [hW]; exact (F2.out.alloc _).alloc _)
  have BY : Hid (Whole W y 25 #[.int .u64 (M.l : Nat), .int .u64 (M.e : Nat)]) := Lib.hid (by rw [hW, hy]; exact (Whole.made _ _ _).alloc _)
  clear hW hy
  have SUB : Hid (∀ z, Frm [] W z → Frm [] w z) := Lib.hid (fun z hz => F1.out.trans (FW.out.trans hz (U := []) (by simp) (by simp)) (by simp) (by simp))
  have LX := Lib.hid (fun z (hz : Frm [] W z) => LEFT.out z M (SUB.out z hz) (Nat.lt_of_lt_of_le B1.out.lt (FW.out.trans hz (U := []) (by simp) (by simp)).size) M64.out)
  have B1W : Hid (Whole W (g + 1) 28 #[.int .u64 0, .int .u64 0, .slice none 0 0]) := Lib.hid (FW.out.whole B1.out (by simp))
  have s2 : ∀ z, Frm [] W z → z.cell? ⟨g, 2, none⟩ = some (.slice a n cap) := fun z hz => r2 z (FW.out.trans hz (by simp) (by simp))
  obtain ⟨Ml, Me⟩ := M
  simp only at LX BY M64 ⊢
  have s3 : ∀ z, Frm [] W z → z.cell? ⟨y, 0, none⟩ = some (.int .u64 (Ml : Nat)) := fun z hz => (hz.whole BY.out (by simp)).cell 0
  have s4 : ∀ z, Frm [] W z → z.cell? ⟨y, 1, none⟩ = some (.int .u64 (Me : Nat)) := fun z hz => (hz.whole BY.out (by simp)).cell 1
  have FIN : Hid (∀ z Z az zn cz, Frm [] W z → Hid (zn = Z.length) → Hid (hels Z = leftH ⟨Ml, Me⟩ (hels Y)) → Hid (HxL z ((g + 1) :: F) az Z ∧ CapOk az Z.length cz) → Whole (((z.setCell ⟨g + 1, 0, none⟩ (.int .u64 (Ml : Nat))).setCell ⟨g + 1, 1, none⟩ (.int .u64 (Me : Nat))).setCell ⟨g + 1, 2, none⟩ (.slice az zn cz)) (g + 1) 28 #[.int .u64 (Ml : Nat), .int .u64 (Me : Nat), .slice az zn cz] ∧ Q (.returned (.agg #[.int .u64 (Ml : Nat), .int .u64 (Me : Nat), .slice az zn cz])) (((z.setCell ⟨g + 1, 0, none⟩ (.int .u64 (Ml : Nat))).setCell ⟨g + 1, 1, none⟩ (.int .u64 (Me : Nat))).setCell ⟨g + 1, 2, none⟩ (.slice az zn cz))) := Lib.hid (fun z Z az zn cz hz h1 h2 h3 => by
    have hw := hz.whole B1W.out (by simp)
    have hgs := GS.out
    have f3 : Frm [g + 1] z (((z.setCell ⟨g + 1, 0, none⟩ (.int .u64 (Ml : Nat))).setCell ⟨g + 1, 1, none⟩ (.int .u64 (Me : Nat))).setCell ⟨g + 1, 2, none⟩ (.slice az zn cz)) := (((Frm.refl _ _).setCell (.inl (by simp)) _).setCell (.inl (by simp)) _).setCell (.inl (by simp)) _
    refine ⟨?_, ?_⟩
    · have := ((hw.put 0 (.int .u64 (Ml : Nat))).put 1 (.int .u64 (Me : Nat))).put 2 (.slice az zn cz)
      simpa using this
    · rw [HQ.out]
      exact ⟨⟨Ml, Me⟩, Z, az, zn, cz, rfl, h1, ⟨RE.out, ST.out, M64.out⟩, h2, ⟨h3.out.1.keep f3 (fun x hx => .inl (by simp at hx; simp [hx])) (fun x hx => .inl (by simp [hx])), h3.out.2⟩, (SUB.out z hz).trans f3 (by simp) (fun x hx => .inr (by simp at hx; omega))⟩)
  clear r0 r1 r2 LEFT FREE
  refine wp_region_tail (S := fun w' => Frm [] W w') (tl := (fun j => decide (6 ≤ j))) (by kernel_rfl) (Frm.drew (Frm.refl _ _)) (fun hHeld => ?_)
  refine tail_take (i := 0) (oi := ⟨some 21, _, _, _, _, _⟩) (v := ?_) rfl (by kernel_rfl) (by kernel_rfl) (by kernel_rfl) (by kernel_rfl) (by kernel_rfl) (fun _ _ _ h => h) (Or.inl ⟨by rfl, ?_⟩) (by assumption) ?_
  rotate_left 1
  · (intro w hSw; (try dsimp only at hSw); go_simp; all_goals with_reducible rfl)
  try simp only [Act.put, List.setIfInBounds_toArray, List.set_cons_zero, List.set_cons_succ]
  refine tail_take (i := 1) (oi := ⟨some 22, _, _, _, _, _⟩) (v := ?_) rfl (by kernel_rfl) (by kernel_rfl) (by kernel_rfl) (by kernel_rfl) (by kernel_rfl) (fun _ _ _ h => h) (Or.inl ⟨by rfl, ?_⟩) (by assumption) ?_
  rotate_left 1
  · (intro w hSw; (try dsimp only at hSw); go_simp; all_goals with_reducible rfl)
  try simp only [Act.put, List.setIfInBounds_toArray, List.set_cons_zero, List.set_cons_succ]
  refine tail_take (i := 2) (oi := ⟨some 23, _, _, _, _, _⟩) (v := ?_) rfl (by kernel_rfl) (by kernel_rfl) (by kernel_rfl) (by kernel_rfl) (by kernel_rfl) (fun _ _ _ h => h) (Or.inl ⟨by rfl, ?_⟩) (by assumption) ?_
  rotate_left 1
  · (intro w hSw; (try dsimp only at hSw); go_simp; all_goals with_reducible rfl)
  try simp only [Act.put, List.setIfInBounds_toArray, List.set_cons_zero, List.set_cons_succ]
  refine tail_take (i := 3) (oi := ⟨some 24, _, _, _, _, _⟩) (v := ?_) rfl (by kernel_rfl) (by kernel_rfl) (by kernel_rfl) (by kernel_rfl) (by kernel_rfl) (fun _ _ _ h => h) (Or.inl ⟨by rfl, ?_⟩) (by assumption) ?_
  rotate_left 1
  · (intro w hSw; (try dsimp only at hSw); go_simp; all_goals with_reducible rfl)
  try simp only [Act.put, List.setIfInBounds_toArray, List.set_cons_zero, List.set_cons_succ]
  refine tail_one (i := 4) (o := ⟨some 25, _, _, _, _, _⟩) (by kernel_rfl) rfl (fun K hK => ?_)
  go_simp
  ((with_reducible refine (LX.out _ (by repeat (first | assumption | apply Frm.drew | exact Frm.refl _ _))).mono ?_); rintro e w5 ⟨Z, az, zn, cz, rfl, h1, h2, h3, hf5⟩; have hHeld5 : Frm [] W w5 := Frm.trans (by repeat (first | assumption | apply Frm.drew | exact Frm.refl _ _)) hf5.out (by simp) (by simp); have b5 := hHeld5.whole B1W.out (by simp); have q0 := b5.cell 0; have q1 := b5.cell 1; have q2 := b5.cell 2; have k0 := b5.free 0; have k1 := b5.free 1; have k2 := b5.free 2; simp only [List.getElem?_toArray, List.getElem?_cons_zero, List.getElem?_cons_succ] at q0 q1 q2; clear b5)
  go_wp2_with fail
  refine hK.out _ _ (fun _ => by assumption) (fun _ => ?_)
  clear hK K
  try simp only [Act.put, List.setIfInBounds_toArray, List.set_cons_zero, List.set_cons_succ]
  refine tail_take (i := 5) (oi := ⟨some 26, _, _, _, _, _⟩) (v := ?_) rfl (by kernel_rfl) (by kernel_rfl) (by kernel_rfl) (by kernel_rfl) (by kernel_rfl) (fun _ _ _ h => h) (Or.inl ⟨by rfl, ?_⟩) (by assumption) ?_
  rotate_left 1
  · (intro w hSw; (try dsimp only at hSw); go_simp; all_goals with_reducible rfl)
  try simp only [Act.put, List.setIfInBounds_toArray, List.set_cons_zero, List.set_cons_succ]
  refine tail_one (i := 6) (o := ⟨none, _, _, _, _, _⟩) (by kernel_rfl) rfl (fun K hK => ?_)
  go_simp
  refine hK.out _ _ (fun h => absurd h (by decide)) (fun _ => ?_)
  clear hK K
  try simp only [Act.put, List.setIfInBounds_toArray, List.set_cons_zero, List.set_cons_succ]
  refine tail_done (by kernel_rfl) ?_ _
  obtain ⟨FA, FB⟩ := FIN.out _ _ _ _ _ hHeld5 h1 h2 h3
  have FA := Lib.hid FA
  have FB := Lib.hid FB
  clear s2 s3 s4 q0 q1 q2 k0 k1 k2
  go_wp2
  refine bodyPost_ret (V0.out _ Ml Me az zn cz _ rfl FA.out) rfl ?_
  exact FB.out
end Go.Proofs.Ytghadpihmhaepaa
