/- The walk of LedgersPlaces. -/
import Derived.Test.YtimmoencmmpkdaaLdwBetween
import Derived.Test.YtimmoencmmpkdaaLdMade
import Derived.Test.YtimmoencmmpkdaaLdRefN
import Derived.Test.YtimmoencmmpkdaaLdRefT
import Derived.Test.YtimmoencmmpkdaaTail
import Derived.Deep.DeepCutAuto
namespace Go.Proofs.Ytimmoencmmpkdaa
open Go.RowKit
set_option maxRecDepth 100000

theorem tot_few {X : List Ld} {o : Nat} (h : ∀ x ∈ X, x.n ≤ 5) (ho : o ≤ 5) : tot X o ≤ X.length * 5 := by
  induction X with
  | nil => exact Nat.le_refl _
  | cons x X ih =>
    have h1 := ih (fun y hy => h y (by simp [hy]))
    have h2 := h x (by simp)
    have h3 : x.size o ≤ 5 := by unfold Ld.size; split <;> omega
    show x.size o + tot X o ≤ (X.length + 1) * 5
    omega
set_option maxHeartbeats 16000000 in
theorem ledgersPlaces_walk (ac : Option Addr) (n capc : Nat) (cs : List Nat) (op : Bool) (ob : Nat) (p q : Ps) (raw : Bool) (w : World) (hn : n = cs.length) (hb : Bytes w ac cs) (_hc1 : n ≤ capc) (_hc2 : ac = none → capc = 0) (_hob : ob < 256) (hp : p.fits) (_hq : q.fits) :
    Calls Try.prog 4 #[.slice ac n capc, .bool op, .int .u8 (ob : Nat), p.val, q.val, .bool raw] w (LTrue w) := by
  obtain ⟨w1, hw1⟩ : ∃ w1, w1 = (w.alloc (.cells #[.int .u64 (p.l : Nat), .int .u64 (p.e : Nat)] 36)).alloc (.cells #[.int .u64 (q.l : Nat), .int .u64 (q.e : Nat)] 36) := ⟨_, rfl⟩
  have F1 : Hid (Frm [] w w1) := Lib.hid (by rw [hw1]; exact ((Frm.refl _ _).alloc _).alloc _)
  obtain ⟨g, hg⟩ : ∃ g, g = w.heap.size := ⟨_, rfl⟩
  have B1 : Hid (Whole w1 g 36 #[.int .u64 (p.l : Nat), .int .u64 (p.e : Nat)]) := Lib.hid (by rw [hw1, hg]; exact (Whole.made _ _ _).alloc _)
  have B2 : Hid (Whole w1 (g + 1) 36 #[.int .u64 (q.l : Nat), .int .u64 (q.e : Nat)]) := Lib.hid (by
    rw [hw1, hg]
    have := Whole.made (w.alloc (.cells #[.int .u64 (p.l : Nat), .int .u64 (p.e : Nat)] 36)) 36 #[.int .u64 (q.l : Nat), .int .u64 (q.e : Nat)]
    rwa [World.size_alloc] at this)
  have GS : Hid (w.heap.size ≤ g) := Lib.hid (by omega)
  have AW := Lib.hid (fun z => awake13_any z)
  have MD := Lib.hid (fun z (hz : Frm [] w z) => made_any ac n capc cs op z hn (hz.bytes hb (by simp)))
  have PP := Lib.hid (fun z => place_any p raw z)
  have PQ := Lib.hid (fun z => place_any q raw z)
  have PF := Lib.hid (placeP_fits p raw hp)
  obtain ⟨p', hp'⟩ : ∃ p', p' = placeP p raw := ⟨_, rfl⟩
  obtain ⟨q', hq'⟩ : ∃ q', q' = placeP q raw := ⟨_, rfl⟩
  rw [← hp'] at PP PF
  rw [← hq'] at PQ
  clear hn hb _hc1 _hc2 hp _hq hp' hq'
  obtain ⟨o, ho⟩ : ∃ o, o = ob % 6 := ⟨_, rfl⟩
  have ho1 : (ob : Int) % 6 = (o : Int) := by omega
  have ho2 : (ob : Int).tmod 6 = (o : Int) := by rw [ho]; rfl
  have ho3 : IntKind.u8.wrap (o : Int) = (o : Int) := by simp [IntKind.wrap, IntKind.bits, IntKind.signed]; omega
  have ho4 : IntKind.u64.wrap (o : Int) = (o : Int) := by simp [IntKind.wrap, IntKind.bits, IntKind.signed]; omega
  have O5 : Hid (o ≤ 5) := Lib.hid (by omega)
  clear ho
  obtain ⟨pl, pe⟩ := p
  obtain ⟨ql, qe⟩ := q
  obtain ⟨ppl, ppe⟩ := p'
  obtain ⟨qql, qqe⟩ := q'
  unfold LRet at AW
  unfold LRet Ps.val at PP PQ
  unfold Ps.val
  simp only at hw1 B1 B2 PP PQ ⊢
  have HW1 := Lib.hid hw1; clear hw1
  go_enter Try.func4, Try.ntmps4
  go_wp2_with fail
  rw [← HW1.out, ← hg]
  have HG := Lib.hid hg; clear hg
  (with_reducible refine (AW.out _).mono ?_)
  rintro e w2 ⟨rfl, hf2⟩
  have F2 : Hid (Frm [] w1 w2) := Lib.hid hf2
  clear hf2 AW
  go_wp2_with fail
  (with_reducible refine (MD.out _ (F1.out.trans F2.out (by simp) (by simp))).mono ?_)
  rintro e w5 ⟨a, k, cap, X, rfl, hk, hk13, hfew, ho, hf5⟩
  have F5 : Hid (Frm [] w1 w5) := Lib.hid (F2.out.trans hf5 (by simp) (by simp))
  have TOT : Hid (tot X o ≤ 65) := Lib.hid (by have h1 := tot_few hfew O5.out; omega)
  have L5 : Hid (LdL w5 [g, g + 1] a X) := Lib.hid ⟨ho.sl.vals, ho.fits, fun _ y hy hm => by
    have h1 := (ho.blk_lt y.block (by rw [hy]; simp)).1
    have h2 := (F2.out.whole B2.out (by simp)).lt
    simp at hm
    omega⟩
  have CAPS := Lib.hid ho.caps
  have HK := Lib.hid hk
  have K13 := Lib.hid hk13
  clear hf5 ho hfew MD hk hk13
  have b1 := F5.out.whole B1.out (by simp)
  have b2 := F5.out.whole B2.out (by simp)
  have r0 : ∀ z, Frm [] w5 z → z.cell? ⟨g, 0, none⟩ = some (.int .u64 (pl : Nat)) := fun z hz => (hz.whole b1 (by simp)).cell 0
  have r1 : ∀ z, Frm [] w5 z → z.cell? ⟨g, 1, none⟩ = some (.int .u64 (pe : Nat)) := fun z hz => (hz.whole b1 (by simp)).cell 1
  have r2 : ∀ z, Frm [] w5 z → z.cell? ⟨g + 1, 0, none⟩ = some (.int .u64 (ql : Nat)) := fun z hz => (hz.whole b2 (by simp)).cell 0
  have r3 : ∀ z, Frm [] w5 z → z.cell? ⟨g + 1, 1, none⟩ = some (.int .u64 (qe : Nat)) := fun z hz => (hz.whole b2 (by simp)).cell 1
  have f0 : ∀ z, Frm [] w5 z → z.frozen? ⟨g, 0, none⟩ = false := fun z hz => (hz.whole b1 (by simp)).free 0
  have f1 : ∀ z, Frm [] w5 z → z.frozen? ⟨g, 1, none⟩ = false := fun z hz => (hz.whole b1 (by simp)).free 1
  have f2 : ∀ z, Frm [] w5 z → z.frozen? ⟨g + 1, 0, none⟩ = false := fun z hz => (hz.whole b2 (by simp)).free 0
  have f3 : ∀ z, Frm [] w5 z → z.frozen? ⟨g + 1, 1, none⟩ = false := fun z hz => (hz.whole b2 (by simp)).free 1
  have BB := Lib.hid (And.intro b1 b2)
  clear b1 b2
  go_upto_region 4 with (fail)
  refine wp_region_tail (S := fun w' => Frm [] w5 w') (tl := (fun j => j == 6 || j == 7)) (by kernel_rfl) (Frm.drew (Frm.refl _ _)) (fun hHeld => ?_)
  refine tail_take (i := 0) (oi := ⟨some 27, _, _, _, _, _⟩) (v := ?_) rfl (by kernel_rfl) (by kernel_rfl) (by kernel_rfl) (by kernel_rfl) (by kernel_rfl) (fun _ _ _ h => h) (Or.inl ⟨by rfl, ?_⟩) (by assumption) ?_
  rotate_left 1
  · (intro w hSw; (try dsimp only at hSw); go_simp; all_goals with_reducible rfl)
  try simp only [Act.put, List.setIfInBounds_toArray, List.set_cons_zero, List.set_cons_succ]
  refine tail_take (i := 1) (oi := ⟨some 28, _, _, _, _, _⟩) (v := ?_) rfl (by kernel_rfl) (by kernel_rfl) (by kernel_rfl) (by kernel_rfl) (by kernel_rfl) (fun _ _ _ h => h) (Or.inl ⟨by rfl, ?_⟩) (by assumption) ?_
  rotate_left 1
  · (intro w hSw; (try dsimp only at hSw); go_simp; all_goals with_reducible rfl)
  try simp only [Act.put, List.setIfInBounds_toArray, List.set_cons_zero, List.set_cons_succ]
  refine tail_take (i := 3) (oi := ⟨some 30, _, _, _, _, _⟩) (v := ?_) rfl (by kernel_rfl) (by kernel_rfl) (by kernel_rfl) (by kernel_rfl) (by kernel_rfl) (fun _ _ _ h => h) (Or.inl ⟨by rfl, ?_⟩) (by assumption) ?_
  rotate_left 1
  · (intro w hSw; (try dsimp only at hSw); go_simp; all_goals with_reducible rfl)
  try simp only [Act.put, List.setIfInBounds_toArray, List.set_cons_zero, List.set_cons_succ]
  refine tail_take (i := 4) (oi := ⟨some 31, _, _, _, _, _⟩) (v := ?_) rfl (by kernel_rfl) (by kernel_rfl) (by kernel_rfl) (by kernel_rfl) (by kernel_rfl) (fun _ _ _ h => h) (Or.inl ⟨by rfl, ?_⟩) (by assumption) ?_
  rotate_left 1
  · (intro w hSw; (try dsimp only at hSw); go_simp; all_goals with_reducible rfl)
  try simp only [Act.put, List.setIfInBounds_toArray, List.set_cons_zero, List.set_cons_succ]
  refine tail_one (i := 2) (o := ⟨some 29, _, _, _, _, _⟩) (by kernel_rfl) rfl (fun K hK => ?_)
  go_simp
  ((with_reducible refine (PP.out _).mono ?_); rintro e w6 ⟨rfl, hf6⟩; have S1 : Frm [] w5 w6 := Frm.trans (by repeat (first | assumption | apply Frm.drew | exact Frm.refl _ _)) hf6 (by simp) (by simp); clear hf6)
  go_wp2_with fail
  refine hK.out _ _ (fun _ => by assumption) (fun _ => ?_)
  clear hK K
  try simp only [Act.put, List.setIfInBounds_toArray, List.set_cons_zero, List.set_cons_succ]
  refine tail_one (i := 5) (o := ⟨some 32, _, _, _, _, _⟩) (by kernel_rfl) rfl (fun K hK => ?_)
  go_simp
  ((with_reducible refine (PQ.out _).mono ?_); rintro e w6b ⟨rfl, hf6⟩; have S2 : Frm [] w5 w6b := Frm.trans (by assumption) hf6 (by simp) (by simp); clear hf6)
  go_wp2_with fail
  refine hK.out _ _ (fun _ => by assumption) (fun _ => ?_)
  clear hK K
  try simp only [Act.put, List.setIfInBounds_toArray, List.set_cons_zero, List.set_cons_succ]
  refine tail_one (i := 6) (o := ⟨none, _, _, _, _, _⟩) (by kernel_rfl) rfl (fun K hK => ?_)
  go_simp
  refine hK.out _ _ (fun h => absurd h (by decide)) (fun _ => ?_)
  clear hK K
  try simp only [Act.put, List.setIfInBounds_toArray, List.set_cons_zero, List.set_cons_succ]
  refine tail_one (i := 7) (o := ⟨none, _, _, _, _, _⟩) (by kernel_rfl) rfl (fun K hK => ?_)
  go_simp
  refine hK.out _ _ (fun h => absurd h (by decide)) (fun _ => ?_)
  clear hK K
  try simp only [Act.put, List.setIfInBounds_toArray, List.set_cons_zero, List.set_cons_succ]
  refine tail_done (by kernel_rfl) ?_ _
  obtain ⟨w7, hw7⟩ : ∃ w7, w7 = (((w6b.setCell ⟨g, 0, none⟩ (.int .u64 (ppl : Nat))).setCell ⟨g, 1, none⟩ (.int .u64 (ppe : Nat))).setCell ⟨g + 1, 0, none⟩ (.int .u64 (qql : Nat))).setCell ⟨g + 1, 1, none⟩ (.int .u64 (qqe : Nat)) := ⟨_, rfl⟩
  rw [← hw7]
  have hw6 := S2.whole BB.out.1 (by simp)
  have hw6' := S2.whole BB.out.2 (by simp)
  have C1 : Hid (Whole w7 g 36 #[.int .u64 (ppl : Nat), .int .u64 (ppe : Nat)]) := Lib.hid (by
    rw [hw7]
    have := (((hw6.put 0 (.int .u64 (ppl : Nat))).put 1 (.int .u64 (ppe : Nat))).other (p := ⟨g + 1, 0, none⟩) (by simp) (.int .u64 (qql : Nat))).other (p := ⟨g + 1, 1, none⟩) (by simp) (.int .u64 (qqe : Nat))
    simpa using this)
  have C2 : Hid (Whole w7 (g + 1) 36 #[.int .u64 (qql : Nat), .int .u64 (qqe : Nat)]) := Lib.hid (by
    rw [hw7]
    have := (((hw6'.other (p := ⟨g, 0, none⟩) (by simp) (.int .u64 (ppl : Nat))).other (p := ⟨g, 1, none⟩) (by simp) (.int .u64 (ppe : Nat))).put 0 (.int .u64 (qql : Nat))).put 1 (.int .u64 (qqe : Nat))
    simpa using this)
  have F67 : Frm [g, g + 1] w6b w7 := by rw [hw7]; exact ((((Frm.refl _ _).setCell (.inl (by simp)) _).setCell (.inl (by simp)) _).setCell (.inl (by simp)) _).setCell (.inl (by simp)) _
  have FW7 : Hid (Frm [] w w7) := Lib.hid ((F1.out.trans (F5.out.trans S2 (U := []) (by simp) (by simp)) (U := []) (by simp) (by simp)).trans F67 (by simp) (fun x hx => .inr (by simp at hx; have := GS.out; omega)))
  have L7 : Hid (LdL w7 [] a X) := Lib.hid (((L5.out.keep S2 (F' := [g, g + 1]) (by simp) (fun x hx => .inl hx)).keep F67 (F' := []) (fun x hx => .inl hx) (by simp)))
  clear hw6 hw6' F67 S1 S2 r0 r1 r2 r3 f0 f1 f2 f3 BB L5 F5 F2 B1 B2 PP PQ F1 ho1 ho2 ho3 ho4 GS
  have HW7 := Lib.hid hw7
  clear hw7
  -- what the calls answer
  have NX := Lib.hid (fun z (hz : Frm [] w7 z) => ldnext_any a k cap X o ⟨ppl, ppe⟩ z (L7.out.sub hz) HK.out (by have := K13.out; omega))
  have RN := Lib.hid (fun z (hz : Frm [] w7 z) => rlnext_any a k cap X o ⟨ppl, ppe⟩ z (L7.out.sub hz) HK.out (by have := K13.out; omega) (by have := TOT.out; omega))
  have OP := Lib.hid (fun z => ldorder_any ⟨ppl, ppe⟩ ⟨qql, qqe⟩ z)
  have RO := Lib.hid (fun z => rlorder_any ⟨ppl, ppe⟩ ⟨qql, qqe⟩ z)
  have HS := Lib.hid (fun z (hz : Frm [] w7 z) => ldhas_any a k cap X o ⟨ppl, ppe⟩ z (L7.out.sub hz) HK.out (by have := K13.out; omega))
  have RH := Lib.hid (fun z (hz : Frm [] w7 z) => rlhas_any a k cap X o ⟨ppl, ppe⟩ z (L7.out.sub hz) HK.out (by have := K13.out; omega) (by have := TOT.out; omega))
  have BW := Lib.hid (fun z (hz : Frm [] w7 z) => ldbetween_any a k cap X o ⟨ppl, ppe⟩ ⟨qql, qqe⟩ z (L7.out.sub hz) HK.out (by have := K13.out; omega) (by have := TOT.out; omega))
  have RB := Lib.hid (fun z (hz : Frm [] w7 z) => rlbetween_any a k cap X o ⟨ppl, ppe⟩ ⟨qql, qqe⟩ z (L7.out.sub hz) HK.out (by have := K13.out; omega) (by have := TOT.out; omega))
  have BH := Lib.hid (fun z => ldbehind_any ⟨ppl, ppe⟩ PF.out z)
  have RBH := Lib.hid (fun z => rlbehind_any ⟨ppl, ppe⟩ PF.out z)
  have TR := Lib.hid (fun z (hz : Frm [] w7 z) => ldtrim_any a k cap X ⟨ppl, ppe⟩ z (L7.out.sub hz) HK.out (by rw [HK.out]; exact CAPS.out.1) (by have := K13.out; omega))
  have RT := Lib.hid (fun z (hz : Frm [] w7 z) => rltrim_any a k cap X ⟨ppl, ppe⟩ z (L7.out.sub hz) HK.out (by rw [HK.out]; exact CAPS.out.1) (by have := K13.out; omega))
  have TL : Hid ((trimL X ⟨ppl, ppe⟩).length ≤ 13) := Lib.hid (by rw [trimL_eq, List.length_drop]; have := K13.out; have := HK.out; omega)
  unfold nextR at NX RN
  generalize nextV X o ⟨ppl, ppe⟩ = v at NX RN
  generalize ordP ⟨ppl, ppe⟩ ⟨qql, qqe⟩ = c at OP RO
  generalize hasP X o ⟨ppl, ppe⟩ = hh at HS RH
  generalize btw X o ⟨ppl, ppe⟩ ⟨qql, qqe⟩ = B at BW RB
  generalize behindP ⟨ppl, ppe⟩ = bq at BH RBH
  generalize trimL X ⟨ppl, ppe⟩ = T at TR RT TL
  obtain ⟨⟨El, Ee⟩, b⟩ := v
  obtain ⟨bl, be⟩ := bq
  have SM : Hid (∀ z a1 c1 a2 c2, LdL z [] a1 T → LdL z [] a2 T → Calls Try.prog 15 #[.slice a1 T.length c1, .slice a2 T.length c2] z fun e w' => e = .returned (.bool true) ∧ Frm [] z w') := Lib.hid (fun z a1 c1 a2 c2 h1 h2 => (rlsame_any a1 a2 _ c1 _ c2 T T z h1 h2 rfl rfl (by have := TL.out; omega) (by have := TL.out; omega)).mono fun e w' hh => hh.yes rfl)
  obtain ⟨tl, htl⟩ : ∃ tl, tl = T.length := ⟨_, rfl⟩
  rw [← htl] at SM
  have HTL := Lib.hid htl
  clear htl TL K13 TOT CAPS PF O5
  unfold LRet Ps.val at NX RN BH RBH
  unfold LRet at OP RO HS RH BW RB
  unfold Ps.val at OP RO HS RH BW RB TR RT
  simp only at NX RN BH RBH OP RO HS RH BW RB TR RT
  have p0 := C1.out.cell 0
  have p1 := C1.out.cell 1
  simp only [List.getElem?_toArray, List.getElem?_cons_zero, List.getElem?_cons_succ] at p0 p1
  go_wp2_with fail
  (with_reducible refine (NX.out _ (Frm.refl _ _)).mono ?_)
  rintro e w8 ⟨rfl, hf8⟩
  obtain ⟨w9, hw9⟩ : ∃ w9, w9 = w8.alloc (.cells #[.int .u64 (El : Nat), .int .u64 (Ee : Nat)] 36) := ⟨_, rfl⟩
  obtain ⟨g9, hg9⟩ : ∃ g9, g9 = w8.heap.size := ⟨_, rfl⟩
  have F9 : Hid (Frm [] w7 w9) := Lib.hid (by rw [hw9]; exact hf8.alloc _)
  have D9 : Hid (Whole w9 g9 36 #[.int .u64 (El : Nat), .int .u64 (Ee : Nat)]) := Lib.hid (by rw [hw9, hg9]; exact Whole.made _ _ _)
  have HW9 := Lib.hid hw9; clear hw9
  have HG9 := Lib.hid hg9; clear hg9 hf8 p0 p1
  have p0 := (F9.out.whole C1.out (by simp)).cell 0
  have p1 := (F9.out.whole C1.out (by simp)).cell 1
  simp only [List.getElem?_toArray, List.getElem?_cons_zero, List.getElem?_cons_succ] at p0 p1
  go_upto_region 6 with (fail)
  rw [← HW9.out, ← HG9.out]
  go_wp2_with fail
  (with_reducible refine (RN.out _ F9.out).mono ?_)
  rintro e w10 ⟨rfl, hf10⟩
  obtain ⟨w11, hw11⟩ : ∃ w11, w11 = w10.alloc (.cells #[.int .u64 (El : Nat), .int .u64 (Ee : Nat)] 36) := ⟨_, rfl⟩
  obtain ⟨g11, hg11⟩ : ∃ g11, g11 = w10.heap.size := ⟨_, rfl⟩
  have F11 : Hid (Frm [] w9 w11) := Lib.hid (by rw [hw11]; exact hf10.alloc _)
  have D11 : Hid (Whole w11 g11 36 #[.int .u64 (El : Nat), .int .u64 (Ee : Nat)]) := Lib.hid (by rw [hw11, hg11]; exact Whole.made _ _ _)
  have HW11 := Lib.hid hw11; clear hw11
  have HG11 := Lib.hid hg11; clear hg11 hf10 p0 p1
  have F7 : Hid (∀ z, Frm [] w11 z → Frm [] w7 z) := Lib.hid (fun z hz => F9.out.trans (F11.out.trans hz (U := []) (by simp) (by simp)) (by simp) (by simp))
  have d9 := F11.out.whole D9.out (by simp)
  have d1 := (F9.out.trans F11.out (U := []) (by simp) (by simp)).whole C1.out (by simp)
  have d2 := (F9.out.trans F11.out (U := []) (by simp) (by simp)).whole C2.out (by simp)
  have y0 : ∀ z, Frm [] w11 z → z.cell? ⟨g, 0, none⟩ = some (.int .u64 (ppl : Nat)) := fun z hz => (hz.whole d1 (by simp)).cell 0
  have y1 : ∀ z, Frm [] w11 z → z.cell? ⟨g, 1, none⟩ = some (.int .u64 (ppe : Nat)) := fun z hz => (hz.whole d1 (by simp)).cell 1
  have y2 : ∀ z, Frm [] w11 z → z.cell? ⟨g + 1, 0, none⟩ = some (.int .u64 (qql : Nat)) := fun z hz => (hz.whole d2 (by simp)).cell 0
  have y3 : ∀ z, Frm [] w11 z → z.cell? ⟨g + 1, 1, none⟩ = some (.int .u64 (qqe : Nat)) := fun z hz => (hz.whole d2 (by simp)).cell 1
  have y4 : ∀ z, Frm [] w11 z → z.cell? ⟨g9, 0, none⟩ = some (.int .u64 (El : Nat)) := fun z hz => (hz.whole d9 (by simp)).cell 0
  have y5 : ∀ z, Frm [] w11 z → z.cell? ⟨g9, 1, none⟩ = some (.int .u64 (Ee : Nat)) := fun z hz => (hz.whole d9 (by simp)).cell 1
  have y6 : ∀ z, Frm [] w11 z → z.cell? ⟨g11, 0, none⟩ = some (.int .u64 (El : Nat)) := fun z hz => (hz.whole D11.out (by simp)).cell 0
  have y7 : ∀ z, Frm [] w11 z → z.cell? ⟨g11, 1, none⟩ = some (.int .u64 (Ee : Nat)) := fun z hz => (hz.whole D11.out (by simp)).cell 1
  have ee1 : ∀ w : World, (binOp .eql 36 (.agg #[.int .u64 (El : Nat), .int .u64 (Ee : Nat)]) (.agg #[.int .u64 (El : Nat), .int .u64 (Ee : Nat)])).run Try.prog w = .ok (.bool true) w := fun w => by
    have h1 := eql_ps El Ee El Ee w
    rwa [decide_eq_true rfl] at h1
  have ee2 : ∀ w : World, (binOp .eql 36 (.agg #[.int .u64 (bl : Nat), .int .u64 (be : Nat)]) (.agg #[.int .u64 (bl : Nat), .int .u64 (be : Nat)])).run Try.prog w = .ok (.bool true) w := fun w => by
    have h1 := eql_ps bl be bl be w
    rwa [decide_eq_true rfl] at h1
  have hbb : (b == b) = true := beq_self_eq_true _
  have hhh : (hh == hh) = true := beq_self_eq_true _
  have hcc : (c == c) = true := beq_self_eq_true _
  have hBB : ((B : Int) == (B : Int)) = true := beq_self_eq_true _
  clear d9 d1 d2
  go_upto_region 7 with (fail)
  rw [← HW11.out, ← HG11.out]
  refine wp_region_held_drew (S := fun w' => Frm [] w11 w') (by kernel_rfl) (Frm.drew (Frm.refl _ _)) (fun hHeld => ?_)
  refine wpAnyH_take (i := 0) (oi := ⟨some 47, _, _, _, _, _⟩) (v := ?_) rfl (by kernel_rfl) (by kernel_rfl) (by kernel_rfl) (fun _ _ _ h => h) (Or.inl ⟨by rfl, ?_⟩) (by assumption) ?_
  rotate_left 1
  · (intro w hSw; (try dsimp only at hSw); go_simp; all_goals with_reducible rfl)
  try simp only [Act.put, List.setIfInBounds_toArray, List.set_cons_zero, List.set_cons_succ]
  refine wpAnyH_take (i := 1) (oi := ⟨some 48, _, _, _, _, _⟩) (v := ?_) rfl (by kernel_rfl) (by kernel_rfl) (by kernel_rfl) (fun _ _ _ h => h) (Or.inl ⟨by rfl, ?_⟩) (by assumption) ?_
  rotate_left 1
  · (intro w hSw; (try dsimp only at hSw); go_simp; all_goals with_reducible rfl)
  try simp only [Act.put, List.setIfInBounds_toArray, List.set_cons_zero, List.set_cons_succ]
  refine wpAnyH_take (i := 2) (oi := ⟨some 49, _, _, _, _, _⟩) (v := ?_) rfl (by kernel_rfl) (by kernel_rfl) (by kernel_rfl) (fun _ _ _ h => h) (Or.inl ⟨by rfl, ?_⟩) (by assumption) ?_
  rotate_left 1
  · (intro w hSw; (try dsimp only at hSw); go_simp; all_goals with_reducible rfl)
  try simp only [Act.put, List.setIfInBounds_toArray, List.set_cons_zero, List.set_cons_succ]
  refine wpAnyH_take (i := 3) (oi := ⟨some 50, _, _, _, _, _⟩) (v := ?_) rfl (by kernel_rfl) (by kernel_rfl) (by kernel_rfl) (fun _ _ _ h => h) (Or.inl ⟨by rfl, ?_⟩) (by assumption) ?_
  rotate_left 1
  · (intro w hSw; (try dsimp only at hSw); go_simp; all_goals with_reducible rfl)
  try simp only [Act.put, List.setIfInBounds_toArray, List.set_cons_zero, List.set_cons_succ]
  refine wpAnyH_take (i := 4) (oi := ⟨some 51, _, _, _, _, _⟩) (v := ?_) rfl (by kernel_rfl) (by kernel_rfl) (by kernel_rfl) (fun _ _ _ h => h) (Or.inl ⟨by rfl, ?_⟩) (by assumption) ?_
  rotate_left 1
  · (intro w hSw; (try dsimp only at hSw); go_simp; all_goals with_reducible rfl)
  try simp only [Act.put, List.setIfInBounds_toArray, List.set_cons_zero, List.set_cons_succ]
  refine wpAnyH_take (i := 5) (oi := ⟨some 52, _, _, _, _, _⟩) (v := ?_) rfl (by kernel_rfl) (by kernel_rfl) (by kernel_rfl) (fun _ _ _ h => h) (Or.inl ⟨by rfl, ?_⟩) (by assumption) ?_
  rotate_left 1
  · (intro w hSw; (try dsimp only at hSw); go_simp; all_goals with_reducible rfl)
  try simp only [Act.put, List.setIfInBounds_toArray, List.set_cons_zero, List.set_cons_succ]
  refine wpAnyH_take (i := 6) (oi := ⟨some 53, _, _, _, _, _⟩) (v := ?_) rfl (by kernel_rfl) (by kernel_rfl) (by kernel_rfl) (fun _ _ _ h => h) (Or.inl ⟨by rfl, ?_⟩) (by assumption) ?_
  rotate_left 1
  · (intro w hSw; (try dsimp only at hSw); go_simp; all_goals with_reducible rfl)
  try simp only [Act.put, List.setIfInBounds_toArray, List.set_cons_zero, List.set_cons_succ]
  refine wpAnyH_take (i := 7) (oi := ⟨some 54, _, _, _, _, _⟩) (v := ?_) rfl (by kernel_rfl) (by kernel_rfl) (by kernel_rfl) (fun _ _ _ h => h) (Or.inl ⟨by rfl, ?_⟩) (by assumption) ?_
  rotate_left 1
  · (intro w hSw; (try dsimp only at hSw); go_simp; all_goals with_reducible rfl)
  try simp only [Act.put, List.setIfInBounds_toArray, List.set_cons_zero, List.set_cons_succ]
  refine wpAnyH_take (i := 8) (oi := ⟨some 55, _, _, _, _, _⟩) (v := ?_) rfl (by kernel_rfl) (by kernel_rfl) (by kernel_rfl) (fun _ _ _ h => h) (Or.inl ⟨by rfl, ?_⟩) (by assumption) ?_
  rotate_left 1
  · (intro w hSw; (try dsimp only at hSw); go_simp; all_goals with_reducible rfl)
  try simp only [Act.put, List.setIfInBounds_toArray, List.set_cons_zero, List.set_cons_succ]
  refine wpAnyH_take (i := 9) (oi := ⟨some 56, _, _, _, _, _⟩) (v := ?_) rfl (by kernel_rfl) (by kernel_rfl) (by kernel_rfl) (fun _ _ _ h => h) (Or.inl ⟨by rfl, ?_⟩) (by assumption) ?_
  rotate_left 1
  · (intro w hSw; (try dsimp only at hSw); go_simp; all_goals with_reducible rfl)
  try simp only [Act.put, List.setIfInBounds_toArray, List.set_cons_zero, List.set_cons_succ]
  refine wpAnyH_take (i := 10) (oi := ⟨some 57, _, _, _, _, _⟩) (v := ?_) rfl (by kernel_rfl) (by kernel_rfl) (by kernel_rfl) (fun _ _ _ h => h) (Or.inl ⟨by rfl, ?_⟩) (by assumption) ?_
  rotate_left 1
  · (intro w hSw; (try dsimp only at hSw); go_simp; all_goals with_reducible rfl)
  try simp only [Act.put, List.setIfInBounds_toArray, List.set_cons_zero, List.set_cons_succ]
  refine wpAnyH_take (i := 12) (oi := ⟨some 59, _, _, _, _, _⟩) (v := ?_) rfl (by kernel_rfl) (by kernel_rfl) (by kernel_rfl) (fun _ _ _ h => h) (Or.inl ⟨by rfl, ?_⟩) (by assumption) ?_
  rotate_left 1
  · (intro w hSw; (try dsimp only at hSw); go_simp; all_goals with_reducible rfl)
  try simp only [Act.put, List.setIfInBounds_toArray, List.set_cons_zero, List.set_cons_succ]
  refine wpAnyH_take (i := 13) (oi := ⟨some 60, _, _, _, _, _⟩) (v := ?_) rfl (by kernel_rfl) (by kernel_rfl) (by kernel_rfl) (fun _ _ _ h => h) (Or.inl ⟨by rfl, ?_⟩) (by assumption) ?_
  rotate_left 1
  · (intro w hSw; (try dsimp only at hSw); go_simp; all_goals with_reducible rfl)
  try simp only [Act.put, List.setIfInBounds_toArray, List.set_cons_zero, List.set_cons_succ]
  refine wpAnyH_ready (rs := [11]) (by kernel_rfl) (by simp) ?_
  refine AllReadyH.cons (o := ⟨some 58, _, _, _, _, _⟩) rfl (fun K hK => ?_) AllReadyH.nil
  go_simp
  go_at_call 19; (with_reducible refine (OP.out _).mono ?_); rintro e v1 ⟨rfl, hv1⟩; have hHeld1 : Frm [] w11 v1 := hHeld.trans hv1 (by simp) (by simp)
  go_wp2_with fail
  refine hK.out _ _ (by assumption) (fun hHeld => ?_)
  clear hK K
  try simp only [Act.put, List.setIfInBounds_toArray, List.set_cons_zero, List.set_cons_succ]
  refine wpAnyH_ready (rs := [14]) (by kernel_rfl) (by simp) ?_
  refine AllReadyH.cons (o := ⟨some 61, _, _, _, _, _⟩) rfl (fun K hK => ?_) AllReadyH.nil
  go_simp
  go_at_call 20; (with_reducible refine (RO.out _).mono ?_); rintro e v2 ⟨rfl, hv2⟩; have hHeld2 : Frm [] w11 v2 := hHeld.trans hv2 (by simp) (by simp)
  go_wp2_with fail
  refine hK.out _ _ (by assumption) (fun hHeld => ?_)
  clear hK K
  try simp only [Act.put, List.setIfInBounds_toArray, List.set_cons_zero, List.set_cons_succ]
  refine wpAnyH_take (i := 15) (oi := ⟨some 62, _, _, _, _, _⟩) (v := ?_) rfl (by kernel_rfl) (by kernel_rfl) (by kernel_rfl) (fun _ _ _ h => h) (Or.inl ⟨by rfl, ?_⟩) (by assumption) ?_
  rotate_left 1
  · (intro w hSw; (try dsimp only at hSw); go_simp; all_goals with_reducible rfl)
  try simp only [Act.put, List.setIfInBounds_toArray, List.set_cons_zero, List.set_cons_succ]
  refine wpAnyH_take (i := 16) (oi := ⟨some 63, _, _, _, _, _⟩) (v := ?_) rfl (by kernel_rfl) (by kernel_rfl) (by kernel_rfl) (fun _ _ _ h => h) (Or.inl ⟨by rfl, ?_⟩) (by assumption) ?_
  rotate_left 1
  · (intro w hSw; (try dsimp only at hSw); go_simp; all_goals with_reducible rfl)
  try simp only [Act.put, List.setIfInBounds_toArray, List.set_cons_zero, List.set_cons_succ]
  refine wpAnyH_take (i := 17) (oi := ⟨some 64, _, _, _, _, _⟩) (v := ?_) rfl (by kernel_rfl) (by kernel_rfl) (by kernel_rfl) (fun _ _ _ h => h) (Or.inl ⟨by rfl, ?_⟩) (by assumption) ?_
  rotate_left 1
  · (intro w hSw; (try dsimp only at hSw); go_simp; all_goals with_reducible rfl)
  try simp only [Act.put, List.setIfInBounds_toArray, List.set_cons_zero, List.set_cons_succ]
  refine wpAnyH_take (i := 18) (oi := ⟨some 65, _, _, _, _, _⟩) (v := ?_) rfl (by kernel_rfl) (by kernel_rfl) (by kernel_rfl) (fun _ _ _ h => h) (Or.inl ⟨by rfl, ?_⟩) (by assumption) ?_
  rotate_left 1
  · (intro w hSw; (try dsimp only at hSw); go_simp; all_goals with_reducible rfl)
  try simp only [Act.put, List.setIfInBounds_toArray, List.set_cons_zero, List.set_cons_succ]
  refine wpAnyH_take (i := 19) (oi := ⟨some 66, _, _, _, _, _⟩) (v := ?_) rfl (by kernel_rfl) (by kernel_rfl) (by kernel_rfl) (fun _ _ _ h => h) (Or.inl ⟨by rfl, ?_⟩) (by assumption) ?_
  rotate_left 1
  · (intro w hSw; (try dsimp only at hSw); go_simp; all_goals with_reducible rfl)
  try simp only [Act.put, List.setIfInBounds_toArray, List.set_cons_zero, List.set_cons_succ]
  refine wpAnyH_take (i := 20) (oi := ⟨some 67, _, _, _, _, _⟩) (v := ?_) rfl (by kernel_rfl) (by kernel_rfl) (by kernel_rfl) (fun _ _ _ h => h) (Or.inl ⟨by rfl, ?_⟩) (by assumption) ?_
  rotate_left 1
  · (intro w hSw; (try dsimp only at hSw); go_simp; all_goals with_reducible rfl)
  try simp only [Act.put, List.setIfInBounds_toArray, List.set_cons_zero, List.set_cons_succ]
  refine wpAnyH_take (i := 22) (oi := ⟨some 69, _, _, _, _, _⟩) (v := ?_) rfl (by kernel_rfl) (by kernel_rfl) (by kernel_rfl) (fun _ _ _ h => h) (Or.inl ⟨by rfl, ?_⟩) (by assumption) ?_
  rotate_left 1
  · (intro w hSw; (try dsimp only at hSw); go_simp; all_goals with_reducible rfl)
  try simp only [Act.put, List.setIfInBounds_toArray, List.set_cons_zero, List.set_cons_succ]
  refine wpAnyH_take (i := 23) (oi := ⟨some 70, _, _, _, _, _⟩) (v := ?_) rfl (by kernel_rfl) (by kernel_rfl) (by kernel_rfl) (fun _ _ _ h => h) (Or.inl ⟨by rfl, ?_⟩) (by assumption) ?_
  rotate_left 1
  · (intro w hSw; (try dsimp only at hSw); go_simp; all_goals with_reducible rfl)
  try simp only [Act.put, List.setIfInBounds_toArray, List.set_cons_zero, List.set_cons_succ]
  refine wpAnyH_take (i := 24) (oi := ⟨some 71, _, _, _, _, _⟩) (v := ?_) rfl (by kernel_rfl) (by kernel_rfl) (by kernel_rfl) (fun _ _ _ h => h) (Or.inl ⟨by rfl, ?_⟩) (by assumption) ?_
  rotate_left 1
  · (intro w hSw; (try dsimp only at hSw); go_simp; all_goals with_reducible rfl)
  try simp only [Act.put, List.setIfInBounds_toArray, List.set_cons_zero, List.set_cons_succ]
  refine wpAnyH_ready (rs := [21]) (by kernel_rfl) (by simp) ?_
  refine AllReadyH.cons (o := ⟨some 68, _, _, _, _, _⟩) rfl (fun K hK => ?_) AllReadyH.nil
  go_simp
  go_at_call 21; (with_reducible refine (HS.out _ (F7.out _ hHeld)).mono ?_); rintro e v3 ⟨rfl, hv3⟩; have hHeld3 : Frm [] w11 v3 := hHeld.trans hv3 (by simp) (by simp)
  go_wp2_with fail
  refine hK.out _ _ (by assumption) (fun hHeld => ?_)
  clear hK K
  try simp only [Act.put, List.setIfInBounds_toArray, List.set_cons_zero, List.set_cons_succ]
  refine wpAnyH_ready (rs := [25]) (by kernel_rfl) (by simp) ?_
  refine AllReadyH.cons (o := ⟨some 72, _, _, _, _, _⟩) rfl (fun K hK => ?_) AllReadyH.nil
  go_simp
  go_at_call 22; (with_reducible refine (RH.out _ (F7.out _ hHeld)).mono ?_); rintro e v4 ⟨rfl, hv4⟩; have hHeld4 : Frm [] w11 v4 := hHeld.trans hv4 (by simp) (by simp)
  go_wp2_with fail
  refine hK.out _ _ (by assumption) (fun hHeld => ?_)
  clear hK K
  try simp only [Act.put, List.setIfInBounds_toArray, List.set_cons_zero, List.set_cons_succ]
  refine wpAnyH_take (i := 26) (oi := ⟨some 73, _, _, _, _, _⟩) (v := ?_) rfl (by kernel_rfl) (by kernel_rfl) (by kernel_rfl) (fun _ _ _ h => h) (Or.inl ⟨by rfl, ?_⟩) (by assumption) ?_
  rotate_left 1
  · (intro w hSw; (try dsimp only at hSw); go_simp; all_goals with_reducible rfl)
  try simp only [Act.put, List.setIfInBounds_toArray, List.set_cons_zero, List.set_cons_succ]
  refine wpAnyH_take (i := 27) (oi := ⟨some 74, _, _, _, _, _⟩) (v := ?_) rfl (by kernel_rfl) (by kernel_rfl) (by kernel_rfl) (fun _ _ _ h => h) (Or.inl ⟨by rfl, ?_⟩) (by assumption) ?_
  rotate_left 1
  · (intro w hSw; (try dsimp only at hSw); go_simp; all_goals with_reducible rfl)
  try simp only [Act.put, List.setIfInBounds_toArray, List.set_cons_zero, List.set_cons_succ]
  refine wpAnyH_take (i := 28) (oi := ⟨some 75, _, _, _, _, _⟩) (v := ?_) rfl (by kernel_rfl) (by kernel_rfl) (by kernel_rfl) (fun _ _ _ h => h) (Or.inl ⟨by rfl, ?_⟩) (by assumption) ?_
  rotate_left 1
  · (intro w hSw; (try dsimp only at hSw); go_simp; all_goals with_reducible rfl)
  try simp only [Act.put, List.setIfInBounds_toArray, List.set_cons_zero, List.set_cons_succ]
  refine wpAnyH_take (i := 29) (oi := ⟨some 76, _, _, _, _, _⟩) (v := ?_) rfl (by kernel_rfl) (by kernel_rfl) (by kernel_rfl) (fun _ _ _ h => h) (Or.inl ⟨by rfl, ?_⟩) (by assumption) ?_
  rotate_left 1
  · (intro w hSw; (try dsimp only at hSw); go_simp; all_goals with_reducible rfl)
  try simp only [Act.put, List.setIfInBounds_toArray, List.set_cons_zero, List.set_cons_succ]
  refine wpAnyH_take (i := 30) (oi := ⟨some 77, _, _, _, _, _⟩) (v := ?_) rfl (by kernel_rfl) (by kernel_rfl) (by kernel_rfl) (fun _ _ _ h => h) (Or.inl ⟨by rfl, ?_⟩) (by assumption) ?_
  rotate_left 1
  · (intro w hSw; (try dsimp only at hSw); go_simp; all_goals with_reducible rfl)
  try simp only [Act.put, List.setIfInBounds_toArray, List.set_cons_zero, List.set_cons_succ]
  refine wpAnyH_take (i := 31) (oi := ⟨some 78, _, _, _, _, _⟩) (v := ?_) rfl (by kernel_rfl) (by kernel_rfl) (by kernel_rfl) (fun _ _ _ h => h) (Or.inl ⟨by rfl, ?_⟩) (by assumption) ?_
  rotate_left 1
  · (intro w hSw; (try dsimp only at hSw); go_simp; all_goals with_reducible rfl)
  try simp only [Act.put, List.setIfInBounds_toArray, List.set_cons_zero, List.set_cons_succ]
  refine wpAnyH_take (i := 32) (oi := ⟨some 79, _, _, _, _, _⟩) (v := ?_) rfl (by kernel_rfl) (by kernel_rfl) (by kernel_rfl) (fun _ _ _ h => h) (Or.inl ⟨by rfl, ?_⟩) (by assumption) ?_
  rotate_left 1
  · (intro w hSw; (try dsimp only at hSw); go_simp; all_goals with_reducible rfl)
  try simp only [Act.put, List.setIfInBounds_toArray, List.set_cons_zero, List.set_cons_succ]
  refine wpAnyH_take (i := 34) (oi := ⟨some 81, _, _, _, _, _⟩) (v := ?_) rfl (by kernel_rfl) (by kernel_rfl) (by kernel_rfl) (fun _ _ _ h => h) (Or.inl ⟨by rfl, ?_⟩) (by assumption) ?_
  rotate_left 1
  · (intro w hSw; (try dsimp only at hSw); go_simp; all_goals with_reducible rfl)
  try simp only [Act.put, List.setIfInBounds_toArray, List.set_cons_zero, List.set_cons_succ]
  refine wpAnyH_take (i := 35) (oi := ⟨some 82, _, _, _, _, _⟩) (v := ?_) rfl (by kernel_rfl) (by kernel_rfl) (by kernel_rfl) (fun _ _ _ h => h) (Or.inl ⟨by rfl, ?_⟩) (by assumption) ?_
  rotate_left 1
  · (intro w hSw; (try dsimp only at hSw); go_simp; all_goals with_reducible rfl)
  try simp only [Act.put, List.setIfInBounds_toArray, List.set_cons_zero, List.set_cons_succ]
  refine wpAnyH_take (i := 36) (oi := ⟨some 83, _, _, _, _, _⟩) (v := ?_) rfl (by kernel_rfl) (by kernel_rfl) (by kernel_rfl) (fun _ _ _ h => h) (Or.inl ⟨by rfl, ?_⟩) (by assumption) ?_
  rotate_left 1
  · (intro w hSw; (try dsimp only at hSw); go_simp; all_goals with_reducible rfl)
  try simp only [Act.put, List.setIfInBounds_toArray, List.set_cons_zero, List.set_cons_succ]
  refine wpAnyH_take (i := 37) (oi := ⟨some 84, _, _, _, _, _⟩) (v := ?_) rfl (by kernel_rfl) (by kernel_rfl) (by kernel_rfl) (fun _ _ _ h => h) (Or.inl ⟨by rfl, ?_⟩) (by assumption) ?_
  rotate_left 1
  · (intro w hSw; (try dsimp only at hSw); go_simp; all_goals with_reducible rfl)
  try simp only [Act.put, List.setIfInBounds_toArray, List.set_cons_zero, List.set_cons_succ]
  refine wpAnyH_ready (rs := [33]) (by kernel_rfl) (by simp) ?_
  refine AllReadyH.cons (o := ⟨some 80, _, _, _, _, _⟩) rfl (fun K hK => ?_) AllReadyH.nil
  go_simp
  go_at_call 23; (with_reducible refine (BW.out _ (F7.out _ hHeld)).mono ?_); rintro e v5 ⟨rfl, hv5⟩; have hHeld5 : Frm [] w11 v5 := hHeld.trans hv5 (by simp) (by simp)
  go_wp2_with fail
  refine hK.out _ _ (by assumption) (fun hHeld => ?_)
  clear hK K
  try simp only [Act.put, List.setIfInBounds_toArray, List.set_cons_zero, List.set_cons_succ]
  refine wpAnyH_ready (rs := [38]) (by kernel_rfl) (by simp) ?_
  refine AllReadyH.cons (o := ⟨some 85, _, _, _, _, _⟩) rfl (fun K hK => ?_) AllReadyH.nil
  go_simp
  go_at_call 24; (with_reducible refine (RB.out _ (F7.out _ hHeld)).mono ?_); rintro e v6 ⟨rfl, hv6⟩; have hHeld6 : Frm [] w11 v6 := hHeld.trans hv6 (by simp) (by simp)
  go_wp2_with fail
  refine hK.out _ _ (by assumption) (fun hHeld => ?_)
  clear hK K
  try simp only [Act.put, List.setIfInBounds_toArray, List.set_cons_zero, List.set_cons_succ]
  refine wpAnyH_take (i := 39) (oi := ⟨some 86, _, _, _, _, _⟩) (v := ?_) rfl (by kernel_rfl) (by kernel_rfl) (by kernel_rfl) (fun _ _ _ h => h) (Or.inl ⟨by rfl, ?_⟩) (by assumption) ?_
  rotate_left 1
  · (intro w hSw; (try dsimp only at hSw); go_simp; all_goals with_reducible rfl)
  try simp only [Act.put, List.setIfInBounds_toArray, List.set_cons_zero, List.set_cons_succ]
  refine wpAnyH_take (i := 40) (oi := ⟨some 87, _, _, _, _, _⟩) (v := ?_) rfl (by kernel_rfl) (by kernel_rfl) (by kernel_rfl) (fun _ _ _ h => h) (Or.inl ⟨by rfl, ?_⟩) (by assumption) ?_
  rotate_left 1
  · (intro w hSw; (try dsimp only at hSw); go_simp; all_goals with_reducible rfl)
  try simp only [Act.put, List.setIfInBounds_toArray, List.set_cons_zero, List.set_cons_succ]
  refine wpAnyH_take (i := 41) (oi := ⟨some 88, _, _, _, _, _⟩) (v := ?_) rfl (by kernel_rfl) (by kernel_rfl) (by kernel_rfl) (fun _ _ _ h => h) (Or.inl ⟨by rfl, ?_⟩) (by assumption) ?_
  rotate_left 1
  · (intro w hSw; (try dsimp only at hSw); go_simp; all_goals with_reducible rfl)
  try simp only [Act.put, List.setIfInBounds_toArray, List.set_cons_zero, List.set_cons_succ]
  refine wpAnyH_take (i := 42) (oi := ⟨some 89, _, _, _, _, _⟩) (v := ?_) rfl (by kernel_rfl) (by kernel_rfl) (by kernel_rfl) (fun _ _ _ h => h) (Or.inl ⟨by rfl, ?_⟩) (by assumption) ?_
  rotate_left 1
  · (intro w hSw; (try dsimp only at hSw); go_simp; all_goals with_reducible rfl)
  try simp only [Act.put, List.setIfInBounds_toArray, List.set_cons_zero, List.set_cons_succ]
  refine wpAnyH_take (i := 44) (oi := ⟨some 91, _, _, _, _, _⟩) (v := ?_) rfl (by kernel_rfl) (by kernel_rfl) (by kernel_rfl) (fun _ _ _ h => h) (Or.inl ⟨by rfl, ?_⟩) (by assumption) ?_
  rotate_left 1
  · (intro w hSw; (try dsimp only at hSw); go_simp; all_goals with_reducible rfl)
  try simp only [Act.put, List.setIfInBounds_toArray, List.set_cons_zero, List.set_cons_succ]
  refine wpAnyH_ready (rs := [43]) (by kernel_rfl) (by simp) ?_
  refine AllReadyH.cons (o := ⟨some 90, _, _, _, _, _⟩) rfl (fun K hK => ?_) AllReadyH.nil
  go_simp
  go_at_call 25; (with_reducible refine (BH.out _).mono ?_); rintro e v7 ⟨rfl, hv7⟩; have hHeld7 : Frm [] w11 v7 := hHeld.trans hv7 (by simp) (by simp)
  go_wp2_with fail
  refine hK.out _ _ (by assumption) (fun hHeld => ?_)
  clear hK K
  try simp only [Act.put, List.setIfInBounds_toArray, List.set_cons_zero, List.set_cons_succ]
  refine wpAnyH_ready (rs := [45]) (by kernel_rfl) (by simp) ?_
  refine AllReadyH.cons (o := ⟨some 92, _, _, _, _, _⟩) rfl (fun K hK => ?_) AllReadyH.nil
  go_simp
  go_at_call 26; (with_reducible refine (RBH.out _).mono ?_); rintro e v8 ⟨rfl, hv8⟩; have hHeld8 : Frm [] w11 v8 := hHeld.trans hv8 (by simp) (by simp)
  go_wp2_with fail
  refine hK.out _ _ (by assumption) (fun hHeld => ?_)
  clear hK K
  try simp only [Act.put, List.setIfInBounds_toArray, List.set_cons_zero, List.set_cons_succ]
  refine wpAnyH_take (i := 46) (oi := ⟨some 93, _, _, _, _, _⟩) (v := ?_) rfl (by kernel_rfl) (by kernel_rfl) (by kernel_rfl) (fun _ _ _ h => h) (Or.inl ⟨by rfl, ?_⟩) (by assumption) ?_
  rotate_left 1
  · (intro w hSw; (try dsimp only at hSw); go_simp; all_goals with_reducible rfl)
  try simp only [Act.put, List.setIfInBounds_toArray, List.set_cons_zero, List.set_cons_succ]
  refine wpAnyH_take (i := 47) (oi := ⟨some 94, _, _, _, _, _⟩) (v := ?_) rfl (by kernel_rfl) (by kernel_rfl) (by kernel_rfl) (fun _ _ _ h => h) (Or.inl ⟨by rfl, ?_⟩) (by assumption) ?_
  rotate_left 1
  · (intro w hSw; (try dsimp only at hSw); go_simp; all_goals with_reducible rfl)
  try simp only [Act.put, List.setIfInBounds_toArray, List.set_cons_zero, List.set_cons_succ]
  refine wpAnyH_take (i := 48) (oi := ⟨some 95, _, _, _, _, _⟩) (v := ?_) rfl (by kernel_rfl) (by kernel_rfl) (by kernel_rfl) (fun _ _ _ h => h) (Or.inl ⟨by rfl, ?_⟩) (by assumption) ?_
  rotate_left 1
  · (intro w hSw; (try dsimp only at hSw); go_simp; all_goals with_reducible rfl)
  try simp only [Act.put, List.setIfInBounds_toArray, List.set_cons_zero, List.set_cons_succ]
  refine wpAnyH_take (i := 49) (oi := ⟨some 96, _, _, _, _, _⟩) (v := ?_) rfl (by kernel_rfl) (by kernel_rfl) (by kernel_rfl) (fun _ _ _ h => h) (Or.inl ⟨by rfl, ?_⟩) (by assumption) ?_
  rotate_left 1
  · (intro w hSw; (try dsimp only at hSw); go_simp; all_goals with_reducible rfl)
  try simp only [Act.put, List.setIfInBounds_toArray, List.set_cons_zero, List.set_cons_succ]
  refine wpAnyH_take (i := 50) (oi := ⟨some 97, _, _, _, _, _⟩) (v := ?_) rfl (by kernel_rfl) (by kernel_rfl) (by kernel_rfl) (fun _ _ _ h => h) (Or.inl ⟨by rfl, ?_⟩) (by assumption) ?_
  rotate_left 1
  · (intro w hSw; (try dsimp only at hSw); go_simp; all_goals with_reducible rfl)
  try simp only [Act.put, List.setIfInBounds_toArray, List.set_cons_zero, List.set_cons_succ]
  refine wpAnyH_take (i := 52) (oi := ⟨some 99, _, _, _, _, _⟩) (v := ?_) rfl (by kernel_rfl) (by kernel_rfl) (by kernel_rfl) (fun _ _ _ h => h) (Or.inl ⟨by rfl, ?_⟩) (by assumption) ?_
  rotate_left 1
  · (intro w hSw; (try dsimp only at hSw); go_simp; all_goals with_reducible rfl)
  try simp only [Act.put, List.setIfInBounds_toArray, List.set_cons_zero, List.set_cons_succ]
  refine wpAnyH_take (i := 53) (oi := ⟨some 100, _, _, _, _, _⟩) (v := ?_) rfl (by kernel_rfl) (by kernel_rfl) (by kernel_rfl) (fun _ _ _ h => h) (Or.inl ⟨by rfl, ?_⟩) (by assumption) ?_
  rotate_left 1
  · (intro w hSw; (try dsimp only at hSw); go_simp; all_goals with_reducible rfl)
  try simp only [Act.put, List.setIfInBounds_toArray, List.set_cons_zero, List.set_cons_succ]
  refine wpAnyH_ready (rs := [51]) (by kernel_rfl) (by simp) ?_
  refine AllReadyH.cons (o := ⟨some 98, _, _, _, _, _⟩) rfl (fun K hK => ?_) AllReadyH.nil
  go_simp
  go_at_call 27; (with_reducible refine (TR.out _ (F7.out _ hHeld)).mono ?_); rintro e v9 ⟨a9, c9, rfl, ho9, hv9⟩; rw [← HTL.out]; have LT9 : Hid (LdL v9 [] a9 T) := Lib.hid ho9.sl; clear ho9; have hHeld9 : Frm [] w11 v9 := hHeld.trans hv9 (by simp) (by simp)
  go_wp2_with fail
  refine hK.out _ _ (by assumption) (fun hHeld => ?_)
  clear hK K
  try simp only [Act.put, List.setIfInBounds_toArray, List.set_cons_zero, List.set_cons_succ]
  refine wpAnyH_ready (rs := [54]) (by kernel_rfl) (by simp) ?_
  refine AllReadyH.cons (o := ⟨some 101, _, _, _, _, _⟩) rfl (fun K hK => ?_) AllReadyH.nil
  go_simp
  go_at_call 28; (with_reducible refine (RT.out _ (F7.out _ hHeld)).mono ?_); rintro e v10 ⟨a10, c10, rfl, hl10, hv10⟩; rw [← HTL.out]; have LT10 : Hid (LdL v10 [] a10 T) := Lib.hid hl10; have LT9b : Hid (LdL v10 [] a9 T) := Lib.hid (LT9.out.sub hv10); clear hl10; have hHeld10 : Frm [] w11 v10 := hHeld.trans hv10 (by simp) (by simp)
  go_wp2_with fail
  refine hK.out _ _ (by assumption) (fun hHeld => ?_)
  clear hK K
  try simp only [Act.put, List.setIfInBounds_toArray, List.set_cons_zero, List.set_cons_succ]
  refine wpAnyH_ready (rs := [55]) (by kernel_rfl) (by simp) ?_
  refine AllReadyH.cons (o := ⟨some 102, _, _, _, _, _⟩) rfl (fun K hK => ?_) AllReadyH.nil
  go_simp
  go_at_call 15; (with_reducible refine (SM.out _ _ _ _ _ LT9b.out LT10.out).mono ?_); rintro e v11 ⟨rfl, hv11⟩; have hHeld11 : Frm [] w11 v11 := hHeld.trans hv11 (by simp) (by simp)
  go_wp2_with fail
  refine hK.out _ _ (by assumption) (fun hHeld => ?_)
  clear hK K
  try simp only [Act.put, List.setIfInBounds_toArray, List.set_cons_zero, List.set_cons_succ]
  refine wpAnyH_take (i := 56) (oi := ⟨some 103, _, _, _, _, _⟩) (v := ?_) rfl (by kernel_rfl) (by kernel_rfl) (by kernel_rfl) (fun _ _ _ h => h) (Or.inl ⟨by rfl, ?_⟩) (by assumption) ?_
  rotate_left 1
  · (intro w hSw; (try dsimp only at hSw); go_simp; all_goals with_reducible rfl)
  try simp only [Act.put, List.setIfInBounds_toArray, List.set_cons_zero, List.set_cons_succ]
  refine wpAnyH_take (i := 57) (oi := ⟨some 12, _, _, _, _, _⟩) (v := ?_) rfl (by kernel_rfl) (by kernel_rfl) (by kernel_rfl) (fun _ _ _ h => h) (Or.inl ⟨by rfl, ?_⟩) (by assumption) ?_
  rotate_left 1
  · (intro w hSw; (try dsimp only at hSw); go_simp; all_goals with_reducible rfl)
  try simp only [Act.put, List.setIfInBounds_toArray, List.set_cons_zero, List.set_cons_succ]
  refine wpAnyH_done (by kernel_rfl) ?_ _
  have FX : Hid (Frm [] w _) := Lib.hid (FW7.out.trans (F7.out _ hHeld) (by simp) (by simp))
  clear y0 y1 y2 y3 y4 y5 y6 y7 ee1 ee2
  go_wp2
  go_ret
  exact lTrue FX.out
end Go.Proofs.Ytimmoencmmpkdaa
