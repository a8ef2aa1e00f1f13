/- Contracts of the writer's Count, Sure, Close, Replace. -/
import Derived.Test.YtecfoomjpjcldaaWrAck
import Derived.Test.YtecfoomjpjcldaaOwnVals
namespace Go.Proofs.Ytecfoomjpjcldaa
open Go.RowKit
set_option maxRecDepth 100000
section
variable {w : World} {B p : Nat} {F : List Nat} {P W A : Nat} {D : List (List Nat)} {H : Nat → Nat → Bool} {su : Nat} {cl : Bool}
theorem wrcount_any (h : Wq w B p F P W A D H su cl) : Calls Try.prog 22 #[.pointer (some ⟨p, 0, none⟩)] w fun e w' => e = .returned (.int .u64 (D.length : Nat)) ∧ w = w' := by
  obtain ⟨Y, hY, _⟩ := h.box
  have c4 := (hY.cell 4).trans (wrC_head P W A su D.length cl Y).2.2.2.2.1
  clear h hY
  go_enter Try.func22, Try.ntmps22
  go_wp2
  go_ret
  exact ⟨rfl, rfl⟩
theorem wrsure_any (h : Wq w B p F P W A D H su cl) : Calls Try.prog 21 #[.pointer (some ⟨p, 0, none⟩)] w fun e w' => e = .returned (.int .u64 (su : Nat)) ∧ w = w' := by
  obtain ⟨Y, hY, _⟩ := h.box
  have c3 := (hY.cell 3).trans (wrC_head P W A su D.length cl Y).2.2.2.1
  clear h hY
  go_enter Try.func21, Try.ntmps21
  go_wp2
  go_ret
  exact ⟨rfl, rfl⟩
theorem wrclose_no (h : Wq w B p F P W A D H su cl) (hlt : su < D.length) : Calls Try.prog 38 #[.pointer (some ⟨p, 0, none⟩)] w fun e w' => e = .returned (.tuple #[.int .u64 0, .int .i64 23]) ∧ Frm [] w w' := by
  obtain ⟨Y, hY, _⟩ := h.box
  have c3 := (hY.cell 3).trans (wrC_head P W A su D.length cl Y).2.2.2.1
  have c4 := (hY.cell 4).trans (wrC_head P W A su D.length cl Y).2.2.2.2.1
  obtain ⟨co, hco⟩ : ∃ co, co = D.length := ⟨_, rfl⟩
  rw [← hco] at c4 hlt
  have d1 : decide ((su : Int) < (co : Int)) = true := decide_eq_true (by omega)
  have d2 : decide (su < co) = true := decide_eq_true hlt
  clear h hY hco hlt
  go_enter Try.func38, Try.ntmps38
  go_wp2
  go_quiet (fail)
  go_wp2
  go_ret2
  exact ⟨rfl, (Frm.refl _ _).drewN _⟩
theorem wrclose_ok (h : Wq w B p F P W A D H su cl) (hlt : ¬ su < D.length) : Calls Try.prog 38 #[.pointer (some ⟨p, 0, none⟩)] w fun e w' => e = .returned (.tuple #[.int .u64 (D.length : Nat), .int .i64 0]) ∧ Frm [p] w w' ∧ Wq w' B p F P W A D H su true := by
  obtain ⟨Y, hY, hl, he⟩ := h.box
  obtain ⟨q0, q1, q2, q3, q4, q5⟩ := wrC_head P W A su D.length cl Y
  have c3 := (hY.cell 3).trans q3
  have c4 := (hY.cell 4).trans q4
  have c5 := (hY.cell 5).trans q5
  have f5 := hY.free 5
  obtain ⟨co, hco⟩ : ∃ co, co = D.length := ⟨_, rfl⟩
  have HQ : Hid (∀ z, Frm [] w z → Frm [p] w (z.setCell ⟨p, 5, none⟩ (.bool true)) ∧ Wq (z.setCell ⟨p, 5, none⟩ (.bool true)) B p F P W A D H su true) := Lib.hid fun z hz => by
    have hf : Frm [p] w (z.setCell ⟨p, 5, none⟩ (.bool true)) := (hz.weak (by simp)).setCell (.inl (by simp)) _
    have hY2 := (hz.whole hY (by simp)).put 5 (.bool true)
    rw [wrC_cl] at hY2
    exact ⟨hf, ⟨Y, hY2, hl, fun n h1 h2 => (he n h1 h2).keep hf (fun x hx => .inl (by simp at hx; simp [hx])) (fun x hx => .inl hx)⟩, h.quo, h.wait, h.small, h.hp, h.out⟩
  rw [← hco] at c4 hlt ⊢
  have d1 : decide ((su : Int) < (co : Int)) = false := decide_eq_false (by omega)
  have d2 : decide (su < co) = false := decide_eq_false hlt
  clear h hY hl he hco hlt q0 q1 q2 q3 q4 q5
  go_enter Try.func38, Try.ntmps38
  go_wp2
  go_quiet (fail)
  have hf5' : (w.drewN nq).frozen? ⟨p, 5, none⟩ = false := f5
  have hc5' : (w.drewN nq).cell? ⟨p, 5, none⟩ = some (.bool cl) := c5
  have hc4' : (w.drewN nq).cell? ⟨p, 4, none⟩ = some (.int .u64 (co : Nat)) := c4
  have HW := Lib.hid (HQ.out (w.drewN nq) ((Frm.refl _ _).drewN _))
  generalize w.drewN nq = wd at hf5' hc5' hc4' HW ⊢
  go_wp2
  go_ret2
  exact ⟨rfl, HW.out⟩
end
def uvW (l : List Nat) : List Value := l.map fun n => .int .u64 (n : Nat)
theorem uvW_one (l : List Nat) : ∀ u ∈ uvW l, u.oneCell' = true := by
  intro u hu
  obtain ⟨x, _, rfl⟩ := List.mem_map.1 hu
  rfl
theorem infoU64 : (Try.prog.info? 39).map (fun i => (i.zero, i.size, i.bytes)) = some (some (.int .u64 0), 1, 8) := by kernel_rfl
/-- Another node at a place: from su on below n what it had counts no more. -/
def hasDrop (P W : Nat) (H : Nat → Nat → Bool) (su n : Nat) (pl : Int) : Nat → Nat → Bool := fun i j => if su ≤ i ∧ i < n ∧ hasI (setN P W i) pl = true ∧ (j : Int) = pl then false else H i j
/-- The entries that it must have. -/
def mustN (P W su n : Nat) (pl : Int) : List Nat := ((List.range (n - su)).map (su + ·)).filter fun i => hasI (setN P W i) pl
theorem mustN_self (P W su : Nat) (pl : Int) : mustN P W su su pl = [] := by simp [mustN]
theorem mustN_succ (P W : Nat) {su n : Nat} (pl : Int) (h : su ≤ n) : mustN P W su (n + 1) pl = mustN P W su n pl ++ if hasI (setN P W n) pl = true then [n] else [] := by
  unfold mustN
  rw [show n + 1 - su = (n - su) + 1 by omega, List.range_succ, List.map_append, List.filter_append, List.map_singleton, show su + (n - su) = n by omega]
  congr 1
  by_cases hg : hasI (setN P W n) pl = true
  · rw [if_pos hg]; simp [hg]
  · rw [if_neg hg]; simp [hg]
def RepRel (w : World) (B p : Nat) (F : List Nat) (P W A : Nat) (D : List (List Nat)) (H : Nat → Nat → Bool) (su : Nat) (cl : Bool) (pl : Int) (s6 s5 : Value) (wr : World) : Prop :=
  ∃ (n : Nat) (a : Option Addr) (k c : Nat) (L : List Nat), s6 = .int .u64 (n : Nat) ∧ s5 = .slice a k c ∧ k = L.length ∧ su ≤ n ∧ n ≤ D.length ∧ k ≤ n ∧ Hid (L = mustN P W su n pl) ∧ Hid (wr.ownsRow w.heap.size 39 1 (.slice a k c) k (uvW L)) ∧ Hid (Wq wr B p (blk a ++ F) P W A D (hasDrop P W H su n pl) su cl) ∧ Hid (Frm [p] w wr)
set_option maxHeartbeats 8000000 in
theorem wrreplace_new {w : World} {B p : Nat} {F : List Nat} {P W A : Nat} {D : List (List Nat)} {H : Nat → Nat → Bool} {su : Nat} {cl : Bool} (pl : Int) (h : Wq w B p F P W A D H su cl) :
    Calls Try.prog 36 #[.pointer (some ⟨p, 0, none⟩), .int .i64 pl] w fun e w' => ∃ a c, e = .returned (.slice a (mustN P W su D.length pl).length c) ∧ ValsAt w' a (uvW (mustN P W su D.length pl)) ∧ (∀ x, a = some x → w.heap.size ≤ x.block) ∧ Wq w' B p F P W A D (hasDrop P W H su D.length pl) su cl ∧ Frm [p] w w' := by
  obtain ⟨i0, hinf, hz0, hz1, hz2⟩ := info_parts infoU64
  have HINF := Lib.hid hinf
  have hw := h.wait
  obtain ⟨co, hco⟩ : ∃ co, co = D.length := ⟨_, rfl⟩
  have hco20 : co ≤ 1048576 := by omega
  obtain ⟨Y, hY, _⟩ := h.box
  have c3 := (hY.cell 3).trans (wrC_head P W A su D.length cl Y).2.2.2.1
  have hdrop0 : hasDrop P W H su su pl = H := by funext i j; unfold hasDrop; rw [if_neg (by omega)]
  have HR0 : Hid (RepRel w B p F P W A D H su cl pl (.int .u64 (su : Nat)) (.slice none 0 0) w) := Lib.hid ⟨su, none, 0, 0, [], rfl, rfl, rfl, Nat.le_refl _, hw.1, Nat.zero_le _, Lib.hid (mustN_self _ _ _ _).symm, Lib.hid (World.ownsRow_nil _ _ _ _), Lib.hid (by rw [hdrop0]; exact h), Lib.hid (Frm.refl _ _)⟩
  have HCO := Lib.hid hco
  clear h hY hdrop0 hw hinf hco
  go_enter Try.func36, Try.ntmps36
  go_wp2
  clear c3
  go_loopw [6, 5] (fun s6 s5 wr => RepRel w B p F P W A D H su cl pl s6 s5 wr) (fun s6 _ _ => co - (intOf s6).toNat)
  case atStart => exact HR0.out
  case round =>
    clear HR0
    obtain ⟨n, a, k, c, L, rfl, rfl, hk, hn1, hn2, hkn, HL, HO, HWQ, HF⟩ := hrel
    rw [← HCO.out] at hn2
    obtain ⟨Y, hY, hl, _⟩ := HWQ.out.box
    have c4 := (hY.cell 4).trans (wrC_head P W A su D.length cl Y).2.2.2.2.1
    rw [← HCO.out] at c4
    have HK := Lib.hid hk
    have hn64 : n < 18446744073709551616 := by omega
    by_cases hlt : n < co
    · have d1 : decide ((n : Int) < (co : Int)) = true := decide_eq_true (by omega)
      have d2 : decide (n < co) = true := decide_eq_true hlt
      have HGO := Lib.hid (wrgoes_any n pl HWQ.out hn64)
      have hwm : IntKind.u64.wrap ((n : Int) + 1) = ((n + 1 : Nat) : Int) := by simp [IntKind.wrap, IntKind.bits, IntKind.signed]; omega
      have HWM := Lib.hid hwm
      obtain ⟨g, hg⟩ : ∃ g, g = hasI (setN P W n) pl := ⟨_, rfl⟩
      rw [← hg] at HGO
      have HG := Lib.hid hg
      have HLT := Lib.hid hlt
      clear hk hY hl hg hwm hlt
      go_wp2_with fail
      (with_reducible refine HGO.out.mono ?_)
      rintro e w1 ⟨rfl, hf1⟩
      cases g with
      | false =>
        have hnx : hasDrop P W H su (n + 1) pl = hasDrop P W H su n pl := by
          funext i j
          unfold hasDrop
          by_cases hi : i = n
          · subst hi
            rw [if_neg (fun h => by rw [← HG.out] at h; exact absurd h.2.2.1 (by simp)), if_neg (fun h => by rw [← HG.out] at h; exact absurd h.2.2.1 (by simp))]
          · by_cases h2 : su ≤ i ∧ i < n ∧ hasI (setN P W i) pl = true ∧ (j : Int) = pl
            · rw [if_pos h2, if_pos ⟨h2.1, by omega, h2.2.2⟩]
            · rw [if_neg h2, if_neg (fun h => h2 ⟨h.1, by omega, h.2.2⟩)]
        obtain ⟨m, hm⟩ : ∃ m, m = n + 1 := ⟨_, rfl⟩
        have hwm := HWM.out
        rw [← hm] at hwm
        have HREL : Hid (RepRel w B p F P W A D H su cl pl (.int .u64 (m : Nat)) (.slice a k c) w1) := Lib.hid ⟨m, a, k, c, L, rfl, rfl, HK.out, by omega, by rw [← HCO.out]; have := HLT.out; omega, by omega, Lib.hid (by rw [hm, mustN_succ P W pl hn1, if_neg (by rw [← HG.out]; simp), List.append_nil]; exact HL.out), Lib.hid (hf1.own HO.out (by simp)), Lib.hid (by rw [hm, hnx]; exact HWQ.out.here hf1), Lib.hid (HF.out.trans hf1 (fun x hx => hx) (by simp))⟩
        have HMM : Hid (co - m < co - n) := Lib.hid (by have := HLT.out; omega)
        clear hnx hm hf1 HGO
        go_wp2
        go_roundw
        case rel => exact HREL.out
        case measure => have := HMM.out; simpa [intOf] using this
      | true =>
        obtain ⟨pn, hpl, hpn⟩ : ∃ pn : Nat, pl = (pn : Int) ∧ pn < P := by
          have hh := HG.out.symm
          unfold hasI at hh
          rw [List.any_eq_true] at hh
          obtain ⟨x, hx, he⟩ := hh
          rw [beq_iff_eq] at he
          refine ⟨x, he.symm, ?_⟩
          unfold setN at hx
          obtain ⟨i, hi, rfl⟩ := List.mem_map.1 hx
          exact plN_lt (by have := HWQ.out.quo; omega) _ _
        subst hpl
        have hpn7 : pn < 7 := by have := HWQ.out.quo; omega
        have hpi : (pn : Int) < 7 := by omega
        obtain ⟨kk, hkk⟩ : ∃ kk, kk = n % 64 := ⟨_, rfl⟩
        have HAT := Lib.hid (fun (z : World) => wrat_any p n z hn64)
        rw [← hkk] at HAT
        have HKK := Lib.hid hkk
        have hq1 := HWQ.out.here hf1
        obtain ⟨Y1, hY1, hl1, _⟩ := hq1.box
        have hfl := hq1.flag (n := n) (pn := pn) (b := false) hn1 (by rw [← HCO.out]; exact HLT.out) hpn7
        rw [← HKK.out] at hfl
        obtain ⟨v, hv⟩ : ∃ v, Y1[kk * 8 + 1 + pn]? = some v := ⟨Y1[kk * 8 + 1 + pn]'(by have := HKK.out; omega), List.getElem?_eq_getElem (by have := HKK.out; omega)⟩
        have y0 : w1.cell? ⟨p, 6 + kk * 8 + 1 + pn, none⟩ = some v := by rw [show 6 + kk * 8 + 1 + pn = 6 + (kk * 8 + 1 + pn) by omega, hY1.cell, wrC_at]; exact hv
        have z0 := hY1.free (6 + kk * 8 + 1 + pn)
        obtain ⟨w2, hw2⟩ : ∃ w2, w2 = w1.setCell ⟨p, 6 + kk * 8 + 1 + pn, none⟩ (.bool false) := ⟨_, rfl⟩
        rw [← hw2] at hfl
        have hpa : p ∉ blk a := fun hm => HWQ.out.out (List.mem_append_left _ hm)
        have hf2 : Frm [p] wr w2 := by rw [hw2]; exact (hf1.weak (by simp)).setCell (.inl (by simp)) _
        have ho2 := hf2.own HO.out (fun g hg hm => hpa (by simp at hm; subst hm; exact ownBlk.1 hg))
        obtain ⟨w3, hw3⟩ : ∃ w3, w3 = w2.alloc (.cells #[.int .u64 (n : Nat)] 39) := ⟨_, rfl⟩
        have hf3 : Frm [] w2 w3 := by rw [hw3]; exact (Frm.refl _ _).alloc _
        have HO3 := Lib.hid (hf3.own ho2 (by simp))
        have HV3 : Hid (ValsAt w3 (some ⟨w1.heap.size, 0, none⟩) (uvW [n])) := Lib.hid (by rw [show w1.heap.size = w2.heap.size by rw [hw2]; simp, hw3]; exact ValsAt.one _ _ _)
        have HSZ : Hid (w.heap.size ≤ w3.heap.size) := Lib.hid (by have h1 := HF.out.size; have h2 := hf2.size; have h3 := hf3.size; omega)
        have hnx : hasDrop P W H su (n + 1) (pn : Int) = fun i j => if i = n ∧ j = pn then false else hasDrop P W H su n (pn : Int) i j := by
          funext i j
          unfold hasDrop
          by_cases hi : i = n ∧ j = pn
          · obtain ⟨rfl, rfl⟩ := hi
            rw [if_pos ⟨hn1, by omega, HG.out.symm, rfl⟩, if_pos ⟨rfl, rfl⟩]
          · rw [if_neg hi]
            by_cases h2 : su ≤ i ∧ i < n ∧ hasI (setN P W i) (pn : Int) = true ∧ (j : Int) = (pn : Int)
            · rw [if_pos h2, if_pos ⟨h2.1, by omega, h2.2.2⟩]
            · rw [if_neg h2, if_neg (fun h => by
                by_cases h3 : i = n
                · exact hi ⟨h3, by omega⟩
                · exact h2 ⟨h.1, by omega, h.2.2⟩)]
        have HNX : Hid (∀ (a' : Option Addr) (c' : Nat) (w4 : World), AppV w3 w4 w.heap.size 39 (.slice a k c) k 1 (uvW L) (uvW [n]) a' c' → RepRel w B p F P W A D H su cl (pn : Int) (.int .u64 ((n + 1 : Nat) : Nat)) (.slice a' (k + 1) c') w4) := Lib.hid fun a' c' w4 happ => by
          have hbl : ∀ x ∈ blk a, w.heap.size ≤ x := fun x hx => (World.ownsRow.lt HO.out x (ownBlk.2 hx)).1
          have hf4 : Frm (blk a) w3 w4 := (Frm.refl _ _).grown happ.grown (fun x hx => .inl (ownBlk.1 hx))
          have hnew : ∀ x ∈ blk a', x ∈ blk a ∨ w3.heap.size ≤ x := fun x hx => by
            have hg' := (ownBlk (n := k + 1) (c := c')).2 hx
            rcases happ.place with h1 | h1
            · exact .inl (ownBlk.1 (h1 ▸ hg'))
            · rw [hg'] at h1; cases h1; exact .inr (Nat.le_refl _)
          have hq3 := hfl.here hf3
          refine ⟨n + 1, a', k + 1, c', L ++ [n], rfl, rfl, by rw [List.length_append, ← HK.out]; rfl, by omega, by rw [← HCO.out]; have := HLT.out; omega, by omega, Lib.hid (by rw [mustN_succ P W (pn : Int) hn1, if_pos HG.out.symm, ← HL.out]), Lib.hid (by have := happ.own; simpa [uvW] using this), Lib.hid ?_, Lib.hid ?_⟩
          · rw [hnx]
            refine hq3.keep hf4 (fun x hx => .inl (List.mem_append_left _ hx)) (fun x hx => ?_)
            rcases List.mem_append.1 hx with h1 | h1
            · exact (hnew x h1).imp (List.mem_append_left _) (fun h => h)
            · exact .inl (List.mem_append_right _ h1)
          · exact ((HF.out.trans hf2 (fun x hx => hx) (fun x hx => .inl hx)).trans hf3 (fun x hx => hx) (by simp)).trans hf4 (fun x hx => hx) (fun x hx => .inr (hbl x hx))
        have HW3 := Lib.hid hw3
        have HW2 := Lib.hid hw2
        have HMM : Hid (co - (n + 1) < co - n) := Lib.hid (by have := HLT.out; omega)
        have hkfit : k + 1 ≤ 1000000000 := by omega
        clear hq1 hY1 hl1 hfl hv hf1 hf2 ho2 hf3 hnx hw2 hw3 hkk hpn hpa HGO
        go_wp2_with fail
        (with_reducible refine (HAT.out _).mono ?_)
        rintro e w' ⟨rfl, rfl⟩
        go_wp2_with (at_builtin; (rw [← HW2.out, ← HW3.out]; refine wpList_appV rfl (.tmp 32) (.tmp 34) 102 rfl w.heap.size 39 i0 (.int .u64 0) 8 Try.underlying102 HINF.out hz0 rfl hz1 hz2 (by decide) (.slice a k c) k (uvW L) rfl HO3.out (some ⟨w1.heap.size, 0, none⟩) 1 1 (uvW [n]) rfl HV3.out rfl (uvW_one _) (fun h => by cases h) hkfit HSZ.out ?_))
        intro a' c' w4 happ
        have HREL := Lib.hid (HNX.out a' c' w4 happ)
        obtain ⟨m, hm⟩ : ∃ m, m = n + 1 := ⟨_, rfl⟩
        have hwm := HWM.out
        rw [← hm] at HREL hwm HMM
        obtain ⟨Y4, hY4, _⟩ : ∃ Y4, Whole w4 p 98 (wrC P W A su D.length cl Y4) ∧ True := by
          obtain ⟨_, _, _, _, _, _, _, _, _, _, _, _, _, hq, _⟩ := HREL.out
          obtain ⟨Y4, hY4, _⟩ := hq.out.box
          exact ⟨Y4, hY4, trivial⟩
        clear happ hm hY4 HO3 HV3
        go_wp2
        go_roundw
        case rel => exact HREL.out
        case measure => have := HMM.out; simpa [intOf] using this
    · obtain rfl : n = co := by omega
      have d1 : decide ((n : Int) < (n : Int)) = false := by simp
      have d2 : decide (n < n) = false := by simp
      have HE : Hid (∃ a' c', (Ending.returned (.slice a k c)) = .returned (.slice a' (mustN P W su D.length pl).length c') ∧ ValsAt wr a' (uvW (mustN P W su D.length pl)) ∧ (∀ x, a' = some x → w.heap.size ≤ x.block) ∧ Wq wr B p F P W A D (hasDrop P W H su D.length pl) su cl ∧ Frm [p] w wr) := Lib.hid (by
        rw [← HCO.out, ← HL.out]
        exact ⟨a, c, by rw [hk], own_vals HO.out, fun x hx => (World.ownsRow.lt HO.out x.block (by rw [hx]; rfl)).1, HWQ.out.keep (Frm.refl [] _) (by simp) (fun x hx => .inl (List.mem_append_right _ hx)), HF.out⟩)
      clear hk hY hl
      go_wp2
      go_ret
      exact HE.out
theorem wrreplace_any {w : World} {B p : Nat} {F : List Nat} {P W A : Nat} {D : List (List Nat)} {H : Nat → Nat → Bool} {su : Nat} {cl : Bool} (pl : Int) (h : Wq w B p F P W A D H su cl) :
    Calls Try.prog 36 #[.pointer (some ⟨p, 0, none⟩), .int .i64 pl] w fun e w' => ∃ a c, e = .returned (.slice a (mustN P W su D.length pl).length c) ∧ ValsAt w' a (uvW (mustN P W su D.length pl)) ∧ Wq w' B p F P W A D (hasDrop P W H su D.length pl) su cl ∧ Frm [p] w w' := by
  refine (wrreplace_new pl h).mono ?_
  rintro e w' ⟨a, c, h1, h2, _, h3, h4⟩
  exact ⟨a, c, h1, h2, h3, h4⟩
end Go.Proofs.Ytecfoomjpjcldaa
