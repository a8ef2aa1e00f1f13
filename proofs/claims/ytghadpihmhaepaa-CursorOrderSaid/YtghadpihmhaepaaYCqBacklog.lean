/- Contract of the program's Backlog. -/
import Derived.Test.YtghadpihmhaepaaYCqBack
namespace Go.Proofs.Ytghadpihmhaepaa
open Go.RowKit
set_option maxRecDepth 100000

theorem countP_split {α : Type} {L : List α} {P A B : α → Bool} (h : ∀ x ∈ L, (P x = true ↔ A x = true ∨ B x = true) ∧ ¬ (A x = true ∧ B x = true)) : L.countP P = L.countP A + L.countP B := by
  induction L with
  | nil => rfl
  | cons x L ih =>
    rw [List.countP_cons, List.countP_cons, List.countP_cons, ih (fun y hy => h y (List.mem_cons_of_mem _ hy))]
    have h1 := h x (by simp)
    cases ha : A x <;> cases hb : B x <;> cases hp : P x <;> simp_all <;> omega
/-- What isn't acked by the first k of what is held. -/
def backK (X : List Ld) (o : Nat) (m : Ps) (H : List Hel) (k : Nat) : Nat := (allP X o).countP (fun q => decide (¬ q.lt m ∧ ¬ Mem (ofH (H.take k) q.l) q.e))
theorem ofH_take {H : List Hel} (hs : Srt H) {k : Nat} (hk : k < H.length) (q : Nat) : ofH (H.take (k + 1)) q = if q = (H.getD k default).1 then (H.getD k default).2 else ofH (H.take k) q := by
  have e : H.getD k default = H[k] := by simp [hk]
  rw [List.take_succ_eq_append_getElem hk, e]
  unfold ofH
  rw [List.find?_append]
  by_cases h : q = (H[k]).1
  · rw [if_pos h]
    have h0 : (H.take k).find? (fun x => decide (x.1 = q)) = none := by
      rw [List.find?_eq_none]
      intro x hx
      obtain ⟨i, hi, rfl⟩ := List.mem_iff_getElem.1 hx
      rw [List.length_take] at hi
      rw [List.getElem_take]
      have := List.pairwise_iff_getElem.1 hs i k (by omega) hk (by omega)
      simp; omega
    rw [h0, List.find?_cons_of_pos (by simpa using h.symm)]
    rfl
  · rw [if_neg h, List.find?_cons_of_neg (by simpa using fun h1 => h h1.symm)]
    simp
theorem back_step {X : List Ld} {o : Nat} {m : Ps} {H : List Hel} (h : OkC ⟨m, H⟩) {k : Nat} (hk : k < H.length) : backK X o m H k = backK X o m H (k + 1) + thereN X o (H.getD k default) := by
  unfold backK thereN
  refine countP_split (fun q _ => ?_)
  simp only [decide_eq_true_iff]
  have hs : Srt H := h.srt
  rw [ofH_take hs hk]
  have e : H.getD k default = H[k] := by simp [hk]
  have hl : ∀ {e}, Mem (H.getD k default).2 e → ¬ (Ps.mk (H.getD k default).1 e).lt m := fun {e'} he => by
    have h1 := h.low (H.getD k default).1 e'
    rw [ofH_mem h.srt (by rw [e]; exact List.getElem_mem hk)] at h1
    exact h1 he
  by_cases h1 : q.l = (H.getD k default).1
  · rw [if_pos h1]
    have h0 : ofH (H.take k) q.l = [] := by
      refine ofH_off (fun x hx => ?_)
      obtain ⟨i, hi, rfl⟩ := List.mem_iff_getElem.1 hx
      rw [List.length_take] at hi
      rw [List.getElem_take]
      have := List.pairwise_iff_getElem.1 hs i k (by omega) hk (by omega)
      rw [h1, e]; omega
    rw [h0]
    have hq : ∀ {e}, Mem (H.getD k default).2 e → ¬ (Ps.mk q.l e).lt m := fun {e'} he => by rw [h1]; exact hl he
    refine ⟨⟨fun h2 => ?_, fun h2 => ?_⟩, fun h2 => h2.1.2 h2.2.2⟩
    · by_cases h3 : Mem (H.getD k default).2 q.e
      · exact .inr ⟨h1, h3⟩
      · exact .inl ⟨h2.1, h3⟩
    · rcases h2 with h2 | h2
      · exact ⟨h2.1, Mem.nil _⟩
      · exact ⟨hq h2.2, Mem.nil _⟩
  · rw [if_neg h1]
    exact ⟨⟨fun h2 => .inl h2, fun h2 => h2.elim id (fun h3 => absurd h3.1 h1)⟩, fun h2 => h1 h2.2.1⟩
theorem back_zero {X : List Ld} {o : Nat} (m : Ps) (H : List Hel) (hf : ∀ x ∈ X, x.fits) (ho : o < 18446744073709551616) : backK X o m H 0 = btw X o m farP := by
  rw [← btw_count]
  unfold backK
  refine List.countP_congr (fun q hq => ?_)
  simp only [decide_eq_true_iff]
  refine ⟨fun h => ⟨h.1, ?_⟩, fun h => ⟨h.1, Mem.nil _⟩⟩
  obtain ⟨k, hk, h1, h2⟩ := mem_allP.1 hq
  have h3 := ld_fits_at hf k
  have h4 := Ld.size_lt h3 ho
  have h5 := h3.1
  unfold Ps.lt farP
  simp only
  omega
theorem back_all {X : List Ld} {o : Nat} (m : Ps) (H : List Hel) : backK X o m H H.length = backC X o ⟨m, H⟩ := by
  unfold backK backC
  refine List.countP_congr (fun q _ => ?_)
  simp only [decide_eq_true_iff, List.take_length]
  unfold ackedC
  simp only
  exact ⟨fun h h2 => h2.elim h.1 h.2, fun h => ⟨fun h1 => h (.inl h1), fun h1 => h (.inr h1)⟩⟩
set_option maxHeartbeats 8000000 in
theorem cqback_any (al : Option Addr) (nl cl : Nat) (X : List Ld) (o : Nat) (m : Ps) (a : Option Addr) (n cap : Nat) (F : List Nat) (Y : List Hx) (w : World) (hx : LdL w [] al X) (hnl : nl = X.length) (hszl : nl < 4611686018427387904) (ho : o < 18446744073709551616) (hfx : ∀ x ∈ X, x.fits) (hX : RtLd X) (ht : tot X o ≤ 100000) (h : HxL w F a Y) (hn : n = Y.length) (hsz : n ≤ 100000) (hr : RgsOk Y) (hok : OkC ⟨m, hels Y⟩) :
    Calls Try.prog 22 #[.slice al nl cl, .int .u64 (o : Nat), crsV m a n cap] w (LRet w (.int .u64 (backC X o ⟨m, hels Y⟩ : Nat))) := by
  obtain ⟨w1, hw1⟩ : ∃ w1, w1 = w.alloc (.cells #[.int .u64 (m.l : Nat), .int .u64 (m.e : Nat), .slice a n cap] 28) := ⟨_, rfl⟩
  obtain ⟨g, hg⟩ : ∃ g, g = w.heap.size := ⟨_, rfl⟩
  have F1 : Hid (Frm [] w w1) := Lib.hid (by rw [hw1]; exact (Frm.refl _ _).alloc _)
  have B1 : Hid (Whole w1 g 28 #[.int .u64 (m.l : Nat), .int .u64 (m.e : Nat), .slice a n cap]) := Lib.hid (by rw [hw1, hg]; exact Whole.made _ _ _)
  have BTW : Hid (∀ z, Frm [] w z → Calls Try.prog 49 #[.slice al nl cl, .int .u64 (o : Nat), .agg #[.int .u64 (m.l : Nat), .int .u64 (m.e : Nat)], .agg #[.int .u64 18446744073709551615, .int .u64 18446744073709551615]] z fun e w' => e = .returned (.int .u64 (btw X o m farP : Nat)) ∧ Frm [] z w') := Lib.hid (fun z hz => ldbetween_any al nl cl X o m farP z (hx.sub hz) hnl hszl (by omega))
  have TH := Lib.hid (fun led ra rn rc rs z (hz : Frm [] w z) (h : Rr z ra rs) (hr : Rt rs) (hn : rn = rs.length) (hsz : rn ≤ 1000) (hc : CapOk ra rn rc) => cqthere_any al nl cl X o led ra rn rc rs z (hx.sub hz) hnl hszl ho hfx hX ht h hr hn hsz hc)
  have H := Lib.hid h; clear h
  have HN := Lib.hid hn; clear hn
  have HR := Lib.hid hr; clear hr
  obtain ⟨S, hS⟩ : ∃ S : Nat → Nat, S = backK X o m (hels Y) := ⟨_, rfl⟩
  have S0 : Hid (btw X o m farP = S 0) := Lib.hid (by rw [hS, back_zero m (hels Y) hfx ho])
  have SN : Hid (backC X o ⟨m, hels Y⟩ = S n) := Lib.hid (by rw [hS, HN.out, ← hels_length, back_all])
  have SS : Hid (∀ k, k < n → S k = S (k + 1) + thereN X o (Y.getD k default).t) := Lib.hid (fun k hk => by
    rw [hS, back_step hok (by rw [hels_length, ← HN.out]; exact hk), hels_getD])
  have SB : Hid (∀ k, S k ≤ 100000) := Lib.hid (fun k => by
    rw [hS]
    exact Nat.le_trans List.countP_le_length (by rw [allP_length]; exact ht))
  rw [S0.out] at BTW
  rw [SN.out]
  clear hx hnl hfx hX ht hok hS ho S0 SN
  unfold LRet at TH
  obtain ⟨Q, hQ⟩ : ∃ Q, Q = LRet w (.int .u64 (S n : Nat)) := ⟨_, rfl⟩
  rw [← hQ]
  have HQ := Lib.hid hQ; clear hQ
  unfold crsV
  obtain ⟨ml, me⟩ := m
  simp only at hw1 B1 BTW ⊢
  have HW1 := Lib.hid hw1; clear hw1
  have c0 := B1.out.cell 0
  have c1 := B1.out.cell 1
  simp only [List.getElem?_toArray, List.getElem?_cons_zero, List.getElem?_cons_succ] at c0 c1
  go_enter Try.func22, Try.ntmps22
  go_wp2_with fail
  rw [← HW1.out, ← hg]
  have HG := Lib.hid hg; clear hg
  (with_reducible refine (BTW.out _ F1.out).mono ?_)
  rintro e w2 ⟨rfl, hf2⟩
  have F2 := Lib.hid hf2
  have c2 := (hf2.whole B1.out (by simp)).cell 2
  simp only [List.getElem?_toArray, List.getElem?_cons_zero, List.getElem?_cons_succ] at c2
  clear hf2 c0 c1
  go_wp2
  go_loopw [7, 19] (fun s7 s19 wr => ∃ k : Nat, k ≤ n ∧ s19 = .int .i64 (k : Nat) ∧ s7 = .int .u64 (S k : Nat) ∧ Hid (Frm [] w2 wr)) (fun _ s19 _ => n - (intOf s19).toNat)
  case atStart => exact ⟨0, Nat.zero_le _, rfl, rfl, Lib.hid (Frm.refl _ _)⟩
  case round =>
    obtain ⟨k, hk, rfl, rfl, HF⟩ := hrel
    have FWR : Hid (Frm [] w wr) := Lib.hid (F1.out.trans (F2.out.trans HF.out (U := []) (by simp) (by simp)) (by simp) (by simp))
    by_cases hlt : k < n
    · have hlt' : (k : Int) < (n : Int) := by omega
      have hkY : k < Y.length := by have := HN.out; omega
      obtain ⟨b, off, rfl, d0, d1, hok⟩ := (H.out.sub FWR.out).at (i := k) hkY
      have RO : Hid ((Y.getD k default).t.2.length ≤ 400 ∧ Rt (Y.getD k default).t.2) := Lib.hid (HR.out _ (by simp [hkY]))
      have ss := SS.out k hlt
      have sb := SB.out k
      obtain ⟨x, hx⟩ : ∃ x, x = Y.getD k default := ⟨_, rfl⟩
      rw [← hx] at d0 d1 hok RO ss
      have OK := Lib.hid hok
      clear hx hok hkY
      obtain ⟨⟨led, rs⟩, ra, rc⟩ := x
      simp only at d0 d1 RO ss
      obtain ⟨rn, hrn⟩ : ∃ rn, rn = rs.length := ⟨_, rfl⟩
      rw [← hrn] at d1
      obtain ⟨W3, hW3⟩ : ∃ W3, W3 = wr.alloc (.cells #[.int .u64 (led : Nat), .slice ra rn rc] 55) := ⟨_, rfl⟩
      obtain ⟨y3, hy3⟩ : ∃ y3, y3 = wr.heap.size := ⟨_, rfl⟩
      have FW3 : Hid (Frm [] wr W3) := Lib.hid (by rw [hW3]; exact (Frm.refl _ _).alloc _)
      have BW3 : Hid (Whole W3 y3 55 #[.int .u64 (led : Nat), .slice ra rn rc]) := Lib.hid (by rw [hW3, hy3]; exact Whole.made _ _ _)
      have THX := Lib.hid (TH.out led ra rn rc rs W3 (FWR.out.trans FW3.out (by simp) (by simp)) (OK.out.rs.keep0 FW3.out) RO.out.2 hrn (by have := RO.out.1; omega) ⟨OK.out.nil, by rw [hrn]; exact OK.out.room.1, OK.out.room.2⟩)
      have z0 := BW3.out.cell 0
      have z1 := BW3.out.cell 1
      simp only [List.getElem?_toArray, List.getElem?_cons_zero, List.getElem?_cons_succ] at z0 z1
      obtain ⟨tn, htn⟩ : ∃ tn, tn = thereN X o (led, rs) := ⟨_, rfl⟩
      rw [← htn] at THX ss
      obtain ⟨s0, hs0⟩ : ∃ s0, s0 = S k := ⟨_, rfl⟩
      obtain ⟨s1, hs1⟩ : ∃ s1, s1 = S (k + 1) := ⟨_, rfl⟩
      rw [← hs0] at ss sb ⊢
      rw [← hs1] at ss
      have HS1 := Lib.hid hs1
      have e1 : (s0 : Int) - (tn : Int) = (s1 : Int) := by omega
      have e2 : IntKind.u64.wrap (s1 : Int) = (s1 : Int) := by simp [IntKind.wrap, IntKind.bits, IntKind.signed]; omega
      have e3 : IntKind.u64.wrap ((s0 : Int) - (tn : Int)) = (s1 : Int) := by rw [e1]; exact e2
      have HW3 := Lib.hid hW3; clear hW3
      have HY3 := Lib.hid hy3; clear hy3 hrn htn hs0 hs1 ss sb
      go_upto_region 5 with (fail)
      rw [← HW3.out, ← HY3.out]
      clear d0 d1
      go_wp2_with fail
      (with_reducible refine THX.out.mono ?_)
      rintro e w4 ⟨rfl, hf4⟩
      have FX : Hid (Frm [] w2 w4) := Lib.hid (HF.out.trans (FW3.out.trans hf4 (U := []) (by simp) (by simp)) (by simp) (by simp))
      clear hf4 z0 z1
      go_wp2
      go_roundw
      case rel => exact ⟨k + 1, by omega, by go_num, by rw [← HS1.out], FX⟩
      case measure => simp [intOf]; omega
    · obtain rfl : k = n := by omega
      have FIN : Hid (Q (.returned (.int .u64 (S k : Nat))) wr) := Lib.hid (by rw [HQ.out]; exact ⟨rfl, FWR.out⟩)
      go_wp2
      exact FIN.out
end Go.Proofs.Ytghadpihmhaepaa
