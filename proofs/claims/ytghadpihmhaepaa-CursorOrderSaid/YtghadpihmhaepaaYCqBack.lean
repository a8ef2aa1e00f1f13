/- Contracts of the program's there, Backlog. -/
import Derived.Test.YtghadpihmhaepaaKC
import Derived.Test.YtghadpihmhaepaaKB
import Derived.Deep.DeepCutAuto
namespace Go.Proofs.Ytghadpihmhaepaa
open Go.RowKit
set_option maxRecDepth 100000

/-- How many entries a ledger has. -/
def sizeL (X : List Ld) (o led : Nat) : Nat := btw X o ⟨led, 0⟩ ⟨led, 18446744073709551615⟩
/-- How many of a ledger's ranges are there. -/
def thereN (X : List Ld) (o : Nat) (h : Hel) : Nat := (allP X o).countP (fun q => decide (q.l = h.1 ∧ Mem h.2 q.e))
theorem below_eq {a b : List Rg} {N : Nat} (h : ∀ n, n < N → (Mem a n ↔ Mem b n)) : below a N = below b N := by
  induction N with
  | zero => rfl
  | succ N ih =>
    unfold below
    rw [ih (fun n hn => h n (by omega))]
    have := h N (by omega)
    by_cases h1 : Mem b N
    · rw [if_pos h1, if_pos (this.2 h1)]
    · rw [if_neg h1, if_neg (fun h2 => h1 (this.1 h2))]
theorem count_one {R : List Rg} {l n : Nat} : ((List.range n).map (fun k => (⟨l, k⟩ : Ps))).countP (fun q => decide (q.l = l ∧ Mem R q.e)) = below R n := by
  induction n with
  | zero => rfl
  | succ n ih =>
    rw [List.range_succ, List.map_append, List.countP_append, ih]
    show _ = below R n + (if Mem R n then 1 else 0)
    by_cases h : Mem R n
    · simp [h]
    · simp [h]
theorem count_off {R : List Rg} {l l' n : Nat} (h : l' ≠ l) : ((List.range n).map (fun k => (⟨l', k⟩ : Ps))).countP (fun q => decide (q.l = l ∧ Mem R q.e)) = 0 := by
  rw [List.countP_eq_zero]
  intro q hq
  obtain ⟨k, _, rfl⟩ := List.mem_map.1 hq
  simp [h]
theorem rise_pair {X : List Ld} (h : RtLd X) : X.Pairwise (fun a b => a.id < b.id) := by
  rw [List.pairwise_iff_getElem]
  intro i j hi hj hij
  have := h.rise hij hj
  simpa [hi, hj] using this
theorem ahead_size {x : Ld} {o led : Nat} (h : x.id = led) (hs : x.size o ≤ 18446744073709551615) : x.ahead o ⟨led, 18446744073709551615⟩ - x.ahead o ⟨led, 0⟩ = x.size o := by
  unfold Ld.ahead
  simp only [h, Nat.lt_irrefl, if_false, if_true]
  omega
theorem ahead_off {x : Ld} {o led : Nat} (h : x.id ≠ led) : x.ahead o ⟨led, 18446744073709551615⟩ - x.ahead o ⟨led, 0⟩ = 0 := by
  unfold Ld.ahead
  simp only
  split
  · omega
  · first | omega | (rw [if_neg h]; omega)
theorem btw_zero {X : List Ld} {o : Nat} {a b : Ps} (h : ∀ x ∈ X, x.ahead o b - x.ahead o a = 0) : btw X o a b = 0 := by
  induction X with
  | nil => rfl
  | cons x X ih => rw [btw_cons, h x (by simp), ih (fun y hy => h y (by simp [hy]))]
theorem there_below' {X : List Ld} {o led : Nat} {R : List Rg} (hp : X.Pairwise (fun a b => a.id < b.id)) (hs : ∀ x ∈ X, x.size o ≤ 18446744073709551615) : thereN X o (led, R) = below R (sizeL X o led) := by
  induction X with
  | nil => rfl
  | cons x X ih =>
    obtain ⟨h1, h2⟩ := List.pairwise_cons.1 hp
    have ih := ih h2 (fun y hy => hs y (by simp [hy]))
    have e1 : thereN (x :: X) o (led, R) = ((List.range (x.size o)).map (fun k => (⟨x.id, k⟩ : Ps))).countP (fun q => decide (q.l = led ∧ Mem R q.e)) + thereN X o (led, R) := by
      unfold thereN
      rw [allP_cons, List.countP_append]
    have e2 : sizeL (x :: X) o led = (x.ahead o ⟨led, 18446744073709551615⟩ - x.ahead o ⟨led, 0⟩) + sizeL X o led := rfl
    rw [e1, e2]
    by_cases h : x.id = led
    · have z1 : thereN X o (led, R) = 0 := by
        unfold thereN
        rw [List.countP_eq_zero]
        intro q hq
        obtain ⟨k, hk, hl, _⟩ := mem_allP.1 hq
        have := h1 (X.getD k default) (by simp [hk])
        simp only [decide_eq_true_iff]
        omega
      have z2 : sizeL X o led = 0 := by
        exact btw_zero (fun y hy => by
          have := h1 y hy
          exact ahead_off (by omega))
      rw [z1, z2, ahead_size h (hs x (by simp)), ← h, count_one]
      rfl
    · rw [count_off h, ahead_off h, ih, Nat.zero_add, Nat.zero_add]
theorem there_below {X : List Ld} {o led : Nat} {R : List Rg} (hX : RtLd X) (hf : ∀ x ∈ X, x.fits) (ho : o < 18446744073709551616) : thereN X o (led, R) = below R (sizeL X o led) := there_below' (rise_pair hX) (fun x hx => by have := Ld.size_lt (hf x hx) ho; omega)
theorem there_cnt {X : List Ld} {o led : Nat} {R out : List Rg} (hX : RtLd X) (hf : ∀ x ∈ X, x.fits) (ho : o < 18446744073709551616) (hb : ∀ p ∈ R, p.2 < 18446744073709551616) (hr : Rt out) (hm : ∀ n, Mem out n ↔ Mem R n ∧ ¬ (sizeL X o led ≤ n ∧ n < 18446744073709551615)) : cnt out = thereN X o (led, R) := by
  rw [there_below hX hf ho]
  have hm2 : ∀ n, Mem out n ↔ Mem R n ∧ n < sizeL X o led := fun n => by
    rw [hm]
    refine ⟨fun h => ⟨h.1, ?_⟩, fun h => ⟨h.1, by omega⟩⟩
    obtain ⟨p, hp, h1, h2⟩ := h.1
    have h3 := hb p hp
    have h4 := h.2
    omega
  rw [cnt_below hr (N := sizeL X o led)]
  · exact below_eq (fun n hn => by rw [hm2]; exact ⟨fun h => h.1, fun h => ⟨h, hn⟩⟩)
  · intro p hp
    have h1 := hr.1 p hp
    have h2 := (hm2 (p.2 - 1)).1 ⟨p, hp, by omega, by omega⟩
    omega
set_option maxHeartbeats 4000000 in
theorem cqthere_any (al : Option Addr) (nl cl : Nat) (X : List Ld) (o : Nat) (led : Nat) (ra : Option Addr) (rn rc : Nat) (rs : List Rg) (w : World) (hx : LdL w [] al X) (hnl : nl = X.length) (hszl : nl < 4611686018427387904) (ho : o < 18446744073709551616) (hfx : ∀ x ∈ X, x.fits) (hX : RtLd X) (ht : tot X o ≤ 100000) (h : Rr w ra rs) (hr : Rt rs) (hn : rn = rs.length) (hsz : rn ≤ 1000) (hc : CapOk ra rn rc) :
    Calls Try.prog 50 #[.slice al nl cl, .int .u64 (o : Nat), .agg #[.int .u64 (led : Nat), .slice ra rn rc]] w (LRet w (.int .u64 (thereN X o (led, rs) : Nat))) := by
  obtain ⟨w1, hw1⟩ : ∃ w1, w1 = w.alloc (.cells #[.int .u64 (led : Nat), .slice ra rn rc] 55) := ⟨_, rfl⟩
  obtain ⟨g, hg⟩ : ∃ g, g = w.heap.size := ⟨_, rfl⟩
  have F1 : Hid (Frm [] w w1) := Lib.hid (by rw [hw1]; exact (Frm.refl _ _).alloc _)
  have B1 : Hid (Whole w1 g 55 #[.int .u64 (led : Nat), .slice ra rn rc]) := Lib.hid (by rw [hw1, hg]; exact Whole.made _ _ _)
  have SZ : sizeL X o led ≤ 100000 := Nat.le_trans (btw_le_tot X o _ _) ht
  have BTW := Lib.hid (fun z (hz : Frm [] w z) => ldbetween_any al nl cl X o ⟨led, 0⟩ ⟨led, 18446744073709551615⟩ z (hx.sub hz) hnl hszl (by omega))
  have ES : Hid (btw X o ⟨led, 0⟩ ⟨led, 18446744073709551615⟩ = sizeL X o led) := Lib.hid rfl
  have REM := Lib.hid (fun z (hz : Frm [] w z) => (remove_some (cap := rc) (r1 := sizeL X o led) (r2 := 18446744073709551615) (h.keep0 hz) hr hn hc.2.1 hc.2.2 hc.1 hsz (by omega) (by omega)).mono fun e w' hg => hg.x)
  have TC := Lib.hid (fun out (h1 : Rt out) (h2 : ∀ n, Mem out n ↔ Mem rs n ∧ ¬ (sizeL X o led ≤ n ∧ n < 18446744073709551615)) => there_cnt (X := X) (o := o) (led := led) hX hfx ho (fun p hp => (h.1 p hp).2) h1 h2)
  clear hx hnl h hr hn hc hX hfx ho ht
  rw [ES.out] at BTW
  clear ES
  obtain ⟨S, hS⟩ : ∃ S, S = sizeL X o led := ⟨_, rfl⟩
  obtain ⟨TN, hTN⟩ : ∃ TN, TN = thereN X o (led, rs) := ⟨_, rfl⟩
  rw [← hS] at BTW REM TC SZ
  rw [← hTN] at TC ⊢
  clear hS hTN
  unfold LRet Ps.val at BTW
  simp only at BTW
  have BTW : Hid (∀ z, Frm [] w z → Calls Try.prog 49 #[.slice al nl cl, .int .u64 (o : Nat), .agg #[.int .u64 (led : Nat), .int .u64 0], .agg #[.int .u64 (led : Nat), .int .u64 18446744073709551615]] z fun e w' => e = .returned (.int .u64 (S : Nat)) ∧ Frm [] z w') := Lib.hid (fun z hz => BTW.out z hz)
  have REM : Hid (∀ z, Frm [] w z → Calls Try.prog 77 #[.slice ra rn rc, .agg #[.int .u64 (S : Nat), .int .u64 18446744073709551615]] z (GotX z (fun x => Mem rs x ∧ ¬ (S ≤ x ∧ x < 18446744073709551615)) (rn + 1))) := Lib.hid (fun z hz => REM.out z hz)
  have c0 := B1.out.cell 0
  simp only [List.getElem?_toArray, List.getElem?_cons_zero] at c0
  go_enter Try.func50, Try.ntmps50
  go_wp2_with fail
  rw [← hw1, ← hg]
  have HW1 := Lib.hid hw1; clear hw1
  have HG := Lib.hid hg; clear hg
  (with_reducible refine (BTW.out _ F1.out).mono ?_)
  rintro e w2 ⟨rfl, hf2⟩
  have F2 := Lib.hid hf2
  have c1 := (hf2.whole B1.out (by simp)).cell 1
  simp only [List.getElem?_toArray, List.getElem?_cons_zero, List.getElem?_cons_succ] at c1
  have RX := Lib.hid (REM.out w2 (F1.out.trans hf2 (by simp) (by simp)))
  clear hf2 c0
  go_wp2_with fail
  (with_reducible refine RX.out.mono ?_)
  rintro e w3 ⟨ao, ko, co, out, rfl, KO, OO, SO, FO⟩
  have CNT := Lib.hid (count_any (cap := co) OO.out.1 SO.out.1 KO.out (by have h1 := SO.out.2.2; have h2 := KO.out; omega))
  have EQ := TC.out out SO.out.1 SO.out.2.1
  rw [EQ] at CNT
  clear EQ c1
  go_wp2_with fail
  (with_reducible refine CNT.out.mono ?_)
  rintro e w4 ⟨rfl, hf4⟩
  have FX : Hid (Frm [] w w4) := Lib.hid (F1.out.trans (F2.out.trans (FO.out.trans hf4 (U := []) (by simp) (by simp)) (U := []) (by simp) (by simp)) (by simp) (by simp))
  clear hf4
  go_wp2
  go_ret
  exact ⟨rfl, FX.out⟩
end Go.Proofs.Ytghadpihmhaepaa
