/- Contract of Done. -/
import Derived.Test.YtahhkffghhgojaaDoorZDdCl
import Derived.Test.YtahhkffghhgojaaDoorZDdMath
import Derived.RegionTactic
namespace Go.Proofs.YtahhkffghhgojaaDoor
open Go.RowKit
set_option maxRecDepth 100000

set_option maxHeartbeats 4000000 in
theorem ddon_any {w : World} {g : Nat} {m : Option Nat} {X : List Ln} (h : Dd w g m X) (ok : TbOk X) (s : ByteArray) (q pl pe : Nat) (hs : s.size ≤ 1000000) (hq : q < 18446744073709551616) (hpl : pl < 18446744073709551616) (hpe : pe < 18446744073709551616) :
    Calls Tryd.prog 10 #[.pointer (some ⟨g, 0, none⟩), .string s, .int .u64 (q : Nat), .agg #[.int .u64 (pl : Nat), .int .u64 (pe : Nat)]] w fun e w' => e = .returned (.int .i64 (donC X s q : Nat)) ∧ DdTo w w' g m (donX X s q pl pe) := by
  have hlt := h.tab.lt
  have hmm := h.map
  have c0 := h.tab.cell 0
  simp at c0
  have hn := ok.few
  have hmaxs : s.size ≤ maxLen := by unfold maxLen; omega
  have hlv := lnOf_val X s
  have hfit := lnOf_fits ok.fits s
  have hsz : (lnOf X s).nm.size ≤ maxLen := lnOf_size (k := maxLen) (fun x hx => by have := (ok.size x hx).2; unfold maxLen; omega) s
  have hC := donC_ln X s q
  have hE : donC X s q ≠ 0 → donX X s q pl pe = X := donX_err
  have hH : donC X s q = 0 → donX X s q pl pe = putL X ((lnOf X s).wdone q pl pe) := fun h0 => donX_zero ok.dist h0
  have hput := fun (x : Ln) (h1 : x.nm.size ≤ maxLen) (h2 : x.fits) (W : World) (hf : Frm [] w W) => dput_any (h.keep hf (by simp) (by simp)) x h1 h2 (by omega)
  have HM := Lib.hid hmm
  have HM1 : Hid (MapSl Tryd.prog KS (w.alloc (.cells #[.int .u64 (pl : Nat), .int .u64 (pe : Nat)] 29)) m X.length X) := Lib.hid (hmm.keep (S := []) ((Frm.refl _ _).alloc _) (by simp))
  have HH := Lib.hid h
  have hmx := Lib.hid hmaxs
  have hhb : (lookL X s).isSome = hasL X s := rfl
  obtain ⟨x, hx⟩ : ∃ x, x = lnOf X s := ⟨_, rfl⟩
  obtain ⟨b, hb⟩ : ∃ b, b = hasL X s := ⟨_, rfl⟩
  obtain ⟨c, hc⟩ : ∃ c, c = donC X s q := ⟨_, rfl⟩
  obtain ⟨Y, hY⟩ : ∃ Y, Y = donX X s q pl pe := ⟨_, rfl⟩
  rw [← hx, ← hb, ← hc] at hC
  rw [← hx] at hlv hsz hfit hH
  rw [← hb] at hhb
  rw [← hc] at hE hH
  rw [← hY] at hE hH
  rw [← hc, ← hY]
  obtain ⟨xn, xt, xd, xl, xe⟩ := x
  simp only [Ln.val] at hlv hC hsz
  have HLV := Lib.hid hlv
  have HHB := Lib.hid hhb
  have HE := Lib.hid hE
  have HHH := Lib.hid hH
  have HPUT := Lib.hid hput
  have HFIT := Lib.hid hfit
  have HSZ := Lib.hid hsz
  have HC := Lib.hid hC
  have HQ := Lib.hid (⟨hq, hpl, hpe⟩ : q < 18446744073709551616 ∧ pl < 18446744073709551616 ∧ pe < 18446744073709551616)
  have HS := Lib.hid hs
  clear hlv hhb hE hH hput hfit hsz hC hx hb hc hY hmm h ok hmaxs hq hs hpl hpe
  cases b with
  | false =>
    have hc := HC.out
    rw [if_pos (.inl rfl)] at hc
    subst hc
    rw [HE.out (by decide)]
    go_enter Tryd.func10, Tryd.ntmps10
    go_wp2_with (at_lookup; refine wpList_lookS _ rfl _ _ 62 56 rfl keyKS undDd (zeroDd _) m X.length X rfl HM1.out s hmx.out rfl ?_; rw [HLV.out, HHB.out])
    go_ret
    exact ⟨rfl, HH.out.same (((Frm.refl _ _).alloc _).alloc _)⟩
  | true =>
    have hc := HC.out
    by_cases h1 : xt < q
    · rw [if_pos (.inr h1)] at hc
      subst hc
      rw [HE.out (by decide)]
      go_enter Tryd.func10, Tryd.ntmps10
      go_wp2_with (at_lookup; refine wpList_lookS _ rfl _ _ 62 56 rfl keyKS undDd (zeroDd _) m X.length X rfl HM1.out s hmx.out rfl ?_; rw [HLV.out, HHB.out])
      go_ret
      exact ⟨rfl, HH.out.same (((Frm.refl _ _).alloc _).alloc _)⟩
    · rw [if_neg (by simp; omega)] at hc
      by_cases h2 : q ≤ xd
      · rw [if_pos h2] at hc
        subst hc
        rw [HE.out (by decide)]
        go_enter Tryd.func10, Tryd.ntmps10
        go_wp2_with (at_lookup; refine wpList_lookS _ rfl _ _ 62 56 rfl keyKS undDd (zeroDd _) m X.length X rfl HM1.out s hmx.out rfl ?_; rw [HLV.out, HHB.out])
        go_ret
        exact ⟨rfl, HH.out.same (((Frm.refl _ _).alloc _).alloc _)⟩
      · rw [if_neg h2] at hc
        subst hc
        have hY := HHH.out rfl
        have HYY := Lib.hid hY
        clear hY
        have HP : Hid (∀ W : World, Frm [] w W → Calls Tryd.prog 23 #[.pointer (some ⟨g, 0, none⟩), .agg #[.string xn, .int .u64 (xt : Nat), .int .u64 (q : Nat), .int .u64 (pl : Nat), .int .u64 (pe : Nat)]] W fun e w' => e = .returned (.tuple #[]) ∧ DdTo W w' g m (putL X ⟨xn, xt, q, pl, pe⟩)) := Lib.hid (fun W hf => HPUT.out ⟨xn, xt, q, pl, pe⟩ HSZ.out ⟨HFIT.out.1, HQ.out⟩ W hf)
        go_enter Tryd.func10, Tryd.ntmps10
        go_wp2_with (at_lookup; refine wpList_lookS _ rfl _ _ 62 56 rfl keyKS undDd (zeroDd _) m X.length X rfl HM1.out s hmx.out rfl ?_; rw [HLV.out, HHB.out])
        obtain ⟨w1, hw1⟩ : ∃ w1, w1 = (w.alloc (.cells #[.int .u64 (pl : Nat), .int .u64 (pe : Nat)] 29)).alloc (.cells #[.string xn, .int .u64 (xt : Nat), .int .u64 (xd : Nat), .int .u64 (xl : Nat), .int .u64 (xe : Nat)] 56) := ⟨_, rfl⟩
        have hf1 : Frm [] w w1 := by rw [hw1]; exact ((Frm.refl _ _).alloc _).alloc _
        have t1 : Whole w1 w.heap.size 29 #[.int .u64 (pl : Nat), .int .u64 (pe : Nat)] := by rw [hw1]; exact (Whole.made _ _ _).alloc _
        have t2 : Whole w1 (w.heap.size + 1) 56 #[.string xn, .int .u64 (xt : Nat), .int .u64 (xd : Nat), .int .u64 (xl : Nat), .int .u64 (xe : Nat)] := by
          rw [hw1]
          have h := Whole.made (w.alloc (.cells #[.int .u64 (pl : Nat), .int .u64 (pe : Nat)] 29)) 56 #[.string xn, .int .u64 (xt : Nat), .int .u64 (xd : Nat), .int .u64 (xl : Nat), .int .u64 (xe : Nat)]
          simpa using h
        rw [← hw1]
        have HF1 := Lib.hid hf1
        obtain ⟨g1, hg1⟩ : ∃ g1, g1 = w.heap.size := ⟨_, rfl⟩
        rw [← hg1] at t1 t2 ⊢
        have hne : g1 ≠ g1 + 1 := by omega
        have HG1 : Hid (w.heap.size ≤ g1) := Lib.hid (Nat.le_of_eq hg1.symm)
        have a0 := t1.cell 0
        have a1 := t1.cell 1
        have b0 := t2.cell 0
        have b1 := t2.cell 1
        have b2 := t2.cell 2
        have b3 := t2.cell 3
        have b4 := t2.cell 4
        simp at a0 a1 b0 b1 b2 b3 b4
        have k2 := t2.free 2
        have k3 := t2.free 3
        have k4 := t2.free 4
        clear hw1 hf1 t1 t2 hg1 c0 hlt
        go_region
        all_goals go_wp2_with (fail)
        (with_reducible refine (HP.out _ ?hf).mono ?_)
        case hf => exact (((HF1.out.setCell (.inr (Nat.le_succ_of_le HG1.out)) _).setCell (.inr (Nat.le_succ_of_le HG1.out)) _).setCell (.inr (Nat.le_succ_of_le HG1.out)) _).drew
        rintro e w3 ⟨rfl, hd⟩
        have HD := Lib.hid hd
        clear hd
        go_wp2
        go_ret
        exact ⟨rfl, by rw [HYY.out]; exact HD.out.from' (((HF1.out.setCell (.inr (Nat.le_succ_of_le HG1.out)) _).setCell (.inr (Nat.le_succ_of_le HG1.out)) _).setCell (.inr (Nat.le_succ_of_le HG1.out)) _).drew⟩
end Go.Proofs.YtahhkffghhgojaaDoor
