/- Contract of Begin. -/
import Derived.Test.YtahhkffghhgojaaDoorZDdCl
import Derived.Test.YtahhkffghhgojaaDoorZDdMath
namespace Go.Proofs.YtahhkffghhgojaaDoor
open Go.RowKit
set_option maxRecDepth 100000

set_option maxHeartbeats 4000000 in
theorem dbeg_any {w : World} {g : Nat} {m : Option Nat} {X : List Ln} (h : Dd w g m X) (ok : TbOk X) (s : ByteArray) (q : Nat) (hs : s.size ≤ 1000000) (hq : q < 18446744073709551616) :
    Calls Tryd.prog 9 #[.pointer (some ⟨g, 0, none⟩), .string s, .int .u64 (q : Nat)] w fun e w' => e = .returned (.int .i64 (begC X s q : Nat)) ∧ DdTo w w' g m (begX X s q) := by
  have hlt := h.tab.lt
  have hmm := h.map
  have c0 := h.tab.cell 0
  simp at c0
  have hn := ok.few
  have hmaxs : s.size ≤ maxLen := by unfold maxLen; omega
  have hlv := lnOf_val X s
  have hfit := lnOf_fits ok.fits s
  have hsz : (lnOf X s).nm.size ≤ maxLen := lnOf_size (k := maxLen) (fun x hx => by have := (ok.size x hx).2; unfold maxLen; omega) s
  have hC := begC_ln X s q
  have hE : begC X s q ≠ 0 → begX X s q = X := begX_err
  have hH : begC X s q = 0 → hasL X s = true → begX X s q = putL X ((lnOf X s).wtop q) := fun h0 h1 => begX_has ok.dist h0 h1
  have hN : begC X s q = 0 → hasL X s = false → begX X s q = putL X ⟨s, q, 0, 0, 0⟩ := fun h0 h1 => begX_not h0 h1
  have hnz : hasL X s = false → lnOf X s = ⟨⟨#[]⟩, 0, 0, 0, 0⟩ := fun h => lnOf_not h
  have hput := fun (x : Ln) (h1 : x.nm.size ≤ maxLen) (h2 : x.fits) (W : World) (hf : Frm [] w W) => dput_any (h.keep hf (by simp) (by simp)) x h1 h2 (by omega)
  have HM := Lib.hid hmm
  have HH := Lib.hid h
  have hmx := Lib.hid hmaxs
  obtain ⟨n, hnn⟩ : ∃ n, n = X.length := ⟨_, rfl⟩
  rw [← hnn] at hn hC
  have HNN := Lib.hid hnn
  have hlen : ∀ (W : World) (ty : TypeId), Frm [] w W → (Builtin.len_ #[62] ty #[.map m]).run Tryd.prog W = .ok (.int .i64 (n : Nat)) W := fun W ty hf => by rw [hnn]; exact (hmm.keep hf (by simp)).len undDd ty
  have hhb : (lookL X s).isSome = hasL X s := rfl
  obtain ⟨x, hx⟩ : ∃ x, x = lnOf X s := ⟨_, rfl⟩
  obtain ⟨b, hb⟩ : ∃ b, b = hasL X s := ⟨_, rfl⟩
  obtain ⟨c, hc⟩ : ∃ c, c = begC X s q := ⟨_, rfl⟩
  obtain ⟨Y, hY⟩ : ∃ Y, Y = begX X s q := ⟨_, rfl⟩
  rw [← hx, ← hb, ← hc] at hC
  rw [← hx] at hlv hsz hfit hH hnz
  rw [← hb] at hhb hH hN hnz
  rw [← hc] at hE hH hN
  rw [← hY] at hE hH hN
  rw [← hc, ← hY]
  obtain ⟨xn, xt, xd, xl, xe⟩ := x
  simp only [Ln.val] at hlv hC hsz
  have HLV := Lib.hid hlv
  have HHB := Lib.hid hhb
  have HE := Lib.hid hE
  have HHH := Lib.hid hH
  have HN := Lib.hid hN
  have HNZ := Lib.hid hnz
  have HPUT := Lib.hid hput
  have HLEN := Lib.hid hlen
  have HFIT := Lib.hid hfit
  have HSZ := Lib.hid hsz
  have HC := Lib.hid hC
  have HCL := Lib.hid dclone_any
  have HQ := Lib.hid hq
  have HS := Lib.hid hs
  clear hlv hhb hE hH hN hnz hput hlen hfit hsz hC hx hb hc hY hnn hmm h ok hmaxs hq hs
  by_cases h1 : s.size < 1 ∨ 64 < s.size
  · have hc := HC.out
    rw [if_pos h1] at hc
    subst hc
    rw [HE.out (by decide)]
    by_cases h2 : s.size < 1
    · have h3 : ((s.size : Int) == 0) = true := by rw [beq_iff_eq]; omega
      go_enter Tryd.func9, Tryd.ntmps9
      go_wp2_with (first
        | (at_lookup; refine wpList_lookS _ rfl _ _ 62 56 rfl keyKS undDd (zeroDd _) m X.length X rfl HM.out s hmx.out rfl ?_; rw [HLV.out, HHB.out])
        | go_in)
      go_ret
      exact ⟨rfl, HH.out.same ((Frm.refl _ _).alloc _)⟩
    · have h3 : ((s.size : Int) == 0) = false := by rw [beq_eq_false_iff_ne]; omega
      have h4 : 64 < s.size := by omega
      go_enter Tryd.func9, Tryd.ntmps9
      go_wp2_with (first
        | (at_lookup; refine wpList_lookS _ rfl _ _ 62 56 rfl keyKS undDd (zeroDd _) m X.length X rfl HM.out s hmx.out rfl ?_; rw [HLV.out, HHB.out])
        | go_in)
      go_ret
      exact ⟨rfl, HH.out.same ((Frm.refl _ _).alloc _)⟩
  · have h3 : ((s.size : Int) == 0) = false := by rw [beq_eq_false_iff_ne]; omega
    have h4 : ¬ 64 < s.size := by omega
    have hc := HC.out
    rw [if_neg h1] at hc
    clear h1
    by_cases h5 : q = 0
    · rw [if_pos h5] at hc
      subst hc
      rw [HE.out (by decide)]
      subst h5
      go_enter Tryd.func9, Tryd.ntmps9
      go_wp2_with (first
        | (at_lookup; refine wpList_lookS _ rfl _ _ 62 56 rfl keyKS undDd (zeroDd _) m X.length X rfl HM.out s hmx.out rfl ?_; rw [HLV.out, HHB.out])
        | go_in)
      go_ret
      exact ⟨rfl, HH.out.same ((Frm.refl _ _).alloc _)⟩
    · rw [if_neg h5] at hc
      have h5' : ((q : Int) == 0) = false := by rw [beq_eq_false_iff_ne]; omega
      by_cases h6 : q ≤ xd
      · rw [if_pos h6] at hc
        subst hc
        rw [HE.out (by decide)]
        go_enter Tryd.func9, Tryd.ntmps9
        go_wp2_with (first
          | (at_lookup; refine wpList_lookS _ rfl _ _ 62 56 rfl keyKS undDd (zeroDd _) m X.length X rfl HM.out s hmx.out rfl ?_; rw [HLV.out, HHB.out])
          | go_in)
        go_ret
        exact ⟨rfl, HH.out.same ((Frm.refl _ _).alloc _)⟩
      · rw [if_neg h6] at hc
        by_cases h7 : q ≤ xt
        · rw [if_pos h7] at hc
          subst hc
          rw [HE.out (by decide)]
          go_enter Tryd.func9, Tryd.ntmps9
          go_wp2_with (first
            | (at_lookup; refine wpList_lookS _ rfl _ _ 62 56 rfl keyKS undDd (zeroDd _) m X.length X rfl HM.out s hmx.out rfl ?_; rw [HLV.out, HHB.out])
            | go_in)
          go_ret
          exact ⟨rfl, HH.out.same ((Frm.refl _ _).alloc _)⟩
        · rw [if_neg h7] at hc
          cases b with
          | true =>
            rw [if_neg (by simp)] at hc
            subst hc
            have hY := HHH.out rfl rfl
            have HYY := Lib.hid hY
            have HP : Hid (∀ W : World, Frm [] w W → Calls Tryd.prog 23 #[.pointer (some ⟨g, 0, none⟩), .agg #[.string xn, .int .u64 (q : Nat), .int .u64 (xd : Nat), .int .u64 (xl : Nat), .int .u64 (xe : Nat)]] W fun e w' => e = .returned (.tuple #[]) ∧ DdTo W w' g m (putL X ⟨xn, q, xd, xl, xe⟩)) := Lib.hid (fun W hf => HPUT.out ⟨xn, q, xd, xl, xe⟩ HSZ.out ⟨HQ.out, HFIT.out.2⟩ W hf)
            have HS2 : Hid (s.size ≤ 281474976710656) := Lib.hid (by have := HS.out; omega)
            clear hY
            go_enter Tryd.func9, Tryd.ntmps9
            go_wp2_with (at_lookup; refine wpList_lookS _ rfl _ _ 62 56 rfl keyKS undDd (zeroDd _) m X.length X rfl HM.out s hmx.out rfl ?_; rw [HLV.out, HHB.out])
            (with_reducible refine (HP.out _ ?hf).mono ?_)
            case hf => exact (Frm.refl _ _).alloc _
            rintro e w3 ⟨rfl, hd⟩
            have HD := Lib.hid hd
            clear hd
            go_wp2
            go_ret
            exact ⟨rfl, by rw [HYY.out]; exact HD.out.from' ((Frm.refl _ _).alloc _)⟩
          | false =>
            have hz := HNZ.out rfl
            simp only [Ln.mk.injEq] at hz
            obtain ⟨rfl, rfl, rfl, rfl, rfl⟩ := hz
            by_cases h8 : n = 16
            · rw [if_pos ⟨rfl, h8⟩] at hc
              subst hc
              rw [HE.out (by decide)]
              subst h8
              have hl := fun ty cs => HLEN.out (w.alloc (.cells cs 56)) ty ((Frm.refl _ _).alloc _)
              go_enter Tryd.func9, Tryd.ntmps9
              go_wp2_with (first
                | (at_lookup; refine wpList_lookS _ rfl _ _ 62 56 rfl keyKS undDd (zeroDd _) m X.length X rfl HM.out s hmx.out rfl ?_; rw [HLV.out, HHB.out])
                | go_in)
              go_ret
              exact ⟨rfl, HH.out.same ((Frm.refl _ _).alloc _)⟩
            · rw [if_neg (fun h => h8 h.2)] at hc
              subst hc
              have hY := HN.out rfl rfl
              have HYY := Lib.hid hY
              have h9 : ¬ 16 ≤ n := by omega
              have hl := fun ty cs => HLEN.out (w.alloc (.cells cs 56)) ty ((Frm.refl _ _).alloc _)
              have HP : Hid (∀ W : World, Frm [] w W → Calls Tryd.prog 23 #[.pointer (some ⟨g, 0, none⟩), .agg #[.string s, .int .u64 (q : Nat), .int .u64 0, .int .u64 0, .int .u64 0]] W fun e w' => e = .returned (.tuple #[]) ∧ DdTo W w' g m (putL X ⟨s, q, 0, 0, 0⟩)) := Lib.hid (fun W hf => HPUT.out ⟨s, q, 0, 0, 0⟩ hmx.out ⟨HQ.out, by show (0 : Nat) < _; decide, by show (0 : Nat) < _; decide, by show (0 : Nat) < _; decide⟩ W hf)
              have HS2 : Hid (s.size ≤ 281474976710656) := Lib.hid (by have := HS.out; omega)
              clear hY h8
              go_enter Tryd.func9, Tryd.ntmps9
              go_wp2_with (at_lookup; refine wpList_lookS _ rfl _ _ 62 56 rfl keyKS undDd (zeroDd _) m X.length X rfl HM.out s hmx.out rfl ?_; rw [HLV.out, HHB.out])
              (with_reducible refine (HCL.out s _ HS2.out).mono ?_)
              rintro e w2 ⟨rfl, hf2⟩
              have HF2 : Hid (Frm [] w w2) := Lib.hid (Frm.trans (S := []) ((Frm.refl _ _).alloc _) hf2 (by simp) (by simp))
              have HW2 := Lib.hid (hf2.whole (Whole.made w 56 #[.string ⟨#[]⟩, .int .u64 0, .int .u64 0, .int .u64 0, .int .u64 0]) (by simp))
              clear hf2
              have e0 := HW2.out.cell 0
              have e1 := HW2.out.cell 1
              have e2 := HW2.out.cell 2
              have e3 := HW2.out.cell 3
              have e4 := HW2.out.cell 4
              simp at e0 e1 e2 e3 e4
              have g0 := HW2.out.free 0
              have g1 := HW2.out.free 1
              go_wp2_with (fail)
              (with_reducible refine (HP.out _ ?hf).mono ?_)
              case hf => exact (HF2.out.setCell (.inr (by simp)) _).setCell (.inr (by simp)) _
              rintro e w3 ⟨rfl, hd⟩
              have HD := Lib.hid hd
              clear hd
              go_wp2
              go_ret
              exact ⟨rfl, by rw [HYY.out]; exact HD.out.from' ((HF2.out.setCell (.inr (by simp)) _).setCell (.inr (by simp)) _)⟩
end Go.Proofs.YtahhkffghhgojaaDoor
