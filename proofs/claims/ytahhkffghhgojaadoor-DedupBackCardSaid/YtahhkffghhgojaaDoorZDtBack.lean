/- (For a door seat.) The walk of DedupBack. -/
import Derived.Test.YtahhkffghhgojaaDoorZDtBackM
import Derived.Test.YtahhkffghhgojaaDoorZDaFew
import Derived.Test.YtahhkffghhgojaaDoorZInDa
import Derived.Test.YtahhkffghhgojaaDoorZTbSame
import Derived.Deep.DeepCutAuto
namespace Go.Proofs.YtahhkffghhgojaaDoor
open Go.RowKit
set_option maxRecDepth 100000

set_option linter.unusedVariables false in
set_option maxHeartbeats 32000000 in
theorem dedupBack_walk (a : Option Addr) (n cap : Nat) (ts : List Da) (w : World) (hT : Tabs w) (h : Das w a ts) (hn : n = ts.length) (h63 : n ≤ 9223372036854775807) :
    Calls Tryd.prog 5 #[.slice a n cap] w fun e w' => e = .returned (.bool true) ∧ Below w.heap.size w w' := by
  obtain ⟨V, hV⟩ := exVV
  have HV := Lib.hid hV
  have TB := Lib.hid hT
  have H := Lib.hid h
  have HN := Lib.hid hn
  clear hV hT h hn
  go_enter Tryd.func5, Tryd.ntmps5
  go_wp2_with (first
    | ((with_reducible refine (awake15_any _).mono ?_); rintro e w1 ⟨rfl, hf1⟩; have F1 := Lib.hid hf1; clear hf1)
    | ((with_reducible refine (dnew_any _).mono ?_); rintro e w' ⟨rfl, rfl⟩))
  have HNEW := Lib.hid (DdB.new w1)
  obtain ⟨g, hg⟩ : ∃ g, g = w1.heap.size := ⟨_, rfl⟩
  obtain ⟨w0, hw0⟩ : ∃ w0, w0 = w1.alloc (.cells #[.map none] 64) := ⟨_, rfl⟩
  have HB : Hid (w.heap.size ≤ g) := Lib.hid (by rw [hg]; exact F1.out.size)
  have F0 : Hid (Frm [] w w0) := Lib.hid (by rw [hw0]; exact F1.out.alloc _)
  rw [← hg, ← hw0] at HNEW
  rw [← hg, ← hw0]
  clear hg hw0 F1
  go_loopw [13] (fun u wr => ∃ (k : Nat) (X : List Ln), k ≤ n ∧ u = .int .i64 (k : Nat) ∧ Hid (DdB g wr g X) ∧ Hid (Frm [] w wr ∧ Asc X)) (fun u _ => n - (intOf u).toNat)
  case atStart => exact ⟨0, [], Nat.zero_le _, rfl, HNEW, Lib.hid ⟨F0.out, Asc.nil⟩⟩
  case round =>
    obtain ⟨k, X, hk, rfl, HD, HFA⟩ := hrel
    have HF := Lib.hid HFA.out.1
    have HA := Lib.hid HFA.out.2
    clear HFA
    by_cases hlt : k < n
    ·
      obtain ⟨b, off, rfl, hin⟩ := H.out (by have := HN.out; omega)
      have hin0 := (hin k (by have := HN.out; omega))
      have hin2 := hin0.keep HF.out
      generalize ts.getD k default = t at hin2
      obtain ⟨tk, nm, seq, al, ae, raw⟩ := t
      obtain ⟨d0, d1, d2, d3, d4, d5, ok⟩ := hin2
      simp only at d0 d1 d2 d3 d4 d5
      have OK := Lib.hid ok
      obtain ⟨y, hy⟩ : ∃ y, y = wr.heap.size := ⟨_, rfl⟩
      obtain ⟨w2, hw2⟩ : ∃ w2, w2 = wr.alloc (.cells #[.int .u8 (tk : Nat), .string nm, .int .u64 (seq : Nat), .int .u64 (al : Nat), .int .u64 (ae : Nat), .bool raw] 31) := ⟨_, rfl⟩
      have hf2 : Frm [] wr w2 := by rw [hw2]; exact (Frm.refl _ _).alloc _
      have B2 : Hid (Whole w2 y 31 #[.int .u8 (tk : Nat), .string nm, .int .u64 (seq : Nat), .int .u64 (al : Nat), .int .u64 (ae : Nat), .bool raw]) := Lib.hid (by rw [hw2, hy]; exact Whole.made _ _ _)
      have T2 := Lib.hid (HD.out.keep0 hf2)
      have YL : Hid (wr.heap.size ≤ y) := Lib.hid (by rw [hy]; exact Nat.le_refl _)
      have GY : Hid (g ≠ y) := Lib.hid (by have h1 := HD.out.lt; omega)
      have F2 : Hid (Frm [] w w2) := Lib.hid (HF.out.trans hf2 (by simp) (by simp))
      have hnm63 : nm.size ≤ 9223372036854775807 := ok.nm_le
      have HFEW := Lib.hid (few_any ⟨tk, nm, seq, al, ae, raw⟩ w2 (OK.out.keep hf2))
      have HF12 := Lib.hid hf2
      have HW2 := Lib.hid hw2
      have HY := Lib.hid hy
      clear hin hin0 ok hw2 hy hf2
      by_cases hbrk : 100 ≤ k ∨ 64 < nm.size
      · have hb' : 100 ≤ k ∨ (¬ 100 ≤ k ∧ 64 < nm.size) := by omega
        have HFE := Lib.hid F2.out
        have HTE := Lib.hid T2.out
        rw [HW2.out] at HFE HTE
        clear hbrk
        rcases hb' with h1 | ⟨h1, h2⟩
        all_goals
          go_wp2
          go_roundw
          case rel => exact ⟨k + 1, X, by omega, by go_num, HTE, Lib.hid ⟨HFE.out, HA.out⟩⟩
          case measure => simp [intOf]; omega
      have h1 : ¬ 100 ≤ k := by omega
      have h1' : k < 100 := by omega
      have h2 : ¬ 64 < nm.size := by omega
      have h2' : nm.size ≤ 64 := by omega
      have H2 := Lib.hid h2
      clear hbrk
      unfold Da.value at HFEW
      simp only at HFEW
      go_wp2_with fail
      rw [← HW2.out, ← HY.out]
      (with_reducible refine HFEW.out.mono ?_)
      rintro e w3 ⟨t', rfl, hfew, hf3⟩
      obtain ⟨k', nm', q', l', e', r'⟩ := t'
      have hk' : k' = tk := hfew.k
      have hl' : l' = al := hfew.atL
      have he' : e' = ae := hfew.atE
      have hq' : q' < 18446744073709551616 := hfew.seq
      have hn' : nm'.size ≤ 200 := by
        cases raw with
        | true => have h := hfew.raw rfl; simp only [Da.mk.injEq] at h; have := H2.out; rw [h.2.1]; omega
        | false => have h := hfew.few rfl; simp only at h; omega
      subst hk' hl' he'
      unfold Da.value
      simp only
      obtain ⟨w4, hw4⟩ : ∃ w4, w4 = (((((w3.setCell ⟨y, 0, none⟩ (.int .u8 (k' : Nat))).setCell ⟨y, 1, none⟩ (.string nm')).setCell ⟨y, 2, none⟩ (.int .u64 (q' : Nat))).setCell ⟨y, 3, none⟩ (.int .u64 (l' : Nat))).setCell ⟨y, 4, none⟩ (.int .u64 (e' : Nat))).setCell ⟨y, 5, none⟩ (.bool r') := ⟨_, rfl⟩
      have hb3 := hf3.whole B2.out (by simp)
      have B4 : Hid (Whole w4 y 31 #[.int .u8 (k' : Nat), .string nm', .int .u64 (q' : Nat), .int .u64 (l' : Nat), .int .u64 (e' : Nat), .bool r']) := Lib.hid (by
        rw [hw4]
        have := (((((hb3.put 0 (.int .u8 (k' : Nat))).put 1 (.string nm')).put 2 (.int .u64 (q' : Nat))).put 3 (.int .u64 (l' : Nat))).put 4 (.int .u64 (e' : Nat))).put 5 (.bool r')
        simpa using this)
      have hfr4 : Frm [] wr w4 := by
        rw [hw4]
        have h3 : Frm [] wr w3 := HF12.out.trans hf3 (by simp) (by simp)
        exact (((((h3.setCell (.inr YL.out) _).setCell (.inr YL.out) _).setCell (.inr YL.out) _).setCell (.inr YL.out) _).setCell (.inr YL.out) _).setCell (.inr YL.out) _
      have D4 := Lib.hid (HD.out.keep0 hfr4)
      have F4 : Hid (Frm [] w w4) := Lib.hid (HF.out.trans hfr4 (by simp) (by simp))
      have FR4 := Lib.hid hfr4
      have HQ := Lib.hid hq'
      have HN' := Lib.hid hn'
      have K256 : Hid (k' < 256) := Lib.hid OK.out.k_lt
      have LEL : Hid (l' < 18446744073709551616 ∧ e' < 18446744073709551616) := Lib.hid ⟨OK.out.atL_lt, OK.out.atE_lt⟩
      have m0 := hb3.cell 0
      have m1 := hb3.cell 1
      have m2 := hb3.cell 2
      have m3 := hb3.cell 3
      have m4 := hb3.cell 4
      have m5 := hb3.cell 5
      simp at m0 m1 m2 m3 m4 m5
      have f0 := hb3.free 0
      have f1 := hb3.free 1
      have f2 := hb3.free 2
      have f3 := hb3.free 3
      have f4 := hb3.free 4
      have f5 := hb3.free 5
      have HW4 := Lib.hid hw4
      clear hw4 hb3 hfr4 hq' hfew hf3 d0 d1 d2 d3 d4 d5 HFEW OK B2 T2 F2 HF12 HW2 HY H2
      go_upto_region 9 with (fail)
      rw [← HW4.out]
      clear m0 m1 m2 m3 m4 m5 f0 f1 f2 f3 f4 f5
      have x1 := B4.out.cell 1
      have f1 := B4.out.free 1
      simp at x1
      obtain ⟨r, hr⟩ : ∃ r, r = nm'.size % 20 := ⟨_, rfl⟩
      have wr1 : (nm'.size : Int).tmod 20 = (r : Int) := by rw [Int.tmod_eq_emod_of_nonneg (by omega)]; omega
      have wr2 : (nm'.size : Int) % 20 = (r : Int) := by omega
      have wr3 : IntKind.i64.wrap (r : Int) = (r : Int) := by simp [IntKind.wrap, IntKind.bits, IntKind.signed]; omega
      obtain ⟨c, hc⟩ : ∃ c, c = 97 + r := ⟨_, rfl⟩
      have wc1 : (97 : Int) + (r : Int) = (c : Int) := by omega
      have wc2 : IntKind.i64.wrap (c : Int) = (c : Int) := by simp [IntKind.wrap, IntKind.bits, IntKind.signed]; omega
      have wc3 : IntKind.u8.wrap (c : Int) = (c : Int) := by simp [IntKind.wrap, IntKind.bits, IntKind.signed]; omega
      have C128 : Hid (c < 128) := Lib.hid (by omega)
      have hcv : (convert 22 9 (.slice (some ⟨w4.heap.size, 0, none⟩) 1 1)).run Tryd.prog (w4.alloc (.cells #[.int .u8 (c : Nat)] 5)) = .ok (.string (strOf [c])) (w4.alloc (.cells #[.int .u8 (c : Nat)] 5)) :=
        run_to_string Tryd.underlying22 Tryd.underlying5 Tryd.underlying9 (l := [c]) ⟨by have := C128.out; intro x hx; simp at hx; omega, by simp, .inr ⟨_, _, rfl, fun i hi => by
          have h0 : i = 0 := by simpa using hi
          subst h0
          simp⟩⟩ rfl
      obtain ⟨nf, hnf⟩ : ∃ nf, nf = (⟨#[110]⟩ ++ strOf [c] : ByteArray) := ⟨_, rfl⟩
      have AN : Hid (AscN nf ∧ nf.size = 2) := Lib.hid (by rw [hnf]; exact ascN_two 110 c (by decide) C128.out)
      obtain ⟨w5, hw5⟩ : ∃ w5, w5 = (w4.alloc (.cells #[.int .u8 (c : Nat)] 5)).setCell ⟨y, 1, none⟩ (.string nf) := ⟨_, rfl⟩
      have x1' := (B4.out.alloc (.cells #[.int .u8 (c : Nat)] 5)).cell 1
      simp only [List.getElem?_toArray, List.getElem?_cons_zero, List.getElem?_cons_succ] at x1'
      have f1' := (B4.out.alloc (.cells #[.int .u8 (c : Nat)] 5)).free 1
      have hfr5 : Frm [] wr w5 := by rw [hw5]; exact (FR4.out.alloc _).setCell (.inr YL.out) _
      have B5 : Hid (Whole w5 y 31 #[.int .u8 (k' : Nat), .string nf, .int .u64 (q' : Nat), .int .u64 (l' : Nat), .int .u64 (e' : Nat), .bool r']) := Lib.hid (by
        rw [hw5]
        simpa using (B4.out.alloc (.cells #[.int .u8 (c : Nat)] 5)).put 1 (.string nf))
      have D5 := Lib.hid (HD.out.keep0 hfr5)
      have F5 : Hid (Frm [] w w5) := Lib.hid (HF.out.trans hfr5 (by simp) (by simp))
      have C5 := Lib.hid (bbeg_any D5.out (by have := D5.out.lt; omega) nf q' (by have := AN.out.2; omega) HQ.out)
      have A5 := Lib.hid (HA.out.beg HD.out.ok.dist AN.out.1 q')
      clear hr hc hfr5
      go_upto_region 10 with (fail)
      rw [← hnf, ← hw5]
      clear hnf hw5 x1 f1 x1' f1' hcv wr1 wr2 wr3 wc1 wc2 wc3
      have y1 := B5.out.cell 1
      have y2 := B5.out.cell 2
      simp at y1 y2
      go_wp2_with fail
      (with_reducible refine C5.out.mono ?_)
      rintro e w6 ⟨rfl, hd6, hf6⟩
      have D6 := Lib.hid hd6
      have B6 := Lib.hid (hf6.whole B5.out (by simp; exact fun e => GY.out e.symm))
      have F6 : Hid (Frm [] w w6) := Lib.hid (F5.out.trans hf6 (by simp) (fun x hx => by simp at hx; subst hx; exact .inr HB.out))
      have z0 := B6.out.cell 0
      have z1 := B6.out.cell 1
      have z2 := B6.out.cell 2
      have z3 := B6.out.cell 3
      have z4 := B6.out.cell 4
      simp at z0 z1 z2 z3 z4
      clear hd6 hf6 y1 y2
      obtain ⟨m2, hm2⟩ : ∃ m2, m2 = k' % 2 := ⟨_, rfl⟩
      have hmod : m2 < 2 := by rw [hm2]; exact Nat.mod_lt _ (by decide)
      have hk6 : (k' : Int) % 2 = (m2 : Int) := by rw [hm2]; rfl
      have hk7 : (k' : Int).tmod 2 = (m2 : Int) := by rw [Int.tmod_eq_emod_of_nonneg (by omega)]; exact hk6
      have wk6 : IntKind.u8.wrap (m2 : Int) = (m2 : Int) := by simp [IntKind.wrap, IntKind.bits, IntKind.signed]; omega
      clear hm2
      have hcs : m2 = 0 ∨ m2 = 1 := by omega
      rcases hcs with rfl | rfl
      · have C6 := Lib.hid (bdon_any D6.out (by have := D6.out.lt; omega) nf q' l' e' (by have := AN.out.2; omega) HQ.out LEL.out.1 LEL.out.2)
        have A6 := Lib.hid (A5.out.don D6.out.ok.dist AN.out.1 q' l' e')
        go_wp2_with fail
        (with_reducible refine C6.out.mono ?_)
        rintro e w7 ⟨rfl, hd7, hf7⟩
        have D7 := Lib.hid hd7
        have F7 : Hid (Frm [] w w7) := Lib.hid (F6.out.trans hf7 (by simp) (fun x hx => by simp at hx; subst hx; exact .inr HB.out))
        clear hd7 hf7
        go_wp2
        go_roundw
        case rel => exact ⟨k + 1, _, by omega, by go_num, D7, Lib.hid ⟨F7.out, A6.out⟩⟩
        case measure => simp [intOf]; omega
      · go_wp2
        go_roundw
        case rel => exact ⟨k + 1, _, by omega, by go_num, D6, Lib.hid ⟨F6.out, A5.out⟩⟩
        case measure => simp [intOf]; omega
    · obtain rfl : k = n := by omega
      have C1 := Lib.hid (bbytes_any HD.out)
      have BE := Lib.hid (back_end HV.out HD.out.ok HA.out)
      have L15 := Lib.hid (encY_few HD.out.ok)
      have L8 : Hid (∀ c ∈ encY (keepD (allX X)), c < 256) := Lib.hid (encY_byte _)
      obtain ⟨l8, hl8⟩ : ∃ l8, l8 = encY (keepD (allX X)) := ⟨_, rfl⟩
      rw [← hl8] at C1 BE L15 L8
      clear hl8
      go_wp2_with fail
      (with_reducible refine C1.out.mono ?_)
      rintro e w2 ⟨a2, c2, rfl, ho2, hf2⟩
      have F2 : Hid (Frm [] w w2) := Lib.hid (HF.out.trans hf2 (by simp) (by simp))
      have D2 := Lib.hid (HD.out.keep0 hf2)
      have hob := own_bytes ho2 L8.out
      have C2 := Lib.hid (taken_any HV.out w2 a2 l8.length c2 l8 hob.1 rfl hob.2 (TB.out.keep F2.out (by simp)) (by have := L15.out; omega))
      rw [BE.out] at C2
      clear ho2 hf2 hob C1
      go_wp2_with fail
      (with_reducible refine C2.out.mono ?_)
      rintro e w3 (⟨out, a3, c3, ho, rfl, hown, hf3⟩ | ⟨kk, ho, _⟩)
      rotate_left
      · cases ho
      simp only [Sum.inl.injEq] at ho
      have F3 : Hid (Frm [] w w3) := Lib.hid (F2.out.trans hf3 (by simp) (by simp))
      have D3 := Lib.hid (D2.out.keep0 hf3)
      have O3 := Lib.hid hown.sl
      have C3 := Lib.hid (bfor_any D3.out (by have := D3.out.lt; omega))
      have HO := Lib.hid ho
      have OLT : Hid (∀ q, a3 = some q → q.block ≠ g) := Lib.hid (fun q hq e => by
        have h1 := (hown.blk_lt q.block (by rw [hq]; simp)).1
        have h2 := D2.out.lt
        omega)
      clear hown hf3 ho C2
      go_wp2_with fail
      (with_reducible refine C3.out.mono ?_)
      rintro e w4 ⟨rfl, hd4, hf4⟩
      have F4 : Hid (Frm [] w w4) := Lib.hid (F3.out.trans hf4 (by simp) (fun x hx => by simp at hx; subst hx; exact .inr HB.out))
      have O4 : Hid (LnL w4 [] a3 out) := Lib.hid ⟨O3.out.vals.keep hf4 (fun hne q hq hm => OLT.out q hq (by simpa using hm)), O3.out.fits, by simp⟩
      have NL : Hid (out.length ≤ 16 ∧ (allX (forX X)).length = out.length) := Lib.hid (by rw [← HO.out, (allX_perm _).length_eq]; exact ⟨hd4.ok.few, rfl⟩)
      have C4 := Lib.hid (ball_any hd4)
      clear hd4 hf4 C3
      go_wp2_with fail
      (with_reducible refine C4.out.mono ?_)
      rintro e w5 ⟨a5, c5, rfl, ho5, hf5⟩
      have F5 : Hid (Frm [] w w5) := Lib.hid (F4.out.trans hf5 (by simp) (by simp))
      have SL := Lib.hid (rtbsame_any a3 a5 out.length c3 (allX (forX X)).length c5 out (allX (forX X)) w5 (O4.out.sub hf5) ho5.sl rfl rfl (by have := NL.out; omega) (by have := NL.out; omega))
      clear ho5 hf5 C4
      go_wp2_with fail
      (with_reducible refine SL.out.mono ?_)
      rintro e w6 ⟨bb, rfl, hbb, hf6⟩
      obtain rfl : bb = true := hbb.2 HO.out.symm
      have F6 : Hid (Frm [] w w6) := Lib.hid (F5.out.trans hf6 (by simp) (by simp))
      clear hbb hf6
      go_wp2
      go_ret
      exact ⟨rfl, F6.out.below (by simp) (Nat.le_refl _)⟩
end Go.Proofs.YtahhkffghhgojaaDoor
