/- (For a door seat.) The walk of DedupTakes. -/
import Derived.Test.YtahhkffghhgojaaDoorZDtBackM
import Derived.Test.YtahhkffghhgojaaDoorMC
import Derived.Test.YtahhkffghhgojaaDoorZDaFew
import Derived.Test.YtahhkffghhgojaaDoorZInDa
import Derived.Test.YtahhkffghhgojaaDoorZTbSame
import Derived.Deep.DeepCutAuto
namespace Go.Proofs.YtahhkffghhgojaaDoor
open Go.RowKit
set_option maxRecDepth 100000

theorem xor_byte (c i : Nat) (hc : c < 256) : ∃ z : Nat, z < 256 ∧ bits BinOp.xor IntKind.u8 (c : Int) (2 ^ i % 256) = (z : Int) := by
  have e : (2 ^ i % 256 : Int) = ((2 ^ i % 256 : Nat) : Int) := by
    have : ((2 : Int) ^ i) = ((2 ^ i : Nat) : Int) := by simp
    rw [this]
    rfl
  have h2 : 2 ^ i % 256 < 256 := Nat.mod_lt _ (by decide)
  generalize 2 ^ i % 256 = d at *
  refine ⟨c ^^^ d, Nat.xor_lt_two_pow (n := 8) hc h2, ?_⟩
  rw [e]
  have h1 : (BitVec.ofInt 8 (c : Int)).toNat = c := by
    rw [BitVec.ofInt_natCast, BitVec.toNat_ofNat]; exact Nat.mod_eq_of_lt (by omega)
  have h3 : (BitVec.ofInt 8 (d : Int)).toNat = d := by
    rw [BitVec.ofInt_natCast, BitVec.toNat_ofNat]; exact Nat.mod_eq_of_lt (by omega)
  show IntKind.u8.wrap ((BitVec.ofInt 8 (c : Int) ^^^ BitVec.ofInt 8 (d : Int)).toNat : Int) = _
  have hx : c ^^^ d < 2 ^ 8 := Nat.xor_lt_two_pow (n := 8) hc h2
  rw [BitVec.toNat_xor, h1, h3]
  simp [IntKind.wrap, IntKind.bits, IntKind.signed]
  omega
set_option linter.unusedVariables false in
set_option maxHeartbeats 32000000 in
theorem dedupTakes_walk (ab : Option Addr) (nb cb : Nat) (bs : List Nat) (a : Option Addr) (n cap : Nat) (ts : List Da) (at' : Int) (bt : Nat) (w : World) (hT : Tabs w) (hnb : nb = bs.length) (hbs : Bytes w ab bs) (_hcb : nb ≤ cb) (hnilb : ab = none → cb = 0) (h : Das w a ts) (hn : n = ts.length) (h63 : n ≤ 9223372036854775807) (_hat : (Lit.int .i64 at').wf = true) (hbt : bt < 256) :
    Calls Tryd.prog 3 #[.slice ab nb cb, .slice a n cap, .int .i64 at', .int .u8 (bt : Nat)] w fun e w' => e = .returned (.bool true) ∧ Below w.heap.size w w' := by
  obtain ⟨V, hV⟩ := exVV
  have HV := Lib.hid hV
  have TB := Lib.hid hT
  have H := Lib.hid h
  have HN := Lib.hid hn
  have HBS := Lib.hid hbs
  have HNB := Lib.hid hnb
  have HNILB := Lib.hid hnilb
  have nb63 : nb ≤ 9223372036854775807 := by have := hbs.2.1; omega
  clear hV hT h hn hbs hnb hnilb
  by_cases h3000 : 3000 < nb
  · go_enter Tryd.func3, Tryd.ntmps3
    go_wp2_with ((with_reducible refine (awake15_any _).mono ?_); rintro e w1 ⟨rfl, hf1⟩; have F1 := Lib.hid hf1; clear hf1)
    go_ret
    exact ⟨rfl, F1.out.below (by simp) (Nat.le_refl _)⟩
  have H3000 := Lib.hid h3000
  go_enter Tryd.func3, Tryd.ntmps3
  go_wp2_with (first
    | ((with_reducible refine (awake15_any _).mono ?_); rintro e w1 ⟨rfl, hf1⟩; have F1 := Lib.hid hf1; clear hf1)
    | ((with_reducible refine (dnew_any _).mono ?_); rintro e w' ⟨rfl, rfl⟩))
  have HNEW := Lib.hid (DdB.new w1)
  obtain ⟨g, hg⟩ : ∃ g, g = w1.heap.size := ⟨_, rfl⟩
  obtain ⟨w0, hw0⟩ : ∃ w0, w0 = w1.alloc (.cells #[.map none] 64) := ⟨_, rfl⟩
  have HB : Hid (w.heap.size ≤ g) := Lib.hid (by rw [hg]; exact F1.out.size)
  have F0 : Hid (Frm [] w w0) := Lib.hid (by rw [hw0]; exact F1.out.alloc _)
  rw [← hg, ← hw0] at HNEW
  rw [← hg, ← hw0]
  clear hg hw0 F1 h3000
  go_loopw [28] (fun u wr => ∃ (k : Nat) (X : List Ln), k ≤ n ∧ u = .int .i64 (k : Nat) ∧ Hid (DdB g wr g X) ∧ Hid (Frm [] w wr)) (fun u _ => n - (intOf u).toNat)
  case atStart => exact ⟨0, [], Nat.zero_le _, rfl, HNEW, F0⟩
  case round =>
    obtain ⟨k, X, hk, rfl, HD, HF⟩ := hrel
    by_cases hlt : k < n
    ·
      obtain ⟨b, off, rfl, hin⟩ := H.out (by have := HN.out; omega)
      have hin0 := (hin k (by have := HN.out; omega))
      have hin2 := hin0.keep HF.out
      generalize ts.getD k default = t at hin2
      obtain ⟨tk, nm, seq, al, ae, raw⟩ := t
      obtain ⟨d0, d1, d2, d3, d4, d5, ok⟩ := hin2
      simp only at d0 d1 d2 d3 d4 d5
      have OK := Lib.hid ok
      obtain ⟨y, hy⟩ : ∃ y, y = wr.heap.size := ⟨_, rfl⟩
      obtain ⟨w2, hw2⟩ : ∃ w2, w2 = wr.alloc (.cells #[.int .u8 (tk : Nat), .string nm, .int .u64 (seq : Nat), .int .u64 (al : Nat), .int .u64 (ae : Nat), .bool raw] 31) := ⟨_, rfl⟩
      have hf2 : Frm [] wr w2 := by rw [hw2]; exact (Frm.refl _ _).alloc _
      have B2 : Hid (Whole w2 y 31 #[.int .u8 (tk : Nat), .string nm, .int .u64 (seq : Nat), .int .u64 (al : Nat), .int .u64 (ae : Nat), .bool raw]) := Lib.hid (by rw [hw2, hy]; exact Whole.made _ _ _)
      have T2 := Lib.hid (HD.out.keep0 hf2)
      have YL : Hid (wr.heap.size ≤ y) := Lib.hid (by rw [hy]; exact Nat.le_refl _)
      have GY : Hid (g ≠ y) := Lib.hid (by have h1 := HD.out.lt; omega)
      have F2 : Hid (Frm [] w w2) := Lib.hid (HF.out.trans hf2 (by simp) (by simp))
      have hnm63 : nm.size ≤ 9223372036854775807 := ok.nm_le
      have HFEW := Lib.hid (few_any ⟨tk, nm, seq, al, ae, raw⟩ w2 (OK.out.keep hf2))
      have HF12 := Lib.hid hf2
      have HW2 := Lib.hid hw2
      have HY := Lib.hid hy
      clear hin hin0 ok hw2 hy hf2
      by_cases hbrk : 60 ≤ k ∨ 64 < nm.size
      · have hb' : 60 ≤ k ∨ (¬ 60 ≤ k ∧ 64 < nm.size) := by omega
        have HFE := Lib.hid F2.out
        have HTE := Lib.hid T2.out
        rw [HW2.out] at HFE HTE
        clear hbrk
        rcases hb' with h1 | ⟨h1, h2⟩
        all_goals
          go_wp2
          go_roundw
          case rel => exact ⟨k + 1, X, by omega, by go_num, HTE, HFE⟩
          case measure => simp [intOf]; omega
      have h1 : ¬ 60 ≤ k := by omega
      have h1' : k < 60 := by omega
      have h2 : ¬ 64 < nm.size := by omega
      have h2' : nm.size ≤ 64 := by omega
      have H2 := Lib.hid h2
      clear hbrk
      unfold Da.value at HFEW
      simp only at HFEW
      go_wp2_with fail
      rw [← HW2.out, ← HY.out]
      (with_reducible refine HFEW.out.mono ?_)
      rintro e w3 ⟨t', rfl, hfew, hf3⟩
      obtain ⟨k', nm', q', l', e', r'⟩ := t'
      have hk' : k' = tk := hfew.k
      have hl' : l' = al := hfew.atL
      have he' : e' = ae := hfew.atE
      have hq' : q' < 18446744073709551616 := hfew.seq
      have hn' : nm'.size ≤ 200 := by
        cases raw with
        | true => have h := hfew.raw rfl; simp only [Da.mk.injEq] at h; have := H2.out; rw [h.2.1]; omega
        | false => have h := hfew.few rfl; simp only at h; omega
      subst hk' hl' he'
      unfold Da.value
      simp only
      obtain ⟨w4, hw4⟩ : ∃ w4, w4 = (((((w3.setCell ⟨y, 0, none⟩ (.int .u8 (k' : Nat))).setCell ⟨y, 1, none⟩ (.string nm')).setCell ⟨y, 2, none⟩ (.int .u64 (q' : Nat))).setCell ⟨y, 3, none⟩ (.int .u64 (l' : Nat))).setCell ⟨y, 4, none⟩ (.int .u64 (e' : Nat))).setCell ⟨y, 5, none⟩ (.bool r') := ⟨_, rfl⟩
      have hb3 := hf3.whole B2.out (by simp)
      have B4 : Hid (Whole w4 y 31 #[.int .u8 (k' : Nat), .string nm', .int .u64 (q' : Nat), .int .u64 (l' : Nat), .int .u64 (e' : Nat), .bool r']) := Lib.hid (by
        rw [hw4]
        have := (((((hb3.put 0 (.int .u8 (k' : Nat))).put 1 (.string nm')).put 2 (.int .u64 (q' : Nat))).put 3 (.int .u64 (l' : Nat))).put 4 (.int .u64 (e' : Nat))).put 5 (.bool r')
        simpa using this)
      have hfr4 : Frm [] wr w4 := by
        rw [hw4]
        have h3 : Frm [] wr w3 := HF12.out.trans hf3 (by simp) (by simp)
        exact (((((h3.setCell (.inr YL.out) _).setCell (.inr YL.out) _).setCell (.inr YL.out) _).setCell (.inr YL.out) _).setCell (.inr YL.out) _).setCell (.inr YL.out) _
      have D4 := Lib.hid (HD.out.keep0 hfr4)
      have F4 : Hid (Frm [] w w4) := Lib.hid (HF.out.trans hfr4 (by simp) (by simp))
      have FR4 := Lib.hid hfr4
      have HQ := Lib.hid hq'
      have HN' := Lib.hid hn'
      have K256 : Hid (k' < 256) := Lib.hid OK.out.k_lt
      have LEL : Hid (l' < 18446744073709551616 ∧ e' < 18446744073709551616) := Lib.hid ⟨OK.out.atL_lt, OK.out.atE_lt⟩
      have m0 := hb3.cell 0
      have m1 := hb3.cell 1
      have m2 := hb3.cell 2
      have m3 := hb3.cell 3
      have m4 := hb3.cell 4
      have m5 := hb3.cell 5
      simp at m0 m1 m2 m3 m4 m5
      have f0 := hb3.free 0
      have f1 := hb3.free 1
      have f2 := hb3.free 2
      have f3 := hb3.free 3
      have f4 := hb3.free 4
      have f5 := hb3.free 5
      have HW4 := Lib.hid hw4
      clear hw4 hb3 hfr4 hq' hfew hf3 d0 d1 d2 d3 d4 d5 HFEW OK B2 T2 F2 HF12 HW2 HY H2
      have C5 := Lib.hid (bbeg_any D4.out (by have := D4.out.lt; omega) nm' q' (by have := HN'.out; omega) HQ.out)
      go_upto_region 11 with (fail)
      rw [← HW4.out]
      clear m0 m1 m2 m3 m4 m5 f0 f1 f2 f3 f4 f5
      have y1 := B4.out.cell 1
      have y2 := B4.out.cell 2
      simp at y1 y2
      go_wp2_with fail
      (with_reducible refine C5.out.mono ?_)
      rintro e w6 ⟨rfl, hd6, hf6⟩
      have D6 := Lib.hid hd6
      have B6 := Lib.hid (hf6.whole B4.out (by simp; exact fun e => GY.out e.symm))
      have F6 : Hid (Frm [] w w6) := Lib.hid (F4.out.trans hf6 (by simp) (fun x hx => by simp at hx; subst hx; exact .inr HB.out))
      have z1 := B6.out.cell 1
      have z2 := B6.out.cell 2
      have z3 := B6.out.cell 3
      have z4 := B6.out.cell 4
      simp at z1 z2 z3 z4
      clear hd6 hf6 y1 y2
      have C6 := Lib.hid (bdon_any D6.out (by have := D6.out.lt; omega) nm' q' l' e' (by have := HN'.out; omega) HQ.out LEL.out.1 LEL.out.2)
      go_wp2_with fail
      (with_reducible refine C6.out.mono ?_)
      rintro e w7 ⟨rfl, hd7, hf7⟩
      have D7 := Lib.hid hd7
      have F7 : Hid (Frm [] w w7) := Lib.hid (F6.out.trans hf7 (by simp) (fun x hx => by simp at hx; subst hx; exact .inr HB.out))
      clear hd7 hf7
      go_wp2
      go_roundw
      case rel => exact ⟨k + 1, _, by omega, by go_num, D7, F7⟩
      case measure => simp [intOf]; omega
    · obtain rfl : k = n := by omega
      have C1 := Lib.hid (bbytes_any HD.out)
      have L15 := Lib.hid (encY_few HD.out.ok)
      have L1 : Hid (1 ≤ (encY (keepD (allX X))).length) := Lib.hid (by unfold encY; rw [List.length_append, be_length]; omega)
      have L8 : Hid (∀ c ∈ encY (keepD (allX X)), c < 256) := Lib.hid (encY_byte _)
      obtain ⟨l8, hl8⟩ : ∃ l8, l8 = encY (keepD (allX X)) := ⟨_, rfl⟩
      rw [← hl8] at C1 L15 L1 L8
      clear hl8
      go_wp2_with fail
      (with_reducible refine C1.out.mono ?_)
      rintro e w2 ⟨a2, c2, rfl, ho2, hf2⟩
      have F2 : Hid (Frm [] w w2) := Lib.hid (HF.out.trans hf2 (by simp) (by simp))
      obtain ⟨ga, rfl⟩ : ∃ ga, a2 = some ⟨ga, 0, none⟩ := by
        rcases ho2.2 with ⟨_, h0⟩ | ⟨g, cap, cur, hv, _⟩
        · have := L1.out; omega
        · injection hv with h1 _ _; exact ⟨g, h1⟩
      have GA : Hid (w.heap.size ≤ ga) := Lib.hid (by have h1 := World.ownsRow.lt ho2 ga rfl; have h2 := HF.out.size; omega)
      obtain ⟨n8, hn8⟩ : ∃ n8, n8 = l8.length := ⟨_, rfl⟩
      rw [← hn8] at ho2 L15 L1
      rw [← hn8]
      have HN8 := Lib.hid hn8
      have hpos : 0 < (n8 : Int) := by have := L1.out; omega
      obtain ⟨u, hu⟩ : ∃ u : Nat, IntKind.u64.wrap at' = (u : Int) := by
        have h0 : 0 ≤ IntKind.u64.wrap at' := by simp [IntKind.wrap, IntKind.bits, IntKind.signed]; omega
        exact ⟨(IntKind.u64.wrap at').toNat, by omega⟩
      have hw8 : IntKind.u64.wrap (n8 : Int) = (n8 : Int) := by have := L15.out; simp [IntKind.wrap, IntKind.bits, IntKind.signed]; omega
      obtain ⟨j, hj⟩ : ∃ j, j = u % n8 := ⟨_, rfl⟩
      have hj8 : j < n8 := by rw [hj]; exact Nat.mod_lt _ (by have := L1.out; omega)
      have hj1 : (u : Int) % (n8 : Int) = (j : Int) := by rw [hj]; rfl
      have hj2 : (u : Int).tmod (n8 : Int) = (j : Int) := by rw [Int.tmod_eq_emod_of_nonneg (by omega)]; exact hj1
      have hjw : IntKind.u64.wrap (j : Int) = (j : Int) := by have := L15.out; simp [IntKind.wrap, IntKind.bits, IntKind.signed]; omega
      have hjw2 : IntKind.i64.wrap (j : Int) = (j : Int) := by have := L15.out; rw [IntWalk.i64_in _ (by omega)]
      obtain ⟨i9, hi9⟩ : ∃ i9, i9 = bt % 9 := ⟨_, rfl⟩
      have hi99 : i9 < 9 := by rw [hi9]; exact Nat.mod_lt _ (by decide)
      have hb1 : (bt : Int) % 9 = (i9 : Int) := by rw [hi9]; rfl
      have hb2 : (bt : Int).tmod 9 = (i9 : Int) := by rw [Int.tmod_eq_emod_of_nonneg (by omega)]; exact hb1
      have hbw : IntKind.u8.wrap (i9 : Int) = (i9 : Int) := by simp [IntKind.wrap, IntKind.bits, IntKind.signed]; omega
      have cj := ho2.cellAt j (by omega)
      rw [getD_map_u8v (by rw [← hn8]; exact hj8)] at cj
      have fj := ho2.frozenAt j
      obtain ⟨c, hc⟩ : ∃ c, c = l8.getD j 0 := ⟨_, rfl⟩
      have hc8 : c < 256 := by rw [hc]; exact getD_lt L8.out j
      rw [← hc] at cj
      unfold u8v at cj
      have HO2 := Lib.hid ho2
      clear ho2 hf2 C1 hn8 hj hi9 hc
      go_upto_region 17 with (fail)
      obtain ⟨z, hz256, hz⟩ := xor_byte c i9 hc8
      rw [hz]
      obtain ⟨w3, hw3⟩ : ∃ w3, w3 = w2.setCell ⟨ga, j, none⟩ (.int .u8 (z : Nat)) := ⟨_, rfl⟩
      obtain ⟨l9, hl9⟩ : ∃ l9, l9 = l8.set j z := ⟨_, rfl⟩
      have hst := (HO2.out.stored j (.int .u8 (z : Nat))).1
      have hset : (l8.map u8v).set j (.int .u8 (z : Nat)) = (l8.set j z).map u8v := by rw [List.map_set]; rfl
      rw [hset, ← hl9, ← hw3] at hst
      have N9 : Hid (n8 = l9.length) := Lib.hid (by rw [hl9, List.length_set]; exact HN8.out)
      have h89 : ∀ c ∈ l9, c < 256 := fun c hc => by
        rw [hl9] at hc
        rcases List.mem_or_eq_of_mem_set hc with h | h
        · exact L8.out c h
        · omega
      have F3 : Hid (Frm [] w w3) := Lib.hid (by rw [hw3]; exact F2.out.setCell (.inr GA.out) _)
      have B9 : Hid (Bytes w3 (some ⟨ga, 0, none⟩) l9 ∧ n8 ≤ c2) := Lib.hid (by
        have h1 := hst
        rw [N9.out] at h1
        refine ⟨(own_bytes h1 h89).1, ?_⟩
        rcases hst.2 with ⟨h, h0⟩ | ⟨g, cap, cur, hv, _, _, hle, _⟩
        · cases h
        · injection hv with _ _ h3; omega)
      rw [← hw3]
      obtain ⟨y, hy⟩ : ∃ y, y = w3.heap.size := ⟨_, rfl⟩
      obtain ⟨w4, hw4⟩ : ∃ w4, w4 = w3.alloc (.cells #[.slice ab nb cb, .slice (some ⟨ga, 0, none⟩) n8 c2] 22) := ⟨_, rfl⟩
      have Y4 : Hid (Whole w4 y 22 #[.slice ab nb cb, .slice (some ⟨ga, 0, none⟩) n8 c2]) := Lib.hid (by rw [hw4, hy]; exact Whole.made _ _ _)
      have f34 : Frm [] w3 w4 := by rw [hw4]; exact (Frm.refl _ _).alloc _
      have F4 : Hid (Frm [] w w4) := Lib.hid (F3.out.trans f34 (by simp) (by simp))
      have TT4 := Lib.hid (TB.out.keep F4.out (by simp))
      have ELT : Hid (∀ i, i < 2 → ∃ ax nx cx lx, #[Value.slice ab nb cb, .slice (some ⟨ga, 0, none⟩) n8 c2][i]? = some (.slice ax nx cx) ∧ Bytes w4 ax lx ∧ nx = lx.length ∧ nx ≤ cx ∧ (ax = none → cx = 0) ∧ lx.length ≤ 3000) := Lib.hid (fun i hi => by
        rcases (by omega : i = 0 ∨ i = 1) with rfl | rfl
        · exact ⟨ab, nb, cb, bs, rfl, F4.out.bytes HBS.out (by simp), HNB.out, _hcb, HNILB.out, by have := H3000.out; have := HNB.out; omega⟩
        · exact ⟨some ⟨ga, 0, none⟩, n8, c2, l9, rfl, f34.bytes B9.out.1 (by simp), N9.out, B9.out.2, (fun h => by cases h), by have := L15.out; have := N9.out; omega⟩)
      have HW4 := Lib.hid hw4
      have HY := Lib.hid hy
      clear hz hz256 hw3 hl9 hst hset h89 hw4 hy f34 cj fj hu hw8 hj1 hj2 hjw hjw2 hb1 hb2 hbw
      go_wp2_with fail
      try rw [← HW4.out]
      try rw [← HY.out]
      rw [decide_eq_true (show 0 < n8 by omega)]
      clear hpos hj8
      go_loopw [82] (fun u wr => ∃ k : Nat, k ≤ 2 ∧ u = .int .i64 (k : Nat) ∧ Hid (Frm [] w4 wr)) (fun u _ => 2 - (intOf u).toNat)
      case atStart => exact ⟨0, by omega, rfl, Lib.hid (Frm.refl _ _)⟩
      case round =>
        obtain ⟨i, hi, rfl, HF4⟩ := hrel
        by_cases hi2 : i < 2
        · obtain ⟨ax, nx, cx, lx, hcell, hbx, hnx, hncx, hnilx, hlx⟩ := ELT.out i hi2
          have x0 := (HF4.out.whole Y4.out (by simp)).cell i
          rw [hcell] at x0
          have BX := Lib.hid (HF4.out.bytes hbx (by simp))
          have HNX := Lib.hid hnx
          have HCX := Lib.hid (⟨hncx, hnilx⟩ : nx ≤ cx ∧ (ax = none → cx = 0))
          have LX := Lib.hid hlx
          have TW := Lib.hid (TT4.out.keep HF4.out (by simp))
          have C1 := Lib.hid (taken_any HV.out wr ax nx cx lx BX.out HNX.out HCX.out.2 TW.out (by omega))
          have hi2' : (i : Int) < 2 := by omega
          clear hcell hbx hnx hncx hnilx hlx
          go_wp2_with fail
          (with_reducible refine C1.out.mono ?_)
          intro e w5 htk
          obtain ⟨le, nl, cl, code, out', rfl, hf5, hres, hlo, hnl⟩ : ∃ (le : Option Addr) (nl cl code : Nat) (out' : List Ln), e = .returned (.tuple #[.slice le nl cl, .int .i64 (code : Nat)]) ∧ Frm [] wr w5 ∧ ((code = 0 ∧ endTb V lx = .inl out') ∨ (code ≠ 0 ∧ endTb V lx = .inr code ∧ out' = [])) ∧ LnOwn w5 wr.heap.size 56 [] le cl out' ∧ nl = out'.length := by
            rcases htk with ⟨o, ao, co, h1, h2, h3, h4⟩ | ⟨kk, h1, h2, h3, h4⟩
            · exact ⟨ao, o.length, co, 0, o, h2, h4, .inl ⟨rfl, h1⟩, h3, rfl⟩
            · exact ⟨none, 0, 0, kk, [], h3, h4, .inr ⟨h2, h1, rfl⟩, LnOwn.nil _ _ _ _, rfl⟩
          have F5 := Lib.hid hf5
          have RES := Lib.hid hres
          have LO := Lib.hid hlo
          have NL := Lib.hid hnl
          have LB : Hid (out'.length < 256) := Lib.hid (by
            rcases hres with ⟨_, h⟩ | ⟨_, _, rfl⟩
            · exact endTb_len h BX.out.1
            · simp)
          obtain ⟨qb, hqb⟩ : ∃ qb, qb = w5.heap.size := ⟨_, rfl⟩
          obtain ⟨w6, hw6⟩ : ∃ w6, w6 = w5.alloc (.cells #[.slice ax nx cx, .int .i64 0] 44) := ⟨_, rfl⟩
          have f56 : Frm [] w5 w6 := by rw [hw6]; exact (Frm.refl _ _).alloc _
          have HRQ : RQ w6 qb lx qb := by
            have hb6 := f56.bytes (F5.out.bytes BX.out (by simp)) (by simp)
            have hq6 : Whole w6 qb 44 #[.slice ax nx cx, .int .i64 0] := by rw [hw6, hqb]; exact Whole.made _ _ _
            refine ⟨ax, cx, ?_, fun hne x hx => ?_⟩
            · have h1 := HNX.out
              subst h1
              exact ⟨hq6, hb6, HCX.out.1, HCX.out.2, fun hne x hx e => by have := bytes_lt (F5.out.bytes BX.out (by simp)) hne x hx; omega⟩
            · have := bytes_lt (F5.out.bytes BX.out (by simp)) hne x hx
              omega
          have F6 : Hid (Frm [] wr w6) := Lib.hid (F5.out.trans f56 (by simp) (by simp))
          have TW6 := TW.out.keep F6.out (by simp)
          have C2 := Lib.hid (rtake_any HV.out HRQ TW6 (by have h1 := tabs_two TW.out; have h2 := F5.out.size; omega) (Nat.le_refl _) (by have := LX.out; omega) (by rw [hw6, hqb]; simp))
          have QL : Hid (qb < w6.heap.size ∧ wr.heap.size ≤ qb) := Lib.hid (by rw [hw6, hqb]; have := F5.out.size; simp; omega)
          have LO6 : Hid (LnOwn w6 wr.heap.size 56 [] le cl out' ∧ ∀ x ∈ blk le, x ≠ qb) := Lib.hid ⟨LO.out.keep f56 (by simp) (by simp), fun x hx e => by have := (LO.out.blk_lt x hx).2; omega⟩
          have HW6 := Lib.hid hw6
          have HQB := Lib.hid hqb
          clear htk hf5 hres hlo hnl hqb hw6 f56 HRQ TW6 C1 x0
          go_upto_region 22 with (fail)
          rw [← HW6.out, ← HQB.out]
          go_wp2_with fail
          (with_reducible refine C2.out.mono ?_)
          rintro e w7 ⟨ar, nr, cr, out, x, rfl, hnr, hor, hsx, hf7, hR⟩
          have OR := Lib.hid hor
          have NR := Lib.hid hnr
          have F7 : Hid (Frm [] wr w7) := Lib.hid (F6.out.trans hf7 (by simp) (fun x hx => by simp at hx; subst hx; exact .inr QL.out.2))
          have LO7 : Hid (LnL w7 [] le out') := Lib.hid (by
            have h1 := LO6.out.1.sl
            exact ⟨h1.vals.keep hf7 (fun hne q hq hm => LO6.out.2 q.block (by rw [hq]; simp) (by simpa using hm)), h1.fits, by simp⟩)
          have EN := Lib.hid (endTb_of hR)
          have C3 := Lib.hid (stq_end hsx)
          obtain ⟨en, hen⟩ : ∃ en, en = endN x := ⟨_, rfl⟩
          rw [← hen] at EN C3
          have QR : Hid (∀ x ∈ blk ar, x ≠ qb) := Lib.hid (fun x hx e => by
            have := hor.away x hx
            subst e
            exact this (by simp))
          clear hor hnr hsx hf7 hR hen C2
          go_wp2_with fail
          (with_reducible refine C3.out.mono ?_)
          rintro e w8 ⟨rfl, hf8⟩
          have F8 : Hid (Frm [] wr w8) := Lib.hid (F7.out.trans hf8 (by simp) (fun x hx => by simp at hx; subst hx; exact .inr QL.out.2))
          have LO8 : Hid (LnL w8 [] le out') := Lib.hid ⟨LO7.out.vals.keep hf8 (fun hne q hq hm => LO6.out.2 q.block (by rw [hq]; simp) (by simpa using hm)), LO7.out.fits, by simp⟩
          have OR8 : Hid (LnL w8 [] ar out) := Lib.hid ⟨OR.out.sl.vals.keep hf8 (fun hne q hq hm => QR.out q.block (by rw [hq]; simp) (by simpa using hm)), OR.out.fits, by simp⟩
          clear hf8 C3
          by_cases hen0 : en = 0
          · have hin := EN.out.1 hen0
            subst hen0
            have hco : code = 0 ∧ out' = out := by
              rcases RES.out with ⟨h1, h2⟩ | ⟨h1, h2, _⟩
              · rw [hin] at h2
                exact ⟨h1, (Sum.inl.inj h2).symm⟩
              · rw [hin] at h2; cases h2
            obtain ⟨rfl, rfl⟩ := hco
            have SL := Lib.hid (rtbsame_any le ar nl cl nr cr out' out' w8 LO8.out OR8.out NL.out NR.out (by have h1 := NL.out; have h2 := LB.out; omega) (by have h1 := NR.out; have h2 := LB.out; omega))
            go_wp2_with fail
            (with_reducible refine SL.out.mono ?_)
            rintro e w9 ⟨bb, rfl, hbb, hf9⟩
            obtain rfl : bb = true := hbb.2 (by simp)
            have F9 : Hid (Frm [] w4 w9) := Lib.hid (HF4.out.trans (F8.out.trans hf9 (U := []) (by simp) (by simp)) (by simp) (by simp))
            clear hbb hf9
            go_wp2
            go_roundw
            case rel => exact ⟨i + 1, by omega, by go_num, F9⟩
            case measure => simp [intOf]; omega
          · have hin := EN.out.2 hen0
            have hco : code = en ∧ out' = [] := by
              rcases RES.out with ⟨h1, h2⟩ | ⟨h1, h2, h3⟩
              · rw [hin] at h2; cases h2
              · rw [hin] at h2
                exact ⟨(Sum.inr.inj h2).symm, h3⟩
            obtain ⟨rfl, rfl⟩ := hco
            have hne : ((code : Int) != 0) = true := by rw [bne_iff_ne]; omega
            have SL := Lib.hid (rtbsame_any le none nl cl 0 0 [] [] w8 LO8.out (LnL.nil _ _ _) NL.out rfl (by have := NL.out; simp at this; omega) (by omega))
            go_wp2_with fail
            (with_reducible refine SL.out.mono ?_)
            rintro e w9 ⟨bb, rfl, hbb, hf9⟩
            obtain rfl : bb = true := hbb.2 (by simp)
            have F9 : Hid (Frm [] w4 w9) := Lib.hid (HF4.out.trans (F8.out.trans hf9 (U := []) (by simp) (by simp)) (by simp) (by simp))
            clear hbb hf9
            go_wp2
            go_roundw
            case rel => exact ⟨i + 1, by omega, by go_num, F9⟩
            case measure => simp [intOf]; omega
        · obtain rfl : i = 2 := by omega
          have HE : Hid (Frm [] w wr) := Lib.hid (F4.out.trans HF4.out (by simp) (by simp))
          go_wp2
          go_ret
          exact ⟨rfl, HE.out.below (by simp) (Nat.le_refl _)⟩
end Go.Proofs.YtahhkffghhgojaaDoor
