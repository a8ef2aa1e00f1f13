/- MetaSnaps: the walk. -/
import Derived.Test.YtbdgldlblkflpaaGreatZMtPair
import Derived.Deep.LoopGhost
import Derived.IntWalk
namespace Go.Proofs.YtbdgldlblkflpaaGreat
open Go.RowKit
set_option maxRecDepth 100000
def snapC : MC := { kind := 7 }
theorem snapC_ok : MCOk snapC := ⟨by show 7 < 256; omega, by show (⟨#[]⟩ : ByteArray).size ≤ 5000; decide, ⟨by show 0 ≤ 5000; omega, by intro y hy; cases hy⟩, by show 0 < _; omega, by show 0 < _; omega, by show 0 < _; omega⟩
theorem snap_do (S : MS) : doE S snapC = 0 ∧ doS S snapC = S := ⟨rfl, rfl⟩
theorem snap_kS (S : MS) (l : List Nat) (room : Nat) : kS S l room snapC = S := by
  unfold kS
  rw [(snap_do S).2]
  split <;> rfl
theorem snap_kE {S : MS} {l : List Nat} {room : Nat} (h : l.length + 4104 ≤ room) : kE S l room snapC = 0 ∨ kE S l room snapC = 3 := by
  unfold kE
  rw [if_neg (by rw [(snap_do S).1]; simp)]
  unfold jc
  by_cases h1 : 4096 < (recB S snapC).length
  · rw [if_pos h1]; exact .inr rfl
  · rw [if_neg h1, if_neg (by omega)]; exact .inl rfl
theorem kS_ok {S : MS} {l : List Nat} {room : Nat} {c : MC} (h : MOk S) (hc : MCOk c) : MOk (kS S l room c) := by
  unfold kS
  split
  · exact h.does hc
  · exact h
theorem kS_ver {m : Nat} {S : MS} {l : List Nat} {room : Nat} {c : MC} (h : MVer m S) (hm : m < 1000) : MVer (m + 1) (kS S l room c) := by
  unfold kS
  split
  · exact h.does (by omega)
  · exact fun d hd => ⟨(h d hd).1, by have := (h d hd).2; omega⟩
def SnRel (w0 : World) (k p dp n : Nat) (s54 : Value) (wr : World) : Prop :=
  ∃ (j : Nat) (S : MS) (lk lp : List Nat), j ≤ n ∧ j ≤ 41 ∧ s54 = .int .i64 (j : Nat) ∧ Hid (Pr w0 wr k p dp 4194304 S lk S lp) ∧ Hid (MOk S) ∧ Hid (MVer j S) ∧ Hid (Rc S lk) ∧ Hid (lk.length ≤ j * 8208) ∧ Hid (lp.length ≤ j * 8208)

set_option maxHeartbeats 16000000 in
theorem metaSnaps_walk (a0 : Option Addr) (n cap : Nat) (ts : List Cm) (ev : Nat) (w : World) (h : Cms w a0 ts) (hn : n = ts.length) (hn63 : n ≤ 9223372036854775807) (_hev : ev < 256) :
    Calls Tryz.prog 5 #[.slice a0 n cap, .int .u8 (ev : Nat)] w fun e w' => e = .returned (.bool true) ∧ Below w.heap.size w w' := by
  have HAW := Lib.hid (awake8_any w)
  have HN := Lib.hid hn
  have H := Lib.hid h
  have HDN := Lib.hid (fun w1 => new_ok 4194304 w1 (by omega))
  rw [show ((4194304 : Nat) : Int) = 4194304 from rfl] at HDN
  clear h hn
  go_enter Tryz.func5, Tryz.ntmps5
  go_wp2_with fail
  (with_reducible refine HAW.out.mono ?_)
  rintro e w1 ⟨rfl, hb1⟩
  have HF1 := Lib.hid (Frm.ofBelow hb1); clear hb1 HAW
  go_wp2_with fail
  (with_reducible refine (HDN.out _).mono ?_)
  rintro e w2 ⟨rfl, hd2, hf2, hz2⟩
  obtain ⟨dp, hdp⟩ : ∃ dp, dp = w1.heap.size := ⟨_, rfl⟩
  rw [← hdp] at hd2 ⊢
  have HD2 := Lib.hid hd2
  have HDP := Lib.hid hdp
  have HF2 := Lib.hid (HF1.out.trans hf2 (U := []) (by simp) (by simp))
  clear hd2 hf2 hz2 hdp
  go_wp2_with fail
  (with_reducible refine (HDN.out _).mono ?_)
  rintro e w3 ⟨rfl, hd3, hf3, hz3⟩
  obtain ⟨op, hop⟩ : ∃ op, op = w2.heap.size := ⟨_, rfl⟩
  rw [← hop] at hd3 ⊢
  have HD3 := Lib.hid hd3
  have HF3 := Lib.hid (HF2.out.trans hf3 (U := []) (by simp) (by simp))
  have hdl : dp < w2.heap.size := (HD2.out.lt dp (by simp)).2
  have hol : op < w3.heap.size := (hd3.lt op (by simp)).2
  have HO := Lib.hid (pr_open1 (w0 := w) (HD2.out.keep hf3 (by simp)) hd3 (by omega) HF3.out (by have := HDP.out; have := HF1.out.size; omega) hol)
  have HOB : Hid (w.heap.size ≤ op) := Lib.hid (by have := HF2.out.size; omega)
  clear hd3 hf3 hz3 hop HDN hdl hol
  go_wp2_with fail
  (with_reducible refine HO.out.mono ?_)
  rintro e w4 ⟨k, jq, Fd, rfl, hk4, ho4, hf4⟩
  have HO2 := Lib.hid (pr_open2 (w0 := w) hk4 ho4 hf4 HOB.out)
  clear hk4 ho4 hf4 HO
  go_wp2_with fail
  (with_reducible refine HO2.out.mono ?_)
  rintro e w5 ⟨p, rfl, hp5⟩
  have HR0 : Hid (SnRel w k p dp n (.int .i64 (0 : Nat)) w5) := Lib.hid ⟨0, {}, [], [], Nat.zero_le _, by omega, rfl, Lib.hid hp5, Lib.hid MOk.first, Lib.hid (MVer.first 0), Lib.hid Rc.first, Lib.hid (by simp), Lib.hid (by simp)⟩
  clear hp5 HO2
  go_wp2
  go_loopw [54] (fun s54 wr => SnRel w k p dp n s54 wr) (fun s54 _ => n - (intOf s54).toNat)
  case atStart => exact HR0.out
  case round =>
    clear HR0
    obtain ⟨j, S, lk, lp, hj, hj41, rfl, HPR, HM, HV, HRC, HLK, HLP⟩ := hrel
    by_cases hlt : j < n
    · have HBW0 := Lib.hid (show Hid (Bytes w (ts.getD j default).valA (ts.getD j default).val) from Lib.hid (by obtain ⟨b, off, _, hin⟩ := H.out (by have := HN.out; omega); exact (hin j (by have := HN.out; omega)).ok.val_b))
      obtain ⟨b, off, rfl, hin⟩ := (H.out.keep HPR.out.frm) (by have := HN.out; omega)
      have hi := hin j (by have := HN.out; omega)
      obtain ⟨t, ht⟩ : ∃ t, t = ts.getD j default := ⟨_, rfl⟩
      rw [← ht] at hi HBW0
      have HBW := HBW0.out
      obtain ⟨p0, p1, p2, p3, p4, p5, hok⟩ := hi
      by_cases h40 : 40 < j
      · have hgt : decide ((40 : Int) < (j : Int)) = true := decide_eq_true (by omega)
        clear hin ht
        have HPT := Lib.hid (HPR.out.here ((Frm.refl [] wr).alloc (.cells #[.int .u8 (t.k : Nat), .string t.key, .slice t.valA t.val.length t.valC, .int .u64 (t.want : Nat), .int .u64 (t.ses : Nat), .int .u64 (t.ticks : Nat)] 51)))
        have HCR := Lib.hid (pr_crash HPT.out)
        go_wp2_with fail
        (with_reducible refine HCR.out.mono ?_)
        rintro e wx ⟨rfl, hpd⟩
        have HOP := Lib.hid (pd_open hpd HRC.out)
        clear hpd HCR
        go_wp2_with fail
        (with_reducible refine HOP.out.mono ?_)
        rintro e wy ⟨k2, rfl, hpr2⟩
        have HP2 := Lib.hid hpr2
        clear hpr2 HOP
        go_wp2_with fail
        (with_reducible refine (pr_now1 HP2.out).mono ?_)
        rintro e w' ⟨rfl, rfl⟩
        go_wp2_with fail
        (with_reducible refine (pr_now2 HP2.out).mono ?_)
        rintro e w' ⟨rfl, rfl⟩
        have HL1 := Lib.hid (pr_list1 HP2.out HM.out)
        go_wp2_with fail
        (with_reducible refine HL1.out.mono ?_)
        rintro e wl1 ⟨a1, c1, Y1, rfl, ⟨hy1, hn1⟩, hl1⟩
        have HP3 := Lib.hid (HP2.out.here hl1)
        have HY1 := Lib.hid hy1
        have HN1 := Lib.hid hn1
        have HL2 := Lib.hid (pr_list2 HP3.out HM.out)
        clear hy1 hn1 hl1 HL1
        go_wp2_with fail
        (with_reducible refine HL2.out.mono ?_)
        rintro e wl2 ⟨a2, c2, Y2, rfl, ⟨hy2, hn2⟩, hl2⟩
        have HSN := Lib.hid (sameNodes_true a1 a2 S.nodes.length c1 c2 Y1 Y2 [] [] wl2 (HN1.out.keep hl2 (by simp) (by simp)) hn2 (by rw [← nds_len', HY1.out]) (by rw [HY1.out, hy2]) (by have := HM.out.few; omega))
        have HFE := Lib.hid (HP3.out.frm.trans hl2 (U := []) (by simp) (by simp))
        clear hy2 hn2 hl2 HL2
        go_wp2_with fail
        (with_reducible refine HSN.out.mono ?_)
        rintro e ws ⟨rfl, hfs⟩
        have HFS := Lib.hid (HFE.out.trans hfs (U := []) (by simp) (by simp))
        clear hfs HSN
        go_wp2
        go_ret
        exact ⟨rfl, HFS.out.below (by simp) (Nat.le_refl _)⟩
      · have hgt : decide ((40 : Int) < (j : Int)) = false := decide_eq_false (by omega)
        obtain ⟨w4, hw4⟩ : ∃ w4, w4 = wr.alloc (.cells #[.int .u8 (t.k : Nat), .string t.key, .slice t.valA t.val.length t.valC, .int .u64 (t.want : Nat), .int .u64 (t.ses : Nat), .int .u64 (t.ticks : Nat)] 51) := ⟨_, rfl⟩
        obtain ⟨g, hg⟩ : ∃ g, g = wr.heap.size := ⟨_, rfl⟩
        have hW4 := Whole.made wr 51 #[.int .u8 (t.k : Nat), .string t.key, .slice t.valA t.val.length t.valC, .int .u64 (t.want : Nat), .int .u64 (t.ses : Nat), .int .u64 (t.ticks : Nat)]
        rw [← hw4, ← hg] at hW4
        have hf4 : Frm [] wr w4 := by rw [hw4]; exact (Frm.refl _ _).alloc _
        have HLO := Lib.hid (mlong_any t w4 hok.key_le (by have := hok.val_b.2.1; exact this))
        rw [show t.value = .agg #[.int .u8 (t.k : Nat), .string t.key, .slice t.valA t.val.length t.valC, .int .u64 (t.want : Nat), .int .u64 (t.ses : Nat), .int .u64 (t.ticks : Nat)] from rfl] at HLO
        have HW4 := Lib.hid hw4
        have HG := Lib.hid hg
        have HWG := Lib.hid hW4
        have HOK := Lib.hid (hok.keep hf4)
        have HBV := Lib.hid hok.val_b
        have HF4 := Lib.hid hf4
        clear hin ht hok hw4 hg hW4 hf4
        cases hlong : longB t
        · rw [hlong] at HLO
          go_wp2_with fail
          rw [← HW4.out]
          (with_reducible refine HLO.out.mono ?_)
          rintro e w5 ⟨rfl, hf5⟩
          have HCM := Lib.hid (mcmd_any t w5 HOK.out.k_lt (longB_no hlong).1)
          rw [show t.value = .agg #[.int .u8 (t.k : Nat), .string t.key, .slice t.valA t.val.length t.valC, .int .u64 (t.want : Nat), .int .u64 (t.ses : Nat), .int .u64 (t.ticks : Nat)] from rfl] at HCM
          have HCO := Lib.hid (fun key hk => cm_ok HOK.out hlong key hk)
          obtain ⟨r, hr9⟩ : ∃ r, r = t.k % 9 := ⟨_, rfl⟩
          rw [← hr9] at HCM HCO
          clear hr9
          have hW5 := hf5.whole HWG.out (by simp)
          have c0 := hW5.cell 0
          have c1 := hW5.cell 1
          have c2 := hW5.cell 2
          have c3 := hW5.cell 3
          have c4 := hW5.cell 4
          have c5 := hW5.cell 5
          simp at c0 c1 c2 c3 c4 c5
          have HW5 := Lib.hid hW5
          have HF5 := Lib.hid (HF4.out.trans hf5 (U := []) (by simp) (by simp))
          rw [← HG.out]
          clear hf5 hW5 HLO p0 p1 p2 p3 p4 p5
          go_wp2_with fail
          (with_reducible refine HCM.out.mono ?_)
          rintro e w6 ⟨key, hks, rfl, hf6⟩
          obtain ⟨c, hc⟩ : ∃ c : MC, c = ⟨r, key, t.val, t.want, t.ses, t.ticks⟩ := ⟨_, rfl⟩
          have HC := Lib.hid (HCO.out key hks)
          rw [← hc] at HC
          have HCV : Hid (cmdV c t.valA t.valC = .agg #[.int .u8 (r : Nat), .string key, .slice t.valA t.val.length t.valC, .int .u64 (t.want : Nat), .int .u64 (t.ses : Nat), .int .u64 (t.ticks : Nat)]) := Lib.hid (by rw [hc]; rfl)
          have HCL : Hid (c.val = t.val) := Lib.hid (by rw [hc])
          clear hc
          obtain ⟨w7, hw7⟩ : ∃ w7, w7 = (((((w6.setCell ⟨g, 0, none⟩ (.int .u8 (r : Nat))).setCell ⟨g, 1, none⟩ (.string key)).setCell ⟨g, 2, none⟩ (.slice t.valA t.val.length t.valC)).setCell ⟨g, 3, none⟩ (.int .u64 (t.want : Nat))).setCell ⟨g, 4, none⟩ (.int .u64 (t.ses : Nat))).setCell ⟨g, 5, none⟩ (.int .u64 (t.ticks : Nat)) := ⟨_, rfl⟩
          have h6 := hf6.whole HW5.out (by simp)
          have h7 : Whole w7 g 51 #[.int .u8 (r : Nat), .string key, .slice t.valA t.val.length t.valC, .int .u64 (t.want : Nat), .int .u64 (t.ses : Nat), .int .u64 (t.ticks : Nat)] := by
            have := (((((h6.put 0 (.int .u8 (r : Nat))).put 1 (.string key)).put 2 (.slice t.valA t.val.length t.valC)).put 3 (.int .u64 (t.want : Nat))).put 4 (.int .u64 (t.ses : Nat))).put 5 (.int .u64 (t.ticks : Nat))
            rw [hw7]; simpa using this
          have hf7 : Frm [] wr w7 := by
            have h0 : Frm [] wr w6 := HF5.out.trans hf6 (U := []) (by simp) (by simp)
            have hg2 : wr.heap.size ≤ g := by have := HG.out; omega
            rw [hw7]
            exact (((((h0.setCell (.inr hg2) _).setCell (.inr hg2) _).setCell (.inr hg2) _).setCell (.inr hg2) _).setCell (.inr hg2) _).setCell (.inr hg2) _
          have HF7 := Lib.hid hf7
          have HW7 := Lib.hid h7
          have HE7 := Lib.hid hw7
          have HP7 := Lib.hid (HPR.out.here hf7)
          have b0 := h6.cell 0
          have b1 := h6.cell 1
          have b2 := h6.cell 2
          have b3 := h6.cell 3
          have b4 := h6.cell 4
          have b5 := h6.cell 5
          have k0 := h6.free 0
          have k1 := h6.free 1
          have k2 := h6.free 2
          have k3 := h6.free 3
          have k4 := h6.free 4
          have k5 := h6.free 5
          simp at b0 b1 b2 b3 b4 b5
          have HCB := Lib.hid (show ∀ z, Frm [] w z → Bytes z t.valA c.val from fun z hz => by
            rw [HCL.out]
            exact hz.bytes' HBW.out (by simp))
          clear hf6 h6 h7 hf7 hw7 HCM HCO c0 c1 c2 c3 c4 c5
          have hDO := pr_do1 c t.valA t.valC HP7.out HM.out (fun d hd => by have := (HV.out d hd).1; omega) HC.out (HCB.out _ HP7.out.frm) HOK.out.val_nil
          rw [HCV.out] at hDO
          have hsame := kE_same (S := S) (c := c) (show lk.length + 4104 ≤ 4194304 by have := HLK.out; omega) (show lp.length + 4104 ≤ 4194304 by have := HLP.out; omega)
          have hsame2 := kS_same hsame
          obtain ⟨en, hen⟩ : ∃ en, en = kE S lk 4194304 c := ⟨_, rfl⟩
          obtain ⟨nn, hnn⟩ : ∃ nn, nn = kN S lk 4194304 c := ⟨_, rfl⟩
          obtain ⟨gl, hgl⟩ : ∃ gl, gl = (kG S lk 4194304 c).length := ⟨_, rfl⟩
          obtain ⟨S', hS'⟩ : ∃ S', S' = kS S lk 4194304 c := ⟨_, rfl⟩
          obtain ⟨lk1, hlk1⟩ : ∃ lk1, lk1 = kL S lk 4194304 c := ⟨_, rfl⟩
          obtain ⟨lp1, hlp1⟩ : ∃ lp1, lp1 = kL S lp 4194304 c := ⟨_, rfl⟩
          have HM1 : Hid (MOk S') := Lib.hid (by rw [hS']; exact kS_ok HM.out HC.out)
          have HV1 : Hid (MVer (j + 1) S') := Lib.hid (by rw [hS']; exact kS_ver HV.out (by omega))
          have HRS := Lib.hid (show (∀ x ∈ lk1, x < 256) → Rc S' lk1 from fun h8 => by rw [hS']; rw [hlk1] at h8 ⊢; exact HRC.out.step HM.out HV.out HC.out h8)
          have HLK1 : Hid (lk1.length ≤ j * 8208 + 4104) := Lib.hid (by have h1 := kL_len (S := S) (l := lk) (room := 4194304) (c := c); have h2 := HLK.out; rw [← hlk1] at h1; omega)
          have HLP1 : Hid (lp1.length ≤ j * 8208 + 4104) := Lib.hid (by have h1 := kL_len (S := S) (l := lp) (room := 4194304) (c := c); have h2 := HLP.out; rw [← hlp1] at h1; omega)
          rw [← hen, ← hnn, ← hgl, ← hS', ← hlk1] at hDO
          rw [← hen] at hsame
          rw [← hS', ← hnn] at hsame2
          have HDO := Lib.hid hDO
          have HSA := Lib.hid hsame
          have HSB := Lib.hid hsame2
          have HLPE := Lib.hid hlp1
          clear hDO hsame hsame2 hen hnn hgl hS' hlk1 hlp1
          go_wp2_with fail
          rw [← HE7.out]
          (with_reducible refine HDO.out.mono ?_)
          rintro e w8 ⟨ga, gc, rfl, hp8, hc8⟩
          have hW8 := hc8 _ _ HW7.out
          have g0 := hW8.cell 0
          have g1 := hW8.cell 1
          have g2 := hW8.cell 2
          have g3 := hW8.cell 3
          have g4 := hW8.cell 4
          have g5 := hW8.cell 5
          simp at g0 g1 g2 g3 g4 g5
          have hDO := pr_do2 c t.valA t.valC hp8 HM.out (fun d hd => by have := (HV.out d hd).1; omega) HC.out (HCB.out _ hp8.frm) HOK.out.val_nil
          rw [HCV.out, ← HSA.out, ← HSB.out.2, ← HSB.out.1, ← HLPE.out] at hDO
          obtain ⟨gl2, hgl2⟩ : ∃ gl2, gl2 = (kG S lp 4194304 c).length := ⟨_, rfl⟩
          rw [← hgl2] at hDO
          have HDO2 := Lib.hid hDO
          clear hDO hgl2 hW8 hp8 hc8 HDO b0 b1 b2 b3 b4 b5 k0 k1 k2 k3 k4 k5
          go_wp2_with fail
          (with_reducible refine HDO2.out.mono ?_)
          rintro e w9 ⟨ga2, gc2, rfl, hp9, _⟩
          have HP9 := Lib.hid hp9
          have HR9 := Lib.hid (HRS.out hp9.b8)
          clear hp9 HDO2 g0 g1 g2 g3 g4 g5
          obtain ⟨q, hq⟩ : ∃ q, q = ev % 4 := ⟨_, rfl⟩
          obtain ⟨r2, hr2⟩ : ∃ r2, r2 = j % (1 + q) := ⟨_, rfl⟩
          have hq4 : q < 4 := by omega
          have m1 : (ev : Int).tmod 4 = (q : Int) := by rw [hq]; exact (Int.ofNat_tmod ev 4).symm
          have m2 : IntKind.i64.wrap (q : Int) = (q : Int) := by simp [IntKind.wrap, IntKind.bits, IntKind.signed]; omega
          have m2b : IntKind.u8.wrap (q : Int) = (q : Int) := IntWalk.u8_in _ (by omega)
          have m3 : IntKind.i64.wrap (1 + (q : Int)) = (1 + (q : Int)) := by simp [IntKind.wrap, IntKind.bits, IntKind.signed]; omega
          have m4 : ((1 + (q : Int)) == 0) = false := by rw [beq_eq_false_iff_ne]; omega
          have m5 : (j : Int).tmod (1 + (q : Int)) = (r2 : Int) := by rw [hr2]; exact (Int.ofNat_tmod j (1 + q)).symm
          have m6 : IntKind.i64.wrap (r2 : Int) = (r2 : Int) := by have : r2 ≤ j := by rw [hr2]; exact Nat.mod_le _ _
                                                                   simp [IntKind.wrap, IntKind.bits, IntKind.signed]; omega
          clear hr2 hq
          by_cases hz : r2 = 0
          · have m7 : ((r2 : Int) == 0) = true := by rw [hz]; rfl
            have hDS := pr_do1 snapC none 0 HP9.out HM1.out (fun d hd => by have := (HV1.out d hd).1; omega) snapC_ok (Bytes.nil _) (fun _ => rfl)
            rw [show cmdV snapC none 0 = .agg #[.int .u8 7, .string ⟨#[]⟩, .slice none 0 0, .int .u64 0, .int .u64 0, .int .u64 0] from rfl, snap_kS] at hDS
            have hRS := HR9.out.step (room := 4194304) HM1.out HV1.out snapC_ok
            rw [snap_kS] at hRS
            have hLN := kL_len (S := S') (l := lk1) (room := 4194304) (c := snapC)
            have hEN := snap_kE (S := S') (l := lk1) (room := 4194304) (by have := HLK1.out; omega)
            obtain ⟨e3, he3⟩ : ∃ e3, e3 = kE S' lk1 4194304 snapC := ⟨_, rfl⟩
            obtain ⟨n3, hn3⟩ : ∃ n3, n3 = kN S' lk1 4194304 snapC := ⟨_, rfl⟩
            obtain ⟨gl3, hgl3⟩ : ∃ gl3, gl3 = (kG S' lk1 4194304 snapC).length := ⟨_, rfl⟩
            obtain ⟨lk2, hlk2⟩ : ∃ lk2, lk2 = kL S' lk1 4194304 snapC := ⟨_, rfl⟩
            rw [← he3, ← hn3, ← hgl3, ← hlk2] at hDS
            rw [← he3] at hEN
            rw [← hlk2] at hRS hLN
            have HDS := Lib.hid hDS
            have HRS2 := Lib.hid hRS
            have HLN := Lib.hid hLN
            clear hDS hRS hLN he3 hn3 hgl3 hlk2
            go_wp2_with fail
            (with_reducible refine HDS.out.mono ?_)
            rintro e wa ⟨ga3, gc3, rfl, hpa, _⟩
            have HREL : Hid (SnRel w k p dp n (.int .i64 ((j + 1 : Nat) : Nat)) wa) := Lib.hid ⟨j + 1, S', lk2, lp1, hlt, by omega, rfl, Lib.hid hpa, HM1, HV1, Lib.hid (HRS2.out hpa.b8), Lib.hid (by have := HLK1.out; have := HLN.out; omega), Lib.hid (by have := HLP1.out; omega)⟩
            clear hpa HDS
            rcases hEN with rfl | rfl
            · go_wp2
              go_roundw
              case rel => exact HREL.out
              case measure => simp [intOf]; omega
            · go_wp2
              go_roundw
              case rel => exact HREL.out
              case measure => simp [intOf]; omega
          · have m7 : ((r2 : Int) == 0) = false := by rw [beq_eq_false_iff_ne]; omega
            have HREL : Hid (SnRel w k p dp n (.int .i64 ((j + 1 : Nat) : Nat)) w9) := Lib.hid ⟨j + 1, S', lk1, lp1, hlt, by omega, rfl, HP9, HM1, HV1, HR9, Lib.hid (by have := HLK1.out; omega), Lib.hid (by have := HLP1.out; omega)⟩
            go_wp2
            go_roundw
            case rel => exact HREL.out
            case measure => simp [intOf]; omega
        · rw [hlong] at HLO
          go_wp2_with fail
          rw [← HW4.out]
          (with_reducible refine HLO.out.mono ?_)
          rintro e w5 ⟨rfl, hf5⟩
          have HPT := Lib.hid (HPR.out.here (HF4.out.trans hf5 (U := []) (by simp) (by simp)))
          clear hf5 HLO p0 p1 p2 p3 p4 p5
          have HCR := Lib.hid (pr_crash HPT.out)
          go_wp2_with fail
          (with_reducible refine HCR.out.mono ?_)
          rintro e wx ⟨rfl, hpd⟩
          have HOP := Lib.hid (pd_open hpd HRC.out)
          clear hpd HCR
          go_wp2_with fail
          (with_reducible refine HOP.out.mono ?_)
          rintro e wy ⟨k2, rfl, hpr2⟩
          have HP2 := Lib.hid hpr2
          clear hpr2 HOP
          go_wp2_with fail
          (with_reducible refine (pr_now1 HP2.out).mono ?_)
          rintro e w' ⟨rfl, rfl⟩
          go_wp2_with fail
          (with_reducible refine (pr_now2 HP2.out).mono ?_)
          rintro e w' ⟨rfl, rfl⟩
          have HL1 := Lib.hid (pr_list1 HP2.out HM.out)
          go_wp2_with fail
          (with_reducible refine HL1.out.mono ?_)
          rintro e wl1 ⟨a1, c1, Y1, rfl, ⟨hy1, hn1⟩, hl1⟩
          have HP3 := Lib.hid (HP2.out.here hl1)
          have HY1 := Lib.hid hy1
          have HN1 := Lib.hid hn1
          have HL2 := Lib.hid (pr_list2 HP3.out HM.out)
          clear hy1 hn1 hl1 HL1
          go_wp2_with fail
          (with_reducible refine HL2.out.mono ?_)
          rintro e wl2 ⟨a2, c2, Y2, rfl, ⟨hy2, hn2⟩, hl2⟩
          have HSN := Lib.hid (sameNodes_true a1 a2 S.nodes.length c1 c2 Y1 Y2 [] [] wl2 (HN1.out.keep hl2 (by simp) (by simp)) hn2 (by rw [← nds_len', HY1.out]) (by rw [HY1.out, hy2]) (by have := HM.out.few; omega))
          have HFE := Lib.hid (HP3.out.frm.trans hl2 (U := []) (by simp) (by simp))
          clear hy2 hn2 hl2 HL2
          go_wp2_with fail
          (with_reducible refine HSN.out.mono ?_)
          rintro e ws ⟨rfl, hfs⟩
          have HFS := Lib.hid (HFE.out.trans hfs (U := []) (by simp) (by simp))
          clear hfs HSN
          go_wp2
          go_ret
          exact ⟨rfl, HFS.out.below (by simp) (Nat.le_refl _)⟩
    · have hge : decide ((j : Int) < (n : Int)) = false := decide_eq_false (by omega)
      have HPT := HPR
      have HCR := Lib.hid (pr_crash HPT.out)
      go_wp2_with fail
      (with_reducible refine HCR.out.mono ?_)
      rintro e wx ⟨rfl, hpd⟩
      have HOP := Lib.hid (pd_open hpd HRC.out)
      clear hpd HCR
      go_wp2_with fail
      (with_reducible refine HOP.out.mono ?_)
      rintro e wy ⟨k2, rfl, hpr2⟩
      have HP2 := Lib.hid hpr2
      clear hpr2 HOP
      go_wp2_with fail
      (with_reducible refine (pr_now1 HP2.out).mono ?_)
      rintro e w' ⟨rfl, rfl⟩
      go_wp2_with fail
      (with_reducible refine (pr_now2 HP2.out).mono ?_)
      rintro e w' ⟨rfl, rfl⟩
      have HL1 := Lib.hid (pr_list1 HP2.out HM.out)
      go_wp2_with fail
      (with_reducible refine HL1.out.mono ?_)
      rintro e wl1 ⟨a1, c1, Y1, rfl, ⟨hy1, hn1⟩, hl1⟩
      have HP3 := Lib.hid (HP2.out.here hl1)
      have HY1 := Lib.hid hy1
      have HN1 := Lib.hid hn1
      have HL2 := Lib.hid (pr_list2 HP3.out HM.out)
      clear hy1 hn1 hl1 HL1
      go_wp2_with fail
      (with_reducible refine HL2.out.mono ?_)
      rintro e wl2 ⟨a2, c2, Y2, rfl, ⟨hy2, hn2⟩, hl2⟩
      have HSN := Lib.hid (sameNodes_true a1 a2 S.nodes.length c1 c2 Y1 Y2 [] [] wl2 (HN1.out.keep hl2 (by simp) (by simp)) hn2 (by rw [← nds_len', HY1.out]) (by rw [HY1.out, hy2]) (by have := HM.out.few; omega))
      have HFE := Lib.hid (HP3.out.frm.trans hl2 (U := []) (by simp) (by simp))
      clear hy2 hn2 hl2 HL2
      go_wp2_with fail
      (with_reducible refine HSN.out.mono ?_)
      rintro e ws ⟨rfl, hfs⟩
      have HFS := Lib.hid (HFE.out.trans hfs (U := []) (by simp) (by simp))
      clear hfs HSN
      go_wp2
      go_ret
      exact ⟨rfl, HFS.out.below (by simp) (Nat.le_refl _)⟩
end Go.Proofs.YtbdgldlblkflpaaGreat
