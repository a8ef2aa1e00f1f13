/- MetaApart: the walk. -/
import Derived.Test.YtbdgldlblkflpaaGreatZMtKv
import Derived.Test.YtbdgldlblkflpaaGreatZMtCmd
import Derived.Test.YtbdgldlblkflpaaGreatMC
import Derived.Deep.LoopGhost
import Derived.Deep.RegionHeld3
namespace Go.Proofs.YtbdgldlblkflpaaGreat
open Go.RowKit
set_option maxRecDepth 100000
theorem pfx_all (L : List Nd) : L.filter (fun d => pfx ⟨#[]⟩ d.k) = L := by
  rw [List.filter_eq_self]
  intro d _
  rfl
/-- All nodes of a keeper. -/
theorem klist_all {w : World} {B k jq dp : Nat} {G Fd : List Nat} {S : MS} {l : List Nat} {room : Nat} (h : Kp w B G k jq dp Fd S l room) (hG : Good S.nodes) (hGl : ∀ x ∈ G, x < w.heap.size) :
    Calls Tryz.prog 28 #[.pointer (some ⟨k, 0, none⟩), .string ⟨#[]⟩] w fun e w' => ∃ a' c' Y, e = .returned (.slice a' S.nodes.length c') ∧ (nds Y = S.nodes ∧ NL w' (k :: jq :: (Fd ++ G)) a' Y) ∧ Frm [] w w' := by
  refine (klist_any ⟨#[]⟩ h hG hGl).mono ?_
  rintro e w' ⟨a', c', Y, hY, rfl, ho, hf⟩
  rw [pfx_all] at hY
  have hl : Y.length = S.nodes.length := by rw [← nds_len', hY]
  rw [hl]
  exact ⟨a', c', Y, rfl, ⟨hY, ho.nl⟩, hf⟩
/-- A command of a program's value, as it is done. -/
theorem cm_ok {w : World} {t : Cm} (h : CmOk w t) (hl : longB t = false) (key : ByteArray) (hk : key.size ≤ 5000) : MCOk ⟨t.k % 9, key, t.val, t.want, t.ses, t.ticks⟩ :=
  ⟨by show t.k % 9 < 256; omega, hk, ⟨(longB_no hl).2, h.val_b.1⟩, h.want_lt, h.ses_lt, h.ticks_lt⟩
def ApRel (w0 : World) (k dp n room : Nat) (s34 : Value) (wr : World) : Prop :=
  ∃ (j : Nat) (S : MS) (l : List Nat) (jq : Nat) (Fd : List Nat), j ≤ n ∧ j ≤ 41 ∧ s34 = .int .i64 (j : Nat) ∧ Hid (Kp wr w0.heap.size [] k jq dp Fd S l room) ∧ Hid (MOk S) ∧ Hid (MVer j S) ∧ Hid (Frm [] w0 wr)

set_option maxHeartbeats 16000000 in
theorem metaApart_walk (a0 : Option Addr) (n cap : Nat) (ts : List Cm) (room : Nat) (w : World) (h : Cms w a0 ts) (hn : n = ts.length) (hn63 : n ≤ 9223372036854775807) (hr : room < 65536) :
    Calls Tryz.prog 8 #[.slice a0 n cap, .int .u16 (room : Nat)] w fun e w' => e = .returned (.bool true) ∧ Below w.heap.size w w' := by
  have HAW := Lib.hid (awake8_any w)
  have HN := Lib.hid hn
  have H := Lib.hid h
  have hr1 : IntKind.i64.wrap (room : Int) = (room : Int) := by simp [IntKind.wrap, IntKind.bits, IntKind.signed]; omega
  have HDN := Lib.hid (fun w1 => new_ok room w1 (by omega))
  clear h hn
  go_enter Tryz.func8, Tryz.ntmps8
  go_wp2_with fail
  (with_reducible refine HAW.out.mono ?_)
  rintro e w1 ⟨rfl, hb1⟩
  have HF1 := Lib.hid (Frm.ofBelow hb1); clear hb1 HAW
  go_wp2_with fail
  (with_reducible refine (HDN.out _).mono ?_)
  rintro e w2 ⟨rfl, hd2, hf2, hz2⟩
  obtain ⟨dp, hdp⟩ : ∃ dp, dp = w1.heap.size := ⟨_, rfl⟩
  rw [← hdp] at hd2 ⊢
  have HO := Lib.hid (kopen_low w w2 dp room hd2 (HF1.out.trans hf2 (U := []) (by simp) (by simp)) (by rw [hdp]; exact HF1.out.size))
  clear hd2 hf2 hz2 hdp HF1 HDN hr1
  go_wp2_with fail
  (with_reducible refine HO.out.mono ?_)
  rintro e w3 ⟨k, jq, Fd, rfl, hk3, hf3⟩
  have HR0 : Hid (ApRel w k dp n room (.int .i64 (0 : Nat)) w3) := Lib.hid ⟨0, {}, [], jq, Fd, Nat.zero_le _, by omega, rfl, Lib.hid hk3, Lib.hid MOk.first, Lib.hid (MVer.first 0), Lib.hid hf3⟩
  clear hk3 hf3 HO
  go_wp2
  go_loopw [34] (fun s34 wr => ApRel w k dp n room s34 wr) (fun s34 _ => n - (intOf s34).toNat)
  case atStart => exact HR0.out
  case round =>
    clear HR0
    obtain ⟨j, S, l, jq, Fd, hj, hj41, rfl, HK, HM, HV, HF⟩ := hrel
    by_cases hlt : j < n
    · obtain ⟨b, off, rfl, hin⟩ := (H.out.keep HF.out) (by have := HN.out; omega)
      have hi := hin j (by have := HN.out; omega)
      obtain ⟨t, ht⟩ : ∃ t, t = ts.getD j default := ⟨_, rfl⟩
      rw [← ht] at hi
      obtain ⟨p0, p1, p2, p3, p4, p5, hok⟩ := hi
      by_cases h40 : 40 < j
      · have hgt : decide ((40 : Int) < (j : Int)) = true := decide_eq_true (by omega)
        clear hin ht
        go_wp2
        go_ret
        exact ⟨rfl, (HF.out.alloc _).below (by simp) (Nat.le_refl _)⟩
      · have hgt : decide ((40 : Int) < (j : Int)) = false := decide_eq_false (by omega)
        obtain ⟨w4, hw4⟩ : ∃ w4, w4 = wr.alloc (.cells #[.int .u8 (t.k : Nat), .string t.key, .slice t.valA t.val.length t.valC, .int .u64 (t.want : Nat), .int .u64 (t.ses : Nat), .int .u64 (t.ticks : Nat)] 51) := ⟨_, rfl⟩
        obtain ⟨g, hg⟩ : ∃ g, g = wr.heap.size := ⟨_, rfl⟩
        have hW4 := Whole.made wr 51 #[.int .u8 (t.k : Nat), .string t.key, .slice t.valA t.val.length t.valC, .int .u64 (t.want : Nat), .int .u64 (t.ses : Nat), .int .u64 (t.ticks : Nat)]
        rw [← hw4, ← hg] at hW4
        have hf4 : Frm [] wr w4 := by rw [hw4]; exact (Frm.refl _ _).alloc _
        have HLO := Lib.hid (mlong_any t w4 hok.key_le (by have := hok.val_b.2.1; exact this))
        rw [show t.value = .agg #[.int .u8 (t.k : Nat), .string t.key, .slice t.valA t.val.length t.valC, .int .u64 (t.want : Nat), .int .u64 (t.ses : Nat), .int .u64 (t.ticks : Nat)] from rfl] at HLO
        have HW4 := Lib.hid hw4
        have HG := Lib.hid hg
        have HWG := Lib.hid hW4
        have HOK := Lib.hid (hok.keep hf4)
        have HBV := Lib.hid hok.val_b
        have HF4 := Lib.hid hf4
        clear hin ht hok hw4 hg hW4 hf4
        cases hlong : longB t
        · rw [hlong] at HLO
          go_wp2_with fail
          rw [← HW4.out]
          (with_reducible refine HLO.out.mono ?_)
          rintro e w5 ⟨rfl, hf5⟩
          have HCM := Lib.hid (mcmd_any t w5 HOK.out.k_lt (longB_no hlong).1)
          rw [show t.value = .agg #[.int .u8 (t.k : Nat), .string t.key, .slice t.valA t.val.length t.valC, .int .u64 (t.want : Nat), .int .u64 (t.ses : Nat), .int .u64 (t.ticks : Nat)] from rfl] at HCM
          have HCO := Lib.hid (fun key hk => cm_ok HOK.out hlong key hk)
          obtain ⟨r, hr9⟩ : ∃ r, r = t.k % 9 := ⟨_, rfl⟩
          rw [← hr9] at HCM HCO
          clear hr9
          have hW5 := hf5.whole HWG.out (by simp)
          have c0 := hW5.cell 0
          have c1 := hW5.cell 1
          have c2 := hW5.cell 2
          have c3 := hW5.cell 3
          have c4 := hW5.cell 4
          have c5 := hW5.cell 5
          simp at c0 c1 c2 c3 c4 c5
          have HW5 := Lib.hid hW5
          have HF5 := Lib.hid (HF4.out.trans hf5 (U := []) (by simp) (by simp))
          rw [← HG.out]
          clear hf5 hW5 HLO p0 p1 p2 p3 p4 p5
          go_wp2_with fail
          (with_reducible refine HCM.out.mono ?_)
          rintro e w6 ⟨key, hks, rfl, hf6⟩
          obtain ⟨c, hc⟩ : ∃ c : MC, c = ⟨r, key, t.val, t.want, t.ses, t.ticks⟩ := ⟨_, rfl⟩
          have HC := Lib.hid (HCO.out key hks)
          rw [← hc] at HC
          have HCV : Hid (cmdV c t.valA t.valC = .agg #[.int .u8 (r : Nat), .string key, .slice t.valA t.val.length t.valC, .int .u64 (t.want : Nat), .int .u64 (t.ses : Nat), .int .u64 (t.ticks : Nat)]) := Lib.hid (by rw [hc]; rfl)
          have HCL : Hid (c.val = t.val) := Lib.hid (by rw [hc])
          clear hc
          obtain ⟨w7, hw7⟩ : ∃ w7, w7 = (((((w6.setCell ⟨g, 0, none⟩ (.int .u8 (r : Nat))).setCell ⟨g, 1, none⟩ (.string key)).setCell ⟨g, 2, none⟩ (.slice t.valA t.val.length t.valC)).setCell ⟨g, 3, none⟩ (.int .u64 (t.want : Nat))).setCell ⟨g, 4, none⟩ (.int .u64 (t.ses : Nat))).setCell ⟨g, 5, none⟩ (.int .u64 (t.ticks : Nat)) := ⟨_, rfl⟩
          have h6 := hf6.whole HW5.out (by simp)
          have h7 : Whole w7 g 51 #[.int .u8 (r : Nat), .string key, .slice t.valA t.val.length t.valC, .int .u64 (t.want : Nat), .int .u64 (t.ses : Nat), .int .u64 (t.ticks : Nat)] := by
            have := (((((h6.put 0 (.int .u8 (r : Nat))).put 1 (.string key)).put 2 (.slice t.valA t.val.length t.valC)).put 3 (.int .u64 (t.want : Nat))).put 4 (.int .u64 (t.ses : Nat))).put 5 (.int .u64 (t.ticks : Nat))
            rw [hw7]; simpa using this
          have hf7 : Frm [] wr w7 := by
            have h0 : Frm [] wr w6 := HF5.out.trans hf6 (U := []) (by simp) (by simp)
            have hg2 : wr.heap.size ≤ g := by have := HG.out; omega
            rw [hw7]
            exact (((((h0.setCell (.inr hg2) _).setCell (.inr hg2) _).setCell (.inr hg2) _).setCell (.inr hg2) _).setCell (.inr hg2) _).setCell (.inr hg2) _
          have HF7 := Lib.hid hf7
          have HW7 := Lib.hid h7
          have HE7 := Lib.hid hw7
          have HK7 := Lib.hid (HK.out.here hf7)
          have b0 := h6.cell 0
          have b1 := h6.cell 1
          have b2 := h6.cell 2
          have b3 := h6.cell 3
          have b4 := h6.cell 4
          have b5 := h6.cell 5
          have k0 := h6.free 0
          have k1 := h6.free 1
          have k2 := h6.free 2
          have k3 := h6.free 3
          have k4 := h6.free 4
          have k5 := h6.free 5
          simp at b0 b1 b2 b3 b4 b5
          have HLI := Lib.hid (klist_all HK7.out HM.out.good (by simp))
          clear hf6 h6 h7 hf7 hw7 HCM HCO c0 c1 c2 c3 c4 c5
          go_wp2_with fail
          rw [← HE7.out]
          (with_reducible refine HLI.out.mono ?_)
          rintro e wa ⟨a1, c1, Y1, rfl, ⟨hy1, hn1⟩, hfa⟩
          have HY1 := Lib.hid hy1
          have HNL := Lib.hid hn1
          have HKa := Lib.hid (HK7.out.here hfa)
          have HFa := Lib.hid hfa
          clear hy1 hn1 hfa HLI b0 b1 b2 b3 b4 b5 k0 k1 k2 k3 k4 k5
          go_wp2_with fail
          (with_reducible refine (know_any HKa.out).mono ?_)
          rintro e w' ⟨rfl, rfl⟩
          go_wp2_with fail
          (with_reducible refine (dbytes_any HKa.out.dk).mono ?_)
          rintro e wb ⟨ab, cb, rfl, hob, hfb⟩
          have HKb := Lib.hid (HKa.out.here hfb)
          have HOB := Lib.hid hob
          have HFb := Lib.hid hfb
          have HNB := Lib.hid (HNL.out.keep (F' := k :: jq :: (Fd ++ [])) hfb (by simp) (fun x hx => .inl hx))
          have hWb := (HFa.out.trans hfb (U := []) (by simp) (by simp)).whole HW7.out (by simp)
          have g0 := hWb.cell 0
          have g1 := hWb.cell 1
          have g2 := hWb.cell 2
          have g3 := hWb.cell 3
          have g4 := hWb.cell 4
          have g5 := hWb.cell 5
          simp at g0 g1 g2 g3 g4 g5
          have hDO := kdo_any c t.valA t.valC HKb.out HM.out (fun d hd => by have := (HV.out d hd).1; omega) HC.out (by simp) (by rw [HCL.out]; exact ((HF7.out.trans HFa.out (U := []) (by simp) (by simp)).trans hfb (U := []) (by simp) (by simp)).bytes HBV.out (by simp)) HOK.out.val_nil
          rw [HCV.out] at hDO
          unfold KdoEnd at hDO
          obtain ⟨en, hen⟩ : ∃ en, en = kE S l room c := ⟨_, rfl⟩
          obtain ⟨nn, hnn⟩ : ∃ nn, nn = kN S l room c := ⟨_, rfl⟩
          obtain ⟨gl, hgl⟩ : ∃ gl, gl = (kG S l room c).length := ⟨_, rfl⟩
          rw [← hen, ← hnn, ← hgl] at hDO
          have HEN := Lib.hid hen
          have HNN := Lib.hid hnn
          have HGL := Lib.hid hgl
          have HDO := Lib.hid hDO
          clear hob hfb hWb hDO hen hnn hgl
          obtain ⟨ln, hln⟩ : ∃ ln, ln = l.length := ⟨_, rfl⟩
          have HLN := Lib.hid hln
          rw [← hln]
          clear hln
          go_wp2_with fail
          (with_reducible refine HDO.out.mono ?_)
          rintro e w8 ⟨ga, gc, Fd', rfl, _, _, hk8, hf8, hx8⟩
          have HK8 := Lib.hid hk8
          have HF8 := Lib.hid hf8
          have hfw8 : Frm [] w w8 := (((HF.out.trans HF7.out (U := []) (by simp) (by simp)).trans HFa.out (U := []) (by simp) (by simp)).trans HFb.out (U := []) (by simp) (by simp)).trans hf8 (by simp) (fun x hx => .inr (HKb.out.out x (by simp only [List.mem_cons] at hx ⊢; rcases hx with h | h; exact .inl h; exact .inr (.inr h))).2)
          have HW8 := Lib.hid hfw8
          clear hk8 hf8 hx8 hfw8 HDO g0 g1 g2 g3 g4 g5
          by_cases hE : en = 0
          · subst hE
            have e0 : kE S l room c = 0 := HEN.out.symm
            have hkl : kL S l room c = l ++ fr (recB S c) := by unfold kL; rw [if_pos e0]
            have hks2 : kS S l room c = doS S c := by unfold kS; rw [if_pos e0]
            obtain ⟨m, hm⟩ : ∃ m, m = (kL S l room c).length := ⟨_, rfl⟩
            have hml : ln < m := by rw [hm, hkl, List.length_append, fr_length, HLN.out]; omega
            have SU := Lib.hid (fun q => sure_any (HK8.out.here ((Frm.refl [] w8).drewN q)).dk)
            rw [← hm] at SU
            have hle : decide ((m : Int) ≤ (ln : Int)) = false := decide_eq_false (by omega)
            have hle2 : decide (m ≤ ln) = false := decide_eq_false (by omega)
            have HREL : Hid (∀ z, Frm [] w8 z → ApRel w k dp n room (.int .i64 ((j + 1 : Nat) : Nat)) z) := Lib.hid fun z hz => ⟨j + 1, doS S c, l ++ fr (recB S c), jq, Fd', hlt, by omega, rfl, Lib.hid (by have := HK8.out.here hz; rw [hkl, hks2] at this; exact this), Lib.hid (HM.out.does HC.out), Lib.hid (HV.out.does (by omega)), Lib.hid (HW8.out.trans hz (U := []) (by simp) (by simp))⟩
            clear e0 hkl hks2 hm hml
            go_wp2
            go_quiet (fail)
            go_wp2_with fail
            (with_reducible refine (SU.out _).mono ?_)
            rintro e w' ⟨rfl, rfl⟩
            go_wp2
            go_roundw
            case rel => exact HREL.out _ ((Frm.refl [] w8).drewN _)
            case measure => simp [intOf]; omega
          · have e0 : ¬ kE S l room c = 0 := by rw [← HEN.out]; exact hE
            have hkl : kL S l room c = l := by unfold kL; rw [if_neg e0]
            have hks2 : kS S l room c = S := by unfold kS; rw [if_neg e0]
            obtain rfl : nn = 0 := by rw [HNN.out]; unfold kN; rw [if_neg e0]
            obtain rfl : gl = 0 := by rw [HGL.out]; unfold kG; rw [if_neg e0]; rfl
            have hk9 := HK8.out
            rw [hkl, hks2] at hk9
            have HK9 := Lib.hid hk9
            have HREL : Hid (∀ z, Frm [] w8 z → ApRel w k dp n room (.int .i64 ((j + 1 : Nat) : Nat)) z) := Lib.hid fun z hz => ⟨j + 1, S, l, jq, Fd', hlt, by omega, rfl, Lib.hid (HK9.out.here hz), HM, Lib.hid (fun d hd => ⟨(HV.out d hd).1, by have := (HV.out d hd).2; omega⟩), Lib.hid (HW8.out.trans hz (U := []) (by simp) (by simp))⟩
            have LI := Lib.hid (fun z (hz : Frm [] w8 z) => klist_all (HK9.out.here hz) HM.out.good (by simp))
            have hnl8 : ∀ z, Frm [] w8 z → NL z [] a1 Y1 := fun z hz => by
              have h1 := HNB.out.keep (F' := k :: jq :: (Fd ++ [])) HF8.out (fun x hx => .inl (by simp only [List.mem_cons, List.append_nil] at hx ⊢; rcases hx with h | h; exact .inl h; exact .inr (.inr h))) (fun x hx => .inl hx)
              exact h1.keep hz (by simp) (by simp)
            have SN := Lib.hid (fun z al cl YL (hz : Frm [] w8 z) (hol : nds YL = S.nodes ∧ NL z (k :: jq :: (Fd' ++ [])) al YL) => sameNodes_true al a1 S.nodes.length cl c1 YL Y1 _ _ z hol.2 (hnl8 z hz) (by rw [← nds_len', hol.1]) (by rw [hol.1, HY1.out]) (by have := HM.out.few; omega))
            have NO := Lib.hid (fun z (hz : Frm [] w8 z) => know_any (HK9.out.here hz))
            have hob8 : ∀ z, Frm [] w8 z → Bytes z ab l := fun z hz => by
              have ho := HOB.out
              have h8 := HKa.out.dk.1.1
              have hby := (bytes_of_own (l := l) ho h8).2.1
              refine hz.bytes (HF8.out.bytes hby (fun q hq hm => ?_)) (by simp)
              have h1 := (World.ownsRow.lt ho q.block (by rw [hq]; rfl)).1
              have h2 := HKa.out.klt q.block (by simp only [List.mem_cons] at hm ⊢; rcases hm with h | h; exact .inl h; exact .inr (.inr h))
              omega
            have cvb : ∀ y, Frm [] w8 y → (Go.convert 35 9 (.slice ab ln cb)).run Tryz.prog y = .ok (.string (strOf l)) y := fun y hy =>
              run_to_string (P := Tryz.prog) (src := 35) (dst := 9) (e := 5) Tryz.underlying35 Tryz.underlying5 Tryz.underlying9 (hob8 y hy) HLN.out
            have BY := Lib.hid (fun z (hz : Frm [] w8 z) => (dbytes_any (HK9.out.here hz).dk).mono (fun e w' (h : Own z w' l e) => (show ∃ ab cb2, e = .returned (.slice ab ln cb2) ∧ (∀ y, y = w' → (Go.convert 35 9 (.slice ab ln cb2)).run Tryz.prog y = .ok (.string (strOf l)) y) ∧ Frm [] z w' from by
              obtain ⟨ab, cb2, he, ho, hf⟩ := h
              rw [← HLN.out] at he
              refine ⟨ab, cb2, he, fun y hy => ?_, hf⟩
              subst hy
              exact run_to_string (P := Tryz.prog) (src := 35) (dst := 9) (e := 5) Tryz.underlying35 Tryz.underlying5 Tryz.underlying9 (bytes_of_own ho HKa.out.dk.1.1).2.1 HLN.out)))
            have hne : ((en : Int) != 0) = true := by rw [bne_iff_ne]; omega
            have hnow : ((S.now : Int) != (S.now : Int)) = false := by simp
            have heq : (((strOf l).toList != (strOf l).toList) = false) := by simp
            clear e0 hkl hks2 hk9
            go_wp2
            refine wp_region_held_drew (S := fun w' => Frm [] w8 w') (by kernel_rfl) (Frm.drew (Frm.refl _ _)) (fun hHeld => ?_)
            refine wpAnyH_take (i := 0) (oi := ⟨some 60, _, _, _, _, _⟩) (v := ?_) rfl (by kernel_rfl) (by kernel_rfl) (by kernel_rfl) (fun _ _ _ h => h) (Or.inl ⟨by rfl, ?_⟩) (by assumption) ?_
            rotate_left 1
            · (intro w hSw; (try dsimp only at hSw); go_simp; all_goals with_reducible rfl)
            try simp only [Act.put, List.setIfInBounds_toArray, List.set_cons_zero, List.set_cons_succ]
            refine wpAnyH_take (i := 1) (oi := ⟨some 61, _, _, _, _, _⟩) (v := ?_) rfl (by kernel_rfl) (by kernel_rfl) (by kernel_rfl) (fun _ _ _ h => h) (Or.inl ⟨by rfl, ?_⟩) (by assumption) ?_
            rotate_left 1
            · (intro w hSw; (try dsimp only at hSw); go_simp; all_goals with_reducible rfl)
            try simp only [Act.put, List.setIfInBounds_toArray, List.set_cons_zero, List.set_cons_succ]
            refine wpAnyH_take (i := 2) (oi := ⟨some 62, _, _, _, _, _⟩) (v := ?_) rfl (by kernel_rfl) (by kernel_rfl) (by kernel_rfl) (fun _ _ _ h => h) (Or.inl ⟨by rfl, ?_⟩) (by assumption) ?_
            rotate_left 1
            · (intro w hSw; (try dsimp only at hSw); go_simp; all_goals with_reducible rfl)
            try simp only [Act.put, List.setIfInBounds_toArray, List.set_cons_zero, List.set_cons_succ]
            refine wpAnyH_take (i := 3) (oi := ⟨some 63, _, _, _, _, _⟩) (v := ?_) rfl (by kernel_rfl) (by kernel_rfl) (by kernel_rfl) (fun _ _ _ h => h) (Or.inl ⟨by rfl, ?_⟩) (by assumption) ?_
            rotate_left 1
            · (intro w hSw; (try dsimp only at hSw); go_simp; all_goals with_reducible rfl)
            try simp only [Act.put, List.setIfInBounds_toArray, List.set_cons_zero, List.set_cons_succ]
            refine wpAnyH_take (i := 4) (oi := ⟨some 64, _, _, _, _, _⟩) (v := ?_) rfl (by kernel_rfl) (by kernel_rfl) (by kernel_rfl) (fun _ _ _ h => h) (Or.inl ⟨by rfl, ?_⟩) (by assumption) ?_
            rotate_left 1
            · (intro w hSw; (try dsimp only at hSw); go_simp; all_goals with_reducible rfl)
            try simp only [Act.put, List.setIfInBounds_toArray, List.set_cons_zero, List.set_cons_succ]
            refine wpAnyH_take (i := 5) (oi := ⟨some 65, _, _, _, _, _⟩) (v := ?_) rfl (by kernel_rfl) (by kernel_rfl) (by kernel_rfl) (fun _ _ _ h => h) (Or.inl ⟨by rfl, ?_⟩) (by assumption) ?_
            rotate_left 1
            · (intro w hSw; (try dsimp only at hSw); go_simp; all_goals with_reducible rfl)
            try simp only [Act.put, List.setIfInBounds_toArray, List.set_cons_zero, List.set_cons_succ]
            refine wpAnyH_take (i := 6) (oi := ⟨some 66, _, _, _, _, _⟩) (v := ?_) rfl (by kernel_rfl) (by kernel_rfl) (by kernel_rfl) (fun _ _ _ h => h) (Or.inl ⟨by rfl, ?_⟩) (by assumption) ?_
            rotate_left 1
            · (intro w hSw; (try dsimp only at hSw); go_simp; all_goals with_reducible rfl)
            try simp only [Act.put, List.setIfInBounds_toArray, List.set_cons_zero, List.set_cons_succ]
            refine wpAnyH_take (i := 7) (oi := ⟨some 67, _, _, _, _, _⟩) (v := ?_) rfl (by kernel_rfl) (by kernel_rfl) (by kernel_rfl) (fun _ _ _ h => h) (Or.inl ⟨by rfl, ?_⟩) (by assumption) ?_
            rotate_left 1
            · (intro w hSw; (try dsimp only at hSw); go_simp; all_goals with_reducible rfl)
            try simp only [Act.put, List.setIfInBounds_toArray, List.set_cons_zero, List.set_cons_succ]
            refine wpAnyH_take (i := 8) (oi := ⟨some 68, _, _, _, _, _⟩) (v := ?_) rfl (by kernel_rfl) (by kernel_rfl) (by kernel_rfl) (fun _ _ _ h => h) (Or.inl ⟨by rfl, ?_⟩) (by assumption) ?_
            rotate_left 1
            · (intro w hSw; (try dsimp only at hSw); go_simp; all_goals with_reducible rfl)
            try simp only [Act.put, List.setIfInBounds_toArray, List.set_cons_zero, List.set_cons_succ]
            refine wpAnyH_take (i := 9) (oi := ⟨some 69, _, _, _, _, _⟩) (v := ?_) rfl (by kernel_rfl) (by kernel_rfl) (by kernel_rfl) (fun _ _ _ h => h) (Or.inl ⟨by rfl, ?_⟩) (by assumption) ?_
            rotate_left 1
            · (intro w hSw; (try dsimp only at hSw); go_simp; all_goals with_reducible rfl)
            try simp only [Act.put, List.setIfInBounds_toArray, List.set_cons_zero, List.set_cons_succ]
            refine wpAnyH_take (i := 10) (oi := ⟨some 70, _, _, _, _, _⟩) (v := ?_) rfl (by kernel_rfl) (by kernel_rfl) (by kernel_rfl) (fun _ _ _ h => h) (Or.inl ⟨by rfl, ?_⟩) (by assumption) ?_
            rotate_left 1
            · (intro w hSw; (try dsimp only at hSw); go_simp; all_goals with_reducible rfl)
            try simp only [Act.put, List.setIfInBounds_toArray, List.set_cons_zero, List.set_cons_succ]
            refine wpAnyH_take (i := 11) (oi := ⟨some 71, _, _, _, _, _⟩) (v := ?_) rfl (by kernel_rfl) (by kernel_rfl) (by kernel_rfl) (fun _ _ _ h => h) (Or.inl ⟨by rfl, ?_⟩) (by assumption) ?_
            rotate_left 1
            · (intro w hSw; (try dsimp only at hSw); go_simp; all_goals with_reducible rfl)
            try simp only [Act.put, List.setIfInBounds_toArray, List.set_cons_zero, List.set_cons_succ]
            refine wpAnyH_take (i := 13) (oi := ⟨some 73, _, _, _, _, _⟩) (v := ?_) rfl (by kernel_rfl) (by kernel_rfl) (by kernel_rfl) (fun _ _ _ h => h) (Or.inl ⟨by rfl, ?_⟩) (by assumption) ?_
            rotate_left 1
            · (intro w hSw; (try dsimp only at hSw); go_simp; all_goals with_reducible rfl)
            try simp only [Act.put, List.setIfInBounds_toArray, List.set_cons_zero, List.set_cons_succ]
            refine wpAnyH_ready (rs := [12]) (by kernel_rfl) (by simp) ?_
            refine AllReadyH.cons (o := ⟨some 72, _, _, _, _, _⟩) rfl (fun K hK => ?_) AllReadyH.nil
            go_simp
            (go_at_call 28; (with_reducible refine (LI.out _ (by assumption)).mono ?_); rintro e wl ⟨al, cl, YL, rfl, hol, hfl⟩; have S2 : Frm [] w8 wl := Frm.trans (by assumption) hfl (by simp) (by simp); clear hfl)
            go_wp2_with fail
            refine hK.out _ _ (by assumption) (fun hHeld => ?_)
            clear hK K
            try simp only [Act.put, List.setIfInBounds_toArray, List.set_cons_zero, List.set_cons_succ]
            refine wpAnyH_ready (rs := [14]) (by kernel_rfl) (by simp) ?_
            refine AllReadyH.cons (o := ⟨some 74, _, _, _, _, _⟩) rfl (fun K hK => ?_) AllReadyH.nil
            go_simp
            (go_at_call 27; (with_reducible refine (SN.out wl al cl YL (by assumption) hol).mono ?_); rintro e ws ⟨rfl, hfs⟩; have S3 : Frm [] w8 ws := Frm.trans (by assumption) hfs (by simp) (by simp); clear hfs)
            go_wp2_with fail
            refine hK.out _ _ (by assumption) (fun hHeld => ?_)
            clear hK K
            try simp only [Act.put, List.setIfInBounds_toArray, List.set_cons_zero, List.set_cons_succ]
            refine wpAnyH_take (i := 15) (oi := ⟨some 75, _, _, _, _, _⟩) (v := ?_) rfl (by kernel_rfl) (by kernel_rfl) (by kernel_rfl) (fun _ _ _ h => h) (Or.inl ⟨by rfl, ?_⟩) (by assumption) ?_
            rotate_left 1
            · (intro w hSw; (try dsimp only at hSw); go_simp; all_goals with_reducible rfl)
            try simp only [Act.put, List.setIfInBounds_toArray, List.set_cons_zero, List.set_cons_succ]
            refine wpAnyH_take (i := 16) (oi := ⟨some 76, _, _, _, _, _⟩) (v := ?_) rfl (by kernel_rfl) (by kernel_rfl) (by kernel_rfl) (fun _ _ _ h => h) (Or.inl ⟨by rfl, ?_⟩) (by assumption) ?_
            rotate_left 1
            · (intro w hSw; (try dsimp only at hSw); go_simp; all_goals with_reducible rfl)
            try simp only [Act.put, List.setIfInBounds_toArray, List.set_cons_zero, List.set_cons_succ]
            refine wpAnyH_take (i := 17) (oi := ⟨some 77, _, _, _, _, _⟩) (v := ?_) rfl (by kernel_rfl) (by kernel_rfl) (by kernel_rfl) (fun _ _ _ h => h) (Or.inl ⟨by rfl, ?_⟩) (by assumption) ?_
            rotate_left 1
            · (intro w hSw; (try dsimp only at hSw); go_simp; all_goals with_reducible rfl)
            try simp only [Act.put, List.setIfInBounds_toArray, List.set_cons_zero, List.set_cons_succ]
            refine wpAnyH_take (i := 18) (oi := ⟨some 78, _, _, _, _, _⟩) (v := ?_) rfl (by kernel_rfl) (by kernel_rfl) (by kernel_rfl) (fun _ _ _ h => h) (Or.inl ⟨by rfl, ?_⟩) (by assumption) ?_
            rotate_left 1
            · (intro w hSw; (try dsimp only at hSw); go_simp; all_goals with_reducible rfl)
            try simp only [Act.put, List.setIfInBounds_toArray, List.set_cons_zero, List.set_cons_succ]
            refine wpAnyH_take (i := 20) (oi := ⟨some 80, _, _, _, _, _⟩) (v := ?_) rfl (by kernel_rfl) (by kernel_rfl) (by kernel_rfl) (fun _ _ _ h => h) (Or.inl ⟨by rfl, ?_⟩) (by assumption) ?_
            rotate_left 1
            · (intro w hSw; (try dsimp only at hSw); go_simp; all_goals with_reducible rfl)
            try simp only [Act.put, List.setIfInBounds_toArray, List.set_cons_zero, List.set_cons_succ]
            refine wpAnyH_ready (rs := [19]) (by kernel_rfl) (by simp) ?_
            refine AllReadyH.cons (o := ⟨some 79, _, _, _, _, _⟩) rfl (fun K hK => ?_) AllReadyH.nil
            go_simp
            (go_at_call 26; (with_reducible refine (NO.out _ (by assumption)).mono ?_); rintro e wz ⟨rfl, rfl⟩)
            go_wp2_with fail
            refine hK.out _ _ (by assumption) (fun hHeld => ?_)
            clear hK K
            try simp only [Act.put, List.setIfInBounds_toArray, List.set_cons_zero, List.set_cons_succ]
            refine wpAnyH_take (i := 21) (oi := ⟨some 81, _, _, _, _, _⟩) (v := ?_) rfl (by kernel_rfl) (by kernel_rfl) (by kernel_rfl) (fun _ _ _ h => h) (Or.inl ⟨by rfl, ?_⟩) (by assumption) ?_
            rotate_left 1
            · (intro w hSw; (try dsimp only at hSw); go_simp; all_goals with_reducible rfl)
            try simp only [Act.put, List.setIfInBounds_toArray, List.set_cons_zero, List.set_cons_succ]
            refine wpAnyH_take (i := 22) (oi := ⟨some 82, _, _, _, _, _⟩) (v := ?_) rfl (by kernel_rfl) (by kernel_rfl) (by kernel_rfl) (fun _ _ _ h => h) (Or.inl ⟨by rfl, ?_⟩) (by assumption) ?_
            rotate_left 1
            · (intro w hSw; (try dsimp only at hSw); go_simp; all_goals with_reducible rfl)
            try simp only [Act.put, List.setIfInBounds_toArray, List.set_cons_zero, List.set_cons_succ]
            refine wpAnyH_take (i := 23) (oi := ⟨some 83, _, _, _, _, _⟩) (v := ?_) rfl (by kernel_rfl) (by kernel_rfl) (by kernel_rfl) (fun _ _ _ h => h) (Or.inl ⟨by rfl, ?_⟩) (by assumption) ?_
            rotate_left 1
            · (intro w hSw; (try dsimp only at hSw); go_simp; all_goals with_reducible rfl)
            try simp only [Act.put, List.setIfInBounds_toArray, List.set_cons_zero, List.set_cons_succ]
            refine wpAnyH_take (i := 24) (oi := ⟨some 84, _, _, _, _, _⟩) (v := ?_) rfl (by kernel_rfl) (by kernel_rfl) (by kernel_rfl) (fun _ _ _ h => h) (Or.inl ⟨by rfl, ?_⟩) (by assumption) ?_
            rotate_left 1
            · (intro w hSw; (try dsimp only at hSw); go_simp; all_goals with_reducible rfl)
            try simp only [Act.put, List.setIfInBounds_toArray, List.set_cons_zero, List.set_cons_succ]
            refine wpAnyH_take (i := 27) (oi := ⟨some 87, _, _, _, _, _⟩) (v := ?_) rfl (by kernel_rfl) (by kernel_rfl) (by kernel_rfl) (fun _ _ _ h => h) (Or.inl ⟨by rfl, ?_⟩) (by assumption) ?_
            rotate_left 1
            · (intro w hSw; (try dsimp only at hSw); go_simp; all_goals with_reducible rfl)
            try simp only [Act.put, List.setIfInBounds_toArray, List.set_cons_zero, List.set_cons_succ]
            refine wpAnyH_take (i := 28) (oi := ⟨some 88, _, _, _, _, _⟩) (v := ?_) rfl (by kernel_rfl) (by kernel_rfl) (by kernel_rfl) (fun _ _ _ h => h) (Or.inl ⟨by rfl, ?_⟩) (by assumption) ?_
            rotate_left 1
            · (intro w hSw; (try dsimp only at hSw); go_simp; all_goals with_reducible rfl)
            try simp only [Act.put, List.setIfInBounds_toArray, List.set_cons_zero, List.set_cons_succ]
            refine wpAnyH_ready (rs := [25]) (by kernel_rfl) (by simp) ?_
            refine AllReadyH.cons (o := ⟨some 85, _, _, _, _, _⟩) rfl (fun K hK => ?_) AllReadyH.nil
            go_simp
            (go_at_call 17; (with_reducible refine (BY.out _ (by assumption)).mono ?_); rintro e wd ⟨ab, cb2, rfl, hcv2, hfd⟩; have S4 : Frm [] w8 wd := Frm.trans (by assumption) hfd (by simp) (by simp); clear hfd)
            go_wp2_with fail
            refine hK.out _ _ (by assumption) (fun hHeld => ?_)
            clear hK K
            try simp only [Act.put, List.setIfInBounds_toArray, List.set_cons_zero, List.set_cons_succ]
            refine wpAnyH_ready (rs := [26]) (by kernel_rfl) (by simp) ?_
            refine AllReadyH.cons (o := ⟨some 86, _, _, _, _, _⟩) rfl (fun K hK => ?_) AllReadyH.nil
            go_simp
            refine hK.out _ _ (by assumption) (fun hHeld => ?_)
            clear hK K
            try simp only [Act.put, List.setIfInBounds_toArray, List.set_cons_zero, List.set_cons_succ]
            refine wpAnyH_take (i := 29) (oi := ⟨some 89, _, _, _, _, _⟩) (v := ?_) rfl (by kernel_rfl) (by kernel_rfl) (by kernel_rfl) (fun _ _ _ h => h) (Or.inl ⟨by rfl, ?_⟩) (by assumption) ?_
            rotate_left 1
            · (intro w hSw; (try dsimp only at hSw); go_simp; all_goals with_reducible rfl)
            try simp only [Act.put, List.setIfInBounds_toArray, List.set_cons_zero, List.set_cons_succ]
            refine wpAnyH_take (i := 30) (oi := ⟨some 90, _, _, _, _, _⟩) (v := ?_) rfl (by kernel_rfl) (by kernel_rfl) (by kernel_rfl) (fun _ _ _ h => h) (Or.inl ⟨by rfl, ?_⟩) (by assumption) ?_
            rotate_left 1
            · (intro w hSw; (try dsimp only at hSw); go_simp; all_goals with_reducible rfl)
            try simp only [Act.put, List.setIfInBounds_toArray, List.set_cons_zero, List.set_cons_succ]
            refine wpAnyH_take (i := 31) (oi := ⟨some 91, _, _, _, _, _⟩) (v := ?_) rfl (by kernel_rfl) (by kernel_rfl) (by kernel_rfl) (fun _ _ _ h => h) (Or.inl ⟨by rfl, ?_⟩) (by assumption) ?_
            rotate_left 1
            · (intro w hSw; (try dsimp only at hSw); go_simp; all_goals with_reducible rfl)
            try simp only [Act.put, List.setIfInBounds_toArray, List.set_cons_zero, List.set_cons_succ]
            refine wpAnyH_done (by kernel_rfl) ?_ _
            clear LI SN NO BY cvb
            go_wp2
            go_roundw
            case rel => exact HREL.out _ (by assumption)
            case measure => simp [intOf]; omega
        · rw [hlong] at HLO
          go_wp2_with fail
          rw [← HW4.out]
          (with_reducible refine HLO.out.mono ?_)
          rintro e w5 ⟨rfl, hf5⟩
          have HE := Lib.hid (HF.out.trans (HF4.out.trans hf5 (U := []) (by simp) (by simp)) (U := []) (by simp) (by simp))
          clear hf5 HLO p0 p1 p2 p3 p4 p5
          go_wp2
          go_ret
          exact ⟨rfl, HE.out.below (by simp) (Nat.le_refl _)⟩
    · have hge : decide ((j : Int) < (n : Int)) = false := decide_eq_false (by omega)
      go_wp2
      go_ret
      exact ⟨rfl, HF.out.below (by simp) (Nat.le_refl _)⟩
end Go.Proofs.YtbdgldlblkflpaaGreat
