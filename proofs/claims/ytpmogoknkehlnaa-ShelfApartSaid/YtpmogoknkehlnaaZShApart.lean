/- ShelfApart: the walk. Written by wip/mk-shapart.py. -/
import Derived.Test.YtpmogoknkehlnaaZShWas
import Derived.Test.YtpmogoknkehlnaaZShSame
import Derived.Test.YtpmogoknkehlnaaZShFew
import Derived.Test.YtpmogoknkehlnaaMC
import Derived.Deep.LoopGhost
namespace Go.Proofs.Ytpmogoknkehlnaa
open Go.RowKit
set_option maxRecDepth 100000
def ApRel (w0 : World) (p dp n : Nat) (s38 : Value) (wr : World) : Prop :=
  ∃ (j : Nat) (S : Nd9) (l : List Nat), j ≤ n ∧ s38 = .int .i64 (j : Nat) ∧ Hid (Nv w0 wr [] p dp S l 1048576)
/-- What a call leaves: another ledger as it was, its own risen. -/
def ApDone (w0 w w' : World) (G : List Nat) (p dp : Nat) (S : Nd9) (i o : Nat) : Prop :=
  ∃ S' l', Nv w0 w' G p dp S' l' 1048576 ∧ S' o = S o ∧ Rises (S i) (S' i) ∧ Off w0 w w' G
theorem Off.whole {w0 w w' : World} {G : List Nat} {g : Nat} {t : TypeId} {cs : Array Value} (h : Whole w g t cs) (ho : Off w0 w w' G) (hg : g ∈ G) : Whole w' g t cs := by
  obtain ⟨T, hf, hT⟩ := ho
  exact hf.whole h (fun hm => (hT g hm).1 hg)
set_option maxHeartbeats 16000000 in
theorem shelfApart_walk (a0 : Option Addr) (n cap : Nat) (ts : List Sa) (w : World) (h : Sas w a0 ts) (hn : n = ts.length) (hn63 : n ≤ 9223372036854775807) :
    Calls Try.prog 5 #[.slice a0 n cap] w fun e w' => e = .returned (.bool true) ∧ Below w.heap.size w w' := by
  have HAW := Lib.hid (awake9_any w)
  have HN := Lib.hid hn
  have H := Lib.hid h
  have HDN := Lib.hid (fun w1 => new_ok 1048576 w1 (by omega))
  rw [show ((1048576 : Nat) : Int) = 1048576 from rfl] at HDN
  clear h hn
  go_enter Try.func5, Try.ntmps5
  go_wp2_with fail
  (with_reducible refine HAW.out.mono ?_)
  rintro e w1 ⟨rfl, hb1⟩
  have HF1 := Lib.hid (Frm.ofBelow hb1); clear hb1 HAW
  go_wp2_with fail
  (with_reducible refine (HDN.out _).mono ?_)
  rintro e w2 ⟨rfl, hd2, hf2, hz2⟩
  obtain ⟨dp, hdp⟩ : ∃ dp, dp = w1.heap.size := ⟨_, rfl⟩
  rw [← hdp] at hd2 ⊢
  have HO := Lib.hid (nv_new (w0 := w1) (room := 1048576) [] hf2 (by rw [← hdp]; exact hd2) (by simp) (by simp))
  clear hd2 hf2 hz2 hdp HDN
  go_wp2_with fail
  (with_reducible refine HO.out.mono ?_)
  rintro e w3 ⟨p, rfl, hv3, _⟩
  have HR0 : Hid (ApRel w1 p dp n (.int .i64 (0 : Nat)) w3) := Lib.hid ⟨0, nd0, [], Nat.zero_le _, rfl, Lib.hid hv3⟩
  clear hv3 HO
  go_wp2
  go_loopw [38] (fun s38 wr => ApRel w1 p dp n s38 wr) (fun s38 _ => n - (intOf s38).toNat)
  case atStart => exact HR0.out
  case round =>
    clear HR0
    obtain ⟨j, S, l, hj, rfl, HV⟩ := hrel
    by_cases hlt : j < n
    · obtain ⟨b, off, rfl, hin⟩ := (H.out.keep HF1.out) (by have := HN.out; omega)
      have hi := hin j (by have := HN.out; omega)
      obtain ⟨t, ht⟩ : ∃ t, t = ts.getD j default := ⟨_, rfl⟩
      rw [← ht] at hi
      have HOK := Lib.hid hi.ok
      obtain ⟨p0, p1, p2, p3, p4, p5, p6, hok⟩ := hi.keep HV.out.frm
      clear hin ht hi
      obtain ⟨tk, tl, te, tr, tm, s0, da, dc, dd⟩ := t
      simp only at p0 p1 p2 p3 p4 p5 p6
      obtain ⟨dn, hdn⟩ : ∃ dn, dn = dd.length := ⟨_, rfl⟩
      rw [← hdn] at p6
      by_cases h60 : 60 < j
      · have hgt : decide ((60 : Int) < (j : Int)) = true := decide_eq_true (by omega)
        clear hok hdn
        go_wp2
        go_ret
        exact ⟨rfl, ((HF1.out.trans HV.out.frm (U := []) (by simp) (by simp)).alloc _).below (by simp) (Nat.le_refl _)⟩
      · have hgt : decide ((60 : Int) < (j : Int)) = false := decide_eq_false (by omega)
        by_cases h256 : 256 < dn
        · have hgu : decide ((256 : Int) < (dn : Int)) = true := decide_eq_true (by omega)
          clear hok hdn
          go_wp2
          go_ret
          exact ⟨rfl, ((HF1.out.trans HV.out.frm (U := []) (by simp) (by simp)).alloc _).below (by simp) (Nat.le_refl _)⟩
        · have hgu : decide ((256 : Int) < (dn : Int)) = false := decide_eq_false (by omega)
          obtain ⟨w4, hw4⟩ : ∃ w4, w4 = wr.alloc (.cells #[.int .u8 (tk : Nat), .int .u64 (tl : Nat), .int .u64 (te : Nat), .bool tr, .bool tm, .int .u64 (s0 : Nat), .slice da dn dc] 45) := ⟨_, rfl⟩
          obtain ⟨g, hg⟩ : ∃ g, g = wr.heap.size := ⟨_, rfl⟩
          have hW4 := Whole.made wr 45 #[.int .u8 (tk : Nat), .int .u64 (tl : Nat), .int .u64 (te : Nat), .bool tr, .bool tm, .int .u64 (s0 : Nat), .slice da dn dc]
          rw [← hw4, ← hg] at hW4
          have hf4 : Frm [] wr w4 := by rw [hw4]; exact (Frm.refl _ _).alloc _
          have HFW := few_any ⟨tk, tl, te, tr, tm, s0, da, dc, dd⟩ w4 (hok.keep hf4)
          unfold Sa.value at HFW
          dsimp only at HFW
          rw [← hdn] at HFW
          have hok2 := fewS_ok HOK.out
          have hfl := fewS_len ⟨tk, tl, te, tr, tm, s0, da, dc, dd⟩
          have hfk := fewS_kind ⟨tk, tl, te, tr, tm, s0, da, dc, dd⟩
          obtain ⟨t', ht'⟩ : ∃ t', t' = fewS ⟨tk, tl, te, tr, tm, s0, da, dc, dd⟩ := ⟨_, rfl⟩
          rw [← ht'] at HFW hok2 hfl hfk
          obtain ⟨fk, fl, fe, fr', fm, fs, fa, fc, fd⟩ := t'
          simp only at hfk hfl
          obtain ⟨fn, hfn⟩ : ∃ fn, fn = fd.length := ⟨_, rfl⟩
          dsimp only at HFW
          rw [← hfn] at HFW
          have HFW := Lib.hid HFW
          have HFN := Lib.hid hfn
          have HW4 := Lib.hid hw4
          have HG := Lib.hid hg
          have HWG := Lib.hid hW4
          have HF4 := Lib.hid hf4
          have hflt : fl < 18446744073709551616 := hok2.led_lt
          have HOK2 := Lib.hid hok2
          have hr6 : fk < 256 := hok2.kind_lt
          clear hok hdn hfl hfk ht' hfn hw4 hg hW4 hf4 hok2 HOK
          go_wp2_with fail
          rw [← HW4.out]
          (with_reducible refine HFW.out.mono ?_)
          rintro e w5 ⟨rfl, hf5⟩
          obtain ⟨w7, hw7⟩ : ∃ w7, w7 = ((((((w5.setCell ⟨g, 0, none⟩ (.int .u8 (fk : Nat))).setCell ⟨g, 1, none⟩ (.int .u64 (fl : Nat))).setCell ⟨g, 2, none⟩ (.int .u64 (fe : Nat))).setCell ⟨g, 3, none⟩ (.bool fr')).setCell ⟨g, 4, none⟩ (.bool fm)).setCell ⟨g, 5, none⟩ (.int .u64 (fs : Nat))).setCell ⟨g, 6, none⟩ (.slice fa fn fc) := ⟨_, rfl⟩
          have h5 := hf5.whole HWG.out (by simp)
          have h7 : Whole w7 g 45 #[.int .u8 (fk : Nat), .int .u64 (fl : Nat), .int .u64 (fe : Nat), .bool fr', .bool fm, .int .u64 (fs : Nat), .slice fa fn fc] := by
            have := ((((((h5.put 0 (.int .u8 (fk : Nat))).put 1 (.int .u64 (fl : Nat))).put 2 (.int .u64 (fe : Nat))).put 3 (.bool fr')).put 4 (.bool fm)).put 5 (.int .u64 (fs : Nat))).put 6 (.slice fa fn fc)
            rw [hw7]; simpa using this
          have hf7 : Frm [] wr w7 := by
            have h0 : Frm [] wr w5 := HF4.out.trans hf5 (U := []) (by simp) (by simp)
            have hg2 : wr.heap.size ≤ g := by have := HG.out; omega
            rw [hw7]
            exact ((((((h0.setCell (.inr hg2) _).setCell (.inr hg2) _).setCell (.inr hg2) _).setCell (.inr hg2) _).setCell (.inr hg2) _).setCell (.inr hg2) _).setCell (.inr hg2) _
          have HW7 := Lib.hid h7
          have HE7 := Lib.hid hw7
          have HP7 := Lib.hid (HV.out.keep (T := []) (G' := [g]) hf7 (by simp) (by have := HG.out; simp; omega) (by have := h7.lt; simpa using this))
          have b0 := h5.cell 0
          have b1 := h5.cell 1
          have b2 := h5.cell 2
          have b3 := h5.cell 3
          have b4 := h5.cell 4
          have b5 := h5.cell 5
          have b6 := h5.cell 6
          have k0 := h5.free 0
          have k1 := h5.free 1
          have k2 := h5.free 2
          have k3 := h5.free 3
          have k4 := h5.free 4
          have k5 := h5.free 5
          have k6 := h5.free 6
          simp at b0 b1 b2 b3 b4 b5 b6
          -- the ledger next to it
          obtain ⟨o, ho⟩ : ∃ o, o = (fl + 1) % 18446744073709551616 := ⟨_, rfl⟩
          have hw : IntKind.u64.wrap ((fl : Int) + 1) = (o : Int) := by
            rw [ho]; simp only [IntKind.wrap, IntKind.bits, IntKind.signed]; simp
          have HON : Hid (o ≠ fl) := Lib.hid (by omega)
          have HOL : Hid (o < N64) := Lib.hid (by show o < 18446744073709551616; omega)
          have HLI := Lib.hid (nv_list o HP7.out HOL.out)
          have HG7 := Lib.hid HG.out
          rw [← HG.out]
          clear hf5 h5 h7 hf7 hw7 ho HFW p0 p1 p2 p3 p4 p5 p6
          go_wp2_with fail
          rw [← HE7.out]
          (with_reducible refine HLI.out.mono ?_)
          rintro e w8 ⟨a1, c1, X1, hits, rfl, hil8, hf8, hv8⟩
          obtain ⟨xn, hxn⟩ : ∃ xn, xn = X1.length := ⟨_, rfl⟩
          rw [← hxn]
          have hW8 := hf8.whole HW7.out (by simp)
          have c0 := hW8.cell 0
          have c1' := hW8.cell 1
          have c2 := hW8.cell 2
          have c4 := hW8.cell 4
          have c5 := hW8.cell 5
          have c6 := hW8.cell 6
          simp at c0 c1' c2 c4 c5 c6
          have HXN := Lib.hid hxn
          have HIT := Lib.hid hits
          have HIL := Lib.hid hil8
          have HV8 := Lib.hid hv8
          have HW8 := Lib.hid hW8
          have HA1 := Lib.hid (fun z (hz : Frm [] w8 z) => nv_about o (hv8.here hz) HOL.out)
          have HA2 := Lib.hid (fun z (hz : Frm [] w8 z) => nv_about fl (hv8.here hz) hflt)
          obtain ⟨r, hr⟩ : ∃ r, r = fk % 6 := ⟨_, rfl⟩
          have hr6' : r < 6 := by omega
          have m1 : (fk : Int) % 6 = (r : Int) := by rw [hr]; rfl
          clear hits hil8 hf8 hv8 hW8 hxn b0 b1 b2 b3 b4 b5 b6 k0 k1 k2 k3 k4 k5 k6 HLI hw hr
          go_wp2_with fail
          (with_reducible refine (HA1.out _ (Frm.refl _ _)).mono ?_)
          rintro e w9 ⟨rfl, hf9⟩
          have HF9 := Lib.hid hf9
          clear hf9 HA1
          have q1 := (HF9.out.whole HW8.out (by simp)).cell 1
          simp at q1
          go_wp2_with fail
          (with_reducible refine (HA2.out _ HF9.out).mono ?_)
          rintro e w10 ⟨rfl, hf10⟩
          have HF10 := Lib.hid (HF9.out.trans hf10 (U := []) (by simp) (by simp))
          have hWa := HF10.out.whole HW8.out (by simp)
          have e0 := hWa.cell 0
          have e1 := hWa.cell 1
          have e2 := hWa.cell 2
          have e4 := hWa.cell 4
          have e5 := hWa.cell 5
          have e6 := hWa.cell 6
          simp at e0 e1 e2 e4 e5 e6
          have HWA := Lib.hid hWa
          have HVA := Lib.hid (HV8.out.here HF10.out)
          clear hf10 HA2 hWa c0 c1' c2 c4 c5 c6 q1 HF9
          go_wp2_with fail
          · (with_reducible refine (nv_fence fl HVA.out hflt).mono ?_)
            rintro e wb ⟨rfl, hvb, hoff⟩
            obtain ⟨S', hS'⟩ : ∃ S', S' = oS S l 1048576 (fenO S fl) (recW 2 fl) fl (fenL (S fl)) := ⟨_, rfl⟩
            have hri : Rises (S fl) (S' fl) := by rw [hS']; exact rises_fen
            have hso : S' o = S o := by rw [hS']; exact oS_other HON.out
            rw [← hS'] at hvb
            clear hS'
            have hWb := Off.whole HWA.out hoff (by simp)
            have f1 := hWb.cell 1
            simp at f1
            have HVB := Lib.hid hvb
            have HRI := Lib.hid hri
            have HILB := Lib.hid ((HIL.out.here HF10.out).off hoff (fun y hy => by simp [hy]))
            have HA1 := nv_about o hvb HOL.out
            rw [hso] at HA1
            have HA1 := Lib.hid HA1
            have HSO := Lib.hid hso
            have HWB := Lib.hid hWb
            clear hvb hoff hri hWb hso e0 e1 e2 e4 e5 e6
            go_wp2_with fail
            (with_reducible refine HA1.out.mono ?_)
            rintro e wc ⟨rfl, hfc⟩
            have HA2 := Lib.hid (nv_about fl (HVB.out.here hfc) hflt)
            have f2 := (hfc.whole HWB.out (by simp)).cell 1
            simp at f2
            have HFC := Lib.hid hfc
            clear hfc HA1 f1
            go_wp2_with fail
            (with_reducible refine HA2.out.mono ?_)
            rintro e wd ⟨rfl, hfd⟩
            have HFD := Lib.hid (HFC.out.trans hfd (U := []) (by simp) (by simp))
            have HLI := Lib.hid (nv_list o (HVB.out.here HFD.out) HOL.out)
            obtain ⟨bg, hbg⟩ : ∃ bg, bg = (S' fl).gone := ⟨_, rfl⟩
            obtain ⟨sn, hsn⟩ : ∃ sn, sn = (S' fl).sure := ⟨_, rfl⟩
            obtain ⟨so, hso⟩ : ∃ so, so = (S fl).sure := ⟨_, rfl⟩
            obtain ⟨ofe, hofe⟩ : ∃ x, x = (S o).fen := ⟨_, rfl⟩
            obtain ⟨ogo, hogo⟩ : ∃ x, x = (S o).gone := ⟨_, rfl⟩
            obtain ⟨osu, hosu⟩ : ∃ x, x = (S o).sure := ⟨_, rfl⟩
            have HRI2 : Hid (bg = true ∨ so ≤ sn) := Lib.hid (by have := HRI.out; unfold Rises at this; rw [hbg, hsn, hso]; exact this)
            rw [← hbg, ← hsn, ← hso, ← hofe, ← hogo, ← hosu]
            clear hfd HA2 f2 HFC hbg hsn hso hofe hogo hosu
            go_wp2_with fail
            (with_reducible refine HLI.out.mono ?_)
            rintro e we ⟨a2, c2, X2, hits2, rfl, hil2, hfe, hve⟩
            have hits3 : its X1 = its X2 := by rw [HIT.out, hits2, HSO.out]
            have hx2 : X2.length = xn := by rw [← its_len hits3, HXN.out]
            have hxb : xn ≤ 9223372036854775807 := by
              have h1 := HV8.out.few o HOL.out
              rw [← HIT.out, its_length, ← HXN.out] at h1
              omega
            rw [hx2]
            have HSM := Lib.hid (sameItems_true a1 a2 xn c1 c2 X1 X2 [] [] we (HILB.out.here (HFD.out.trans hfe (U := []) (by simp) (by simp))) hil2 HXN.out hits3 hxb)
            have HVE := Lib.hid (hve.less (G' := []) (by simp))
            clear hits2 hil2 hfe hve hits3 hx2 hxb HLI
            go_wp2_with fail
            (with_reducible refine HSM.out.mono ?_)
            rintro e wf ⟨rfl, hff⟩
            have HVF := Lib.hid (HVE.out.here hff)
            have HREL : Hid (ApRel w1 p dp n (.int .i64 ((j + 1 : Nat) : Nat)) wf) := Lib.hid ⟨j + 1, S', _, hlt, rfl, Lib.hid HVF.out⟩
            have hr2 := HRI2.out
            clear hff HSM HVE
            cases bg
            · have hle : so ≤ sn := by rcases hr2 with h | h; cases h; exact h
              clear hr2
              go_wp2
              go_roundw
              case rel => exact HREL.out
              case measure => simp [intOf]; omega
            · clear hr2
              go_wp2
              · go_roundw
                case rel => exact HREL.out
                case measure => simp [intOf]; omega
              · go_roundw
                case rel => exact HREL.out
                case measure => simp [intOf]; omega
          · (with_reducible refine (nv_drop fl HVA.out hflt).mono ?_)
            rintro e wb ⟨rfl, hvb, hoff⟩
            obtain ⟨S', hS'⟩ : ∃ S', S' = oS S l 1048576 (dropO S fl) (recW 3 fl) fl dropL := ⟨_, rfl⟩
            have hri : Rises (S fl) (S' fl) := by rw [hS']; exact rises_drop
            have hso : S' o = S o := by rw [hS']; exact oS_other HON.out
            rw [← hS'] at hvb
            clear hS'
            have hWb := Off.whole HWA.out hoff (by simp)
            have f1 := hWb.cell 1
            simp at f1
            have HVB := Lib.hid hvb
            have HRI := Lib.hid hri
            have HILB := Lib.hid ((HIL.out.here HF10.out).off hoff (fun y hy => by simp [hy]))
            have HA1 := nv_about o hvb HOL.out
            rw [hso] at HA1
            have HA1 := Lib.hid HA1
            have HSO := Lib.hid hso
            have HWB := Lib.hid hWb
            clear hvb hoff hri hWb hso e0 e1 e2 e4 e5 e6
            go_wp2_with fail
            (with_reducible refine HA1.out.mono ?_)
            rintro e wc ⟨rfl, hfc⟩
            have HA2 := Lib.hid (nv_about fl (HVB.out.here hfc) hflt)
            have f2 := (hfc.whole HWB.out (by simp)).cell 1
            simp at f2
            have HFC := Lib.hid hfc
            clear hfc HA1 f1
            go_wp2_with fail
            (with_reducible refine HA2.out.mono ?_)
            rintro e wd ⟨rfl, hfd⟩
            have HFD := Lib.hid (HFC.out.trans hfd (U := []) (by simp) (by simp))
            have HLI := Lib.hid (nv_list o (HVB.out.here HFD.out) HOL.out)
            obtain ⟨bg, hbg⟩ : ∃ bg, bg = (S' fl).gone := ⟨_, rfl⟩
            obtain ⟨sn, hsn⟩ : ∃ sn, sn = (S' fl).sure := ⟨_, rfl⟩
            obtain ⟨so, hso⟩ : ∃ so, so = (S fl).sure := ⟨_, rfl⟩
            obtain ⟨ofe, hofe⟩ : ∃ x, x = (S o).fen := ⟨_, rfl⟩
            obtain ⟨ogo, hogo⟩ : ∃ x, x = (S o).gone := ⟨_, rfl⟩
            obtain ⟨osu, hosu⟩ : ∃ x, x = (S o).sure := ⟨_, rfl⟩
            have HRI2 : Hid (bg = true ∨ so ≤ sn) := Lib.hid (by have := HRI.out; unfold Rises at this; rw [hbg, hsn, hso]; exact this)
            rw [← hbg, ← hsn, ← hso, ← hofe, ← hogo, ← hosu]
            clear hfd HA2 f2 HFC hbg hsn hso hofe hogo hosu
            go_wp2_with fail
            (with_reducible refine HLI.out.mono ?_)
            rintro e we ⟨a2, c2, X2, hits2, rfl, hil2, hfe, hve⟩
            have hits3 : its X1 = its X2 := by rw [HIT.out, hits2, HSO.out]
            have hx2 : X2.length = xn := by rw [← its_len hits3, HXN.out]
            have hxb : xn ≤ 9223372036854775807 := by
              have h1 := HV8.out.few o HOL.out
              rw [← HIT.out, its_length, ← HXN.out] at h1
              omega
            rw [hx2]
            have HSM := Lib.hid (sameItems_true a1 a2 xn c1 c2 X1 X2 [] [] we (HILB.out.here (HFD.out.trans hfe (U := []) (by simp) (by simp))) hil2 HXN.out hits3 hxb)
            have HVE := Lib.hid (hve.less (G' := []) (by simp))
            clear hits2 hil2 hfe hve hits3 hx2 hxb HLI
            go_wp2_with fail
            (with_reducible refine HSM.out.mono ?_)
            rintro e wf ⟨rfl, hff⟩
            have HVF := Lib.hid (HVE.out.here hff)
            have HREL : Hid (ApRel w1 p dp n (.int .i64 ((j + 1 : Nat) : Nat)) wf) := Lib.hid ⟨j + 1, S', _, hlt, rfl, Lib.hid HVF.out⟩
            have hr2 := HRI2.out
            clear hff HSM HVE
            cases bg
            · have hle : so ≤ sn := by rcases hr2 with h | h; cases h; exact h
              clear hr2
              go_wp2
              go_roundw
              case rel => exact HREL.out
              case measure => simp [intOf]; omega
            · clear hr2
              go_wp2
              · go_roundw
                case rel => exact HREL.out
                case measure => simp [intOf]; omega
              · go_roundw
                case rel => exact HREL.out
                case measure => simp [intOf]; omega
          · (with_reducible refine (nv_add fl fe fs fa fn fc fd fm HVA.out hflt HOK2.out.ent_lt HOK2.out.sure_lt (HVA.out.frm.bytes' HOK2.out.data_b (by simp)) HFN.out HOK2.out.data_nil).mono ?_)
            rintro e wb ⟨rfl, hvb, hoff⟩
            obtain ⟨S', hS'⟩ : ∃ S', S' = oS S l 1048576 (addO S fl fe fs fd fm) (recA fl fe fs fd) fl (addL (S fl) fe fs fd) := ⟨_, rfl⟩
            have hri : Rises (S fl) (S' fl) := by rw [hS']; exact rises_add
            have hso : S' o = S o := by rw [hS']; exact oS_other HON.out
            rw [← hS'] at hvb
            clear hS'
            have hWb := Off.whole HWA.out hoff (by simp)
            have f1 := hWb.cell 1
            simp at f1
            have HVB := Lib.hid hvb
            have HRI := Lib.hid hri
            have HILB := Lib.hid ((HIL.out.here HF10.out).off hoff (fun y hy => by simp [hy]))
            have HA1 := nv_about o hvb HOL.out
            rw [hso] at HA1
            have HA1 := Lib.hid HA1
            have HSO := Lib.hid hso
            have HWB := Lib.hid hWb
            clear hvb hoff hri hWb hso e0 e1 e2 e4 e5 e6
            go_wp2_with fail
            (with_reducible refine HA1.out.mono ?_)
            rintro e wc ⟨rfl, hfc⟩
            have HA2 := Lib.hid (nv_about fl (HVB.out.here hfc) hflt)
            have f2 := (hfc.whole HWB.out (by simp)).cell 1
            simp at f2
            have HFC := Lib.hid hfc
            clear hfc HA1 f1
            go_wp2_with fail
            (with_reducible refine HA2.out.mono ?_)
            rintro e wd ⟨rfl, hfd⟩
            have HFD := Lib.hid (HFC.out.trans hfd (U := []) (by simp) (by simp))
            have HLI := Lib.hid (nv_list o (HVB.out.here HFD.out) HOL.out)
            obtain ⟨bg, hbg⟩ : ∃ bg, bg = (S' fl).gone := ⟨_, rfl⟩
            obtain ⟨sn, hsn⟩ : ∃ sn, sn = (S' fl).sure := ⟨_, rfl⟩
            obtain ⟨so, hso⟩ : ∃ so, so = (S fl).sure := ⟨_, rfl⟩
            obtain ⟨ofe, hofe⟩ : ∃ x, x = (S o).fen := ⟨_, rfl⟩
            obtain ⟨ogo, hogo⟩ : ∃ x, x = (S o).gone := ⟨_, rfl⟩
            obtain ⟨osu, hosu⟩ : ∃ x, x = (S o).sure := ⟨_, rfl⟩
            have HRI2 : Hid (bg = true ∨ so ≤ sn) := Lib.hid (by have := HRI.out; unfold Rises at this; rw [hbg, hsn, hso]; exact this)
            rw [← hbg, ← hsn, ← hso, ← hofe, ← hogo, ← hosu]
            clear hfd HA2 f2 HFC hbg hsn hso hofe hogo hosu
            go_wp2_with fail
            (with_reducible refine HLI.out.mono ?_)
            rintro e we ⟨a2, c2, X2, hits2, rfl, hil2, hfe, hve⟩
            have hits3 : its X1 = its X2 := by rw [HIT.out, hits2, HSO.out]
            have hx2 : X2.length = xn := by rw [← its_len hits3, HXN.out]
            have hxb : xn ≤ 9223372036854775807 := by
              have h1 := HV8.out.few o HOL.out
              rw [← HIT.out, its_length, ← HXN.out] at h1
              omega
            rw [hx2]
            have HSM := Lib.hid (sameItems_true a1 a2 xn c1 c2 X1 X2 [] [] we (HILB.out.here (HFD.out.trans hfe (U := []) (by simp) (by simp))) hil2 HXN.out hits3 hxb)
            have HVE := Lib.hid (hve.less (G' := []) (by simp))
            clear hits2 hil2 hfe hve hits3 hx2 hxb HLI
            go_wp2_with fail
            (with_reducible refine HSM.out.mono ?_)
            rintro e wf ⟨rfl, hff⟩
            have HVF := Lib.hid (HVE.out.here hff)
            have HREL : Hid (ApRel w1 p dp n (.int .i64 ((j + 1 : Nat) : Nat)) wf) := Lib.hid ⟨j + 1, S', _, hlt, rfl, Lib.hid HVF.out⟩
            have hr2 := HRI2.out
            clear hff HSM HVE
            cases bg
            · have hle : so ≤ sn := by rcases hr2 with h | h; cases h; exact h
              clear hr2
              go_wp2
              go_roundw
              case rel => exact HREL.out
              case measure => simp [intOf]; omega
            · clear hr2
              go_wp2
              · go_roundw
                case rel => exact HREL.out
                case measure => simp [intOf]; omega
              · go_roundw
                case rel => exact HREL.out
                case measure => simp [intOf]; omega
    · go_wp2
      go_ret
      exact ⟨rfl, (HF1.out.trans HV.out.frm (U := []) (by simp) (by simp)).below (by simp) (Nat.le_refl _)⟩
end Go.Proofs.Ytpmogoknkehlnaa
