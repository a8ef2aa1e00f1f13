/- Contract of the law's opens. -/
import Derived.Test.YtomgiockelhfiaaGreatMX
import Derived.Test.YtomgiockelhfiaaGreatZReplay
import Derived.Test.YtomgiockelhfiaaGreatZMtTw2
namespace Go.Proofs.YtomgiockelhfiaaGreat
open Go.RowKit
set_option maxRecDepth 100000
def OpRel (w : World) (dp n : Nat) (L : List (List Nat)) (s17 : Value) (wr : World) : Prop :=
  ∃ (k : Nat) (Fd : List Nat) (s : Nat), k ≤ n ∧ s17 = .int .i64 (k : Nat) ∧ Hid (Dk wr dp dp Fd (allF (L.take k)) s 1048576) ∧ Hid (∀ b ∈ L.take k, b.length ≤ 4096) ∧ Hid (Frm [] w wr)
set_option maxHeartbeats 16000000 in
theorem opens_any (a0 : Option Addr) (n cap : Nat) (L : List (List Nat)) (w : World) (h : LL w [] a0 L) (hc : LCap w a0 L) (hn : n = L.length) (hn63 : n ≤ 9223372036854775807) :
    Calls Tryz.prog 21 #[.slice a0 n cap] w fun e w' => e = .returned (.bool true) ∧ Frm [] w w' := by
  have HH := Lib.hid h
  have HLC := Lib.hid hc
  have HN := Lib.hid hn
  clear h hc hn
  go_enter Tryz.func21, Tryz.ntmps21
  go_wp2_with fail
  (refine (new_ok 1048576 w (by omega)).mono ?_)
  rintro e w1 ⟨rfl, hd1, hf1, hz1⟩
  obtain ⟨dp, hdp⟩ : ∃ dp, dp = w.heap.size := ⟨_, rfl⟩
  rw [← hdp] at hd1 ⊢
  have HDP := Lib.hid hdp
  have HR0 : Hid (OpRel w dp n L (.int .i64 (0 : Nat)) w1) := Lib.hid ⟨0, [dp], 0, Nat.zero_le _, rfl, Lib.hid hd1, Lib.hid (by simp), Lib.hid hf1⟩
  clear hd1 hf1 hz1 hdp
  go_wp2
  go_loopw [17] (fun s17 wr => OpRel w dp n L s17 wr) (fun s17 _ => n - (intOf s17).toNat)
  case atStart => exact HR0.out
  case round =>
    clear HR0
    obtain ⟨k, Fd, s, hk, rfl, HD, HS, HF⟩ := hrel
    by_cases hlt : k < n
    · have hkL : k < L.length := by have := HN.out; omega
      obtain ⟨bb, off, rfl, ai, ci, p0, hby, _, hnl⟩ := (HH.out.keep (F' := []) HF.out (by simp) (by simp)).at hkL
      have htake : L.take (k + 1) = L.take k ++ [L.getD k []] := by rw [List.take_succ_eq_append_getElem hkL]; simp [hkL]
      obtain ⟨b, hb⟩ : ∃ b, b = L.getD k [] := ⟨_, rfl⟩
      rw [← hb] at p0 hby htake
      obtain ⟨bn, hbn⟩ : ∃ bn, bn = b.length := ⟨_, rfl⟩
      rw [← hbn] at p0
      have HTK := Lib.hid htake
      have HBN := Lib.hid hbn
      have HFR := Lib.hid (fun h => ref_frame_any ai bn ci b wr hby hbn hnl h)
      clear hby hnl hb hbn hkL htake
      by_cases h4 : 4096 < bn
      · have hd : decide ((4096 : Int) < (bn : Int)) = true := decide_eq_true (by omega)
        have hd2 : decide (4096 < bn) = true := decide_eq_true h4
        clear h4
        go_wp2
        go_ret
        exact ⟨rfl, HF.out⟩
      · have hd : decide ((4096 : Int) < (bn : Int)) = false := decide_eq_false (by omega)
        have hd2 : decide (4096 < bn) = false := decide_eq_false h4
        have H4 := Lib.hid h4
        clear h4
        go_wp2_with fail
        (with_reducible refine (HFR.out (by have := H4.out; omega)).mono ?_)
        rintro e w2 ⟨fa, fc, rfl, hfb, hf2⟩
        have hfn : fa = none → fc = 0 := by
          intro e
          subst e
          rcases hfb.2.2 with h | ⟨_, _, h, _⟩
          · have := congrArg List.length h; rw [fr_length] at this; simp at this
          · cases h
        have HFB := Lib.hid hfb
        have HFN := Lib.hid hfn
        have HF2 := Lib.hid (HF.out.trans hf2 (U := []) (by simp) (by simp))
        have HD2 := Lib.hid (HD.out.keep hf2 (by simp))
        obtain ⟨fn, hfl⟩ : ∃ fn, fn = (fr b).length := ⟨_, rfl⟩
        rw [← hfl]
        have HFL := Lib.hid hfl
        have hfn8 : fn = bn + 8 := by rw [hfl, fr_length, HBN.out]
        have HF8 := Lib.hid hfn8
        clear hfb hfn hf2 p0 hfl hfn8
        by_cases hr : (allF (L.take k)).length + fn ≤ 1048576
        · have HR := Lib.hid hr
          clear hr
          go_wp2_with fail
          (with_reducible refine (append_ok fa fn fc (fr b) HD2.out HFB.out HFL.out HFN.out (by rw [← HFL.out]; exact HR.out)).mono ?_)
          rintro e w3 ⟨rfl, Fd', hd3, hf3, hx3⟩
          have HREL : Hid (OpRel w dp n L (.int .i64 ((k + 1 : Nat) : Nat)) w3) := Lib.hid ⟨k + 1, Fd', _, hlt, rfl, Lib.hid (by rw [HTK.out, allF_append, allF_one]; exact hd3), Lib.hid (fun y hy => by
            rw [HTK.out] at hy
            rcases List.mem_append.1 hy with h | h
            · exact HS.out y h
            · simp at h; rw [h]; have := H4.out; have := HBN.out; omega), Lib.hid (HF2.out.trans hf3 (by simp) (fun x hx => .inr (by have h1 := (HD2.out.lt x hx).1; have := HDP.out; omega)))⟩
          clear hd3 hf3 hx3
          go_wp2
          go_roundw
          case rel => exact HREL.out
          case measure => simp [intOf]; omega
        · have HR := Lib.hid hr
          clear hr
          go_wp2_with fail
          (refine (append_full fa fn fc HD2.out (by have := H4.out; have := HF8.out; omega) (by have := HR.out; omega)).mono ?_)
          rintro e w3 ⟨rfl, nn, rfl⟩
          go_wp2
          go_ret
          exact ⟨rfl, HF2.out.drewN nn⟩
    · obtain rfl : k = n := by omega
      have htk : L.take k = L := by rw [HN.out]; exact List.take_length
      have hd := HD.out
      have hs := HS.out
      rw [htk] at hd hs
      have hfit : Fit L := fun b hb => ⟨hs b hb, HH.out.byte hb⟩
      have hra := recs_all' L hfit
      have HOP := Lib.hid (kopen_any [] hd (by simp) (by simp) (.inr rep_ok))
      unfold KOpenEnd at HOP
      rw [hra.1] at HOP
      have HRP := Lib.hid (fun (z : World) (hz : Frm [] w z) => rreplay_any a0 k cap L z (HH.out.keep hz (by simp) (by simp)) (HLC.out.keep hz) HN.out hn63 hs)
      have HB := Lib.hid (show ∀ x ∈ Fd, w.heap.size ≤ x from fun x hx => by have h1 := (hd.lt x hx).1; have := HDP.out; omega)
      clear hd hs hfit hra htk
      go_wp2_with fail
      (with_reducible refine HOP.out.mono ?_)
      rintro e w2 (⟨S, kp, jq, Fd', hrp, rfl, hkp, hM, hf2, _, _⟩ | ⟨hrp, rfl, hf2⟩)
      · have HF2 := Lib.hid (HF.out.trans hf2 (U := []) (by simp) (fun x hx => .inr (HB.out x hx)))
        have HRPS := Lib.hid hrp
        have HKP := Lib.hid hkp
        have HM := Lib.hid hM
        clear hrp hkp hM hf2
        go_wp2_with fail
        (with_reducible refine (HRP.out _ HF2.out).mono ?_)
        rintro e w3 (⟨S', q, hrp, rfl, hds, _, hf3⟩ | ⟨hrp, _⟩)
        · rw [HRPS.out] at hrp
          cases hrp
          have HF3 := Lib.hid (HF2.out.trans hf3 (U := []) (by simp) (by simp))
          have HSH := Lib.hid (fun (id : Nat) (z : World) (hz : Frm [] w3 z) => shows8 id ((HKP.out.here hf3).here hz) (by simp) (hds.keep hz (by simp) (by simp)) (by simp) HM.out)
          have c2 : ∀ z, Frm [] w3 z → z.cell? ⟨q, 2, none⟩ = some (.int .u64 (S.last : Nat)) := fun z hz => (hz.cell (p := ⟨q, 2, none⟩) hds.plt (by simp)).trans hds.c2
          have HC2 := Lib.hid c2
          clear hds hf3 c2
          go_wp2_with fail
          (refine (HSH.out 1 _ (Frm.refl _ _)).mono ?_)
          rintro e w4 ⟨rfl, hf4⟩
          have k2 := HC2.out _ hf4
          have HF4 := Lib.hid hf4
          clear hf4
          go_wp2_with fail
          (with_reducible refine (HSH.out _ _ HF4.out).mono ?_)
          rintro e w5 ⟨rfl, hf5⟩
          have HE := Lib.hid ((HF3.out.trans HF4.out (U := []) (by simp) (by simp)).trans hf5 (U := []) (by simp) (by simp))
          clear hf5 k2
          go_wp2
          go_ret
          exact ⟨rfl, HE.out⟩
        · rw [HRPS.out] at hrp; cases hrp
      · have HF2 := Lib.hid (HF.out.trans hf2 (U := []) (by simp) (by simp))
        have HRPS := Lib.hid hrp
        clear hrp hf2
        go_wp2_with fail
        (with_reducible refine (HRP.out _ HF2.out).mono ?_)
        rintro e w3 (⟨S', q, hrp, _⟩ | ⟨_, rfl, hf3⟩)
        · rw [HRPS.out] at hrp; cases hrp
        · have HE := Lib.hid (HF2.out.trans hf3 (U := []) (by simp) (by simp))
          clear hf3
          go_wp2
          go_ret
          exact ⟨rfl, HE.out⟩
end Go.Proofs.YtomgiockelhfiaaGreat
