/- ShelfFences: the walk. -/
import Derived.Test.YtpmogoknkehlnaaYShFenMath
import Derived.Test.YtpmogoknkehlnaaYShSame
import Derived.Test.YtpmogoknkehlnaaKC
import Derived.Test.YtpmogoknkehlnaaYInIm
import Derived.Test.YtpmogoknkehlnaaKA
import Derived.WalkSpells
import Derived.Deep.LoopGhost
namespace Go.Proofs.Ytpmogoknkehlnaa
open Go.RowKit
set_option maxRecDepth 100000

/-- The first loop: no fence yet. -/
def F1Rel (w0 : World) (p dp n : Nat) (s49 : Value) (wr : World) : Prop :=
  ∃ (j : Nat) (S : Nd9) (l : List Nat), j ≤ n ∧ s49 = .int .i64 (j : Nat) ∧ Hid (Nv w0 wr [] p dp S l 1048576) ∧ Hid ((S 7).gone = false ∧ (S 7).fen = false) ∧ Hid (l.length ≤ j * 293)

/-- The second loop: behind the fence. -/
def F2Rel (w0 : World) (a : Option Addr) (X : List Ix) (p dp m : Nat) (S1 : Nd9) (mends : Bool) (s : Value) (wr : World) : Prop :=
  ∃ (j : Nat) (S : Nd9) (l : List Nat), j ≤ m ∧ s = .int .i64 (j : Nat) ∧ Hid (Nv w0 wr (ilB a X ++ []) p dp S l 1048576) ∧ Hid ((S 7).gone = false ∧ (S 7).fen = true) ∧ Hid (Stays (S1 7) (S 7)) ∧ Hid (mends = false → S = S1) ∧ Hid (IL wr [] a X)
/-- The third loop: nothing turns. -/
def F3Rel (w0 : World) (p dp n : Nat) (S : Nd9) (l : List Nat) (a : Option Addr) (X : List Ix) (s : Value) (wr : World) : Prop :=
  ∃ (j : Nat), j ≤ n ∧ s = .int .i64 (j : Nat) ∧ Hid (Nv w0 wr (ilB a X ++ []) p dp S l 1048576) ∧ Hid (IL wr [] a X)
theorem upd7 {S : Nd9} {x : Lg} : updS S 7 x 7 = x := if_pos rfl

set_option maxHeartbeats 16000000 in
theorem shelfFences_walk (a0 : Option Addr) (n cap : Nat) (ts : List Im) (b0 : Option Addr) (m cap2 : Nat) (us : List Im) (mends : Bool) (w : World) (h : Ims w a0 ts) (hn : n = ts.length) (hn63 : n ≤ 9223372036854775807) (h2 : Ims w b0 us) (hm : m = us.length) (hm63 : m ≤ 9223372036854775807) :
    Calls Try.prog 3 #[.slice a0 n cap, .slice b0 m cap2, .bool mends] w fun e w' => e = .returned (.bool true) ∧ Below w.heap.size w w' := by
  have HAW := Lib.hid (awake9_any w)
  have HN := Lib.hid hn
  have HM := Lib.hid hm
  have H := Lib.hid h
  have H2 := Lib.hid h2
  have HDN := Lib.hid (fun w1 => new_ok 1048576 w1 (by omega))
  rw [show ((1048576 : Nat) : Int) = 1048576 from rfl] at HDN
  clear h hn h2 hm
  go_enter Try.func3, Try.ntmps3
  go_wp2_with fail
  (with_reducible refine HAW.out.mono ?_)
  rintro e w1 ⟨rfl, hb1⟩
  have HF1 := Lib.hid (Frm.ofBelow hb1); clear hb1 HAW
  go_wp2_with fail
  (with_reducible refine (HDN.out _).mono ?_)
  rintro e w2 ⟨rfl, hd2, hf2, hz2⟩
  obtain ⟨dp, hdp⟩ : ∃ dp, dp = w1.heap.size := ⟨_, rfl⟩
  rw [← hdp] at hd2 ⊢
  have HO := Lib.hid (nv_new (w0 := w1) (room := 1048576) [] hf2 (by rw [← hdp]; exact hd2) (by simp) (by simp))
  clear hd2 hf2 hz2 hdp HDN
  go_wp2_with fail
  (with_reducible refine HO.out.mono ?_)
  rintro e w3 ⟨p, rfl, hv3, _⟩
  have HV3 := Lib.hid hv3
  clear hv3 HO
  by_cases hn30 : 30 < n
  · have hg : decide ((30 : Int) < (n : Int)) = true := decide_eq_true (by omega)
    go_wp2
    go_ret
    exact ⟨rfl, (HF1.out.trans HV3.out.frm (U := []) (by simp) (by simp)).below (by simp) (Nat.le_refl _)⟩
  · have hg : decide ((30 : Int) < (n : Int)) = false := decide_eq_false (by omega)
    by_cases hm30 : 30 < m
    · have hg2 : decide ((30 : Int) < (m : Int)) = true := decide_eq_true (by omega)
      go_wp2
      go_ret
      exact ⟨rfl, (HF1.out.trans HV3.out.frm (U := []) (by simp) (by simp)).below (by simp) (Nat.le_refl _)⟩
    · have hg2 : decide ((30 : Int) < (m : Int)) = false := decide_eq_false (by omega)
      have HR0 : Hid (F1Rel w1 p dp n (.int .i64 (0 : Nat)) w3) := Lib.hid ⟨0, nd0, [], Nat.zero_le _, rfl, HV3, Lib.hid ⟨rfl, rfl⟩, Lib.hid (by simp)⟩
      clear HV3
      go_wp2
      go_loopw [49] (fun s49 wr => F1Rel w1 p dp n s49 wr) (fun s49 _ => n - (intOf s49).toNat)
      case atStart => exact HR0.out
      case round =>
        clear HR0
        obtain ⟨j, S, l, hj, rfl, HV, HMK, HLN⟩ := hrel
        by_cases hlt : j < n
        · obtain ⟨b, off, rfl, hin⟩ := (H.out.keep HF1.out) (by have := HN.out; omega)
          have hi := hin j (by have := HN.out; omega)
          obtain ⟨t, ht⟩ : ∃ t, t = ts.getD j default := ⟨_, rfl⟩
          rw [← ht] at hi
          have HOK := Lib.hid hi.ok
          obtain ⟨p0, p1, hok⟩ := hi.keep HV.out.frm
          clear hin ht hi
          obtain ⟨te, da, dc, dd⟩ := t
          simp only at p0 p1
          obtain ⟨dn, hdn⟩ : ∃ dn, dn = dd.length := ⟨_, rfl⟩
          rw [← hdn] at p1
          by_cases h256 : 256 < dn
          · have hgu : decide ((256 : Int) < (dn : Int)) = true := decide_eq_true (by omega)
            clear hok hdn
            go_wp2
            go_ret
            exact ⟨rfl, ((HF1.out.trans HV.out.frm (U := []) (by simp) (by simp)).alloc _).below (by simp) (Nat.le_refl _)⟩
          · have hgu : decide ((256 : Int) < (dn : Int)) = false := decide_eq_false (by omega)
            have HAD := nv_add 7 te 0 da dn dc dd false (HV.out.here ((Frm.refl [] wr).alloc (.cells #[.int .u64 (te : Nat), .slice da dn dc] 34))) (by decide) hok.ent_lt (by decide) (((Frm.refl [] wr).alloc _).bytes' hok.data_b (by simp)) hdn hok.data_nil
            rw [show ((7 : Nat) : Int) = 7 from rfl, show ((0 : Nat) : Int) = 0 from rfl] at HAD
            obtain ⟨en, hen⟩ : ∃ en, en = oE l 1048576 (addO S 7 te 0 dd false) (recA 7 te 0 dd) := ⟨_, rfl⟩
            obtain ⟨S', hS'⟩ : ∃ S', S' = oS S l 1048576 (addO S 7 te 0 dd false) (recA 7 te 0 dd) 7 (addL (S 7) te 0 dd) := ⟨_, rfl⟩
            obtain ⟨l', hl'⟩ : ∃ l', l' = oL l 1048576 (addO S 7 te 0 dd false) (recA 7 te 0 dd) := ⟨_, rfl⟩
            have HMK' : Hid ((S' 7).gone = false ∧ (S' 7).fen = false) := Lib.hid (by rw [hS', oS_marks.1, oS_marks.2]; exact HMK.out)
            have HLN' : Hid (l'.length ≤ (j + 1) * 293) := Lib.hid (by
              have h1 := @oL_le l (recA 7 te 0 dd) 1048576 (addO S 7 te 0 dd false)
              have h2 := recA_len 7 te 0 dd
              have h3 := HLN.out
              rw [hl']; omega)
            rw [← hen, ← hS', ← hl'] at HAD
            have HAD := Lib.hid HAD
            clear hok hdn hen hS' hl'
            go_wp2_with fail
            (with_reducible refine HAD.out.mono ?_)
            rintro e w5 ⟨rfl, hv5, _⟩
            have HREL : Hid (F1Rel w1 p dp n (.int .i64 ((j + 1 : Nat) : Nat)) w5) := Lib.hid ⟨j + 1, S', l', hlt, rfl, Lib.hid hv5, HMK', HLN'⟩
            clear hv5 HAD
            go_wp2
            go_roundw
            case rel => exact HREL.out
            case measure => simp [intOf]; omega
        · obtain ⟨hf1, hf2⟩ := fence_fits HMK.out.1 HMK.out.2 (show l.length + 17 ≤ 1048576 by have := HLN.out; omega)
          have hFE := nv_fence 7 HV.out (by decide)
          unfold fenN at hFE
          rw [hf1, hf2, if_pos rfl, show ((7 : Nat) : Int) = 7 from rfl, show ((0 : Nat) : Int) = 0 from rfl] at hFE
          obtain ⟨S1, hS1⟩ : ∃ S1, S1 = updS S 7 (fenL (S 7)) := ⟨_, rfl⟩
          obtain ⟨su, hsu⟩ : ∃ su, su = (S 7).sure := ⟨_, rfl⟩
          obtain ⟨l1, hl1⟩ : ∃ l1, l1 = oL l 1048576 (fenO S 7) (recW 2 7) := ⟨_, rfl⟩
          have HM1 : Hid ((S1 7).gone = false ∧ (S1 7).fen = true) := Lib.hid (by rw [hS1, upd7]; exact ⟨HMK.out.1, rfl⟩)
          rw [← hS1, ← hsu, ← hl1] at hFE
          have HFE := Lib.hid hFE
          clear hf1 hf2 hFE hS1 hsu hl1
          go_wp2_with fail
          (with_reducible refine HFE.out.mono ?_)
          rintro e w4 ⟨rfl, hv4, _⟩
          have HLI := Lib.hid (nv_list 7 hv4 (by decide))
          rw [show ((7 : Nat) : Int) = 7 from rfl] at HLI
          have HRI := Lib.hid (hv4.rise 7 (by decide))
          have HFW := Lib.hid (hv4.few 7 (by decide))
          clear hv4 HFE
          go_wp2_with fail
          (with_reducible refine HLI.out.mono ?_)
          rintro e w5 ⟨a, c, X, hits, rfl, hil, _, hv5⟩
          obtain ⟨xn, hxn⟩ : ∃ xn, xn = X.length := ⟨_, rfl⟩
          rw [← hxn]
          have HXN := Lib.hid hxn
          have HIT := Lib.hid hits
          have HIL := Lib.hid hil
          have HCR := Lib.hid (nv_crash 0 0 hv5)
          have hxb : xn ≤ 16777216 := by rw [hxn, ← its_length, hits]; exact HFW.out
          clear hits hil hv5 hxn HLI HFW
          go_wp2_with fail
          (with_reducible refine HCR.out.mono ?_)
          rintro e w6 ⟨rfl, ⟨Fd, hd, hFd⟩, hfr, hsay, hlow, hoff⟩
          have HAG := Lib.hid (nv_again (w0 := w1) hfr hd hFd hlow hsay)
          have HIL6 := Lib.hid (HIL.out.off hoff (fun y hy => by simp [hy]))
          clear hfr hd hFd hlow hsay hoff HCR
          go_wp2_with fail
          (with_reducible refine HAG.out.mono ?_)
          rintro e w7 ⟨p2, rfl, hv7, hoff⟩
          have HR2 : Hid (F2Rel w1 a X p2 dp m S1 mends (.int .i64 (0 : Nat)) w7) := Lib.hid ⟨0, S1, l1, Nat.zero_le _, rfl, Lib.hid hv7, HM1, Lib.hid (Stays.refl _), Lib.hid (fun _ => rfl), Lib.hid (HIL6.out.off hoff (fun y hy => by simp [hy]))⟩
          clear hv7 hoff HAG
          go_wp2
          clear HV HMK HLN HIL HIL6 hlt hj
          go_loopw [79] (fun s79 wr => F2Rel w1 a X p2 dp m S1 mends s79 wr) (fun s79 _ => m - (intOf s79).toNat)
          case atStart => exact HR2.out
          case round =>
            clear HR2
            obtain ⟨j2, S2, l2, hj2, rfl, HV, HMK, HST, HSM, HIL⟩ := hrel
            by_cases hlt : j2 < m
            · obtain ⟨b, off, rfl, hin⟩ := (H2.out.keep HF1.out) (by have := HM.out; omega)
              have hi := hin j2 (by have := HM.out; omega)
              obtain ⟨t, ht⟩ : ∃ t, t = us.getD j2 default := ⟨_, rfl⟩
              rw [← ht] at hi
              obtain ⟨p0, p1, hok⟩ := hi.keep HV.out.frm
              clear hin ht hi
              obtain ⟨te, da, dc, dd⟩ := t
              simp only at p0 p1
              obtain ⟨dn, hdn⟩ : ∃ dn, dn = dd.length := ⟨_, rfl⟩
              rw [← hdn] at p1
              by_cases h256 : 256 < dn
              · have hgu : decide ((256 : Int) < (dn : Int)) = true := decide_eq_true (by omega)
                clear hok hdn
                go_wp2
                go_ret
                exact ⟨rfl, ((HF1.out.trans HV.out.frm (U := []) (by simp) (by simp)).alloc _).below (by simp) (Nat.le_refl _)⟩
              · have hgu : decide ((256 : Int) < (dn : Int)) = false := decide_eq_false (by omega)
                have hfa : Frm [] wr (wr.alloc (.cells #[.int .u64 (te : Nat), .slice da dn dc] 34)) := (Frm.refl [] wr).alloc _
                have HAD := nv_add 7 te 0 da dn dc dd mends (HV.out.here hfa) (by decide) hok.ent_lt (by decide) (hfa.bytes' hok.data_b (by simp)) hdn hok.data_nil
                rw [show ((7 : Nat) : Int) = 7 from rfl, show ((0 : Nat) : Int) = 0 from rfl] at HAD
                obtain ⟨en, hen⟩ : ∃ en, en = oE l2 1048576 (addO S2 7 te 0 dd mends) (recA 7 te 0 dd) := ⟨_, rfl⟩
                obtain ⟨S', hS'⟩ : ∃ S', S' = oS S2 l2 1048576 (addO S2 7 te 0 dd mends) (recA 7 te 0 dd) 7 (addL (S2 7) te 0 dd) := ⟨_, rfl⟩
                obtain ⟨l', hl'⟩ : ∃ l', l' = oL l2 1048576 (addO S2 7 te 0 dd mends) (recA 7 te 0 dd) := ⟨_, rfl⟩
                have HMK' : Hid ((S' 7).gone = false ∧ (S' 7).fen = true) := Lib.hid (by rw [hS', oS_marks.1, oS_marks.2]; exact HMK.out)
                have HST' : Hid (Stays (S1 7) (S' 7)) := Lib.hid (HST.out.trans (by rw [hS']; exact stays_add))
                have HSM' : Hid (mends = false → S' = S1) := Lib.hid (fun h => by
                  rw [hS', ← HSM.out h, h]
                  exact same_add (by decide) HMK.out.1 HMK.out.2)
                have HILA := Lib.hid (HIL.out.here hfa)
                rw [← hen, ← hS', ← hl'] at HAD
                have HAD := Lib.hid HAD
                clear hok hdn hen hS' hl' hfa
                go_wp2_with fail
                (with_reducible refine HAD.out.mono ?_)
                rintro e w5 ⟨rfl, hv5, hoff⟩
                have HREL : Hid (F2Rel w1 a X p2 dp m S1 mends (.int .i64 ((j2 + 1 : Nat) : Nat)) w5) := Lib.hid ⟨j2 + 1, S', l', hlt, rfl, Lib.hid hv5, HMK', HST', HSM', Lib.hid (HILA.out.off hoff (fun y hy => by simp [hy]))⟩
                clear hv5 hoff HAD
                go_wp2
                go_roundw
                case rel => exact HREL.out
                case measure => simp [intOf]; omega
            · have HR3 : Hid (F3Rel w1 p2 dp xn S2 l2 a X (.int .i64 (0 : Nat)) wr) := Lib.hid ⟨0, Nat.zero_le _, rfl, HV, HIL⟩
              clear HV HMK HIL
              go_wp2
              go_loopw [94] (fun s94 wr => F3Rel w1 p2 dp xn S2 l2 a X s94 wr) (fun s94 _ => xn - (intOf s94).toNat)
              case atStart => exact HR3.out
              case round =>
                clear HR3
                obtain ⟨j3, hj3, rfl, HV, HIL⟩ := hrel
                by_cases hlt3 : j3 < xn
                · have hjx : j3 < X.length := by have := HXN.out; omega
                  obtain ⟨bx, ox, rfl, q0, q1, okx⟩ := HIL.out.at hjx
                  have hlk := HST.out _ _ (listed HIT.out HRI.out.1 hjx)
                  generalize X.getD j3 default = x at q0 q1 okx hlk
                  obtain ⟨⟨xk, xv⟩, xa, xc⟩ := x
                  have hnum := okx.num
                  have hxb2 := okx.bytes
                  simp only at q0 q1 hlk hnum hxb2
                  obtain ⟨vn, hvn⟩ : ∃ vn, vn = xv.length := ⟨_, rfl⟩
                  rw [← hvn] at q1
                  obtain ⟨w8, hw8⟩ : ∃ w8, w8 = wr.alloc (.cells #[.int .u64 (xk : Nat), .slice xa vn xc] 34) := ⟨_, rfl⟩
                  obtain ⟨g, hg0⟩ : ∃ g, g = wr.heap.size := ⟨_, rfl⟩
                  have hW8 := Whole.made wr 34 #[.int .u64 (xk : Nat), .slice xa vn xc]
                  rw [← hw8, ← hg0] at hW8
                  have hf8 : Frm [] wr w8 := by rw [hw8]; exact (Frm.refl _ _).alloc _
                  have HRD := nv_read 7 xk (HV.out.here hf8) (by decide) hnum
                  rw [hlk] at HRD
                  simp only [Option.getD_some, Option.isSome_some] at HRD
                  rw [show ((7 : Nat) : Int) = 7 from rfl, ← hvn] at HRD
                  have HRD := Lib.hid HRD
                  have HXB := Lib.hid (hf8.bytes' hxb2 (by simp))
                  have HVN := Lib.hid hvn
                  have HF8 := Lib.hid hf8
                  have HW8 := Lib.hid hW8
                  have HE8 := Lib.hid hw8
                  have HG8 := Lib.hid hg0
                  clear hjx hlk okx hnum hxb2 hvn hf8 hW8 hw8 hg0
                  go_wp2_with fail
                  rw [← HE8.out, ← HG8.out]
                  (with_reducible refine HRD.out.mono ?_)
                  rintro e w9 ⟨ra, rn, rc, rfl, hrn, hro, hr8, hf9⟩
                  subst hrn
                  rw [HVN.out] at hro
                  have hob := (bytes_of_own hro hr8).2.1
                  have hxb3 := hf9.bytes' HXB.out (by simp)
                  have c1 := (hf9.whole HW8.out (by simp)).cell 1
                  simp at c1
                  have hm := HVN.out
                  obtain ⟨st, hst⟩ : ∃ st, st = strOf xv := ⟨_, rfl⟩
                  have v1 : ∀ d, (convert 32 9 (.slice ra rn rc)).run Try.prog (w9.drewN d) = .ok (.string st) (w9.drewN d) := fun d => by
                    rw [hst]; exact run_to_string (P := Try.prog) (e := 5) Try.underlying32 Try.underlying5 Try.underlying9 (((Frm.refl [] w9).drewN d).bytes hob (by simp)) hm
                  have v2 : ∀ d, (convert 32 9 (.slice xa rn xc)).run Try.prog (w9.drewN d) = .ok (.string st) (w9.drewN d) := fun d => by
                    rw [hst]; exact run_to_string (P := Try.prog) (e := 5) Try.underlying32 Try.underlying5 Try.underlying9 (((Frm.refl [] w9).drewN d).bytes hxb3 (by simp)) hm
                  have v10 := v1 0
                  have v20 := v2 0
                  rw [show w9.drewN 0 = w9 from rfl] at v10 v20
                  have HF9 := Lib.hid (HF8.out.trans hf9 (U := []) (by simp) (by simp))
                  have HREL : Hid (F3Rel w1 p2 dp xn S2 l2 (some ⟨bx, ox, none⟩) X (.int .i64 ((j3 + 1 : Nat) : Nat)) w9) := Lib.hid ⟨j3 + 1, hlt3, rfl, Lib.hid (HV.out.here HF9.out), Lib.hid (HIL.out.here HF9.out)⟩
                  clear hro hr8 hf9 hob hxb3 hm hst HRD HXB
                  go_wp2
                  go_roundw
                  case rel => exact HREL.out
                  case measure => simp [intOf]; omega
                · cases mends
                  · have HLI := Lib.hid (nv_list 7 HV.out (by decide))
                    rw [show ((7 : Nat) : Int) = 7 from rfl] at HLI
                    go_wp2_with fail
                    (with_reducible refine HLI.out.mono ?_)
                    rintro e w8 ⟨a2, c2, X2, hits2, rfl, hil2, hf8, hv8⟩
                    have hits3 : its X = its X2 := by rw [HIT.out, hits2, HSM.out (by trivial)]
                    have hx2 : X2.length = xn := by rw [← its_len hits3, HXN.out]
                    rw [hx2]
                    have HSS := Lib.hid (sameItems_true a a2 xn c c2 X X2 [] [] w8 (HIL.out.here hf8) hil2 HXN.out hits3 (by omega))
                    have HV8 := Lib.hid hv8
                    clear hits2 hil2 hf8 hv8 hits3 hx2 HLI
                    go_wp2_with fail
                    (with_reducible refine HSS.out.mono ?_)
                    rintro e w9 ⟨rfl, hf9⟩
                    have HF9 := Lib.hid ((HF1.out.trans HV8.out.frm (U := []) (by simp) (by simp)).trans hf9 (U := []) (by simp) (by simp))
                    clear hf9 HSS
                    go_wp2
                    go_ret
                    exact ⟨rfl, HF9.out.below (by simp) (Nat.le_refl _)⟩
                  · go_wp2
                    go_ret
                    exact ⟨rfl, (HF1.out.trans HV.out.frm (U := []) (by simp) (by simp)).below (by simp) (Nat.le_refl _)⟩
end Go.Proofs.Ytpmogoknkehlnaa
