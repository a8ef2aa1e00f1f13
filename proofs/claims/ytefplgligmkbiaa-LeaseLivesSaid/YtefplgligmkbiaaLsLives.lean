/- LeaseLives: the walk. -/
import Derived.Test.YtefplgligmkbiaaLsLv
import Derived.Test.YtefplgligmkbiaaLsApart
import Derived.Test.YtefplgligmkbiaaInHs
namespace Go.Proofs.Ytefplgligmkbiaa
open Go.RowKit

theorem one_live {e l now : Nat} : liveS [⟨1, e, l⟩] 1 now = decide (now < e) := by unfold liveS; rw [atS_yes]; rfl
theorem one_gone_no {e l now : Nat} (h : now < e) : goneS now [⟨1, e, l⟩] = [] ∧ leftS now [⟨1, e, l⟩] = [⟨1, e, l⟩] := by
  have ho : overS now ⟨1, e, l⟩ = false := decide_eq_false (by show ¬ e ≤ now; omega)
  unfold goneS leftS
  rw [List.filter_cons, List.filter_cons, ho]
  exact ⟨rfl, rfl⟩
theorem one_gone_yes {e l now : Nat} (h : e ≤ now) : goneS now [⟨1, e, l⟩] = [1] ∧ leftS now [⟨1, e, l⟩] = [] := by
  have ho : overS now ⟨1, e, l⟩ = true := decide_eq_true h
  unfold goneS leftS
  rw [List.filter_cons, List.filter_cons, ho]
  exact ⟨rfl, rfl⟩
theorem one_renew {e l now : Nat} (h : now < e) (he : e ≤ now + l) (hb : now + l < 18446744073709551616) : renewC [⟨1, e, l⟩] 1 now = 0 ∧ renewL [⟨1, e, l⟩] 1 now = [⟨1, now + l, l⟩] := by
  have hc : renewC [⟨1, e, l⟩] 1 now = 0 := by
    unfold renewC
    rw [atS_yes, if_pos (by simp)]
    exact if_neg (by show ¬ e ≤ now; omega)
  refine ⟨hc, ?_⟩
  unfold renewL
  rw [if_pos hc]
  unfold renewS
  rw [atS_yes]
  show [(⟨1, max e (sumN now l), l⟩ : Sn)] = [⟨1, now + l, l⟩]
  unfold sumN
  rw [if_pos hb, Nat.max_eq_right he]

def LfRel (w : World) (p l n : Nat) (s10 s30 : Value) (wr : World) : Prop :=
  ∃ (k now : Nat), k ≤ n ∧ k ≤ 201 ∧ now ≤ 65536 * k ∧ s30 = .int .i64 (k : Nat) ∧ s10 = .int .u64 (now : Nat) ∧ Hid (Lv w wr p 1 [⟨1, now + l, l⟩])

set_option maxRecDepth 100000 in
set_option maxHeartbeats 16000000 in
theorem leaseLives_walk (life : Nat) (a0 : Option Addr) (n cap : Nat) (hs : List Nat) (w : World) (hl : life < 65536) (h : Hs w a0 hs) (hn : n = hs.length) (hnn : n ≤ 9223372036854775807) :
    Calls Try.prog 4 #[.int .u16 (life : Nat), .slice a0 n cap] w fun e w' => e = .returned (.bool true) ∧ Below w.heap.size w w' := by
  have HAW := Lib.hid (awake7_any w)
  have HN := Lib.hid hn; clear hn
  have H := Lib.hid h; clear h
  obtain ⟨l, hll⟩ : ∃ l, l = 1 + life := ⟨_, rfl⟩
  have ea : IntKind.u64.wrap (life : Int) = (life : Int) := by simp [IntKind.wrap, IntKind.bits, IntKind.signed]; omega
  have ea2 : (life : Int) % 18446744073709551616 = (life : Int) := by omega
  have fa2 : (1 + (life : Int)) % 18446744073709551616 = (l : Int) := by omega
  have fa : IntKind.u64.wrap (1 + (life : Int)) = (l : Int) := by rw [← fa2]; simp [IntKind.wrap, IntKind.bits, IntKind.signed]
  have hl1 : 1 ≤ l := by omega
  have hl2 : l ≤ 65536 := by omega
  clear hll
  go_enter Try.func4, Try.ntmps4
  go_wp2_with fail
  (with_reducible refine HAW.out.mono ?_)
  rintro e w1 ⟨rfl, hf1⟩
  have HF1 := Lib.hid hf1; clear hf1 HAW
  go_wp2_with fail
  refine (lv_new w w1 0 (by omega) HF1.out).mono ?_
  rintro e w2 ⟨p, rfl, hx2, _, _⟩
  have o1 : openC 0 0 l = 0 ∧ openR 0 0 l = 1 ∧ openT 0 0 l = 1 := by
    have hc : openC 0 0 l = 0 := by unfold openC; rw [if_pos (by omega), if_neg (by omega)]
    exact ⟨hc, by unfold openR; rw [hc]; rfl, by unfold openT; rw [hc]; rfl⟩
  have s1 : openS [] 0 0 l = [⟨1, 0 + l, l⟩] := by
    unfold openS; rw [show openC 0 ([] : List Sn).length l = 0 from o1.1, if_pos rfl]
    unfold sumN; rw [if_pos (by omega)]; rfl
  have hO1 := lv_open 0 l hx2 (by omega)
  rw [show openC 0 ([] : List Sn).length l = 0 from o1.1, show openR 0 ([] : List Sn).length l = 1 from o1.2.1, show openT 0 ([] : List Sn).length l = 1 from o1.2.2, s1] at hO1
  have O1 := Lib.hid hO1
  have HPW := Lib.hid hx2.hp
  clear hO1 o1 s1 hx2 HF1
  go_wp2_with fail
  refine O1.out.mono ?_
  rintro e w4 ⟨rfl, hx4, _⟩
  have HR0 : Hid (LfRel w p l n (.int .u64 0) (.int .i64 0) w4) := Lib.hid ⟨0, 0, Nat.zero_le _, by omega, by omega, rfl, rfl, Lib.hid hx4⟩
  clear hx4 O1 ea ea2 fa2 fa hl
  go_wp2
  go_loopw [10, 30] (fun s10 s30 wr => LfRel w p l n s10 s30 wr) (fun _ s30 _ => n - (intOf s30).toNat)
  case atStart => exact HR0.out
  case round =>
    clear HR0
    obtain ⟨k, now, hk, hk201, hnow, rfl, rfl, HX⟩ := hrel
    have HFE := Lib.hid HX.out.2
    by_cases hlt : k < n
    · obtain ⟨hx16, b, off, rfl, c0⟩ := (H.out.keep HFE.out) k (by have := HN.out; omega)
      generalize hs.getD k 0 = x at hx16 c0
      by_cases h200 : 200 < k
      · obtain ⟨nl, hnl⟩ : ∃ nl, nl = now + l := ⟨_, rfl⟩
        obtain ⟨nm, hnm⟩ : ∃ nm, nm = now + l - 1 := ⟨_, rfl⟩
        have b1 : ((now : Int) + (l : Int)) % 18446744073709551616 = (nl : Int) := by omega
        have b2 : IntKind.u64.wrap ((now : Int) + (l : Int)) = (nl : Int) := by rw [← b1]; simp [IntKind.wrap, IntKind.bits, IntKind.signed]
        have b3 : ((nl : Int) - 1) % 18446744073709551616 = (nm : Int) := by omega
        have b4 : IntKind.u64.wrap ((nl : Int) - 1) = (nm : Int) := by rw [← b3]; simp [IntKind.wrap, IntKind.bits, IntKind.signed]
        rw [← hnl] at HX
        have hm : nm < nl := by omega
        have hn64 : now < 18446744073709551616 := by omega
        have L1 := Lib.hid (lv_live 1 nm HX.out)
        rw [one_live, decide_eq_true hm] at L1
        have L2 := Lib.hid (fun (z : World) (hz : Lv w z p 1 [⟨1, nl, l⟩]) => lv_live 1 nl hz)
        rw [one_live, decide_eq_false (Nat.lt_irrefl nl)] at L2
        have E1 := Lib.hid (fun (z : World) (hz : Lv w z p 1 [⟨1, nl, l⟩]) => lv_expire nm hz)
        obtain ⟨g1, g2⟩ := one_gone_no (l := l) hm
        rw [g1, g2] at E1
        have E2 := Lib.hid (fun (z : World) (hz : Lv w z p 1 [⟨1, nl, l⟩]) => lv_expire nl hz)
        obtain ⟨g3, g4⟩ := one_gone_yes (l := l) (Nat.le_refl nl)
        rw [g3, g4] at E2
        have R1 := Lib.hid (fun (z : World) (hz : Lv w z p 1 []) => lv_renew 1 now hz hn64)
        rw [show renewC [] 1 now = 11 from rfl] at R1
        clear hnl hnm g1 g2 g3 g4 hm hn64 hnow
        go_wp2_with fail
        refine L1.out.mono ?_
        rintro e wa ⟨rfl, hxa, _⟩
        have HXa := Lib.hid hxa
        clear hxa L1 HX
        go_wp2_with fail
        refine (L2.out _ HXa.out).mono ?_
        rintro e wb ⟨rfl, hxb, _⟩
        have HXb := Lib.hid hxb
        clear hxb L2 HXa
        go_wp2_with fail
        refine (E1.out _ HXb.out).mono ?_
        rintro e wc ⟨ga, gc, rfl, _, hxc, _⟩
        have HXc := Lib.hid hxc
        clear hxc E1 HXb
        rw [show ([] : List Nat).length = 0 from rfl]
        go_wp2_with fail
        refine (E2.out _ HXc.out).mono ?_
        rintro e wd ⟨gb, gd, rfl, hvd, hxd, _⟩
        have HXd := Lib.hid hxd
        have HVD := Lib.hid hvd
        clear hxd E2 HXc hvd
        rw [show ([1] : List Nat).length = 1 from rfl]
        have hfl : Frm [] wd (wd.alloc (.cells #[.int .u64 1] 22)) := (Frm.refl _ _).alloc _
        have hone : ValsAt (wd.alloc (.cells #[.int .u64 1] 22)) (some ⟨wd.heap.size, 0, none⟩) (uvs [1]) := .inr ⟨_, _, rfl, fun i u hu => by rw [(Whole.made wd _ _).cell, Nat.zero_add]; rw [← hu]; simp [uvs]⟩
        have SI := Lib.hid (sameIds_any (cap := gd) (cap' := 1) (HVD.out.keep hfl (by simp)) hone (n := 1) rfl (by omega))
        have HXe := Lib.hid (HXd.out.keep hfl (by simp) (by simp))
        clear hfl hone HVD HXd
        go_wp2_with fail
        refine SI.out.mono ?_
        rintro e we ⟨rfl, hfe⟩
        have HXf := Lib.hid (HXe.out.keep hfe (by simp) (by simp))
        clear hfe SI HXe
        go_wp2_with fail
        refine (R1.out _ HXf.out).mono ?_
        rintro e wf ⟨rfl, hxf, _⟩
        have HFF := Lib.hid hxf.2
        clear hxf R1 HXf
        go_wp2
        go_ret
        exact ⟨rfl, HFF.out.below (by simp) (Nat.le_refl _)⟩
      · obtain ⟨r, hr⟩ : ∃ r, r = x % l := ⟨_, rfl⟩
        have hrl : r < l := by rw [hr]; exact Nat.mod_lt _ hl1
        obtain ⟨now', hnow'⟩ : ∃ now', now' = now + r := ⟨_, rfl⟩
        have hnb : now' ≤ 65536 * (k + 1) := by omega
        have ex : IntKind.u64.wrap (x : Int) = (x : Int) := by simp [IntKind.wrap, IntKind.bits, IntKind.signed]; omega
        have ex2 : (x : Int) % 18446744073709551616 = (x : Int) := by omega
        have e1 : (x : Int) % (l : Int) = (r : Int) := by rw [hr]; exact Int.natCast_emod x l
        have e1t : (x : Int).tmod (l : Int) = (r : Int) := by rw [Int.tmod_eq_emod_of_nonneg (by omega)]; exact e1
        have e0 : ¬ (l : Int) = 0 := by omega
        have e0b : ((l : Int) == 0) = false := by rw [beq_eq_false_iff_ne]; omega
        have e4 : (r : Int) % 18446744073709551616 = (r : Int) := by omega
        have e5 : IntKind.u64.wrap (r : Int) = (r : Int) := by simp [IntKind.wrap, IntKind.bits, IntKind.signed]; omega
        have e2 : ((now : Int) + (r : Int)) % 18446744073709551616 = (now' : Int) := by omega
        have e3 : IntKind.u64.wrap ((now : Int) + (r : Int)) = (now' : Int) := by rw [← e2]; simp [IntKind.wrap, IntKind.bits, IntKind.signed]
        have hin : now' < now + l := by omega
        have HLV := Lib.hid (lv_live 1 now' HX.out)
        rw [one_live, decide_eq_true hin] at HLV
        have HEX := Lib.hid (fun (z : World) (hz : Lv w z p 1 [⟨1, now + l, l⟩]) => lv_expire now' hz)
        obtain ⟨g1, g2⟩ := one_gone_no (l := l) hin
        rw [g1, g2] at HEX
        have HRN := Lib.hid (fun (z : World) (hz : Lv w z p 1 [⟨1, now + l, l⟩]) => lv_renew 1 now' hz (by omega))
        obtain ⟨r1, r2⟩ := one_renew (l := l) hin (by omega) (by omega)
        rw [r1, r2] at HRN
        clear hr hnow' g1 g2 r1 r2 hin hnow HX
        go_wp2_with fail
        refine HLV.out.mono ?_
        rintro e wa ⟨rfl, hxa, _⟩
        have HXa := Lib.hid hxa
        clear hxa HLV c0
        go_wp2_with fail
        refine (HEX.out _ HXa.out).mono ?_
        rintro e wb ⟨ga, gc, rfl, _, hxb, _⟩
        have HXb := Lib.hid hxb
        clear hxb HXa HEX
        rw [show ([] : List Nat).length = 0 from rfl]
        go_wp2_with fail
        refine (HRN.out _ HXb.out).mono ?_
        rintro e wc ⟨rfl, hxc, _⟩
        have HXc := Lib.hid hxc
        clear hxc HXb HRN
        go_wp2
        go_roundw
        case rel => exact ⟨k + 1, now', by omega, by omega, hnb, by go_num, rfl, HXc⟩
        case measure => simp [intOf]; omega
    · obtain rfl : k = n := by omega
      obtain ⟨nl, hnl⟩ : ∃ nl, nl = now + l := ⟨_, rfl⟩
      obtain ⟨nm, hnm⟩ : ∃ nm, nm = now + l - 1 := ⟨_, rfl⟩
      have b1 : ((now : Int) + (l : Int)) % 18446744073709551616 = (nl : Int) := by omega
      have b2 : IntKind.u64.wrap ((now : Int) + (l : Int)) = (nl : Int) := by rw [← b1]; simp [IntKind.wrap, IntKind.bits, IntKind.signed]
      have b3 : ((nl : Int) - 1) % 18446744073709551616 = (nm : Int) := by omega
      have b4 : IntKind.u64.wrap ((nl : Int) - 1) = (nm : Int) := by rw [← b3]; simp [IntKind.wrap, IntKind.bits, IntKind.signed]
      rw [← hnl] at HX
      have hm : nm < nl := by omega
      have hn64 : now < 18446744073709551616 := by omega
      have L1 := Lib.hid (lv_live 1 nm HX.out)
      rw [one_live, decide_eq_true hm] at L1
      have L2 := Lib.hid (fun (z : World) (hz : Lv w z p 1 [⟨1, nl, l⟩]) => lv_live 1 nl hz)
      rw [one_live, decide_eq_false (Nat.lt_irrefl nl)] at L2
      have E1 := Lib.hid (fun (z : World) (hz : Lv w z p 1 [⟨1, nl, l⟩]) => lv_expire nm hz)
      obtain ⟨g1, g2⟩ := one_gone_no (l := l) hm
      rw [g1, g2] at E1
      have E2 := Lib.hid (fun (z : World) (hz : Lv w z p 1 [⟨1, nl, l⟩]) => lv_expire nl hz)
      obtain ⟨g3, g4⟩ := one_gone_yes (l := l) (Nat.le_refl nl)
      rw [g3, g4] at E2
      have R1 := Lib.hid (fun (z : World) (hz : Lv w z p 1 []) => lv_renew 1 now hz hn64)
      rw [show renewC [] 1 now = 11 from rfl] at R1
      clear hnl hnm g1 g2 g3 g4 hm hn64 hnow
      go_wp2_with fail
      refine L1.out.mono ?_
      rintro e wa ⟨rfl, hxa, _⟩
      have HXa := Lib.hid hxa
      clear hxa L1 HX
      go_wp2_with fail
      refine (L2.out _ HXa.out).mono ?_
      rintro e wb ⟨rfl, hxb, _⟩
      have HXb := Lib.hid hxb
      clear hxb L2 HXa
      go_wp2_with fail
      refine (E1.out _ HXb.out).mono ?_
      rintro e wc ⟨ga, gc, rfl, _, hxc, _⟩
      have HXc := Lib.hid hxc
      clear hxc E1 HXb
      rw [show ([] : List Nat).length = 0 from rfl]
      go_wp2_with fail
      refine (E2.out _ HXc.out).mono ?_
      rintro e wd ⟨gb, gd, rfl, hvd, hxd, _⟩
      have HXd := Lib.hid hxd
      have HVD := Lib.hid hvd
      clear hxd E2 HXc hvd
      rw [show ([1] : List Nat).length = 1 from rfl]
      have hfl : Frm [] wd (wd.alloc (.cells #[.int .u64 1] 22)) := (Frm.refl _ _).alloc _
      have hone : ValsAt (wd.alloc (.cells #[.int .u64 1] 22)) (some ⟨wd.heap.size, 0, none⟩) (uvs [1]) := .inr ⟨_, _, rfl, fun i u hu => by rw [(Whole.made wd _ _).cell, Nat.zero_add]; rw [← hu]; simp [uvs]⟩
      have SI := Lib.hid (sameIds_any (cap := gd) (cap' := 1) (HVD.out.keep hfl (by simp)) hone (n := 1) rfl (by omega))
      have HXe := Lib.hid (HXd.out.keep hfl (by simp) (by simp))
      clear hfl hone HVD HXd
      go_wp2_with fail
      refine SI.out.mono ?_
      rintro e we ⟨rfl, hfe⟩
      have HXf := Lib.hid (HXe.out.keep hfe (by simp) (by simp))
      clear hfe SI HXe
      go_wp2_with fail
      refine (R1.out _ HXf.out).mono ?_
      rintro e wf ⟨rfl, hxf, _⟩
      have HFF := Lib.hid hxf.2
      clear hxf R1 HXf
      go_wp2
      go_ret
      exact ⟨rfl, HFF.out.below (by simp) (Nat.le_refl _)⟩
end Go.Proofs.Ytefplgligmkbiaa
