/- LeaseApart: the walk. -/
import Derived.Test.YtefplgligmkbiaaLsLv
import Derived.Test.YtefplgligmkbiaaInLe
namespace Go.Proofs.Ytefplgligmkbiaa
open Go.RowKit

/-- At most one session, of this Id. -/
def OneS (i : Nat) (A : List Sn) : Prop := A = [] ∨ ∃ e l, A = [⟨i, e, l⟩]
theorem atS_nil (id : Nat) : atS [] id = 0 := rfl
theorem atS_yes (e l : Nat) (id : Nat) (B : List Sn) : atS (⟨id, e, l⟩ :: B) id = 0 := by simp [atS, List.findIdx_cons]
theorem atS_no {i id : Nat} (h : i ≠ id) (e l : Nat) (B : List Sn) : atS (⟨i, e, l⟩ :: B) id = atS B id + 1 := by simp [atS, List.findIdx_cons, h]
theorem two_live {A B : List Sn} (hA : OneS 1 A) (hB : OneS 2 B) (now : Nat) : liveS (A ++ B) 1 now = liveS A 1 now := by
  unfold liveS
  rcases hA with rfl | ⟨e, l, rfl⟩
  · rcases hB with rfl | ⟨e, l, rfl⟩
    · rfl
    · simp [atS_no, atS_nil]
  · simp [atS_yes]
theorem two_renew1 {A B : List Sn} (hA : OneS 1 A) (hB : OneS 2 B) (now : Nat) : renewC (A ++ B) 1 now = renewC A 1 now ∧ renewL (A ++ B) 1 now = renewL A 1 now ++ B ∧ OneS 1 (renewL A 1 now) := by
  rcases hA with rfl | ⟨e, l, rfl⟩
  · rcases hB with rfl | ⟨e, l, rfl⟩
    · exact ⟨rfl, rfl, .inl rfl⟩
    · have h1 : renewC [(⟨2, e, l⟩ : Sn)] 1 now = 11 := by unfold renewC; simp [atS_no, atS_nil]
      have h2 : renewC [] 1 now = 11 := rfl
      refine ⟨by rw [List.nil_append, h1, h2], ?_, ?_⟩
      · unfold renewL; rw [List.nil_append, h1, h2]; rfl
      · unfold renewL; rw [h2]; exact .inl rfl
  · have hc : renewC (⟨1, e, l⟩ :: B) 1 now = renewC [(⟨1, e, l⟩ : Sn)] 1 now := by unfold renewC; simp [atS_yes]
    refine ⟨hc, ?_, ?_⟩
    · unfold renewL
      rw [show ([(⟨1, e, l⟩ : Sn)] ++ B) = ⟨1, e, l⟩ :: B from rfl, hc]
      split
      · unfold renewS; simp [atS_yes]
      · rfl
    · unfold renewL
      split
      · unfold renewS
        rw [atS_yes]
        exact .inr ⟨_, _, rfl⟩
      · exact .inr ⟨e, l, rfl⟩
theorem two_renew2 {A B : List Sn} (hA : OneS 1 A) (hB : OneS 2 B) (now : Nat) : ∃ B', renewL (A ++ B) 2 now = A ++ B' ∧ OneS 2 B' := by
  rcases hA with rfl | ⟨e, l, rfl⟩
  · rcases hB with rfl | ⟨e, l, rfl⟩
    · exact ⟨[], rfl, .inl rfl⟩
    · unfold renewL
      split
      · unfold renewS
        rw [List.nil_append, atS_yes]
        exact ⟨_, rfl, .inr ⟨_, _, rfl⟩⟩
      · exact ⟨_, rfl, .inr ⟨e, l, rfl⟩⟩
  · rcases hB with rfl | ⟨e', l', rfl⟩
    · have h1 : renewC [(⟨1, e, l⟩ : Sn)] 2 now = 11 := by unfold renewC; simp [atS_no, atS_nil]
      refine ⟨[], ?_, .inl rfl⟩
      unfold renewL; rw [List.append_nil, h1]; rfl
    · unfold renewL
      split
      · unfold renewS
        have h2 : atS ([(⟨1, e, l⟩ : Sn)] ++ [⟨2, e', l'⟩]) 2 = 1 := by
          show atS (⟨1, e, l⟩ :: [⟨2, e', l'⟩]) 2 = 1
          rw [atS_no (by omega), atS_yes]
        rw [h2]
        exact ⟨_, rfl, .inr ⟨_, _, rfl⟩⟩
      · exact ⟨_, rfl, .inr ⟨e', l', rfl⟩⟩
theorem one_left {i : Nat} {A : List Sn} (h : OneS i A) (now : Nat) : OneS i (leftS now A) := by
  rcases h with rfl | ⟨e, l, rfl⟩
  · exact .inl rfl
  · unfold leftS
    rw [List.filter_cons]
    split
    · exact .inr ⟨e, l, rfl⟩
    · exact .inl rfl
theorem left_append (now : Nat) (A B : List Sn) : leftS now (A ++ B) = leftS now A ++ leftS now B := by unfold leftS; rw [List.filter_append]

def ApRel (w : World) (p q n : Nat) (s17 s56 : Value) (wr : World) : Prop :=
  ∃ (k now : Nat) (A B : List Sn), k ≤ n ∧ k ≤ 61 ∧ now ≤ 4 * k ∧ s56 = .int .i64 (k : Nat) ∧ s17 = .int .u64 (now : Nat) ∧ Hid (OneS 1 A) ∧ Hid (OneS 2 B) ∧ Hid (Lv w wr p 2 (A ++ B)) ∧ Hid (Lv w wr q 1 A)

set_option maxRecDepth 100000 in
set_option maxHeartbeats 16000000 in
theorem leaseApart_walk (a b : Nat) (a0 : Option Addr) (n cap : Nat) (ts : List Le) (w : World) (ha : a < 256) (hb : b < 256) (h : Les w a0 ts) (hn : n = ts.length) (hnn : n ≤ 9223372036854775807) :
    Calls Try.prog 7 #[.int .u8 (a : Nat), .int .u8 (b : Nat), .slice a0 n cap] w fun e w' => e = .returned (.bool true) ∧ Below w.heap.size w w' := by
  have HAW := Lib.hid (awake7_any w)
  have HN := Lib.hid hn; clear hn
  have H := Lib.hid h; clear h
  obtain ⟨la, hla⟩ : ∃ la, la = 1 + a := ⟨_, rfl⟩
  obtain ⟨lb, hlb⟩ : ∃ lb, lb = 1 + b := ⟨_, rfl⟩
  have ea : IntKind.u64.wrap (a : Int) = (a : Int) := by simp [IntKind.wrap, IntKind.bits, IntKind.signed]; omega
  have ea2 : (a : Int) % 18446744073709551616 = (a : Int) := by omega
  have eb : IntKind.u64.wrap (b : Int) = (b : Int) := by simp [IntKind.wrap, IntKind.bits, IntKind.signed]; omega
  have eb2 : (b : Int) % 18446744073709551616 = (b : Int) := by omega
  have fa2 : (1 + (a : Int)) % 18446744073709551616 = (la : Int) := by omega
  have fa : IntKind.u64.wrap (1 + (a : Int)) = (la : Int) := by rw [← fa2]; simp [IntKind.wrap, IntKind.bits, IntKind.signed]
  have fb2 : (1 + (b : Int)) % 18446744073709551616 = (lb : Int) := by omega
  have fb : IntKind.u64.wrap (1 + (b : Int)) = (lb : Int) := by rw [← fb2]; simp [IntKind.wrap, IntKind.bits, IntKind.signed]
  have hla2 : 1 ≤ la ∧ la ≤ 256 := by omega
  have hlb2 : 1 ≤ lb ∧ lb ≤ 256 := by omega
  clear hla hlb
  go_enter Try.func7, Try.ntmps7
  go_wp2_with fail
  (with_reducible refine HAW.out.mono ?_)
  rintro e w1 ⟨rfl, hf1⟩
  have HF1 := Lib.hid hf1; clear hf1 HAW
  go_wp2_with fail
  refine (lv_new w w1 0 (by omega) HF1.out).mono ?_
  rintro e w2 ⟨p, rfl, hx2, hp1, hf2⟩
  have HX2 := Lib.hid hx2; clear hx2
  have HF2 := Lib.hid (HF1.out.trans hf2 (U := []) (by simp) (by simp)); clear hf2 HF1
  go_wp2_with fail
  refine (lv_new w w2 0 (by omega) HF2.out).mono ?_
  rintro e w3 ⟨q, rfl, hy3, hq2, hf3⟩
  have hpq : p ≠ q := by
    obtain ⟨⟨Y, hbk⟩, _⟩ := HX2.out
    have := hbk.book.lt
    omega
  have HPQ := Lib.hid hpq
  have HX3 := Lib.hid (HX2.out.keep hf3 (by simp) (by simp))
  have HY3 := Lib.hid hy3
  have HPW := Lib.hid HX2.out.hp
  have HQW := Lib.hid hy3.hp
  clear hy3 hf3 hq2 hp1 hpq HX2 HF2
  have o1 : openC 0 0 la = 0 ∧ openR 0 0 la = 1 ∧ openT 0 0 la = 1 := by
    have hc : openC 0 0 la = 0 := by unfold openC; rw [if_pos (by omega), if_neg (by omega)]
    exact ⟨hc, by unfold openR; rw [hc]; rfl, by unfold openT; rw [hc]; rfl⟩
  have s1 : openS [] 0 0 la = [⟨1, la, la⟩] := by
    unfold openS; rw [show openC 0 ([] : List Sn).length la = 0 from o1.1, if_pos rfl]
    unfold sumN; rw [if_pos (by omega)]; simp
  have o2 : openC 1 1 lb = 0 ∧ openR 1 1 lb = 2 ∧ openT 1 1 lb = 2 := by
    have hc : openC 1 1 lb = 0 := by unfold openC; rw [if_pos (by omega), if_neg (by omega)]
    exact ⟨hc, by unfold openR; rw [hc]; rfl, by unfold openT; rw [hc]; rfl⟩
  have s2 : openS [⟨1, la, la⟩] 1 0 lb = [⟨1, la, la⟩] ++ [⟨2, lb, lb⟩] := by
    unfold openS; rw [show openC 1 ([⟨1, la, la⟩] : List Sn).length lb = 0 from o2.1, if_pos rfl]
    unfold sumN; rw [if_pos (by omega)]; simp
  have hO1 := fun (z : World) (hz : Lv w z p 0 []) => lv_open (w := z) 0 la hz (by omega)
  have hO2 := fun (z : World) (hz : Lv w z q 0 []) => lv_open (w := z) 0 la hz (by omega)
  have hO3 := fun (z : World) (hz : Lv w z p 1 [⟨1, la, la⟩]) => lv_open (w := z) 0 lb hz (by omega)
  rw [show openC 0 ([] : List Sn).length la = 0 from o1.1, show openR 0 ([] : List Sn).length la = 1 from o1.2.1, show openT 0 ([] : List Sn).length la = 1 from o1.2.2, s1] at hO1 hO2
  rw [show openC 1 ([⟨1, la, la⟩] : List Sn).length lb = 0 from o2.1, show openR 1 ([⟨1, la, la⟩] : List Sn).length lb = 2 from o2.2.1, show openT 1 ([⟨1, la, la⟩] : List Sn).length lb = 2 from o2.2.2, s2] at hO3
  have O1 := Lib.hid hO1
  have O2 := Lib.hid hO2
  have O3 := Lib.hid hO3
  clear hO1 hO2 hO3 o1 s1 o2 s2
  go_wp2_with fail
  refine (O1.out _ HX3.out).mono ?_
  rintro e w4 ⟨rfl, hx4, hf4⟩
  have HX4 := Lib.hid hx4
  have HY4 := Lib.hid (HY3.out.keep hf4 (by simp; exact fun e => HPQ.out e.symm) (by simp; exact HPW.out))
  clear hx4 hf4 HX3 HY3 O1
  go_wp2_with fail
  refine (O2.out _ HY4.out).mono ?_
  rintro e w5 ⟨rfl, hy5, hf5⟩
  have HY5 := Lib.hid hy5
  have HX5 := Lib.hid (HX4.out.keep hf5 (by simp; exact HPQ.out) (by simp; exact HQW.out))
  clear hy5 hf5 HX4 HY4 O2
  go_wp2_with fail
  refine (O3.out _ HX5.out).mono ?_
  rintro e w6 ⟨rfl, hx6, hf6⟩
  have HY6 := Lib.hid (HY5.out.keep hf6 (by simp; exact fun e => HPQ.out e.symm) (by simp; exact HPW.out))
  have HR0 : Hid (ApRel w p q n (.int .u64 0) (.int .i64 0) w6) := Lib.hid ⟨0, 0, _, _, Nat.zero_le _, by omega, by omega, rfl, rfl, Lib.hid (.inr ⟨_, _, rfl⟩), Lib.hid (.inr ⟨_, _, rfl⟩), Lib.hid hx6, HY6⟩
  clear hx6 hf6 HX5 HY5 HY6 O3 ea ea2 eb eb2 fa2 fa fb2 fb hla2 hlb2 ha hb
  go_wp2
  go_loopw [17, 56] (fun s17 s56 wr => ApRel w p q n s17 s56 wr) (fun _ s56 _ => n - (intOf s56).toNat)
  case atStart => exact HR0.out
  case round =>
    clear HR0
    obtain ⟨k, now, A, B, hk, hk61, hnow, rfl, rfl, HA, HB, HX, HY⟩ := hrel
    have HFE := Lib.hid HX.out.2
    by_cases hlt : k < n
    · obtain ⟨bb, off, rfl, hin⟩ := H.out (by have := HN.out; omega)
      have hin0 := (hin k (by have := HN.out; omega)).keep HFE.out
      generalize ts.getD k default = t at hin0
      obtain ⟨tk, tid, tnow, tlife⟩ := t
      obtain ⟨d0, d1, d2, d3, ok⟩ := hin0
      simp only at d0 d1 d2 d3
      have htk : tk < 256 := ok.k_lt
      have htn : tnow < 18446744073709551616 := ok.now_lt
      obtain ⟨g, hg⟩ : ∃ g, g = wr.heap.size := ⟨_, rfl⟩
      obtain ⟨w2', hw2⟩ : ∃ w2', w2' = wr.alloc (.cells #[.int .u8 (tk : Nat), .int .u64 (tid : Nat), .int .u64 (tnow : Nat), .int .u64 (tlife : Nat)] 33) := ⟨_, rfl⟩
      have hW2 := Whole.made wr 33 #[.int .u8 (tk : Nat), .int .u64 (tid : Nat), .int .u64 (tnow : Nat), .int .u64 (tlife : Nat)]
      rw [← hw2, ← hg] at hW2
      have hf2 : Frm [] wr w2' := by rw [hw2]; exact (Frm.refl _ _).alloc _
      have HX2 := Lib.hid (HX.out.keep hf2 (by simp) (by simp))
      have HY2 := Lib.hid (HY.out.keep hf2 (by simp) (by simp))
      have HW2 := Lib.hid hw2
      have HGG := Lib.hid hg
      have HB2 := Lib.hid hW2
      have HF2 := Lib.hid HX2.out.2
      have hgl : ¬ g = p ∧ ¬ g = q := by
        obtain ⟨⟨_, b1⟩, _⟩ := HX.out
        obtain ⟨⟨_, b2⟩, _⟩ := HY.out
        have := b1.book.lt
        have := b2.book.lt
        omega
      have HGP := Lib.hid hgl
      clear hin hw2 hg hW2 hf2 ok hgl HX HY
      by_cases h60 : 60 < k
      · have HFE2 := HF2
        rw [HW2.out] at HFE2
        go_wp2
        go_ret
        exact ⟨rfl, HFE2.out.below (by simp) (Nat.le_refl _)⟩
      · obtain ⟨r, hr⟩ : ∃ r, r = tnow % 5 := ⟨_, rfl⟩
        obtain ⟨now', hnow'⟩ : ∃ now', now' = now + r := ⟨_, rfl⟩
        have hnb : now' ≤ 4 * (k + 1) := by omega
        have e1 : (tnow : Int) % 5 = (r : Int) := by omega
        have e2 : ((now : Int) + (r : Int)) % 18446744073709551616 = (now' : Int) := by omega
        have e3 : IntKind.u64.wrap ((now : Int) + (r : Int)) = (now' : Int) := by rw [← e2]; simp [IntKind.wrap, IntKind.bits, IntKind.signed]
        obtain ⟨m3, hm3⟩ : ∃ m3, m3 = tk % 3 := ⟨_, rfl⟩
        have hk3 : (tk : Int) % 3 = (m3 : Int) := by rw [hm3]; rfl
        have hc3 : m3 = 0 ∨ m3 = 1 ∨ m3 = 2 := by omega
        have hn64 : now' < 18446744073709551616 := by omega
        have HN64 := Lib.hid hn64
        clear hr hnow' hm3 hnow HFE
        -- the last part of a round
        have LAST := Lib.hid (fun (A' B' : List Sn) (z : World) (hA' : OneS 1 A') (hB' : OneS 2 B') (hx : Lv w z p 2 (A' ++ B')) (hy : Lv w z q 1 A') =>
          (show (Calls Try.prog 18 #[.pointer (some ⟨p, 0, none⟩), .int .u64 (now' : Nat)] z fun e w' => ∃ v, e = .returned v ∧ Lv w w' p 2 (leftS now' A' ++ leftS now' B') ∧ Lv w w' q 1 A') from by
            refine (lv_expire now' hx).mono ?_
            rintro e w' ⟨ga, gc, he, _, h1, h2⟩
            rw [left_append] at h1
            exact ⟨_, he, h1, hy.keep h2 (by simp; exact fun e => HPQ.out e.symm) (by simp; exact HPW.out)⟩))
        have LAST2 := Lib.hid (fun (A' X' : List Sn) (z : World) (hx : Lv w z p 2 X') (hy : Lv w z q 1 A') =>
          (show (Calls Try.prog 18 #[.pointer (some ⟨q, 0, none⟩), .int .u64 (now' : Nat)] z fun e w' => ∃ v, e = .returned v ∧ Lv w w' p 2 X' ∧ Lv w w' q 1 (leftS now' A')) from by
            refine (lv_expire now' hy).mono ?_
            rintro e w' ⟨ga, gc, he, _, h1, h2⟩
            exact ⟨_, he, hx.keep h2 (by simp; exact HPQ.out) (by simp; exact HQW.out), h1⟩))
        rcases hc3 with rfl | rfl | rfl
        · have HR2 := Lib.hid (lv_renew 2 now' HX2.out hn64)
          obtain ⟨B', hB', hB1⟩ := two_renew2 HA.out HB.out now'
          rw [hB'] at HR2
          have HBz := Lib.hid hB1
          have HAz := HA
          clear hB' hB1 hn64
          go_wp2_with fail
          rw [← HW2.out, ← HGG.out]
          refine HR2.out.mono ?_
          rintro e wz ⟨rfl, hxz, hfz⟩
          have HXz := Lib.hid hxz
          have HYz := Lib.hid (HY2.out.keep hfz (by simp; exact fun e => HPQ.out e.symm) (by simp; exact HPW.out))
          have hwz := hfz.whole HB2.out (by simp; exact HGP.out.1)
          have q0 := hwz.cell 0
          simp at q0
          clear hxz hfz hwz HX2 HY2 HR2 d0 d1 d2 d3
          go_wp2_with fail
          refine (LAST.out A B' _ HAz.out HBz.out HXz.out HYz.out).mono ?_
          rintro e wa ⟨va, rfl, hxa, hya⟩
          have HXa := Lib.hid hxa
          have HYa := Lib.hid hya
          clear hxa hya HXz HYz
          go_wp2_with fail
          refine (LAST2.out A _ _ HXa.out HYa.out).mono ?_
          rintro e wb ⟨vb, rfl, hxb, hyb⟩
          have HLX := Lib.hid (lv_live 1 now' hxb)
          have HAl := Lib.hid (one_left HAz.out now')
          have HBl := Lib.hid (one_left HBz.out now')
          rw [two_live HAl.out HBl.out] at HLX
          have HYb := Lib.hid hyb
          clear hxb hyb HXa HYa
          obtain ⟨lv, hlv⟩ : ∃ lv, lv = liveS (leftS now' A) 1 now' := ⟨_, rfl⟩
          have HLVQ := Lib.hid hlv
          rw [← hlv] at HLX
          clear hlv
          go_wp2_with fail
          refine HLX.out.mono ?_
          rintro e wc ⟨rfl, hxc, hfc⟩
          have HXc := Lib.hid hxc
          have HYc := Lib.hid (HYb.out.keep hfc (by simp) (by simp))
          have HLY := Lib.hid (lv_live 1 now' HYc.out)
          rw [← HLVQ.out] at HLY
          clear hxc hfc HYb HLX
          go_wp2_with fail
          refine HLY.out.mono ?_
          rintro e wd ⟨rfl, hyd, hfd⟩
          have HXd := Lib.hid (HXc.out.keep hfd (by simp) (by simp))
          have HYd := Lib.hid hyd
          have hbb : (lv != lv) = false := by simp
          clear hyd hfd HXc HYc HLY HLVQ
          go_wp2
          go_roundw
          case rel => exact ⟨k + 1, now', _, _, by omega, by omega, hnb, by go_num, rfl, HAl, HBl, HXd, HYd⟩
          case measure => simp [intOf]; omega
        · have HR1 := Lib.hid (lv_renew 1 now' HX2.out hn64)
          obtain ⟨r1, r2, r3⟩ := two_renew1 HA.out HB.out now'
          rw [r1, r2] at HR1
          have HAz := Lib.hid r3
          have HBz := HB
          have HQR := Lib.hid (fun (z : World) (hz : Lv w z q 1 A) => lv_renew (w := z) 1 now' hz HN64.out)
          obtain ⟨cc, hcc⟩ : ∃ cc, cc = renewC A 1 now' := ⟨_, rfl⟩
          rw [← hcc] at HR1 HQR
          have hcb : ((cc : Int) != (cc : Int)) = false := by simp
          clear r1 r2 r3 hcc hn64
          go_wp2_with fail
          rw [← HW2.out, ← HGG.out]
          refine HR1.out.mono ?_
          rintro e wy ⟨rfl, hxy, hfy⟩
          have HXy := Lib.hid hxy
          have HYy := Lib.hid (HY2.out.keep hfy (by simp; exact fun e => HPQ.out e.symm) (by simp; exact HPW.out))
          have hwy := hfy.whole HB2.out (by simp; exact HGP.out.1)
          have q0 := hwy.cell 0
          simp at q0
          clear hxy hfy hwy HX2 HY2 HR1 d0 d1 d2 d3
          go_wp2_with fail
          refine (HQR.out _ HYy.out).mono ?_
          rintro e wz ⟨rfl, hyz, hfz⟩
          have HYz := Lib.hid hyz
          have HXz := Lib.hid (HXy.out.keep hfz (by simp; exact HPQ.out) (by simp; exact HQW.out))
          clear hyz hfz HXy HYy HQR
          go_wp2_with fail
          refine (LAST.out (renewL A 1 now') B _ HAz.out HBz.out HXz.out HYz.out).mono ?_
          rintro e wa ⟨va, rfl, hxa, hya⟩
          have HXa := Lib.hid hxa
          have HYa := Lib.hid hya
          clear hxa hya HXz HYz
          go_wp2_with fail
          refine (LAST2.out (renewL A 1 now') _ _ HXa.out HYa.out).mono ?_
          rintro e wb ⟨vb, rfl, hxb, hyb⟩
          have HLX := Lib.hid (lv_live 1 now' hxb)
          have HAl := Lib.hid (one_left HAz.out now')
          have HBl := Lib.hid (one_left HBz.out now')
          rw [two_live HAl.out HBl.out] at HLX
          have HYb := Lib.hid hyb
          clear hxb hyb HXa HYa
          obtain ⟨lv, hlv⟩ : ∃ lv, lv = liveS (leftS now' (renewL A 1 now')) 1 now' := ⟨_, rfl⟩
          have HLVQ := Lib.hid hlv
          rw [← hlv] at HLX
          clear hlv
          go_wp2_with fail
          refine HLX.out.mono ?_
          rintro e wc ⟨rfl, hxc, hfc⟩
          have HXc := Lib.hid hxc
          have HYc := Lib.hid (HYb.out.keep hfc (by simp) (by simp))
          have HLY := Lib.hid (lv_live 1 now' HYc.out)
          rw [← HLVQ.out] at HLY
          clear hxc hfc HYb HLX
          go_wp2_with fail
          refine HLY.out.mono ?_
          rintro e wd ⟨rfl, hyd, hfd⟩
          have HXd := Lib.hid (HXc.out.keep hfd (by simp) (by simp))
          have HYd := Lib.hid hyd
          have hbb : (lv != lv) = false := by simp
          clear hyd hfd HXc HYc HLY HLVQ
          go_wp2
          go_roundw
          case rel => exact ⟨k + 1, now', _, _, by omega, by omega, hnb, by go_num, rfl, HAl, HBl, HXd, HYd⟩
          case measure => simp [intOf]; omega
        · have HAz := HA
          have HBz := HB
          have HXz := HX2
          have HYz := HY2
          clear hn64 HX2 HY2
          go_wp2_with fail
          rw [← HW2.out]
          refine (LAST.out A B _ HAz.out HBz.out HXz.out HYz.out).mono ?_
          rintro e wa ⟨va, rfl, hxa, hya⟩
          have HXa := Lib.hid hxa
          have HYa := Lib.hid hya
          clear hxa hya HXz HYz
          go_wp2_with fail
          refine (LAST2.out A _ _ HXa.out HYa.out).mono ?_
          rintro e wb ⟨vb, rfl, hxb, hyb⟩
          have HLX := Lib.hid (lv_live 1 now' hxb)
          have HAl := Lib.hid (one_left HAz.out now')
          have HBl := Lib.hid (one_left HBz.out now')
          rw [two_live HAl.out HBl.out] at HLX
          have HYb := Lib.hid hyb
          clear hxb hyb HXa HYa
          obtain ⟨lv, hlv⟩ : ∃ lv, lv = liveS (leftS now' A) 1 now' := ⟨_, rfl⟩
          have HLVQ := Lib.hid hlv
          rw [← hlv] at HLX
          clear hlv
          go_wp2_with fail
          refine HLX.out.mono ?_
          rintro e wc ⟨rfl, hxc, hfc⟩
          have HXc := Lib.hid hxc
          have HYc := Lib.hid (HYb.out.keep hfc (by simp) (by simp))
          have HLY := Lib.hid (lv_live 1 now' HYc.out)
          rw [← HLVQ.out] at HLY
          clear hxc hfc HYb HLX
          go_wp2_with fail
          refine HLY.out.mono ?_
          rintro e wd ⟨rfl, hyd, hfd⟩
          have HXd := Lib.hid (HXc.out.keep hfd (by simp) (by simp))
          have HYd := Lib.hid hyd
          have hbb : (lv != lv) = false := by simp
          clear hyd hfd HXc HYc HLY HLVQ
          go_wp2
          go_roundw
          case rel => exact ⟨k + 1, now', _, _, by omega, by omega, hnb, by go_num, rfl, HAl, HBl, HXd, HYd⟩
          case measure => simp [intOf]; omega
    · obtain rfl : k = n := by omega
      go_wp2
      go_ret
      exact ⟨rfl, HFE.out.below (by simp) (Nat.le_refl _)⟩
end Go.Proofs.Ytefplgligmkbiaa
