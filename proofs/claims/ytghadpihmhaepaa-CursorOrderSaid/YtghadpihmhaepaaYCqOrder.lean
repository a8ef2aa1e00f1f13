/- The walk of CursorOrder. -/
import Derived.Test.YtghadpihmhaepaaYCqOrderM
import Derived.Test.YtghadpihmhaepaaYMapP
import Derived.Test.YtghadpihmhaepaaYCqNext
import Derived.Test.YtghadpihmhaepaaYCuRight
import Derived.Test.YtghadpihmhaepaaYTail
import Derived.Deep.CutBlock
namespace Go.Proofs.Ytghadpihmhaepaa
open Go.RowKit
set_option maxRecDepth 100000

/-- Behind some acks. -/
def OrRel (V : World) (X : List Ld) (o yc mb : Nat) (b : Nat) (z : World) : Prop := ∃ (M : Ps) (Z : List Hx) (av : Option Addr) (nv cv : Nat) (L : List Ps), Hid (Whole z yc 28 #[.int .u64 (M.l : Nat), .int .u64 (M.e : Nat), .slice av nv cv]) ∧ Hid (Cin z [yc, mb] M av nv cv Z b) ∧ Hid (MapP z mb L) ∧ Hid (OrdC X o L ⟨M, hels Z⟩) ∧ Hid (Frm [yc, mb] V z)
set_option maxHeartbeats 16000000 in
theorem cursorOrder_walk (ac : Option Addr) (n capc : Nat) (cs : List Nat) (op : Bool) (ob : Nat) (aq : Option Addr) (nq capq : Nat) (qs : List Nat) (w : World) (hn : n = cs.length) (hb : Bytes w ac cs) (_hc1 : n ≤ capc) (_hc2 : ac = none → capc = 0) (_hob : ob < 256) (hnq : nq = qs.length) (hbq : Bytes w aq qs) (_hc3 : nq ≤ capq) (_hc4 : aq = none → capq = 0) :
    Calls Try.prog 5 #[.slice ac n capc, .bool op, .int .u8 (ob : Nat), .slice aq nq capq] w (LTrue w) := by
  have AW := Lib.hid (fun z => awake14_any z)
  have MD := Lib.hid (fun z (hz : Frm [] w z) => made14_any ac n capc cs op z hn (hz.bytes hb (by simp)))
  have NQ := Lib.hid hnq
  have BQ := Lib.hid hbq
  have hq63 : nq ≤ 9223372036854775807 := by rw [hnq]; exact hbq.2.1
  clear hn hb _hc1 _hc2 hnq hbq _hc3 _hc4
  obtain ⟨o, ho⟩ : ∃ o, o = ob % 6 := ⟨_, rfl⟩
  have ho1 : (ob : Int) % 6 = (o : Int) := by omega
  have ho2 : (ob : Int).tmod 6 = (o : Int) := by rw [ho]; rfl
  have ho3 : IntKind.u8.wrap (o : Int) = (o : Int) := by simp [IntKind.wrap, IntKind.bits, IntKind.signed]; omega
  have ho4 : IntKind.u64.wrap (o : Int) = (o : Int) := by simp [IntKind.wrap, IntKind.bits, IntKind.signed]; omega
  have O5 : Hid (o ≤ 5) := Lib.hid (by omega)
  clear ho
  unfold LRet at AW
  have hmk : ∀ w : World, (Instr.makeMap 47 none).run Try.prog w = .ok (.map (some w.heap.size)) (w.alloc (.map #[] 0)) := by intro w; kernel_rfl
  go_enter Try.func5, Try.ntmps5
  go_wp2_with fail
  (with_reducible refine (AW.out _).mono ?_)
  rintro e w1 ⟨rfl, hf1⟩
  have F1 : Hid (Frm [] w w1) := Lib.hid hf1
  clear hf1 AW
  go_wp2_with fail
  (with_reducible refine (MD.out _ F1.out).mono ?_)
  intro e w2 hmd
  obtain ⟨a, k, cap, X, rfl, LDS, hf2⟩ := hmd.lds (F := []) (by simp) O5.out
  have F2 : Hid (Frm [] w w2) := Lib.hid (F1.out.trans hf2 (by simp) (by simp))
  have LDS := Lib.hid LDS
  clear hf2 MD hmd
  have ALL := Lib.hid (fun z (hz : Frm [] w2 z) => rlall_any a k cap X o z (LDS.out.l.sub hz) LDS.out.len (by have := LDS.out.few; omega) (by have := LDS.out.tot; omega))
  have LEN := Lib.hid (allP_length X o)
  have T65 := Lib.hid LDS.out.tot
  obtain ⟨T, hT⟩ : ∃ T, T = tot X o := ⟨_, rfl⟩
  rw [← hT] at ALL LEN T65
  clear hT
  have t65 : T ≤ 65 := T65.out
  go_wp2_with fail
  (with_reducible refine (ALL.out _ (Frm.refl _ _)).mono ?_)
  rintro e w3 ⟨aL, cL, rfl, hoL, hf3⟩
  obtain ⟨yc, hyc⟩ : ∃ y, y = w3.heap.size := ⟨_, rfl⟩
  obtain ⟨w4, hw4⟩ : ∃ W, W = w3.alloc (.cells #[.int .u64 0, .int .u64 0, .slice none 0 0] 28) := ⟨_, rfl⟩
  obtain ⟨mb, hmb⟩ : ∃ y, y = w3.heap.size + 1 := ⟨_, rfl⟩
  obtain ⟨V, hV⟩ : ∃ W, W = w4.alloc (.map #[] 0) := ⟨_, rfl⟩
  have F34 : Hid (Frm [] w3 w4) := Lib.hid (by rw [hw4]; exact (Frm.refl _ _).alloc _)
  have F4V : Hid (Frm [] w4 V) := Lib.hid (by rw [hV]; exact (Frm.refl _ _).alloc _)
  have F3V : Hid (Frm [] w3 V) := Lib.hid (F34.out.trans F4V.out (by simp) (by simp))
  have C4 : Hid (Whole w4 yc 28 #[.int .u64 0, .int .u64 0, .slice none 0 0]) := Lib.hid (by rw [hw4, hyc]; exact Whole.made _ _ _)
  have CV : Hid (Whole V yc 28 #[.int .u64 0, .int .u64 0, .slice none 0 0]) := Lib.hid (F4V.out.whole C4.out (by simp))
  have MV : Hid (MapP V mb []) := Lib.hid (by
    have h1 := MapP.new w4
    rw [← hV] at h1
    rw [hmb]
    rwa [show w4.heap.size = w3.heap.size + 1 by rw [hw4, World.size_alloc]] at h1)
  have YM : Hid (w3.heap.size ≤ yc ∧ yc < mb ∧ w.heap.size ≤ yc ∧ w2.heap.size ≤ yc) := Lib.hid (by
    have h1 := C4.out.lt
    have h2 := F2.out.size
    have h3 := hf3.size
    omega)
  have LV : Hid (PsL V [yc, mb] aL (allP X o)) := Lib.hid ((hoL.sl.keep F3V.out (F' := [yc, mb]) (by simp) (fun x hx => by have := YM.out; simp at hx; omega)))
  have F2V : Hid (Frm [] w2 V) := Lib.hid (hf3.trans F3V.out (by simp) (by simp))
  have FWV : Hid (Frm [] w V) := Lib.hid (F2.out.trans F2V.out (by simp) (by simp))
  have LDV : Hid (Lds14 V [] a k X o) := Lib.hid (LDS.out.keep F2V.out (F' := []) (by simp) (by simp))
  have PRV : Hid (∀ z, Frm [yc, mb] V z → Frm [] w z) := Lib.hid (fun z hz => FWV.out.trans hz (by simp) (fun x hx => .inr (by have := YM.out; simp at hx; omega)))
  have PR2 : Hid (∀ z, Frm [yc, mb] V z → Lds14 z [] a k X o) := Lib.hid (fun z hz => LDS.out.keep (F2V.out.trans hz (U := [yc, mb]) (by simp) (fun x hx => .inl hx)) (F' := []) (fun x hx => .inr (by have := YM.out; simp at hx; omega)) (by simp))
  have START : Hid (OrRel V X o yc mb 0 V) := Lib.hid ⟨⟨0, 0⟩, [], none, 0, 0, [], CV, Lib.hid (Cin.no _ _ _), MV, Lib.hid (OrdC.no X o), Lib.hid (Frm.refl _ _)⟩
  rw [hw4] at hV
  clear hoL hf3 LDS F1 F2 ho1 ho2 ho3 ho4 C4 CV MV ALL hw4 F34 F4V F3V
  go_upto_block 0 with fail
  rw [← hV, ← hmb, ← hyc]
  have HV := Lib.hid hV; clear hV
  have HMB := Lib.hid hmb; clear hmb
  have HYC := Lib.hid hyc; clear hyc
  go_cut [39] from 14 to 82 (fun _ wx => OrRel V X o yc mb 101 wx)
  case first =>
    go_wp2_with fail
    go_loopw [39] (fun s39 wr => ∃ i : Nat, i ≤ nq ∧ i ≤ 101 ∧ s39 = .int .i64 (i : Nat) ∧ Hid (OrRel V X o yc mb i wr)) (fun s39 _ => nq - (intOf s39).toNat)
    case atStart => exact ⟨0, Nat.zero_le _, by omega, rfl, START⟩
    case round =>
      obtain ⟨i, hi, hi1, rfl, hor⟩ := hrel
      obtain ⟨M, Z, av, nv, cv, L, HB, HC, HM, HO, HF⟩ := hor.out
      clear hor
      have CX : Hid (OkC ⟨M, hels Z⟩) := Lib.hid HC.out.ok
      by_cases hlt : i < nq
      rotate_left 1
      · have hlt' : ¬ (i : Int) < (nq : Int) := by omega
        go_wp2
        go_meet
        case rel => exact ⟨M, Z, av, nv, cv, L, HB, Lib.hid (HC.out.more hi1), HM, HO, HF⟩
      have hlt' : (i : Int) < (nq : Int) := by omega
      obtain ⟨b, off, rfl, p0, hc8⟩ : ∃ b off, aq = some ⟨b, off, none⟩ ∧ wr.cell? ⟨b, off + i, none⟩ = some (.int .u8 (qs.getD i 0 : Nat)) ∧ qs.getD i 0 < 256 := by
        rcases ((PRV.out _ HF.out).bytes BQ.out (by simp)).2.2 with h0 | ⟨b, off, h1, h2⟩
        · have := NQ.out; rw [h0] at this; simp at this; omega
        · exact ⟨b, off, h1, h2 i (by have := NQ.out; omega), getD_lt BQ.out.1 i⟩
      generalize qs.getD i 0 = c at p0 hc8
      by_cases h100 : 100 < i
      · have d100 : decide (100 < i) = true := decide_eq_true h100
        have d100' : (100 : Int) < (i : Int) := by omega
        go_wp2
        go_meet
        case rel => exact ⟨M, Z, av, nv, cv, L, HB, Lib.hid (HC.out.more hi1), HM, HO, HF⟩
      have d100 : decide (100 < i) = false := decide_eq_false h100
      have d100' : ¬ (100 : Int) < (i : Int) := by omega
      by_cases hT0 : T = 0
      · have eT : ((T : Int) == 0) = true := by simp [hT0]
        have eT' : (T == 0) = true := by simp [hT0]
        clear hT0
        go_wp2
        go_meet
        case rel => exact ⟨M, Z, av, nv, cv, L, HB, Lib.hid (HC.out.more hi1), HM, HO, HF⟩
      have eT : ((T : Int) == 0) = false := by simp [hT0]
      have eT' : (T == 0) = false := by simp [hT0]
      obtain ⟨j, hj⟩ : ∃ j, j = c % T := ⟨_, rfl⟩
      have jlt : j < T := by rw [hj]; exact Nat.mod_lt _ (by omega)
      have hr1 : (c : Int).tmod (T : Int) = (j : Int) := by rw [hj]; rfl
      have hr2 : (c : Int) % (T : Int) = (j : Int) := by omega
      have wc1 : IntKind.i64.wrap (c : Int) = (c : Int) := by simp [IntKind.wrap, IntKind.bits, IntKind.signed]; omega
      have wc2 : IntKind.i64.wrap (j : Int) = (j : Int) := by simp [IntKind.wrap, IntKind.bits, IntKind.signed]; omega
      have hjL : j < (allP X o).length := by have := LEN.out; omega
      obtain ⟨b2, off2, rfl, q0, q1, hxf⟩ := (LV.out.keep HF.out (F' := []) (fun x hx => .inl hx) (by simp)).at hjL
      have XIN : Hid ((allP X o).getD j default ∈ allP X o) := Lib.hid (by simp [hjL])
      obtain ⟨x, hx⟩ : ∃ x, x = (allP X o).getD j default := ⟨_, rfl⟩
      rw [← hx] at q0 q1 hxf XIN
      have XF := Lib.hid hxf
      have I99 : Hid (i ≤ 100) := Lib.hid (by omega)
      clear hx hxf hjL hj
      obtain ⟨W3, hW3⟩ : ∃ W3, W3 = wr.alloc (.cells #[.int .u64 (x.l : Nat), .int .u64 (x.e : Nat)] 25) := ⟨_, rfl⟩
      obtain ⟨y3, hy3⟩ : ∃ y3, y3 = wr.heap.size := ⟨_, rfl⟩
      have FW3 : Hid (Frm [] wr W3) := Lib.hid (by rw [hW3]; exact (Frm.refl _ _).alloc _)
      have B3W : Hid (Whole W3 y3 25 #[.int .u64 (x.l : Nat), .int .u64 (x.e : Nat)]) := Lib.hid (by rw [hW3, hy3]; exact Whole.made _ _ _)
      have HW3 := Lib.hid hW3; clear hW3
      have HY3 := Lib.hid hy3; clear hy3
      go_upto_region 12 with (fail)
      rw [← HW3.out, ← HY3.out]
      clear q0 q1 p0 hr1 hr2 wc1 wc2 eT eT' hT0 d100 d100' h100
      have FV3 : Hid (Frm [yc, mb] V W3) := Lib.hid (HF.out.trans FW3.out (by simp) (by simp))
      have HC3 : Hid (Cin W3 [yc, mb] M av nv cv Z i) := Lib.hid (HC.out.sub FW3.out)
      have HB3 : Hid (Whole W3 yc 28 #[.int .u64 (M.l : Nat), .int .u64 (M.e : Nat), .slice av nv cv]) := Lib.hid (FW3.out.whole HB.out (by simp))
      have HM3 : Hid (MapP W3 mb L) := Lib.hid (HM.out.keep FW3.out (by simp))
      have AX := Lib.hid (cqack14_any (cl := cap) (p := x) (PR2.out W3 FV3.out) HC3.out (by have := I99.out; omega) (fun y hy => by
        have h1 := HB3.out.lt
        have h2 := HM3.out.lt
        simp at hy; omega) XF.out)
      obtain ⟨code, hcode⟩ : ∃ c, c = codeA X o ⟨M, hels Z⟩ x := ⟨_, rfl⟩
      rw [← hcode] at AX
      have HCO := Lib.hid hcode; clear hcode
      unfold AkEnd crsV Ps.val at AX
      have x0 := B3W.out.cell 0
      have x1 := B3W.out.cell 1
      have u0 := HB3.out.cell 0
      have u1 := HB3.out.cell 1
      have u2 := HB3.out.cell 2
      simp only [List.getElem?_toArray, List.getElem?_cons_zero, List.getElem?_cons_succ] at x0 x1 u0 u1 u2
      go_wp2_with fail
      (with_reducible refine AX.out.mono ?_)
      rintro e v4 ⟨D, Zd, ad, dn, cd, rfl, DC, DT, hv4⟩
      clear x0 x1 u0 u1 u2
      obtain ⟨V4, hV4⟩ : ∃ W, W = v4.alloc (.cells #[.int .u64 (D.l : Nat), .int .u64 (D.e : Nat), .slice ad dn cd] 28) := ⟨_, rfl⟩
      obtain ⟨y4, hy4⟩ : ∃ y, y = v4.heap.size := ⟨_, rfl⟩
      have FV4 : Hid (Frm [] v4 V4) := Lib.hid (by rw [hV4]; exact (Frm.refl _ _).alloc _)
      have B4 : Hid (Whole V4 y4 28 #[.int .u64 (D.l : Nat), .int .u64 (D.e : Nat), .slice ad dn cd]) := Lib.hid (by rw [hV4, hy4]; exact Whole.made _ _ _)
      have F34 : Hid (Frm [] W3 V4) := Lib.hid (hv4.out.trans FV4.out (by simp) (by simp))
      have HV4 := Lib.hid hV4; clear hV4
      have HY4 := Lib.hid hy4; clear hy4
      have HB4 : Hid (Whole V4 yc 28 #[.int .u64 (M.l : Nat), .int .u64 (M.e : Nat), .slice av nv cv]) := Lib.hid (F34.out.whole HB3.out (by simp))
      have BX4 : Hid (Whole V4 y3 25 #[.int .u64 (x.l : Nat), .int .u64 (x.e : Nat)]) := Lib.hid (F34.out.whole B3W.out (by simp))
      have HM4 : Hid (MapP V4 mb L) := Lib.hid (HM3.out.keep F34.out (by simp))
      have HC4 : Hid (Cin V4 [yc, mb] M av nv cv Z i) := Lib.hid (HC3.out.sub F34.out)
      have DC4 : Hid (Cin V4 [yc, mb] D ad dn cd Zd (i + 1)) := Lib.hid (DC.out.sub FV4.out)
      have FVV4 : Hid (Frm [yc, mb] V V4) := Lib.hid (FV3.out.trans F34.out (by simp) (by simp))
      go_upto_region 13 with (fail)
      rw [← HV4.out, ← HY4.out]
      have hlk := HM4.out.look x
      unfold Ps.val at hlk
      have x0 := BX4.out.cell 0
      have x1 := BX4.out.cell 1
      simp only [List.getElem?_toArray, List.getElem?_cons_zero, List.getElem?_cons_succ] at x0 x1
      have HASX : Hid (hasP X o x = true) := Lib.hid ((hasP_mem LDV.out.right).2 XIN.out)
      by_cases hxL : x ∈ L
      · have ak := (HO.out.ak x XIN.out).2 hxL
        have hc31 : codeA X o ⟨M, hels Z⟩ x = 31 := by unfold codeA; rw [if_neg (by rw [HASX.out]; decide), if_pos ak]
        have hcode := HCO.out
        rw [hc31] at hcode
        subst hcode
        rw [decide_eq_true hxL] at hlk
        go_wp2
        go_roundw
        case rel => exact ⟨i + 1, by omega, by have := I99.out; omega, by go_num, Lib.hid ⟨M, Z, av, nv, cv, L, HB4, Lib.hid (HC4.out.more (by omega)), HM4, HO, FVV4⟩⟩
        case measure => simp [intOf]; omega
      have nak : ¬ ackedC ⟨M, hels Z⟩ x := fun h => hxL ((HO.out.ak x XIN.out).1 h)
      have hc0 : codeA X o ⟨M, hels Z⟩ x = 0 := codeA_zero.2 ⟨HASX.out, nak⟩
      have hcode := HCO.out
      rw [hc0] at hcode
      subst hcode
      rw [decide_eq_false hxL] at hlk
      have NO : Hid (OrdC X o (L ++ [x]) ⟨D, hels Zd⟩) := Lib.hid (HO.out.more LDV.out.right XIN.out hxL (DT.out.1 hc0))
      have XNL := Lib.hid hxL
      clear nak hc0
      have RGT := Lib.hid (crright_any D ad dn cd [yc, mb] Zd V4 DC4.out.hl DC4.out.len (DC4.out.small (by have := I99.out; omega)).1 (DC4.out.small (by have := I99.out; omega)).2)
      have YES : Hid (RtC ⟨D, hels Zd⟩) := Lib.hid ((rtc_iff _).2 DC4.out.ok)
      unfold BoolOf crsV at RGT
      try simp only at RGT
      have z0 := B4.out.cell 0
      have z1 := B4.out.cell 1
      have z2 := B4.out.cell 2
      simp only [List.getElem?_toArray, List.getElem?_cons_zero, List.getElem?_cons_succ] at z0 z1 z2
      go_wp2_with fail
      (with_reducible refine RGT.out.mono ?_)
      rintro e v5 ⟨br, rfl, hbr, hv5⟩
      obtain rfl : br = true := hbr.2 YES.out
      clear x0 x1 z0 z1 z2 hbr hlk
      have HB5 : Hid (Whole v5 yc 28 #[.int .u64 (M.l : Nat), .int .u64 (M.e : Nat), .slice av nv cv]) := Lib.hid (hv5.whole HB4.out (by simp))
      have BX5 : Hid (Whole v5 y3 25 #[.int .u64 (x.l : Nat), .int .u64 (x.e : Nat)]) := Lib.hid (hv5.whole BX4.out (by simp))
      have BD5 : Hid (Whole v5 y4 28 #[.int .u64 (D.l : Nat), .int .u64 (D.e : Nat), .slice ad dn cd]) := Lib.hid (hv5.whole B4.out (by simp))
      have HM5 : Hid (MapP v5 mb L) := Lib.hid (HM4.out.keep hv5 (by simp))
      have DC5 : Hid (Cin v5 [yc, mb] D ad dn cd Zd (i + 1)) := Lib.hid (DC4.out.sub hv5)
      have FVV5 : Hid (Frm [yc, mb] V v5) := Lib.hid (FVV4.out.trans hv5 (by simp) (by simp))
      obtain ⟨O, hO⟩ := HM5.out.puts XNL.out
      have HO5 := Lib.hid hO; clear hO
      have x0 := BX5.out.cell 0
      have x1 := BX5.out.cell 1
      have z0 := BD5.out.cell 0
      have z1 := BD5.out.cell 1
      have z2 := BD5.out.cell 2
      have u0 := HB5.out.cell 0
      have u1 := HB5.out.cell 1
      have u2 := HB5.out.cell 2
      have u3 := HB5.out.free 0
      have u4 := HB5.out.free 1
      have u5 := HB5.out.free 2
      simp only [List.getElem?_toArray, List.getElem?_cons_zero, List.getElem?_cons_succ] at x0 x1 z0 z1 z2 u0 u1 u2
      have ne1 : y3 ≠ yc := fun h => by have h1 := HY3.out; have h2 := HB.out.lt; omega
      have ne2 : y4 ≠ yc := fun h => by have h1 := HY4.out; have h2 := HB3.out.lt; have h3 := hv4.out.size; omega
      have ne3 : mb ≠ yc := fun h => by have := YM.out; omega
      obtain ⟨S, hS⟩ : ∃ S, S = ((v5.setCell ⟨yc, 0, none⟩ (.int .u64 (D.l : Nat))).setCell ⟨yc, 1, none⟩ (.int .u64 (D.e : Nat))).setCell ⟨yc, 2, none⟩ (.slice ad dn cd) := ⟨_, rfl⟩
      have hmS := (HO5.out S.drew (by rw [hS]; exact ((heap_setCell_other _ ⟨yc, 2, none⟩ mb _ ne3).trans ((heap_setCell_other _ ⟨yc, 1, none⟩ mb _ ne3).trans (heap_setCell_other _ ⟨yc, 0, none⟩ mb _ ne3))))).1
      obtain ⟨P, hP⟩ : ∃ P, P = putB S.drew mb O := ⟨_, rfl⟩
      rw [← hP] at hmS
      have FS : Hid (Frm [yc] v5 S) := Lib.hid (by rw [hS]; exact ((((Frm.refl _ _).setCell (.inl (by simp)) _).setCell (.inl (by simp)) _).setCell (.inl (by simp)) _))
      have BS : Hid (Whole S yc 28 #[.int .u64 (D.l : Nat), .int .u64 (D.e : Nat), .slice ad dn cd]) := Lib.hid (by
        rw [hS]
        have := ((HB5.out.put 0 (.int .u64 (D.l : Nat))).put 1 (.int .u64 (D.e : Nat))).put 2 (.slice ad dn cd)
        simpa using this)
      have hPP := HO5.out S.drew (by rw [hS]; exact ((heap_setCell_other _ ⟨yc, 2, none⟩ mb _ ne3).trans ((heap_setCell_other _ ⟨yc, 1, none⟩ mb _ ne3).trans (heap_setCell_other _ ⟨yc, 0, none⟩ mb _ ne3))))
      rw [← hP] at hPP
      have FP : Hid (Frm [mb] S P) := Lib.hid ((Frm.drew (Frm.refl [] _)).trans hPP.2.2 (by simp) (by simp))
      have MP : Hid (MapP P mb (L ++ [x])) := Lib.hid hPP.2.1
      have FVP : Hid (Frm [yc, mb] v5 P) := Lib.hid (FS.out.trans FP.out (by simp) (by simp))
      have BP : Hid (Whole P yc 28 #[.int .u64 (D.l : Nat), .int .u64 (D.e : Nat), .slice ad dn cd]) := Lib.hid (FP.out.whole BS.out (by have := YM.out; simp; omega))
      have DCP : Hid (Cin P [yc, mb] D ad dn cd Zd (i + 1)) := Lib.hid (DC5.out.keep FVP.out (fun y hy => .inl hy) (fun y hy => .inl hy))
      have FVVP : Hid (Frm [yc, mb] V P) := Lib.hid (FVV5.out.trans FVP.out (fun y hy => hy) (fun y hy => .inl hy))
      rw [hS] at hmS
      unfold Ps.val at hmS
      clear hPP hP hS
      go_upto_region 18 with (fail)
      go_region
      clear hmS x0 x1 z0 z1 z2 u0 u1 u2 u3 u4 u5
      go_wp2
      go_roundw
      case rel => exact ⟨i + 1, by omega, by have := I99.out; omega, by go_num, Lib.hid ⟨D, Zd, ad, dn, cd, L ++ [x], BP, DCP, MP, NO, FVVP⟩⟩
      case measure => simp [intOf]; omega
  case rest =>
    obtain ⟨M, Z, av, nv, cv, L, HB, HC, HM, HO, HF⟩ := hcut
    have LC : Hid (PsL wc [] aL (allP X o)) := Lib.hid (LV.out.keep HF.out (F' := []) (fun x hx => .inl hx) (by simp))
    have LDC : Hid (Lds14 wc [] a k X o) := Lib.hid (PR2.out _ HF.out)
    have FWC : Hid (Frm [] w wc) := Lib.hid (PRV.out _ HF.out)
    have NV : Hid (nv = Z.length) := Lib.hid HC.out.len
    have AKQ := Lib.hid (fun z (r : Ps) (hz : Frm [] wc z) => cqacked_any (cap := cv) M av nv [yc, mb] Z r z (HC.out.sub hz).hl HC.out.ok.srt HC.out.len (HC.out.small (by omega)).1 (HC.out.rgs (by omega)))
    have NXT := Lib.hid (fun z (hz : Frm [] wc z) => cqnext_any a k cap X o M av nv cv [yc, mb] Z ⟨0, 0⟩ z (LDC.out.l.sub hz) LDC.out.len (by have := LDC.out.few; omega) (by have := O5.out; omega) LDC.out.fits LDC.out.right (HC.out.sub hz).hl HC.out.ok.srt HC.out.len (by have := HC.out.few; omega) (HC.out.rgs (by omega)) HC.out.me (by decide))
    have BKG := Lib.hid (fun z (hz : Frm [] wc z) => cqback_any a k cap X o M av nv cv [yc, mb] Z z (LDC.out.l.sub hz) LDC.out.len (by have := LDC.out.few; omega) (by have := O5.out; omega) LDC.out.fits LDC.out.right (by have := LDC.out.tot; omega) (HC.out.sub hz).hl HC.out.len (by have := HC.out.few; omega) (HC.out.rgs (by omega)) HC.out.ok)
    have ORG := Lib.hid (fun (r s : Ps) z => ldorder_any r s z)
    have HAC := Lib.hid HO.out.ak
    have FIRST := Lib.hid (fun i h1 h2 h3 => HO.out.first (i := i) h1 h2 h3)
    have LE := Lib.hid (fun p h1 h2 => HO.out.le (p := p) h1 h2)
    have BACK := Lib.hid (HO.out.back LDC.out.right)
    have FULL := Lib.hid (fun h => HO.out.full LDC.out.right h)
    obtain ⟨CC, hCC⟩ : ∃ CC, CC = (⟨M, hels Z⟩ : Crs) := ⟨_, rfl⟩
    rw [← hCC] at AKQ NXT BKG HAC FIRST BACK
    have HCC := Lib.hid hCC; clear hCC
    unfold crsV Ps.val at AKQ NXT
    unfold LRet at NXT BKG
    unfold crsV at BKG
    simp only at AKQ NXT BKG
    have h00 : ((0 : Nat) : Int) = 0 := rfl
    simp only [h00] at NXT
    clear h00
    clear LV LDV PRV PR2 START hmk BQ NQ LDS
    go_wp2
    go_loopw [19, 85] (fun s19 s85 wr => ∃ (i : Nat) (fb : Bool), i ≤ T ∧ s19 = .bool fb ∧ s85 = .int .i64 (i : Nat) ∧ Hid (fb = true → ∀ j, j < i → (allP X o).getD j default ∈ L) ∧ Hid (Frm [] wc wr)) (fun _ s85 _ => T - (intOf s85).toNat)
    case atStart => exact ⟨0, true, Nat.zero_le _, rfl, rfl, Lib.hid (fun _ j hj => by omega), Lib.hid (Frm.refl _ _)⟩
    case round =>
      obtain ⟨i, fb, hi, rfl, rfl, HI, HX⟩ := hrel
      by_cases hlt : i < T
      · have hlt' : (i : Int) < (T : Int) := by omega
        have hiL : i < (allP X o).length := by have := LEN.out; omega
        obtain ⟨b, off, rfl, d0, d1, hxf⟩ := (LC.out.sub HX.out).at hiL
        have XIN : Hid ((allP X o).getD i default ∈ allP X o) := Lib.hid (by simp [hiL])
        have NX1 := Lib.hid (fun h1 h2 => FIRST.out i hiL h1 h2)
        have STEP : Hid ((allP X o).getD i default ∈ L → (fb = true → ∀ j, j < i → (allP X o).getD j default ∈ L) → fb = true → ∀ j, j < i + 1 → (allP X o).getD j default ∈ L) := Lib.hid (fun h1 h2 h3 j hj => by
          rcases Nat.lt_or_ge j i with h4 | h4
          · exact h2 h3 j h4
          · obtain rfl : j = i := by omega
            exact h1)
        obtain ⟨x, hx⟩ : ∃ x, x = (allP X o).getD i default := ⟨_, rfl⟩
        rw [← hx] at d0 d1 hxf XIN NX1 STEP
        have XF := Lib.hid hxf
        clear hx hxf hiL
        obtain ⟨W3, hW3⟩ : ∃ W3, W3 = wr.alloc (.cells #[.int .u64 (x.l : Nat), .int .u64 (x.e : Nat)] 25) := ⟨_, rfl⟩
        obtain ⟨y3, hy3⟩ : ∃ y3, y3 = wr.heap.size := ⟨_, rfl⟩
        have FW3 : Hid (Frm [] wc W3) := Lib.hid (by rw [hW3]; exact HX.out.alloc _)
        have B3W : Hid (Whole W3 y3 25 #[.int .u64 (x.l : Nat), .int .u64 (x.e : Nat)]) := Lib.hid (by rw [hW3, hy3]; exact Whole.made _ _ _)
        have HW3 := Lib.hid hW3; clear hW3
        have HY3 := Lib.hid hy3; clear hy3
        have AX := Lib.hid (fun z (hz : Frm [] W3 z) => AKQ.out z x (FW3.out.trans hz (by simp) (by simp)))
        have HM3 : Hid (MapP W3 mb L) := Lib.hid (HM.out.keep FW3.out (by simp))
        have HB3 : Hid (Whole W3 yc 28 #[.int .u64 (M.l : Nat), .int .u64 (M.e : Nat), .slice av nv cv]) := Lib.hid (FW3.out.whole HB.out (by simp))
        obtain ⟨bl, hbl⟩ : ∃ b, b = decide (x ∈ L) := ⟨_, rfl⟩
        have hlk : ∀ z, Frm [] W3 z → (Instr.lookup 47 (.map (some mb)) (.agg #[.int .u64 (x.l : Nat), .int .u64 (x.e : Nat)]) false).run Try.prog z = .ok (.bool bl) z := fun z hz => by
          rw [hbl]
          exact (HM3.out.keep hz (by simp)).look x
        have BL : Hid (bl = true ↔ x ∈ L) := Lib.hid (by rw [hbl]; simp)
        have SX : Hid (ackedC CC x ↔ bl = true) := Lib.hid ((HAC.out x XIN.out).trans BL.out.symm)
        clear hbl
        have u0 : ∀ z, Frm [] W3 z → z.cell? ⟨y3, 0, none⟩ = some (.int .u64 (x.l : Nat)) := fun z hz => (hz.whole B3W.out (by simp)).cell 0
        have u1 : ∀ z, Frm [] W3 z → z.cell? ⟨y3, 1, none⟩ = some (.int .u64 (x.e : Nat)) := fun z hz => (hz.whole B3W.out (by simp)).cell 1
        have u2 : ∀ z, Frm [] W3 z → z.cell? ⟨yc, 0, none⟩ = some (.int .u64 (M.l : Nat)) := fun z hz => (hz.whole HB3.out (by simp)).cell 0
        have u3 : ∀ z, Frm [] W3 z → z.cell? ⟨yc, 1, none⟩ = some (.int .u64 (M.e : Nat)) := fun z hz => (hz.whole HB3.out (by simp)).cell 1
        have u4 : ∀ z, Frm [] W3 z → z.cell? ⟨yc, 2, none⟩ = some (.slice av nv cv) := fun z hz => (hz.whole HB3.out (by simp)).cell 2
        go_upto_region 24 with (fail)
        rw [← HW3.out, ← HY3.out]
        clear d0 d1
        refine wp_region_held_drew (S := fun w' => Frm [] W3 w') (by kernel_rfl) (Frm.drew (Frm.refl _ _)) (fun hHeld => ?_)
        refine wpAnyH_take (i := 0) (oi := ⟨some 89, _, _, _, _, _⟩) (v := ?_) rfl (by kernel_rfl) (by kernel_rfl) (by kernel_rfl) (fun _ _ _ h => h) (Or.inl ⟨by rfl, ?_⟩) (by assumption) ?_
        rotate_left 1
        · (intro w hSw; (try dsimp only at hSw); go_simp; all_goals with_reducible rfl)
        try simp only [Act.put, List.setIfInBounds_toArray, List.set_cons_zero, List.set_cons_succ]
        refine wpAnyH_take (i := 1) (oi := ⟨some 90, _, _, _, _, _⟩) (v := ?_) rfl (by kernel_rfl) (by kernel_rfl) (by kernel_rfl) (fun _ _ _ h => h) (Or.inl ⟨by rfl, ?_⟩) (by assumption) ?_
        rotate_left 1
        · (intro w hSw; (try dsimp only at hSw); go_simp; all_goals with_reducible rfl)
        try simp only [Act.put, List.setIfInBounds_toArray, List.set_cons_zero, List.set_cons_succ]
        refine wpAnyH_take (i := 3) (oi := ⟨some 92, _, _, _, _, _⟩) (v := ?_) rfl (by kernel_rfl) (by kernel_rfl) (by kernel_rfl) (fun _ _ _ h => h) (Or.inl ⟨by rfl, ?_⟩) (by assumption) ?_
        rotate_left 1
        · (intro w hSw; (try dsimp only at hSw); go_simp; all_goals with_reducible rfl)
        try simp only [Act.put, List.setIfInBounds_toArray, List.set_cons_zero, List.set_cons_succ]
        refine wpAnyH_take (i := 4) (oi := ⟨some 93, _, _, _, _, _⟩) (v := ?_) rfl (by kernel_rfl) (by kernel_rfl) (by kernel_rfl) (fun _ _ _ h => h) (Or.inl ⟨by rfl, ?_⟩) (by assumption) ?_
        rotate_left 1
        · (intro w hSw; (try dsimp only at hSw); go_simp; all_goals with_reducible rfl)
        try simp only [Act.put, List.setIfInBounds_toArray, List.set_cons_zero, List.set_cons_succ]
        refine wpAnyH_take (i := 5) (oi := ⟨some 94, _, _, _, _, _⟩) (v := ?_) rfl (by kernel_rfl) (by kernel_rfl) (by kernel_rfl) (fun _ _ _ h => h) (Or.inl ⟨by rfl, ?_⟩) (by assumption) ?_
        rotate_left 1
        · (intro w hSw; (try dsimp only at hSw); go_simp; all_goals with_reducible rfl)
        try simp only [Act.put, List.setIfInBounds_toArray, List.set_cons_zero, List.set_cons_succ]
        refine wpAnyH_ready (rs := [2]) (by kernel_rfl) (by simp) ?_
        refine AllReadyH.cons (o := ⟨some 91, _, _, _, _, _⟩) rfl (fun K hK => ?_) AllReadyH.nil
        go_simp
        go_at_call 18; (with_reducible refine (AX.out _ hHeld).mono ?_); rintro e v1 ⟨bg, rfl, hbg, hv1⟩; obtain rfl : bg = bl := Bool.eq_iff_iff.2 (hbg.trans SX.out); clear hbg; have eqb : (bg != bg) = false := (by simp); have hHeld1 : Frm [] W3 v1 := hHeld.trans hv1 (by simp) (by simp)
        go_wp2_with fail
        refine hK.out _ _ (by assumption) (fun hHeld => ?_)
        clear hK K
        try simp only [Act.put, List.setIfInBounds_toArray, List.set_cons_zero, List.set_cons_succ]
        refine wpAnyH_take (i := 6) (oi := ⟨some 95, _, _, _, _, _⟩) (v := ?_) rfl (by kernel_rfl) (by kernel_rfl) (by kernel_rfl) (fun _ _ _ h => h) (Or.inl ⟨by rfl, ?_⟩) (by assumption) ?_
        rotate_left 1
        · (intro w hSw; (try dsimp only at hSw); go_simp; all_goals with_reducible rfl)
        try simp only [Act.put, List.setIfInBounds_toArray, List.set_cons_zero, List.set_cons_succ]
        refine wpAnyH_done (by kernel_rfl) ?_ _
        have NX : Hid (Frm [] wc _) := Lib.hid (FW3.out.trans hHeld (by simp) (by simp))
        cases fb
        · clear u0 u1 u2 u3 u4 hlk
          go_wp2
          go_roundw
          case rel => exact ⟨i + 1, false, by omega, rfl, by go_num, Lib.hid (fun h => by cases h), NX⟩
          case measure => simp [intOf]; omega
        cases bg
        rotate_left 1
        · have HI' := Lib.hid (STEP.out (BL.out.1 rfl) HI.out)
          go_wp2
          go_roundw
          case rel => exact ⟨i + 1, true, by omega, rfl, by go_num, HI', NX⟩
          case measure => simp [intOf]; omega
        have XNL : Hid (x ∉ L) := Lib.hid (fun h => by have := BL.out.2 h; cases this)
        have NXV := Lib.hid (NXT.out _ NX.out)
        rw [NX1.out (HI.out rfl) XNL.out] at NXV
        unfold nextCV Ps.val at NXV
        simp only at NXV
        go_wp2_with fail
        (with_reducible refine NXV.out.mono ?_)
        rintro e w6 ⟨rfl, hf6⟩
        have F36 : Hid (Frm [] W3 w6) := Lib.hid (hHeld.trans hf6 (by simp) (by simp))
        obtain ⟨W6, hW6⟩ : ∃ W, W = w6.alloc (.cells #[.int .u64 (x.l : Nat), .int .u64 (x.e : Nat)] 25) := ⟨_, rfl⟩
        obtain ⟨y6, hy6⟩ : ∃ y, y = w6.heap.size := ⟨_, rfl⟩
        have FW6 : Hid (Frm [] W3 W6) := Lib.hid (by rw [hW6]; exact F36.out.alloc _)
        have B6 : Hid (Whole W6 y6 25 #[.int .u64 (x.l : Nat), .int .u64 (x.e : Nat)]) := Lib.hid (by rw [hW6, hy6]; exact Whole.made _ _ _)
        have HW6 := Lib.hid hW6; clear hW6
        have HY6 := Lib.hid hy6; clear hy6
        have FC6 : Hid (Frm [] wc W6) := Lib.hid (FW3.out.trans FW6.out (by simp) (by simp))
        have m0 := u0 _ FW6.out
        have m1 := u1 _ FW6.out
        have m2 := u2 _ FW6.out
        have m3 := u3 _ FW6.out
        clear u0 u1 u2 u3 u4 hlk
        have MM := Lib.hid (And.intro m0 (And.intro m1 (And.intro m2 m3)))
        clear m0 m1 m2 m3
        go_upto_region 29 with (fail)
        rw [← HW6.out, ← HY6.out]
        have OX := Lib.hid (ORG.out M x)
        obtain ⟨c, hc⟩ : ∃ c, c = ordP M x := ⟨_, rfl⟩
        rw [← hc] at OX
        have hc0 : c ≤ 0 := by rw [hc]; exact LE.out x XIN.out XNL.out
        clear hc
        have dc0 : decide (0 < c) = false := decide_eq_false (by omega)
        unfold LRet Ps.val at OX
        have neqx : ∀ z : World, (binOp .neq 25 (.agg #[.int .u64 (x.l : Nat), .int .u64 (x.e : Nat)]) (.agg #[.int .u64 (x.l : Nat), .int .u64 (x.e : Nat)])).run Try.prog z = .ok (.bool false) z := fun z => by
          have := neq_ps x.l x.e x.l x.e z
          rwa [decide_eq_true rfl] at this
        obtain ⟨m0, m1, m2, m3⟩ := MM.out
        have m5 := B6.out.cell 0
        have m6 := B6.out.cell 1
        simp only [List.getElem?_toArray, List.getElem?_cons_zero, List.getElem?_cons_succ] at m5 m6
        go_wp2_with fail
        (with_reducible refine (OX.out _).mono ?_)
        rintro e w7 ⟨rfl, hf7⟩
        have NX7 : Hid (Frm [] wc w7) := Lib.hid (FC6.out.trans hf7 (by simp) (by simp))
        clear m0 m1 m2 m3 m5 m6
        go_wp2
        go_roundw
        case rel => exact ⟨i + 1, false, by omega, rfl, by go_num, Lib.hid (fun h => by cases h), NX7⟩
        case measure => simp [intOf]; omega
      · obtain rfl : i = T := by omega
        have LM : Hid (L.length ≤ i) := Lib.hid (by have h1 := BACK.out; have h2 := LEN.out; omega)
        have HMR : Hid (MapP wr mb L) := Lib.hid (HM.out.keep HX.out (by simp))
        have HBR : Hid (Whole wr yc 28 #[.int .u64 (M.l : Nat), .int .u64 (M.e : Nat), .slice av nv cv]) := Lib.hid (HX.out.whole HB.out (by simp))
        have BX := Lib.hid (BKG.out wr HX.out)
        obtain ⟨B, hB⟩ : ∃ B, B = backC X o CC := ⟨_, rfl⟩
        rw [← hB] at BX
        have hB1 : B = i - L.length := by have h1 := BACK.out; have h2 := LEN.out; omega
        clear hB
        obtain ⟨ll, hll⟩ : ∃ l, l = L.length := ⟨_, rfl⟩
        have hl1 : ll ≤ i := by have := LM.out; omega
        have e1 : (i : Int) - (ll : Int) = (B : Int) := by omega
        have e2 : IntKind.i64.wrap (B : Int) = (B : Int) := by simp [IntKind.wrap, IntKind.bits, IntKind.signed]; omega
        have e3 : IntKind.u64.wrap (B : Int) = (B : Int) := by simp [IntKind.wrap, IntKind.bits, IntKind.signed]; omega
        have e4 : ((B : Int) == (B : Int)) = true := by simp
        have hml : ∀ ty z, Frm [] wr z → (Builtin.len_ #[47] ty #[.map (some mb)]).run Try.prog z = .ok (.int .i64 (ll : Nat)) z := fun ty z hz => by
          rw [hll]
          exact (HMR.out.keep hz (by simp)).len ty
        have k0 : ∀ z, Frm [] wr z → z.cell? ⟨yc, 0, none⟩ = some (.int .u64 (M.l : Nat)) := fun z hz => (hz.whole HBR.out (by simp)).cell 0
        have k1 : ∀ z, Frm [] wr z → z.cell? ⟨yc, 1, none⟩ = some (.int .u64 (M.e : Nat)) := fun z hz => (hz.whole HBR.out (by simp)).cell 1
        have k2 : ∀ z, Frm [] wr z → z.cell? ⟨yc, 2, none⟩ = some (.slice av nv cv) := fun z hz => (hz.whole HBR.out (by simp)).cell 2
        have FX : Hid (∀ z, Frm [] wr z → Frm [] w z) := Lib.hid (fun z hz => FWC.out.trans (HX.out.trans hz (U := []) (by simp) (by simp)) (by simp) (by simp))
        have hnv : ¬ ll < i → nv = 0 := fun h => by
          have h1 := FULL.out (by have := LEN.out; omega)
          rw [NV.out]
          simpa [hels] using h1
        clear hB1
        have HLL := Lib.hid hll; clear hll
        have x0 := k0 _ (Frm.refl _ _)
        have x1 := k1 _ (Frm.refl _ _)
        have x2 := k2 _ (Frm.refl _ _)
        have hfr := Frm.refl [] wr
        go_wp2_with fail
        (with_reducible refine BX.out.mono ?_)
        rintro e v8 ⟨rfl, hf8⟩
        clear x0 x1 x2
        have x2 := k2 _ hf8
        by_cases hlt2 : ll < i
        · have g1 : decide (ll < i) = true := decide_eq_true hlt2
          have g2 : (ll : Int) < (i : Int) := by omega
          clear hnv
          go_wp2
          go_ret
          exact lTrue (FX.out _ hf8)
        · obtain rfl := hnv hlt2
          have g1 : decide (ll < i) = false := decide_eq_false hlt2
          have g2 : ¬ (ll : Int) < (i : Int) := by omega
          go_wp2
          go_ret
          exact lTrue (FX.out _ hf8)
end Go.Proofs.Ytghadpihmhaepaa
