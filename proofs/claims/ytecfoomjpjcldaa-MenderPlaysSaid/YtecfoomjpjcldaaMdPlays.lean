/- The walk of MenderPlays. Written by wip/mk-mdplays.py. -/
import Derived.Test.YtecfoomjpjcldaaMdBoth
import Derived.Test.YtecfoomjpjcldaaMdAwake
import Derived.Test.YtecfoomjpjcldaaWrQuo
import Derived.Test.YtecfoomjpjcldaaShSame
import Derived.Test.YtecfoomjpjcldaaInQu
import Derived.RegionTactic
import Derived.BigRegion
import Derived.Deep.Cut
import Derived.Deep.CutRange
namespace Go.Proofs.Ytecfoomjpjcldaa
open Go.RowKit
set_option maxRecDepth 100000
theorem rmcovered {w : World} {B p hbk : Nat} {F : List Nat} {P W A : Nat} {h : Nat → Bool} {su : Nat} {l : List (Nat × List Nat)} (m : Rm w B p hbk F P W A h su l) :
    Calls Try.prog 29 #[.agg #[.int .i64 (P : Nat), .int .i64 (W : Nat), .int .i64 (A : Nat)], .slice (some ⟨hbk, 0, none⟩) P P] w fun x w' => x = .returned (.bool (covN P W A (hrdL h))) ∧ Frm [] w w' := by
  obtain ⟨q1, q2, q3, q4⟩ := m.quo
  have := rcovered_any P W A (some ⟨hbk, 0, none⟩) P P ((List.range P).map h) w q1 q2 q4 q3 m.bin (by simp)
  rw [rmcov (by omega) q4] at this
  exact this
/-- In the midst of the comparison: what may have turned; where the document's mender keeps who was heard. -/
structure Sp14 (px pm hbk P : Nat) (wq z : World) : Prop where
  frm : Frm [px, pm, hbk] wq z
  cell : z.cell? ⟨pm, 3, none⟩ = some (.slice (some ⟨hbk, 0, none⟩) P P)
theorem Sp14.here {px pm hbk P : Nat} {wq z z' : World} (h : Sp14 px pm hbk P wq z) (hf : Frm [] z z') : Sp14 px pm hbk P wq z' :=
  ⟨h.frm.trans hf (fun x hx => hx) (by simp), (hf.cell (block_lt_of_cell h.cell) (by simp)).trans h.cell⟩
theorem sp14_x {px pm hbk P : Nat} {wq z : World} (hne : px ≠ pm) (h3 : wq.cell? ⟨pm, 3, none⟩ = some (.slice (some ⟨hbk, 0, none⟩) P P)) (hf : Frm [px] wq z) : Sp14 px pm hbk P wq z :=
  ⟨hf.weak (fun x hx => .inl (by simp at hx; simp [hx])), (hf.cell (block_lt_of_cell h3) (by simp; exact Ne.symm hne)).trans h3⟩
theorem sp14_m {px pm hbk P : Nat} {wq z z' : World} {B : Nat} {F : List Nat} {W A : Nat} {h : Nat → Bool} {su : Nat} {l : List (Nat × List Nat)} (s : Sp14 px pm hbk P wq z) (hf : Frm [pm, hbk] z z') (hr : Rm z' B pm hbk F P W A h su l) : Sp14 px pm hbk P wq z' := by
  obtain ⟨_, _, _, _, hv, _⟩ := hr.box
  exact ⟨s.frm.trans hf (fun x hx => hx) (fun x hx => .inl (by simp at hx; rcases hx with rfl | rfl <;> simp)), hv.cell 3⟩
/-- Both menders, behind i rounds. -/
structure Mp (w z : World) (B px pm hbk g P W A i : Nat) (h : Nat → Bool) (su : Nat) (t : Tn) (l : List (Nat × List Nat)) : Prop where
  md : Md z px [pm, hbk] P W A h su t
  rm : Rm z B pm hbk [px] P W A h su l
  same : atT t = lookN l
  few : (keysT t).length ≤ i * 30 ∧ l.length ≤ i * 30
  quo : Whole z g 23 (quC P W A)
  apart : (g < px ∧ px < pm ∧ px < hbk ∧ B ≤ pm ∧ w.heap.size ≤ g)
  frm : Frm [] w z
theorem Mp.here {w z z' : World} {B px pm hbk g P W A i : Nat} {h : Nat → Bool} {su : Nat} {t : Tn} {l : List (Nat × List Nat)} (m : Mp w z B px pm hbk g P W A i h su t l) (hf : Frm [] z z') : Mp w z' B px pm hbk g P W A i h su t l :=
  ⟨m.md.here hf, m.rm.here hf, m.same, m.few, hf.whole m.quo (by simp), m.apart, m.frm.trans hf (by simp) (by simp)⟩
def Mpr (w : World) (B px pm hbk g P W A n : Nat) (s53 : Value) (z : World) : Prop :=
  ∃ (i : Nat) (h : Nat → Bool) (su : Nat) (t : Tn) (l : List (Nat × List Nat)), s53 = .int .i64 (i : Nat) ∧ i ≤ n ∧ i ≤ 31 ∧ Hid (Mp w z B px pm hbk g P W A i h su t l)
theorem new_u (p q a : Int) (ok : Bool) (hok : okQ p q a = ok) (w : World) : Calls Try.prog 24 #[quV p q a] w fun e w' => ∃ (v : Option Addr) (code : Nat), e = .returned (.tuple #[.pointer v, .int .i64 (code : Nat)]) ∧ ((code : Int) == 0) = ok ∧ (ok = false → code = 22) ∧ Frm [] w w' := by
  cases ok with
  | false =>
    refine (mdnew_bad p q a w hok).mono ?_
    rintro e w' ⟨rfl, hf⟩
    exact ⟨none, 22, rfl, rfl, fun _ => rfl, hf⟩
  | true =>
    have h' := (okQ_iff p q a).1 hok
    obtain ⟨P, rfl⟩ : ∃ P : Nat, p = (P : Int) := ⟨p.toNat, by omega⟩
    obtain ⟨W, rfl⟩ : ∃ W : Nat, q = (W : Int) := ⟨q.toNat, by omega⟩
    obtain ⟨A, rfl⟩ : ∃ A : Nat, a = (A : Int) := ⟨a.toNat, by omega⟩
    refine (mdnew_ok P W A w hok [] (by simp)).mono ?_
    rintro e w' ⟨b, rfl, hf, _, _⟩
    exact ⟨_, 0, rfl, rfl, (fun h => by cases h), hf⟩
set_option maxHeartbeats 16000000 in
theorem menderPlays_walk (x0 : Qu) (n : Nat) (a : Option Addr) (len cap : Nat) (ts : List Wd) (w : World) (_hx0 : QuOk w x0) (hn : n < 65536) (hts : Wds w a ts) (hlen : len = ts.length) (_hl63 : len ≤ 9223372036854775807) (hfit : ∀ i, i < ts.length → ∀ x ∈ (ts.getD i default).l, x.t.2.length ≤ 140737488355328) :
    Calls Try.prog 5 #[x0.value, .int .u16 (n : Nat), .slice a len cap] w fun e w' => e = .returned (.bool true) ∧ Below w.heap.size w w' := by
  obtain ⟨Q, hQ⟩ : ∃ Q : Ending → World → Prop, Q = fun e w' => e = .returned (.bool true) ∧ Below w.heap.size w w' := ⟨_, rfl⟩
  rw [← hQ]
  have FIN : Hid (∀ z, Frm [] w z → Q (.returned (.bool true)) z) := Lib.hid fun z hz => by rw [hQ]; exact ⟨rfl, hz.below (by simp) (Nat.le_refl _)⟩
  have HQN := Lib.hid (fun z => quorum_any n z hn)
  have HTS := Lib.hid hts
  have HLEN := Lib.hid hlen
  have HFIT := Lib.hid hfit
  obtain ⟨p0, q0, k0⟩ := x0
  unfold Qu.value
  simp only
  obtain ⟨ok, hok⟩ : ∃ ok, okQ p0 q0 k0 = ok := ⟨_, rfl⟩
  have HN1 := Lib.hid (fun z => new_u p0 q0 k0 ok hok z)
  have HCK := Lib.hid (fun z => rcheck_any p0 q0 k0 z)
  rw [hok] at HCK
  unfold quV at HN1 HCK
  clear hQ hts hlen hfit hok
  go_enter Try.func5, Try.ntmps5
  go_wp2_with fail
  obtain ⟨g, hg⟩ : ∃ g, g = w.heap.size := ⟨_, rfl⟩
  obtain ⟨w0, hw0⟩ : ∃ w0, w0 = w.alloc (.cells #[.int .i64 p0, .int .i64 q0, .int .i64 k0] 23) := ⟨_, rfl⟩
  have HF0 : Hid (Frm [] w w0) := Lib.hid (by rw [hw0]; exact (Frm.refl _ _).alloc _)
  have HW0 : Hid (Whole w0 g 23 #[.int .i64 p0, .int .i64 q0, .int .i64 k0]) := Lib.hid (by rw [hw0, hg]; exact Whole.made _ _ _)
  have HG0 := Lib.hid hg
  rw [← hw0, ← hg]
  clear hw0 hg
  (with_reducible refine (awake12_any _).mono ?_)
  rintro e w1 ⟨rfl, hf1⟩
  have HF1 := Lib.hid (HF0.out.trans hf1 (U := []) (by simp) (by simp))
  have HW1 := Lib.hid (hf1.whole HW0.out (by simp))
  have x0 := HW1.out.cell 0
  have x1 := HW1.out.cell 1
  have x2 := HW1.out.cell 2
  simp at x0 x1 x2
  clear hf1 HF0 HW0
  go_wp2_with fail
  (with_reducible refine (HN1.out _).mono ?_)
  rintro e w2 ⟨v2, code, rfl, hc0, hc22, hf2⟩
  have HF2 := Lib.hid (HF1.out.trans hf2 (U := []) (by simp) (by simp))
  have HW2 := Lib.hid (hf2.whole HW1.out (by simp))
  have x0 := HW2.out.cell 0
  have x1 := HW2.out.cell 1
  have x2 := HW2.out.cell 2
  simp at x0 x1 x2
  clear hf2 HF1 HW1 HN1
  go_upto_region 4 with fail
  go_cut [37] from 25 to 37 (fun v37 wx => v37 = .bool false ∧ Hid (Frm [] w wx) ∧ Hid (Whole wx g 23 #[.int .i64 p0, .int .i64 q0, .int .i64 k0]))
  case first =>
    cases ok with
    | false =>
      obtain rfl := hc22 rfl
      clear hc22
      go_wp2_with fail
      (with_reducible refine (HCK.out _).mono ?_)
      rintro e w3 ⟨rfl, hf3⟩
      have HF3 := Lib.hid (HF2.out.trans hf3 (U := []) (by simp) (by simp))
      have HW3 := Lib.hid (hf3.whole HW2.out (by simp))
      clear hf3 HCK
      go_wp2_with fail
      go_meet
      case rel => exact ⟨by first | rfl | trivial, HF3, HW3⟩
    | true =>
      clear hc22
      obtain rfl : code = 0 := by simpa using hc0
      clear hc0
      go_wp2_with fail
      (with_reducible refine (HCK.out _).mono ?_)
      rintro e w3 ⟨rfl, hf3⟩
      have HF3 := Lib.hid (HF2.out.trans hf3 (U := []) (by simp) (by simp))
      have HW3 := Lib.hid (hf3.whole HW2.out (by simp))
      clear hf3 HCK
      go_wp2_with fail
      go_meet
      case rel => exact ⟨by first | rfl | trivial, HF3, HW3⟩
  case rest =>
    obtain ⟨rfl, HFC, HWC⟩ := hcut
    clear HCK hc0 hc22 x0 x1 x2 HF2 HW2
    go_wp2_with fail
    (with_reducible refine (HQN.out _).mono ?_)
    rintro e w4 ⟨P, W, A, r1, r2, r3, r4, rfl, hf4⟩
    unfold quV
    have hW4 := hf4.whole HWC.out (by simp)
    have x0 := hW4.cell 0
    have x1 := hW4.cell 1
    have x2 := hW4.cell 2
    have z0 := hW4.free 0
    have z1 := hW4.free 1
    have z2 := hW4.free 2
    simp at x0 x1 x2
    obtain ⟨w5, hw5⟩ : ∃ w5, w5 = ((w4.setCell ⟨g, 0, none⟩ (.int .i64 (P : Int))).setCell ⟨g, 1, none⟩ (.int .i64 (W : Int))).setCell ⟨g, 2, none⟩ (.int .i64 (A : Int)) := ⟨_, rfl⟩
    have hf5 : Frm [g] w4 w5 := by rw [hw5]; exact (((Frm.refl _ _).setCell (.inl (by simp)) _).setCell (.inl (by simp)) _).setCell (.inl (by simp)) _
    have HQ5 : Hid (Whole w5 g 23 (quC P W A)) := Lib.hid (by
      have := ((hW4.put 0 (.int .i64 (P : Int))).put 1 (.int .i64 (W : Int))).put 2 (.int .i64 (A : Int))
      rw [hw5]; simpa [quC] using this)
    have HF5 : Hid (Frm [] w w5) := Lib.hid ((HFC.out.trans hf4 (U := []) (by simp) (by simp)).trans hf5 (by simp) (fun x hx => .inr (by have := HG0.out; simp at hx; omega)))
    have hok : okQ (P : Int) (W : Int) (A : Int) = true := by rw [okQ_iff]; omega
    have HNA := Lib.hid (mdnew_ok P W A w5 hok [] (by simp))
    unfold quV at HNA
    clear hf4 hf5 hW4 hok HQN
    go_wp2_with fail
    rw [← hw5]
    clear hw5 x0 x1 x2 z0 z1 z2
    (with_reducible refine HNA.out.mono ?_)
    rintro e w6 ⟨px, rfl, hf6, hpx, hmx⟩
    have hQ6 := hf6.whole HQ5.out (by simp)
    have x0 : w6.cell? ⟨g, 0, none⟩ = some (.int .i64 (P : Nat)) := hQ6.cell 0
    have x1 : w6.cell? ⟨g, 1, none⟩ = some (.int .i64 (W : Nat)) := hQ6.cell 1
    have x2 : w6.cell? ⟨g, 2, none⟩ = some (.int .i64 (A : Nat)) := hQ6.cell 2
    have hmkb := mk_bools P (by omega)
    have hglt := HQ5.out.lt
    have hqlt := hQ6.lt
    have HMX := Lib.hid hmx
    have HQ6 := Lib.hid hQ6
    have HF6 := Lib.hid (HF5.out.trans hf6 (U := []) (by simp) (by simp))
    have HPX : Hid (g < px ∧ px < w6.heap.size) := Lib.hid ⟨by omega, hmx.lt⟩
    clear hf6 hpx hmx hQ6 HNA HQ5 HF5
    go_wp2_with fail
    go_region
    obtain ⟨hbk, hhb⟩ : ∃ hbk, hbk = w6.heap.size := ⟨_, rfl⟩
    obtain ⟨w7, hw7⟩ : ∃ w7, w7 = w6.alloc (.cells (rowB (List.replicate P false)) 4) := ⟨_, rfl⟩
    obtain ⟨w8, hw8⟩ : ∃ w8, w8 = (w7.alloc (.cells #[.int .i64 (P : Int), .int .i64 (W : Int), .int .i64 (A : Int), .slice (some ⟨w6.heap.size, 0, none⟩) P P, .int .u64 0, .slice none 0 0] 65)).drew := ⟨_, rfl⟩
    have hf7 : Frm [] w6 w7 := by rw [hw7]; exact (Frm.refl _ _).alloc _
    have hf8 : Frm [] w7 w8 := by rw [hw8]; exact ((Frm.refl _ _).alloc _).drew
    have hs7 : w7.heap.size = w6.heap.size + 1 := by rw [hw7]; simp
    obtain ⟨pm, hpm⟩ : ∃ pm, pm = w6.heap.size + 1 := ⟨_, rfl⟩
    have hW8 : Whole w8 pm 65 (rmC P W A hbk 0 none 0 0) := by
      rw [hw8, hpm, ← hs7]
      have := (Whole.made w7 65 #[.int .i64 (P : Int), .int .i64 (W : Int), .int .i64 (A : Int), .slice (some ⟨w6.heap.size, 0, none⟩) P P, .int .u64 0, .slice none 0 0]).drew
      rw [hhb]; exact this
    have hH8 : Whole w8 hbk 4 (browM P (fun _ => false)) := by
      have h1 : rowB (List.replicate P false) = browM P (fun _ => false) := by
        unfold browM
        congr 1
        apply List.ext_getElem?
        intro q
        by_cases hq : q < P
        · simp [hq]
        · simp [hq]
      have h2 : Whole w7 hbk 4 (browM P (fun _ => false)) := by rw [hw7, hhb, ← h1]; exact Whole.made _ _ _
      exact hf8.whole h2 (by simp)
    have hf68 : Frm [] w6 w8 := hf7.trans hf8 (U := []) (by simp) (by simp)
    have HMP : Hid (Mp w w8 w6.heap.size px pm hbk g P W A 0 (fun _ => false) 0 .nil []) := Lib.hid ⟨HMX.out.keep hf68 (by simp) (fun x hx => .inr (by simp at hx; omega)), ⟨⟨none, 0, 0, [], hW8, rfl, IOwn.nil _ _ _ _, rfl⟩, hH8, by omega, by have := HPX.out; simp; omega, by have := HPX.out; simp; omega, by omega⟩, rfl, ⟨Nat.zero_le _, Nat.zero_le _⟩, hf68.whole HQ6.out (by simp), ⟨HPX.out.1, by have := HPX.out; omega, by have := HPX.out; omega, by omega, by rw [HG0.out]; exact Nat.le_refl _⟩, HF6.out.trans hf68 (by simp) (by simp)⟩
    obtain ⟨B, hB⟩ : ∃ B, B = w6.heap.size := ⟨_, rfl⟩
    rw [← hB] at HMP
    have HR0 : Hid (Mpr w B px pm hbk g P W A len (.int .i64 0) w8) := Lib.hid ⟨0, _, _, _, _, rfl, Nat.zero_le _, by omega, HMP⟩
    have HBB : Hid (B ≤ w8.heap.size) := Lib.hid (by rw [hB]; exact hf68.size)
    rw [← hw7, ← hpm]
    rw [← hw8]
    clear hf7 hf8 hs7 hpm hW8 hH8 hf68 HMP hB hhb hw7 hw8 x0 x1 x2 hmkb hglt hqlt HMX HQ6 HF6 HPX
    go_wp2_with fail
    go_loopw [53] (fun s53 z => Mpr w B px pm hbk g P W A len s53 z) (fun s53 _ => len - (intOf s53).toNat)
    case atStart => exact HR0.out
    case round =>
      clear HR0
      obtain ⟨i, h, su, t, l, rfl, hi, hi31, HMP⟩ := hrel
      by_cases hlt : i < len
      · have hiL : i < ts.length := by rw [← HLEN.out]; exact hlt
        obtain ⟨b, off, ha, hat⟩ := (HTS.out.keep HMP.out.frm) (by omega)
        subst ha
        obtain ⟨c0, c1, c2, c3, okx⟩ := hat i hiL
        have hfx := HFIT.out i hiL
        have hokw : WdOk w (ts.getD i default) := by
          obtain ⟨_, _, _, hat0⟩ := HTS.out (by omega)
          exact (hat0 i hiL).ok
        obtain ⟨x, hx⟩ : ∃ x, x = ts.getD i default := ⟨_, rfl⟩
        rw [← hx] at c0 c1 c2 c3 okx hfx hokw
        obtain ⟨pl, su2, la, lc, X, raw⟩ := x
        simp only at c0 c1 c2 c3 hfx
        obtain ⟨xn, hxn⟩ : ∃ xn, xn = X.length := ⟨_, rfl⟩
        rw [← hxn] at c2
        have HXN := Lib.hid hxn
        have HOX := Lib.hid okx
        have HOW := Lib.hid hokw
        have HFX := Lib.hid hfx
        have HFW := Lib.hid HMP.out.frm
        clear hat hx hxn okx hiL hfx hokw
        by_cases hb0 : 30 < i
        · have d1 : decide ((30 : Int) < (i : Int)) = true := decide_eq_true (by omega)
          have d2 : decide (30 < i) = true := decide_eq_true hb0
          go_wp2
          exact FIN.out _ (by refine HFW.out.trans (T := []) ?_ (by simp) (by simp); repeat (first | exact Frm.refl _ _ | apply Frm.alloc | apply Frm.drew))
        have d1 : decide ((30 : Int) < (i : Int)) = false := decide_eq_false (by omega)
        have d2 : decide (30 < i) = false := decide_eq_false hb0
        by_cases hb1 : 30 < xn
        · have d3 : decide ((30 : Int) < (xn : Int)) = true := decide_eq_true (by omega)
          have d4 : decide (30 < xn) = true := decide_eq_true hb1
          go_wp2
          exact FIN.out _ (by refine HFW.out.trans (T := []) ?_ (by simp) (by simp); repeat (first | exact Frm.refl _ _ | apply Frm.alloc | apply Frm.drew))
        have d3 : decide ((30 : Int) < (xn : Int)) = false := decide_eq_false (by omega)
        have d4 : decide (30 < xn) = false := decide_eq_false hb1
        have q0 : wr.cell? ⟨g, 0, none⟩ = some (.int .i64 (P : Nat)) := HMP.out.quo.cell 0
        have q1 : wr.cell? ⟨g, 1, none⟩ = some (.int .i64 (W : Nat)) := HMP.out.quo.cell 1
        have q2 : wr.cell? ⟨g, 2, none⟩ = some (.int .i64 (A : Nat)) := HMP.out.quo.cell 2
        have qlt := HMP.out.quo.lt
        have qne : g ≠ wr.heap.size := by omega
        obtain ⟨w1, hw1⟩ : ∃ w1, w1 = wr.alloc (.cells #[.int .i64 pl, .int .u64 (su2 : Nat), .slice la xn lc, .bool raw] 67) := ⟨_, rfl⟩
        obtain ⟨g1, hg1⟩ : ∃ g1, g1 = wr.heap.size := ⟨_, rfl⟩
        have hf1 : Frm [] wr w1 := by rw [hw1]; exact (Frm.refl _ _).alloc _
        have HW1 : Hid (Whole w1 g1 67 #[.int .i64 pl, .int .u64 (su2 : Nat), .slice la xn lc, .bool raw]) := Lib.hid (by rw [hw1, hg1]; exact Whole.made _ _ _)
        have hrl := HMP.out.rm.lt
        have hml := HMP.out.md.lt
        have HG1 : Hid (px < g1 ∧ pm < g1 ∧ hbk < g1) := Lib.hid (by omega)
        have HNEW : Hid (wr.heap.size ≤ g1) := Lib.hid (by omega)
        have hwW : ∀ x ∈ [px, pm, hbk, g1], w.heap.size ≤ x := fun x hx => by
          have := HMP.out.apart
          simp at hx
          have := HFW.out.size
          rcases hx with rfl | rfl | rfl | rfl <;> omega
        have hilX : IL w1 [px, pm, hbk, g1] la X := HOW.out.l_b.keep (HFW.out.trans hf1 (U := []) (by simp) (by simp)) (by simp) (fun x hx => .inr (hwW x hx))
        have HFEW := Lib.hid (few_u pl su2 la lc X raw P W A w1 [px, pm, hbk, g1] hilX (by omega) r4 HOX.out.sure_lt (by rw [← HXN.out]; omega) HFX.out (fun x hx => by
          have := hf1.size
          have := HW1.out.lt
          simp at hx
          rcases hx with rfl | rfl | rfl | rfl <;> omega))
        rw [← HXN.out] at HFEW
        unfold quV at HFEW
        have HF1 := Lib.hid hf1
        go_wp2_with fail
        rw [← hw1, ← hg1]
        clear hw1 hg1 hf1 hrl hml q0 q1 q2 qlt qne d1 d2 d3 d4 c0 c1 c2 c3 hilX hwW
        (with_reducible refine HFEW.out.mono ?_)
        rintro e w2 ⟨pl', su', a1, c1, X', raw', rfl, hxl, hsu', hfit', hilx, hf2⟩
        have hwh := hf2.whole HW1.out (by simp)
        have x0 := hwh.cell 0
        have x1 := hwh.cell 1
        have x2 := hwh.cell 2
        have x3 := hwh.cell 3
        have z0 := hwh.free 0
        have z1 := hwh.free 1
        have z2 := hwh.free 2
        have z3 := hwh.free 3
        simp at x0 x1 x2 x3
        obtain ⟨wq, hwqe⟩ : ∃ wq, wq = (((w2.setCell ⟨g1, 0, none⟩ (.int .i64 pl')).setCell ⟨g1, 1, none⟩ (.int .u64 (su' : Nat))).setCell ⟨g1, 2, none⟩ (.slice a1 xn c1)).setCell ⟨g1, 3, none⟩ (.bool raw') := ⟨_, rfl⟩
        have hfr : Frm [] wr w2 := HF1.out.trans hf2 (U := []) (by simp) (by simp)
        have hfs : Frm [g1] w2 wq := by rw [hwqe]; exact ((((Frm.refl _ _).setCell (.inl (by simp)) _).setCell (.inl (by simp)) _).setCell (.inl (by simp)) _).setCell (.inl (by simp)) _
        have hfh : Frm [] wr wq := hfr.trans hfs (by simp) (fun x hx => .inr (by have := HNEW.out; simp at hx; omega))
        have hwg : Whole wq g1 67 #[.int .i64 pl', .int .u64 (su' : Nat), .slice a1 xn c1, .bool raw'] := by
          have := (((hwh.put 0 (.int .i64 pl')).put 1 (.int .u64 (su' : Nat))).put 2 (.slice a1 xn c1)).put 3 (.bool raw')
          rw [hwqe]; simpa using this
        have hilq := hilx.keep hfs (F' := [px, pm, hbk, g1]) (fun x hx => .inl (by simp at hx; simp [hx])) (fun x hx => .inl hx)
        have HMQ := Lib.hid (HMP.out.here hfh)
        have HILQ := Lib.hid hilq
        have HWQE := Lib.hid hwqe
        clear hwqe
        have HXL := Lib.hid hxl
        have HFT := Lib.hid hfit'
        have HBQ : Hid (B ≤ wq.heap.size) := Lib.hid (by have := HMP.out.apart; have := HMP.out.rm.lt; have := hfh.size; omega)
        have hap := HMP.out.apart
        -- the words of both
        have HH1 : Hid (∀ z, Frm [] wq z → Calls Try.prog 26 #[.pointer (some ⟨px, 0, none⟩), .int .i64 pl', .int .u64 (su' : Nat), .slice a1 xn c1] z fun e w' => ∃ t',
            e = .returned (.int .i64 (hvC P pl' su' (atT t) (its X') : Nat)) ∧ Frm [px] z w' ∧ Md w' px [pm, hbk] P W A (hvH P pl' su' (atT t) (its X') h) (hvS P pl' su' (atT t) (its X') su) t' ∧ atT t' = hvF P pl' su' (atT t) (its X') ∧ (keysT t').length ≤ (keysT t).length + xn) := Lib.hid fun z hz =>
          hear_v pl' su' a1 xn c1 X' (HMQ.out.md.here hz) hsu' (HILQ.out.keep hz (F' := []) (by simp) (by simp)) HXL.out.symm HFT.out (by omega) (fun x hx => by
            have := HMQ.out.rm.lt; have := hz.size
            simp at hx; rcases hx with rfl | rfl <;> omega)
        have HH2 : Hid (∀ z, Frm [px] wq z → Calls Try.prog 27 #[.pointer (some ⟨pm, 0, none⟩), .int .i64 pl', .int .u64 (su' : Nat), .slice a1 xn c1] z fun e w' => ∃ l',
            e = .returned (.int .i64 (hvC P pl' su' (atT t) (its X') : Nat)) ∧ Frm [pm, hbk] z w' ∧ Rm w' B pm hbk [px] P W A (hvH P pl' su' (atT t) (its X') h) (hvS P pl' su' (atT t) (its X') su) l' ∧ lookN l' = hvF P pl' su' (atT t) (its X') ∧ l'.length ≤ l.length + xn) := Lib.hid fun z hz => by
          have := rmhear_v pl' su' a1 xn c1 X' (HMQ.out.rm.keep hz (F' := [px]) (fun x hx => .inl hx) (fun x hx => .inl hx)) (by have := HBQ.out; have := hz.size; omega) (by have := HMQ.out.few.2; omega) HMQ.out.md.small hsu' (HILQ.out.keep hz (F' := []) (fun x hx => .inl (by simp at hx; simp [hx])) (by simp)) HXL.out.symm HFT.out (by omega) (fun x hx => by
            have := HMQ.out.md.lt; have := hz.size
            simp at hx; omega)
          rw [← HMQ.out.same] at this
          exact this
        obtain ⟨cd, hcd⟩ : ∃ cd, cd = hvC P pl' su' (atT t) (its X') := ⟨_, rfl⟩
        obtain ⟨h', hh'⟩ : ∃ h', h' = hvH P pl' su' (atT t) (its X') h := ⟨_, rfl⟩
        obtain ⟨sn, hsn⟩ : ∃ sn, sn = hvS P pl' su' (atT t) (its X') su := ⟨_, rfl⟩
        obtain ⟨fn, hfn⟩ : ∃ fn, fn = hvF P pl' su' (atT t) (its X') := ⟨_, rfl⟩
        rw [← hcd, ← hh', ← hsn, ← hfn] at HH1 HH2
        have HAP := Lib.hid (show (g < px ∧ g < pm ∧ g < hbk) ∧ px ≠ pm by omega)
        obtain ⟨_, _, _, _, hvq, _⟩ := HMQ.out.rm.box
        have hpm3 : wq.cell? ⟨pm, 3, none⟩ = some (.slice (some ⟨hbk, 0, none⟩) P P) := hvq.cell 3
        have hg1n : g1 ∉ [px, pm, hbk] := by have := HG1.out; simp; omega
        have hgn : g ∉ [px, pm, hbk] := by simp; omega
        have G0 : ∀ z, Sp14 px pm hbk P wq z → z.cell? ⟨g1, 0, none⟩ = some (.int .i64 pl') := fun z hz => (hz.frm.whole hwg hg1n).cell 0
        have G1 : ∀ z, Sp14 px pm hbk P wq z → z.cell? ⟨g1, 1, none⟩ = some (.int .u64 (su' : Nat)) := fun z hz => (hz.frm.whole hwg hg1n).cell 1
        have G2 : ∀ z, Sp14 px pm hbk P wq z → z.cell? ⟨g1, 2, none⟩ = some (.slice a1 xn c1) := fun z hz => (hz.frm.whole hwg hg1n).cell 2
        have Q0 : ∀ z, Sp14 px pm hbk P wq z → z.cell? ⟨g, 0, none⟩ = some (.int .i64 (P : Nat)) := fun z hz => (hz.frm.whole HMQ.out.quo hgn).cell 0
        have Q1 : ∀ z, Sp14 px pm hbk P wq z → z.cell? ⟨g, 1, none⟩ = some (.int .i64 (W : Nat)) := fun z hz => (hz.frm.whole HMQ.out.quo hgn).cell 1
        have Q2 : ∀ z, Sp14 px pm hbk P wq z → z.cell? ⟨g, 2, none⟩ = some (.int .i64 (A : Nat)) := fun z hz => (hz.frm.whole HMQ.out.quo hgn).cell 2
        have M3 : ∀ z, Sp14 px pm hbk P wq z → z.cell? ⟨pm, 3, none⟩ = some (.slice (some ⟨hbk, 0, none⟩) P P) := fun z hz => hz.cell
        clear hwh hfr hfs hfh hwg hilq hxl hfit' hilx hf2 HW1 HFEW HF1 hcd hh' hsn hfn hvq hg1n hgn hap
        go_upto_region 14 with fail
        rw [← HWQE.out]
        clear HWQE x0 x1 x2 x3 z0 z1 z2 z3
        refine wp_region_held_drew (S := fun w' => Sp14 px pm hbk P wq w') (by kernel_rfl) ⟨(Frm.refl _ _).drew, hpm3⟩ (fun hHeld => ?_)
        refine wpAnyH_take (i := 0) (oi := ⟨some 69, _, _, _, _, _⟩) (v := ?_) rfl (by kernel_rfl) (by kernel_rfl) (by kernel_rfl) (fun _ _ _ h => h) (Or.inl ⟨by rfl, ?_⟩) (by assumption) ?_
        rotate_left 1
        · (intro w hSw; (try dsimp only at hSw); have a0 := G0 w hSw; have a1 := G1 w hSw; have a2 := G2 w hSw; have b0 := Q0 w hSw; have b1 := Q1 w hSw; have b2 := Q2 w hSw; have m3 := M3 w hSw; go_simp; all_goals with_reducible rfl)
        try simp only [Act.put, List.setIfInBounds_toArray, List.set_cons_zero, List.set_cons_succ]
        refine wpAnyH_take (i := 1) (oi := ⟨some 70, _, _, _, _, _⟩) (v := ?_) rfl (by kernel_rfl) (by kernel_rfl) (by kernel_rfl) (fun _ _ _ h => h) (Or.inl ⟨by rfl, ?_⟩) (by assumption) ?_
        rotate_left 1
        · (intro w hSw; (try dsimp only at hSw); have a0 := G0 w hSw; have a1 := G1 w hSw; have a2 := G2 w hSw; have b0 := Q0 w hSw; have b1 := Q1 w hSw; have b2 := Q2 w hSw; have m3 := M3 w hSw; go_simp; all_goals with_reducible rfl)
        try simp only [Act.put, List.setIfInBounds_toArray, List.set_cons_zero, List.set_cons_succ]
        refine wpAnyH_take (i := 2) (oi := ⟨some 71, _, _, _, _, _⟩) (v := ?_) rfl (by kernel_rfl) (by kernel_rfl) (by kernel_rfl) (fun _ _ _ h => h) (Or.inl ⟨by rfl, ?_⟩) (by assumption) ?_
        rotate_left 1
        · (intro w hSw; (try dsimp only at hSw); have a0 := G0 w hSw; have a1 := G1 w hSw; have a2 := G2 w hSw; have b0 := Q0 w hSw; have b1 := Q1 w hSw; have b2 := Q2 w hSw; have m3 := M3 w hSw; go_simp; all_goals with_reducible rfl)
        try simp only [Act.put, List.setIfInBounds_toArray, List.set_cons_zero, List.set_cons_succ]
        refine wpAnyH_take (i := 3) (oi := ⟨some 72, _, _, _, _, _⟩) (v := ?_) rfl (by kernel_rfl) (by kernel_rfl) (by kernel_rfl) (fun _ _ _ h => h) (Or.inl ⟨by rfl, ?_⟩) (by assumption) ?_
        rotate_left 1
        · (intro w hSw; (try dsimp only at hSw); have a0 := G0 w hSw; have a1 := G1 w hSw; have a2 := G2 w hSw; have b0 := Q0 w hSw; have b1 := Q1 w hSw; have b2 := Q2 w hSw; have m3 := M3 w hSw; go_simp; all_goals with_reducible rfl)
        try simp only [Act.put, List.setIfInBounds_toArray, List.set_cons_zero, List.set_cons_succ]
        refine wpAnyH_take (i := 4) (oi := ⟨some 73, _, _, _, _, _⟩) (v := ?_) rfl (by kernel_rfl) (by kernel_rfl) (by kernel_rfl) (fun _ _ _ h => h) (Or.inl ⟨by rfl, ?_⟩) (by assumption) ?_
        rotate_left 1
        · (intro w hSw; (try dsimp only at hSw); have a0 := G0 w hSw; have a1 := G1 w hSw; have a2 := G2 w hSw; have b0 := Q0 w hSw; have b1 := Q1 w hSw; have b2 := Q2 w hSw; have m3 := M3 w hSw; go_simp; all_goals with_reducible rfl)
        try simp only [Act.put, List.setIfInBounds_toArray, List.set_cons_zero, List.set_cons_succ]
        refine wpAnyH_take (i := 5) (oi := ⟨some 74, _, _, _, _, _⟩) (v := ?_) rfl (by kernel_rfl) (by kernel_rfl) (by kernel_rfl) (fun _ _ _ h => h) (Or.inl ⟨by rfl, ?_⟩) (by assumption) ?_
        rotate_left 1
        · (intro w hSw; (try dsimp only at hSw); have a0 := G0 w hSw; have a1 := G1 w hSw; have a2 := G2 w hSw; have b0 := Q0 w hSw; have b1 := Q1 w hSw; have b2 := Q2 w hSw; have m3 := M3 w hSw; go_simp; all_goals with_reducible rfl)
        try simp only [Act.put, List.setIfInBounds_toArray, List.set_cons_zero, List.set_cons_succ]
        refine wpAnyH_take (i := 6) (oi := ⟨some 75, _, _, _, _, _⟩) (v := ?_) rfl (by kernel_rfl) (by kernel_rfl) (by kernel_rfl) (fun _ _ _ h => h) (Or.inl ⟨by rfl, ?_⟩) (by assumption) ?_
        rotate_left 1
        · (intro w hSw; (try dsimp only at hSw); have a0 := G0 w hSw; have a1 := G1 w hSw; have a2 := G2 w hSw; have b0 := Q0 w hSw; have b1 := Q1 w hSw; have b2 := Q2 w hSw; have m3 := M3 w hSw; go_simp; all_goals with_reducible rfl)
        try simp only [Act.put, List.setIfInBounds_toArray, List.set_cons_zero, List.set_cons_succ]
        refine wpAnyH_take (i := 8) (oi := ⟨some 77, _, _, _, _, _⟩) (v := ?_) rfl (by kernel_rfl) (by kernel_rfl) (by kernel_rfl) (fun _ _ _ h => h) (Or.inl ⟨by rfl, ?_⟩) (by assumption) ?_
        rotate_left 1
        · (intro w hSw; (try dsimp only at hSw); have a0 := G0 w hSw; have a1 := G1 w hSw; have a2 := G2 w hSw; have b0 := Q0 w hSw; have b1 := Q1 w hSw; have b2 := Q2 w hSw; have m3 := M3 w hSw; go_simp; all_goals with_reducible rfl)
        try simp only [Act.put, List.setIfInBounds_toArray, List.set_cons_zero, List.set_cons_succ]
        refine wpAnyH_take (i := 9) (oi := ⟨some 78, _, _, _, _, _⟩) (v := ?_) rfl (by kernel_rfl) (by kernel_rfl) (by kernel_rfl) (fun _ _ _ h => h) (Or.inl ⟨by rfl, ?_⟩) (by assumption) ?_
        rotate_left 1
        · (intro w hSw; (try dsimp only at hSw); have a0 := G0 w hSw; have a1 := G1 w hSw; have a2 := G2 w hSw; have b0 := Q0 w hSw; have b1 := Q1 w hSw; have b2 := Q2 w hSw; have m3 := M3 w hSw; go_simp; all_goals with_reducible rfl)
        try simp only [Act.put, List.setIfInBounds_toArray, List.set_cons_zero, List.set_cons_succ]
        refine wpAnyH_take (i := 10) (oi := ⟨some 79, _, _, _, _, _⟩) (v := ?_) rfl (by kernel_rfl) (by kernel_rfl) (by kernel_rfl) (fun _ _ _ h => h) (Or.inl ⟨by rfl, ?_⟩) (by assumption) ?_
        rotate_left 1
        · (intro w hSw; (try dsimp only at hSw); have a0 := G0 w hSw; have a1 := G1 w hSw; have a2 := G2 w hSw; have b0 := Q0 w hSw; have b1 := Q1 w hSw; have b2 := Q2 w hSw; have m3 := M3 w hSw; go_simp; all_goals with_reducible rfl)
        try simp only [Act.put, List.setIfInBounds_toArray, List.set_cons_zero, List.set_cons_succ]
        refine wpAnyH_take (i := 11) (oi := ⟨some 80, _, _, _, _, _⟩) (v := ?_) rfl (by kernel_rfl) (by kernel_rfl) (by kernel_rfl) (fun _ _ _ h => h) (Or.inl ⟨by rfl, ?_⟩) (by assumption) ?_
        rotate_left 1
        · (intro w hSw; (try dsimp only at hSw); have a0 := G0 w hSw; have a1 := G1 w hSw; have a2 := G2 w hSw; have b0 := Q0 w hSw; have b1 := Q1 w hSw; have b2 := Q2 w hSw; have m3 := M3 w hSw; go_simp; all_goals with_reducible rfl)
        try simp only [Act.put, List.setIfInBounds_toArray, List.set_cons_zero, List.set_cons_succ]
        refine wpAnyH_take (i := 12) (oi := ⟨some 81, _, _, _, _, _⟩) (v := ?_) rfl (by kernel_rfl) (by kernel_rfl) (by kernel_rfl) (fun _ _ _ h => h) (Or.inl ⟨by rfl, ?_⟩) (by assumption) ?_
        rotate_left 1
        · (intro w hSw; (try dsimp only at hSw); have a0 := G0 w hSw; have a1 := G1 w hSw; have a2 := G2 w hSw; have b0 := Q0 w hSw; have b1 := Q1 w hSw; have b2 := Q2 w hSw; have m3 := M3 w hSw; go_simp; all_goals with_reducible rfl)
        try simp only [Act.put, List.setIfInBounds_toArray, List.set_cons_zero, List.set_cons_succ]
        refine wpAnyH_take (i := 13) (oi := ⟨some 82, _, _, _, _, _⟩) (v := ?_) rfl (by kernel_rfl) (by kernel_rfl) (by kernel_rfl) (fun _ _ _ h => h) (Or.inl ⟨by rfl, ?_⟩) (by assumption) ?_
        rotate_left 1
        · (intro w hSw; (try dsimp only at hSw); have a0 := G0 w hSw; have a1 := G1 w hSw; have a2 := G2 w hSw; have b0 := Q0 w hSw; have b1 := Q1 w hSw; have b2 := Q2 w hSw; have m3 := M3 w hSw; go_simp; all_goals with_reducible rfl)
        try simp only [Act.put, List.setIfInBounds_toArray, List.set_cons_zero, List.set_cons_succ]
        refine wpAnyH_take (i := 14) (oi := ⟨some 83, _, _, _, _, _⟩) (v := ?_) rfl (by kernel_rfl) (by kernel_rfl) (by kernel_rfl) (fun _ _ _ h => h) (Or.inl ⟨by rfl, ?_⟩) (by assumption) ?_
        rotate_left 1
        · (intro w hSw; (try dsimp only at hSw); have a0 := G0 w hSw; have a1 := G1 w hSw; have a2 := G2 w hSw; have b0 := Q0 w hSw; have b1 := Q1 w hSw; have b2 := Q2 w hSw; have m3 := M3 w hSw; go_simp; all_goals with_reducible rfl)
        try simp only [Act.put, List.setIfInBounds_toArray, List.set_cons_zero, List.set_cons_succ]
        refine wpAnyH_ready (rs := [7]) (by kernel_rfl) (by simp) ?_
        refine AllReadyH.cons (o := ⟨some 76, _, _, _, _, _⟩) rfl (fun K hK => ?_) AllReadyH.nil
        go_simp
        ((with_reducible refine (HH1.out _ (Frm.refl _ _).drew).mono ?_); rintro e7 w7 ⟨t7, rfl, hf7a, hm7, ht7, hk7⟩; have hf7 : Frm [px] wq w7 := (Frm.refl [] wq).drew.trans hf7a (by simp) (fun x hx => .inl hx); have S7 : Sp14 px pm hbk P wq w7 := sp14_x HAP.out.2 hpm3 hf7)
        go_wp2_with fail
        refine hK.out _ _ (by assumption) (fun hHeld => ?_)
        clear hK K
        try simp only [Act.put, List.setIfInBounds_toArray, List.set_cons_zero, List.set_cons_succ]
        refine wpAnyH_ready (rs := [15]) (by kernel_rfl) (by simp) ?_
        refine AllReadyH.cons (o := ⟨some 84, _, _, _, _, _⟩) rfl (fun K hK => ?_) AllReadyH.nil
        go_simp
        ((with_reducible refine (HH2.out _ hf7).mono ?_); rintro e8 w8 ⟨l8, rfl, hf8, hr8, hl8, hk8⟩; have S8 : Sp14 px pm hbk P wq w8 := sp14_m S7 hf8 hr8)
        go_wp2_with fail
        refine hK.out _ _ (by assumption) (fun hHeld => ?_)
        clear hK K
        try simp only [Act.put, List.setIfInBounds_toArray, List.set_cons_zero, List.set_cons_succ]
        refine wpAnyH_take (i := 16) (oi := ⟨some 85, _, _, _, _, _⟩) (v := ?_) rfl (by kernel_rfl) (by kernel_rfl) (by kernel_rfl) (fun _ _ _ h => h) (Or.inl ⟨by rfl, ?_⟩) (by assumption) ?_
        rotate_left 1
        · (intro w hSw; (try dsimp only at hSw); have a0 := G0 w hSw; have a1 := G1 w hSw; have a2 := G2 w hSw; have b0 := Q0 w hSw; have b1 := Q1 w hSw; have b2 := Q2 w hSw; have m3 := M3 w hSw; go_simp; all_goals with_reducible rfl)
        try simp only [Act.put, List.setIfInBounds_toArray, List.set_cons_zero, List.set_cons_succ]
        refine wpAnyH_take (i := 17) (oi := ⟨some 86, _, _, _, _, _⟩) (v := ?_) rfl (by kernel_rfl) (by kernel_rfl) (by kernel_rfl) (fun _ _ _ h => h) (Or.inl ⟨by rfl, ?_⟩) (by assumption) ?_
        rotate_left 1
        · (intro w hSw; (try dsimp only at hSw); have a0 := G0 w hSw; have a1 := G1 w hSw; have a2 := G2 w hSw; have b0 := Q0 w hSw; have b1 := Q1 w hSw; have b2 := Q2 w hSw; have m3 := M3 w hSw; go_simp; all_goals with_reducible rfl)
        try simp only [Act.put, List.setIfInBounds_toArray, List.set_cons_zero, List.set_cons_succ]
        refine wpAnyH_take (i := 18) (oi := ⟨some 87, _, _, _, _, _⟩) (v := ?_) rfl (by kernel_rfl) (by kernel_rfl) (by kernel_rfl) (fun _ _ _ h => h) (Or.inl ⟨by rfl, ?_⟩) (by assumption) ?_
        rotate_left 1
        · (intro w hSw; (try dsimp only at hSw); have a0 := G0 w hSw; have a1 := G1 w hSw; have a2 := G2 w hSw; have b0 := Q0 w hSw; have b1 := Q1 w hSw; have b2 := Q2 w hSw; have m3 := M3 w hSw; go_simp; all_goals with_reducible rfl)
        try simp only [Act.put, List.setIfInBounds_toArray, List.set_cons_zero, List.set_cons_succ]
        refine wpAnyH_take (i := 20) (oi := ⟨some 89, _, _, _, _, _⟩) (v := ?_) rfl (by kernel_rfl) (by kernel_rfl) (by kernel_rfl) (fun _ _ _ h => h) (Or.inl ⟨by rfl, ?_⟩) (by assumption) ?_
        rotate_left 1
        · (intro w hSw; (try dsimp only at hSw); have a0 := G0 w hSw; have a1 := G1 w hSw; have a2 := G2 w hSw; have b0 := Q0 w hSw; have b1 := Q1 w hSw; have b2 := Q2 w hSw; have m3 := M3 w hSw; go_simp; all_goals with_reducible rfl)
        try simp only [Act.put, List.setIfInBounds_toArray, List.set_cons_zero, List.set_cons_succ]
        refine wpAnyH_take (i := 21) (oi := ⟨some 90, _, _, _, _, _⟩) (v := ?_) rfl (by kernel_rfl) (by kernel_rfl) (by kernel_rfl) (fun _ _ _ h => h) (Or.inl ⟨by rfl, ?_⟩) (by assumption) ?_
        rotate_left 1
        · (intro w hSw; (try dsimp only at hSw); have a0 := G0 w hSw; have a1 := G1 w hSw; have a2 := G2 w hSw; have b0 := Q0 w hSw; have b1 := Q1 w hSw; have b2 := Q2 w hSw; have m3 := M3 w hSw; go_simp; all_goals with_reducible rfl)
        try simp only [Act.put, List.setIfInBounds_toArray, List.set_cons_zero, List.set_cons_succ]
        refine wpAnyH_take (i := 22) (oi := ⟨some 91, _, _, _, _, _⟩) (v := ?_) rfl (by kernel_rfl) (by kernel_rfl) (by kernel_rfl) (fun _ _ _ h => h) (Or.inl ⟨by rfl, ?_⟩) (by assumption) ?_
        rotate_left 1
        · (intro w hSw; (try dsimp only at hSw); have a0 := G0 w hSw; have a1 := G1 w hSw; have a2 := G2 w hSw; have b0 := Q0 w hSw; have b1 := Q1 w hSw; have b2 := Q2 w hSw; have m3 := M3 w hSw; go_simp; all_goals with_reducible rfl)
        try simp only [Act.put, List.setIfInBounds_toArray, List.set_cons_zero, List.set_cons_succ]
        refine wpAnyH_take (i := 23) (oi := ⟨some 92, _, _, _, _, _⟩) (v := ?_) rfl (by kernel_rfl) (by kernel_rfl) (by kernel_rfl) (fun _ _ _ h => h) (Or.inl ⟨by rfl, ?_⟩) (by assumption) ?_
        rotate_left 1
        · (intro w hSw; (try dsimp only at hSw); have a0 := G0 w hSw; have a1 := G1 w hSw; have a2 := G2 w hSw; have b0 := Q0 w hSw; have b1 := Q1 w hSw; have b2 := Q2 w hSw; have m3 := M3 w hSw; go_simp; all_goals with_reducible rfl)
        try simp only [Act.put, List.setIfInBounds_toArray, List.set_cons_zero, List.set_cons_succ]
        refine wpAnyH_take (i := 24) (oi := ⟨some 93, _, _, _, _, _⟩) (v := ?_) rfl (by kernel_rfl) (by kernel_rfl) (by kernel_rfl) (fun _ _ _ h => h) (Or.inl ⟨by rfl, ?_⟩) (by assumption) ?_
        rotate_left 1
        · (intro w hSw; (try dsimp only at hSw); have a0 := G0 w hSw; have a1 := G1 w hSw; have a2 := G2 w hSw; have b0 := Q0 w hSw; have b1 := Q1 w hSw; have b2 := Q2 w hSw; have m3 := M3 w hSw; go_simp; all_goals with_reducible rfl)
        try simp only [Act.put, List.setIfInBounds_toArray, List.set_cons_zero, List.set_cons_succ]
        refine wpAnyH_ready (rs := [19]) (by kernel_rfl) (by simp) ?_
        refine AllReadyH.cons (o := ⟨some 88, _, _, _, _, _⟩) rfl (fun K hK => ?_) AllReadyH.nil
        go_simp
        ((with_reducible refine (ready_any (hm7.keep hf8 (F' := [pm, hbk]) (fun x hx => .inl hx) (fun x hx => .inl hx))).mono ?_); rintro e9 w9 ⟨rfl, hf9⟩; have S9 : Sp14 px pm hbk P wq w9 := S8.here hf9)
        go_wp2_with fail
        refine hK.out _ _ (by assumption) (fun hHeld => ?_)
        clear hK K
        try simp only [Act.put, List.setIfInBounds_toArray, List.set_cons_zero, List.set_cons_succ]
        refine wpAnyH_ready (rs := [25]) (by kernel_rfl) (by simp) ?_
        refine AllReadyH.cons (o := ⟨some 94, _, _, _, _, _⟩) rfl (fun K hK => ?_) AllReadyH.nil
        go_simp
        ((with_reducible refine (rmcovered (hr8.here hf9)).mono ?_); rintro e10 w10 ⟨rfl, hf10⟩; have S10 : Sp14 px pm hbk P wq w10 := S9.here hf10)
        go_wp2_with fail
        refine hK.out _ _ (by assumption) (fun hHeld => ?_)
        clear hK K
        try simp only [Act.put, List.setIfInBounds_toArray, List.set_cons_zero, List.set_cons_succ]
        refine wpAnyH_take (i := 26) (oi := ⟨some 95, _, _, _, _, _⟩) (v := ?_) rfl (by kernel_rfl) (by kernel_rfl) (by kernel_rfl) (fun _ _ _ h => h) (Or.inl ⟨by rfl, ?_⟩) (by assumption) ?_
        rotate_left 1
        · (intro w hSw; (try dsimp only at hSw); have a0 := G0 w hSw; have a1 := G1 w hSw; have a2 := G2 w hSw; have b0 := Q0 w hSw; have b1 := Q1 w hSw; have b2 := Q2 w hSw; have m3 := M3 w hSw; go_simp; all_goals with_reducible rfl)
        try simp only [Act.put, List.setIfInBounds_toArray, List.set_cons_zero, List.set_cons_succ]
        refine wpAnyH_take (i := 27) (oi := ⟨some 96, _, _, _, _, _⟩) (v := ?_) rfl (by kernel_rfl) (by kernel_rfl) (by kernel_rfl) (fun _ _ _ h => h) (Or.inl ⟨by rfl, ?_⟩) (by assumption) ?_
        rotate_left 1
        · (intro w hSw; (try dsimp only at hSw); have a0 := G0 w hSw; have a1 := G1 w hSw; have a2 := G2 w hSw; have b0 := Q0 w hSw; have b1 := Q1 w hSw; have b2 := Q2 w hSw; have m3 := M3 w hSw; go_simp; all_goals with_reducible rfl)
        try simp only [Act.put, List.setIfInBounds_toArray, List.set_cons_zero, List.set_cons_succ]
        refine wpAnyH_done (by kernel_rfl) ?_ _
        have HMN : Hid (Mp w w10 B px pm hbk g P W A (i + 1) h' sn t7 l8) := Lib.hid ⟨((hm7.keep hf8 (F' := [pm, hbk]) (fun x hx => .inl hx) (fun x hx => .inl hx)).here hf9).here hf10, (hr8.here hf9).here hf10, by rw [ht7, hl8], by have := HMQ.out.few; omega, S10.frm.whole HMQ.out.quo (by have := HAP.out; simp; omega), HMQ.out.apart, HMQ.out.frm.trans S10.frm (by simp) (fun x hx => .inr (by have := HMQ.out.apart; simp at hx; rcases hx with rfl | rfl | rfl <;> omega))⟩
        have HRS := Lib.hid (result_u HMN.out.md (by have := HMN.out.few; omega) (fun x hx => by have := HMN.out.rm.lt; simp at hx; rcases hx with rfl | rfl <;> omega))
        have HRR := Lib.hid (fun z (hz : Frm [] w10 z) => rmresult_any (HMN.out.rm.here hz) (by have := HMN.out.few; omega) (fun x hx => by have := HMN.out.md.lt; have := hz.size; simp at hx; omega))
        rw [← HMN.out.same] at HRR
        have HSLT := Lib.hid (show px < w10.heap.size ∧ pm < w10.heap.size from ⟨HMN.out.md.lt, HMN.out.rm.lt.1⟩)
        clear HMP HOX HOW HFX HFW HXN HNEW HG1 HMQ HILQ HXL HFT HBQ HH1 HH2 HAP hpm3 G0 G1 G2 Q0 Q1 Q2 M3 hf7a hm7 ht7 hk7 hf7 S7 hf8 hr8 hl8 hk8 S8 hf9 S9 hf10 S10
        clear hHeld
        have hs67 : Hid (i + 1 ≤ 31) := Lib.hid (by omega)
        go_wp2_with fail
        (with_reducible refine HRS.out.mono ?_)
        rintro e w11 ⟨code1, a2, c2, Y, rfl, hrv1, hY1, hil1, hcap1, hf11⟩
        have HF11 := Lib.hid hf11
        have HIL1 := Lib.hid hil1
        clear hil1 hf11 HRS
        obtain ⟨yn, hyn⟩ : ∃ yn, yn = Y.length := ⟨_, rfl⟩
        rw [← hyn] at hY1 hcap1 ⊢
        have HYN := Lib.hid hyn
        have HRV1 := Lib.hid hrv1
        clear hyn hrv1
        go_wp2_with fail
        (with_reducible refine (HRR.out _ HF11.out).mono ?_)
        rintro e w12 ⟨code2, a3, c3, Z, rfl, hrv2, hil2, hf12⟩
        obtain ⟨rfl, hYZ⟩ := HRV1.out.one hrv2
        have HLZ := its_len hYZ
        rw [← HLZ, ← HYN.out]
        have HF12 := Lib.hid (HF11.out.trans hf12 (U := []) (by simp) (by simp))
        have HSM := Lib.hid (sameItems_true a2 a3 yn c2 c3 Y Z _ _ w12 (HIL1.out.keep hf12 (F' := []) (by simp) (by simp)) (hil2.keep (Frm.refl [] _) (F' := []) (by simp) (by simp)) HYN.out hYZ (by omega))
        clear hrv2 hil2 hf12 HRR HLZ hYZ HYN HRV1 HIL1 HF11
        have hwm : IntKind.i64.wrap ((i : Int) + 1) = ((i + 1 : Nat) : Int) := by rw [IntWalk.i64_in _ (by omega)]; rfl
        go_wp2_with fail
        (with_reducible refine HSM.out.mono ?_)
        rintro e w13 ⟨rfl, hf13⟩
        have HMZ := Lib.hid (HMN.out.here (HF12.out.trans hf13 (U := []) (by simp) (by simp)))
        clear hf13 HSM HMN HF12
        go_wp2
        go_roundw
        case rel => exact ⟨i + 1, _, _, _, _, rfl, hlt, hs67.out, HMZ⟩
        case measure => simp [intOf]; omega
      · go_wp2
        exact FIN.out _ HMP.out.frm
end Go.Proofs.Ytecfoomjpjcldaa
