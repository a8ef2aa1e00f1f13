/- The walk of MenderOrder. -/
import Derived.Test.YtecfoomjpjcldaaMdRes
import Derived.Test.YtecfoomjpjcldaaMdFew
import Derived.Test.YtecfoomjpjcldaaMdAwake
import Derived.Test.YtecfoomjpjcldaaWrQuo
import Derived.Test.YtecfoomjpjcldaaShSame
import Derived.Deep.RegionWith
import Derived.Test.YtecfoomjpjcldaaTail
import Derived.RegionTactic
import Derived.Deep.Cut
import Derived.Deep.CutRange
import Derived.BigRegion
namespace Go.Proofs.Ytecfoomjpjcldaa
open Go.RowKit
set_option maxRecDepth 100000
/-- A word as few leaves it. -/
def fwd (P : Nat) (x : Wd) : Wr12 := ⟨fewP P x.place, x.sure % 4, (its x.l).map fewE⟩
/-- The index that a turn leads to. -/
theorem turn_all {n k : Nat} (t : Nat) (hk : k < n) : ∃ j, j < n ∧ (j + t) % n = k := by
  have ht : t % n < n := Nat.mod_lt _ (by omega)
  by_cases h : t % n ≤ k
  · refine ⟨k - t % n, by omega, ?_⟩
    rw [← Nat.add_mod_mod, Nat.sub_add_cancel h, Nat.mod_eq_of_lt hk]
  · refine ⟨k + n - t % n, by omega, ?_⟩
    rw [← Nat.add_mod_mod, Nat.sub_add_cancel (by omega), Nat.add_mod_right, Nat.mod_eq_of_lt hk]
theorem few_fit {X X' : List Ix} (h : its X' = (its X).map fewE) : ∀ x ∈ X', x.t.2.length ≤ 140737488355328 := by
  intro x hx
  have h1 : x.t ∈ its X' := List.mem_map.2 ⟨x, hx, rfl⟩
  rw [h] at h1
  obtain ⟨y, _, hy⟩ := List.mem_map.1 h1
  rw [← hy]; simp [fewE]
/-- Both menders, behind i rounds. -/
structure Mo12 (w z : World) (pa pb g P W A turn i : Nat) (ts : List Wd) : Prop where
  ma : ∃ h su t S, Md z pa [pb] P W A h su t ∧ HeardBy S h su (atT t) ∧ (∀ x, x ∈ S ↔ ∃ j, j < i ∧ x = fwd P (ts.getD j default)) ∧ (keysT t).length ≤ i * 30
  mb : ∃ h su t S, Md z pb [pa] P W A h su t ∧ HeardBy S h su (atT t) ∧ (∀ x, x ∈ S ↔ ∃ j, j < i ∧ x = fwd P (ts.getD ((j + turn) % ts.length) default)) ∧ (keysT t).length ≤ i * 60
  quo : Whole z g 23 (quC P W A)
  apart : g < pa ∧ pa < pb
  new : w.heap.size ≤ g
  frm : Frm [] w z
theorem Mo12.here {w z z' : World} {pa pb g P W A turn i : Nat} {ts : List Wd} (m : Mo12 w z pa pb g P W A turn i ts) (hf : Frm [] z z') : Mo12 w z' pa pb g P W A turn i ts := by
  obtain ⟨h, su, t, S, m1, m2⟩ := m.ma
  obtain ⟨h', su', t', S', m3, m4⟩ := m.mb
  exact ⟨⟨h, su, t, S, m1.here hf, m2⟩, ⟨h', su', t', S', m3.here hf, m4⟩, hf.whole m.quo (by simp), m.apart, m.new, m.frm.trans hf (by simp) (by simp)⟩
def Mor (w : World) (pa pb g P W A turn n : Nat) (ts : List Wd) (s38 : Value) (z : World) : Prop :=
  ∃ i : Nat, s38 = .int .i64 (i : Nat) ∧ i ≤ n ∧ Hid (Mo12 w z pa pb g P W A turn i ts)
/-- Two words in memory of their own. -/
structure Ww (w z : World) (g1 g2 : Nat) (C1 C2 : Array Value) : Prop where
  frm : Frm [] w z
  one : Whole z g1 67 C1
  two : Whole z g2 67 C2
  ne : g1 ≠ g2
  new : w.heap.size ≤ g1 ∧ w.heap.size ≤ g2
theorem Ww.flip {w z : World} {g1 g2 : Nat} {C1 C2 : Array Value} (h : Ww w z g1 g2 C1 C2) : Ww w z g2 g1 C2 C1 := ⟨h.frm, h.two, h.one, h.ne.symm, h.new.symm⟩
def wdC (pl : Int) (su : Nat) (a : Option Addr) (n c : Nat) (raw : Bool) : Array Value := #[.int .i64 pl, .int .u64 (su : Nat), .slice a n c, .bool raw]
/-- Behind few, twice. -/
structure Wf (w z : World) (F : List Nat) (P g1 g2 : Nat) (pl : Int) (su : Nat) (X : List Ix) (pl2 : Int) (su2 : Nat) (Y : List Ix) (a1 : Option Addr) (c1 : Nat) (X' : List Ix) (a2 : Option Addr) (c2 : Nat) (Y' : List Ix) : Prop where
  ww : Ww w z g1 g2 (wdC (fewP P pl : Nat) (su % 4) a1 X.length c1 false) (wdC (fewP P pl2 : Nat) (su2 % 4) a2 Y.length c2 false)
  x : its X' = (its X).map fewE ∧ IL z F a1 X'
  y : its Y' = (its Y).map fewE ∧ IL z F a2 Y'
set_option maxHeartbeats 16000000 in
theorem menderOrder_walk (n : Nat) (a : Option Addr) (len cap : Nat) (ts : List Wd) (turn : Nat) (w : World) (hn : n < 65536) (hts : Wds w a ts) (hlen : len = ts.length) (hl63 : len ≤ 9223372036854775807) (ht : turn < 256) :
    Calls Try.prog 7 #[.int .u16 (n : Nat), .slice a len cap, .int .u8 (turn : Nat)] w fun e w' => e = .returned (.bool true) ∧ Below w.heap.size w w' := by
  obtain ⟨Q, hQ⟩ : ∃ Q : Ending → World → Prop, Q = fun e w' => e = .returned (.bool true) ∧ Below w.heap.size w w' := ⟨_, rfl⟩
  rw [← hQ]
  have FIN : Hid (∀ z, Frm [] w z → Q (.returned (.bool true)) z) := Lib.hid fun z hz => by rw [hQ]; exact ⟨rfl, hz.below (by simp) (Nat.le_refl _)⟩
  have HQN := Lib.hid (fun z => quorum_any n z hn)
  have HTS := Lib.hid hts
  have HLEN := Lib.hid hlen
  clear hQ hts hlen
  go_enter Try.func7, Try.ntmps7
  go_wp2_with fail
  (with_reducible refine (awake12_any _).mono ?_)
  rintro e w1 ⟨rfl, hf1⟩
  have HF1 := Lib.hid hf1
  clear hf1
  by_cases h12 : 12 < len
  · have d1 : decide ((12 : Int) < (len : Int)) = true := decide_eq_true (by omega)
    have d2 : decide (12 < len) = true := decide_eq_true h12
    clear h12
    go_wp2
    exact FIN.out _ HF1.out
  have d1 : decide ((12 : Int) < (len : Int)) = false := decide_eq_false (by omega)
  have d2 : decide (12 < len) = false := decide_eq_false h12
  go_wp2_with fail
  (with_reducible refine (HQN.out _).mono ?_)
  rintro e w2 ⟨P, W, A, r1, r2, r3, r4, rfl, hf2⟩
  unfold quV
  have HF2 := Lib.hid (HF1.out.trans hf2 (U := []) (by simp) (by simp))
  have hok : okQ (P : Int) (W : Int) (A : Int) = true := by rw [okQ_iff]; omega
  clear hf2 HQN d1 d2
  obtain ⟨w3, hw3⟩ : ∃ w3, w3 = w2.alloc (.cells #[.int .i64 P, .int .i64 W, .int .i64 A] 23) := ⟨_, rfl⟩
  have HNA := Lib.hid (mdnew_ok P W A w3 hok [] (by simp))
  unfold quV at HNA
  go_wp2_with fail
  rw [← hw3]
  obtain ⟨g, hg⟩ : ∃ g, g = w2.heap.size := ⟨_, rfl⟩
  have HQ3 : Hid (Whole w3 g 23 (quC P W A)) := Lib.hid (by rw [hw3, hg]; exact Whole.made _ _ _)
  have hf3 : Frm [] w2 w3 := by rw [hw3]; exact (Frm.refl _ _).alloc _
  have HG3 : Hid (w.heap.size ≤ g ∧ g < w3.heap.size) := Lib.hid ⟨by rw [hg]; exact HF2.out.size, HQ3.out.lt⟩
  have HF3 := Lib.hid (HF2.out.trans hf3 (U := []) (by simp) (by simp))
  rw [← hg]
  clear hw3 hf3 hg
  (with_reducible refine HNA.out.mono ?_)
  rintro e w4 ⟨pa, rfl, hf4, hpa, hma⟩
  have HQ4 := Lib.hid (hf4.whole HQ3.out (by simp))
  have q0 := HQ4.out.cell 0
  have q1 := HQ4.out.cell 1
  have q2 := HQ4.out.cell 2
  simp [quC] at q0 q1 q2
  have hpl := hma.lt
  have HNB := Lib.hid (mdnew_ok P W A w4 hok [pa] (by simpa using hpl))
  unfold quV at HNB
  have HMA := Lib.hid hma
  have HPA : Hid (g < pa) := Lib.hid (by have := HG3.out; omega)
  have HF4 := Lib.hid (HF3.out.trans hf4 (U := []) (by simp) (by simp))
  clear hf4 hpa hma hpl HNA
  go_wp2_with fail
  (with_reducible refine HNB.out.mono ?_)
  rintro e w5 ⟨pb, rfl, hf5, hpb, hmb⟩
  have HMO : Hid (Mo12 w w5 pa pb g P W A turn 0 ts) := Lib.hid ⟨⟨_, _, _, [], HMA.out.keep hf5 (by simp) (fun x hx => by simp at hx; subst hx; exact .inr hpb), HeardBy.none, by simp, Nat.zero_le _⟩, ⟨_, _, _, [], hmb, HeardBy.none, by simp, Nat.zero_le _⟩, hf5.whole HQ4.out (by simp), ⟨HPA.out, by have := HMA.out.lt; omega⟩, HG3.out.1, HF4.out.trans hf5 (by simp) (by simp)⟩
  clear hf5 hpb hmb HNB HMA HPA HF4 HQ4 HQ3 HG3 HF3 HF2 HF1 q0 q1 q2 hok
  have HR0 : Hid (Mor w pa pb g P W A turn len ts (.int .i64 0) w5) := Lib.hid ⟨0, rfl, Nat.zero_le _, HMO⟩
  clear HMO
  go_wp2
  go_loopw [38] (fun s38 z => Mor w pa pb g P W A turn len ts s38 z) (fun s38 _ => len - (intOf s38).toNat)
  case atStart => exact HR0.out
  case round =>
    clear HR0
    obtain ⟨i, rfl, hi, HMO⟩ := hrel
    by_cases hlt : i < len
    · have hiL : i < ts.length := by rw [← HLEN.out]; exact hlt
      have hn0 : 0 < ts.length := by omega
      obtain ⟨j, hj⟩ : ∃ j, j = (i + turn) % len := ⟨_, rfl⟩
      have hjL : j < ts.length := by rw [hj, HLEN.out]; exact Nat.mod_lt _ hn0
      obtain ⟨b, off, ha, hat⟩ := (HTS.out.keep HMO.out.frm) hn0
      subst ha
      obtain ⟨c0, c1, c2, c3, okx⟩ := hat i hiL
      obtain ⟨e0, e1, e2, e3, oky⟩ := hat j hjL
      obtain ⟨x, hx⟩ : ∃ x, x = ts.getD i default := ⟨_, rfl⟩
      obtain ⟨y, hy⟩ : ∃ y, y = ts.getD j default := ⟨_, rfl⟩
      rw [← hx] at c0 c1 c2 c3 okx
      rw [← hy] at e0 e1 e2 e3 oky
      have HXE := Lib.hid hx
      have HYE := Lib.hid hy
      have HJ := Lib.hid hj
      have b1 : ((i : Int) + (turn : Int)).tmod (len : Int) = (j : Int) := by rw [hj, show ((i : Int) + (turn : Int)) = ((i + turn : Nat) : Int) by omega]; exact modI _ _
      have b2 : IntKind.i64.wrap ((i : Int) + (turn : Int)) = (i : Int) + (turn : Int) := IntWalk.i64_in _ (by omega)
      have b3 : (j : Int) < (len : Int) := by rw [← HLEN.out] at hjL; omega
      have b4 : (len : Int) ≠ 0 := by omega
      have b6 : len ≠ 0 := by omega
      have b7 : b < wr.heap.size := block_lt_of_cell c0
      have b8 : b ≠ wr.heap.size := by omega
      have b9 : b ≠ wr.heap.size + 1 := by omega
      have b5 : IntKind.i64.wrap (turn : Int) = (turn : Int) := IntWalk.i64_in _ (by omega)
      obtain ⟨pl, su, la, lc, X, raw⟩ := x
      obtain ⟨pl2, su2, la2, lc2, Y, raw2⟩ := y
      simp only at c0 c1 c2 c3 e0 e1 e2 e3
      obtain ⟨xn, hxn⟩ : ∃ xn, xn = X.length := ⟨_, rfl⟩
      obtain ⟨yn, hyn⟩ : ∃ yn, yn = Y.length := ⟨_, rfl⟩
      rw [← hxn] at c2
      rw [← hyn] at e2
      have HXN := Lib.hid hxn
      have HYN := Lib.hid hyn
      have HOX := Lib.hid okx
      have HOY := Lib.hid oky
      clear hat hx hy hj hxn hyn okx oky hn0 hiL hjL
      go_upto_region 11 with fail
      go_cut [13, 14, 38] from 38 to 104 (fun v13 v14 v38 wx => v38 = .int .i64 (i : Nat) ∧ ∃ g1 g2, v13 = .pointer (some ⟨g1, 0, none⟩) ∧ v14 = .pointer (some ⟨g2, 0, none⟩) ∧ Hid (Ww wr wx g1 g2 (wdC pl su la xn lc raw) (wdC pl2 su2 la2 yn lc2 raw2)))
      case first =>
        have hwo : ∀ C1 C2 : Array Value, Ww wr (((wr.alloc (.cells C1 67)).alloc (.cells C2 67)).drew) wr.heap.size (wr.heap.size + 1) C1 C2 := fun C1 C2 => ⟨(((Frm.refl _ _).alloc _).alloc _).drew, ((Whole.made wr _ C1).alloc _).drew, by
          have := Whole.made (wr.alloc (.cells C1 67)) 67 C2
          rw [World.size_alloc] at this; exact this.drew, by omega, by omega⟩
        have HWO := Lib.hid hwo
        clear hwo
        go_region
        all_goals
          go_wp2_with fail
          go_meet
          first
          | exact ⟨rfl, _, _, rfl, rfl, Lib.hid (HWO.out _ _)⟩
          | exact ⟨rfl, _, _, rfl, rfl, Lib.hid (HWO.out _ _).flip⟩
      case rest =>
        obtain ⟨rfl, g1, g2, rfl, rfl, HWW⟩ := hcut
        clear c0 c1 c2 c3 e0 e1 e2 e3 b1 b2 b3 b4 b5 b6 b7 b8 b9
        have hne := HWW.out.ne
        have z1 := HWW.out.one.free 3
        have z2 := HWW.out.two.free 3
        have x3 := HWW.out.one.cell 3
        have y3 := HWW.out.two.cell 3
        have x2 := HWW.out.one.cell 2
        have y2 := HWW.out.two.cell 2
        simp [wdC] at x3 y3 x2 y2
        have HW2 : Hid (Ww wr ((wc.setCell ⟨g1, 3, none⟩ (.bool false)).setCell ⟨g2, 3, none⟩ (.bool false)) g1 g2 (wdC pl su la xn lc false) (wdC pl2 su2 la2 yn lc2 false)) := Lib.hid (by
          have h1 := (HWW.out.one.put 3 (.bool false)).other (p := ⟨g2, 3, none⟩) hne (.bool false)
          have h2 := (HWW.out.two.other (p := ⟨g1, 3, none⟩) (Ne.symm hne) (.bool false)).put 3 (.bool false)
          refine ⟨(HWW.out.frm.setCell (.inr HWW.out.new.1) _).setCell (.inr HWW.out.new.2) _, by simpa [wdC] using h1, by simpa [wdC] using h2, hne, HWW.out.new⟩)
        by_cases hb1 : 30 < xn
        · have d1 : decide ((30 : Int) < (xn : Int)) = true := decide_eq_true (by omega)
          have d2 : decide (30 < xn) = true := decide_eq_true hb1
          go_wp2
          exact FIN.out _ (HMO.out.frm.trans HW2.out.frm (by simp) (by simp))
        have d1 : decide ((30 : Int) < (xn : Int)) = false := decide_eq_false (by omega)
        have d2 : decide (30 < xn) = false := decide_eq_false hb1
        by_cases hb2 : 30 < yn
        · have d3 : decide ((30 : Int) < (yn : Int)) = true := decide_eq_true (by omega)
          have d4 : decide (30 < yn) = true := decide_eq_true hb2
          go_wp2
          exact FIN.out _ (HMO.out.frm.trans HW2.out.frm (by simp) (by simp))
        have d3 : decide ((30 : Int) < (yn : Int)) = false := decide_eq_false (by omega)
        have d4 : decide (30 < yn) = false := decide_eq_false hb2
        go_upto_region 15 with fail
        obtain ⟨wq, hwq⟩ : ∃ wq, wq = (wc.setCell ⟨g1, 3, none⟩ (.bool false)).setCell ⟨g2, 3, none⟩ (.bool false) := ⟨_, rfl⟩
        rw [← hwq] at HW2 ⊢
        clear hwq z1 z2 x3 y3 x2 y2 d1 d2 d3 d4 HWW
        go_cut [38] from 38 to 104 (fun v38 wx => v38 = .int .i64 (i : Nat) ∧ ∃ a1 c1 X' a2 c2 Y', Hid (Wf wr wx [pa, pb, g1, g2] P g1 g2 pl su X pl2 su2 Y a1 c1 X' a2 c2 Y'))
        case first =>
          have hS0 := Frm.refl [] wq
          have hW2 := HW2.out
          have K0 : ∀ z, Frm [] wq z → z.cell? ⟨g1, 0, none⟩ = some (.int .i64 pl) := fun z hz => (hz.whole hW2.one (by simp)).cell 0
          have K1 : ∀ z, Frm [] wq z → z.cell? ⟨g1, 1, none⟩ = some (.int .u64 (su : Nat)) := fun z hz => (hz.whole hW2.one (by simp)).cell 1
          have K2 : ∀ z, Frm [] wq z → z.cell? ⟨g1, 2, none⟩ = some (.slice la xn lc) := fun z hz => (hz.whole hW2.one (by simp)).cell 2
          have K3 : ∀ z, Frm [] wq z → z.cell? ⟨g1, 3, none⟩ = some (.bool false) := fun z hz => (hz.whole hW2.one (by simp)).cell 3
          have L0 : ∀ z, Frm [] wq z → z.cell? ⟨g2, 0, none⟩ = some (.int .i64 pl2) := fun z hz => (hz.whole hW2.two (by simp)).cell 0
          have L1 : ∀ z, Frm [] wq z → z.cell? ⟨g2, 1, none⟩ = some (.int .u64 (su2 : Nat)) := fun z hz => (hz.whole hW2.two (by simp)).cell 1
          have L2 : ∀ z, Frm [] wq z → z.cell? ⟨g2, 2, none⟩ = some (.slice la2 yn lc2) := fun z hz => (hz.whole hW2.two (by simp)).cell 2
          have L3 : ∀ z, Frm [] wq z → z.cell? ⟨g2, 3, none⟩ = some (.bool false) := fun z hz => (hz.whole hW2.two (by simp)).cell 3
          have hqq := hW2.frm.whole HMO.out.quo (by simp)
          have Q0 : ∀ z, Frm [] wq z → z.cell? ⟨g, 0, none⟩ = some (.int .i64 (P : Nat)) := fun z hz => (hz.whole hqq (by simp)).cell 0
          have Q1 : ∀ z, Frm [] wq z → z.cell? ⟨g, 1, none⟩ = some (.int .i64 (W : Nat)) := fun z hz => (hz.whole hqq (by simp)).cell 1
          have Q2 : ∀ z, Frm [] wq z → z.cell? ⟨g, 2, none⟩ = some (.int .i64 (A : Nat)) := fun z hz => (hz.whole hqq (by simp)).cell 2
          have hlow : ∀ x ∈ [pa, pb, g1, g2], x < wq.heap.size := by
            obtain ⟨_, _, _, _, m1, _⟩ := HMO.out.ma
            obtain ⟨_, _, _, _, m2, _⟩ := HMO.out.mb
            have h1 := m1.lt
            have h2 := m2.lt
            have h3 := hW2.frm.size
            have h4 := hW2.one.lt
            have h5 := hW2.two.lt
            intro x hx
            simp at hx
            rcases hx with rfl | rfl | rfl | rfl <;> omega
          have HFX := Lib.hid (fun z (hz : Frm [] wq z) => few_any pl su la lc X P W A z [pa, pb, g1, g2] ((HOX.out.l_b).keep (hW2.frm.trans hz (U := []) (by simp) (by simp)) (F' := []) (by simp) (by simp)) (by omega) r4 HOX.out.sure_lt (by rw [← HXN.out]; omega) (fun x hx => by have := hlow x hx; have := hz.size; omega))
          have HFY := Lib.hid (fun z (hz : Frm [] wq z) => few_any pl2 su2 la2 lc2 Y P W A z [pa, pb, g1, g2] ((HOY.out.l_b).keep (hW2.frm.trans hz (U := []) (by simp) (by simp)) (F' := []) (by simp) (by simp)) (by omega) r4 HOY.out.sure_lt (by rw [← HYN.out]; omega) (fun x hx => by have := hlow x hx; have := hz.size; omega))
          rw [← HXN.out] at HFX
          rw [← HYN.out] at HFY
          unfold quV at HFX HFY
          have Z0 : ∀ z, Frm [] wq z → z.frozen? ⟨g1, 0, none⟩ = false := fun z hz => (hz.whole hW2.one (by simp)).free 0
          have Z1 : ∀ z, Frm [] wq z → z.frozen? ⟨g1, 1, none⟩ = false := fun z hz => (hz.whole hW2.one (by simp)).free 1
          have Z2 : ∀ z, Frm [] wq z → z.frozen? ⟨g1, 2, none⟩ = false := fun z hz => (hz.whole hW2.one (by simp)).free 2
          have Z3 : ∀ z, Frm [] wq z → z.frozen? ⟨g1, 3, none⟩ = false := fun z hz => (hz.whole hW2.one (by simp)).free 3
          have Y0 : ∀ z, Frm [] wq z → z.frozen? ⟨g2, 0, none⟩ = false := fun z hz => (hz.whole hW2.two (by simp)).free 0
          have Y1 : ∀ z, Frm [] wq z → z.frozen? ⟨g2, 1, none⟩ = false := fun z hz => (hz.whole hW2.two (by simp)).free 1
          have Y2 : ∀ z, Frm [] wq z → z.frozen? ⟨g2, 2, none⟩ = false := fun z hz => (hz.whole hW2.two (by simp)).free 2
          have Y3 : ∀ z, Frm [] wq z → z.frozen? ⟨g2, 3, none⟩ = false := fun z hz => (hz.whole hW2.two (by simp)).free 3
          clear hW2 hqq hlow
          refine wp_region_tail (S := fun w' => Frm [] wq w') (tl := (fun j => j == 6 || j == 7)) (by kernel_rfl) (Frm.drew (Frm.refl _ _)) (fun hHeld => ?_)
          refine tail_take (i := 0) (oi := ⟨some 67, _, _, _, _, _⟩) (v := ?_) rfl (by kernel_rfl) (by kernel_rfl) (by kernel_rfl) (by kernel_rfl) (by kernel_rfl) (fun _ _ _ h => h) (Or.inl ⟨by rfl, ?_⟩) (by assumption) ?_
          rotate_left 1
          · (intro w hSw; (try dsimp only at hSw); go_simp; all_goals with_reducible rfl)
          try simp only [Act.put, List.setIfInBounds_toArray, List.set_cons_zero, List.set_cons_succ]
          refine tail_take (i := 1) (oi := ⟨some 68, _, _, _, _, _⟩) (v := ?_) rfl (by kernel_rfl) (by kernel_rfl) (by kernel_rfl) (by kernel_rfl) (by kernel_rfl) (fun _ _ _ h => h) (Or.inl ⟨by rfl, ?_⟩) (by assumption) ?_
          rotate_left 1
          · (intro w hSw; (try dsimp only at hSw); go_simp; all_goals with_reducible rfl)
          try simp only [Act.put, List.setIfInBounds_toArray, List.set_cons_zero, List.set_cons_succ]
          refine tail_take (i := 3) (oi := ⟨some 70, _, _, _, _, _⟩) (v := ?_) rfl (by kernel_rfl) (by kernel_rfl) (by kernel_rfl) (by kernel_rfl) (by kernel_rfl) (fun _ _ _ h => h) (Or.inl ⟨by rfl, ?_⟩) (by assumption) ?_
          rotate_left 1
          · (intro w hSw; (try dsimp only at hSw); go_simp; all_goals with_reducible rfl)
          try simp only [Act.put, List.setIfInBounds_toArray, List.set_cons_zero, List.set_cons_succ]
          refine tail_take (i := 4) (oi := ⟨some 71, _, _, _, _, _⟩) (v := ?_) rfl (by kernel_rfl) (by kernel_rfl) (by kernel_rfl) (by kernel_rfl) (by kernel_rfl) (fun _ _ _ h => h) (Or.inl ⟨by rfl, ?_⟩) (by assumption) ?_
          rotate_left 1
          · (intro w hSw; (try dsimp only at hSw); go_simp; all_goals with_reducible rfl)
          try simp only [Act.put, List.setIfInBounds_toArray, List.set_cons_zero, List.set_cons_succ]
          refine tail_one (i := 2) (o := ⟨some 69, _, _, _, _, _⟩) (by kernel_rfl) rfl (fun K hK => ?_)
          go_simp
          ((with_reducible refine (HFX.out _ (by repeat (first | assumption | apply Frm.drew | exact Frm.refl _ _))).mono ?_); rintro ex wx1 ⟨a1, c1, X', hx1, rfl, hx2, hfx⟩; have S1 : Frm [] wq wx1 := Frm.trans (by repeat (first | assumption | apply Frm.drew | exact Frm.refl _ _)) hfx (by simp) (by simp); clear hfx)
          go_wp2_with fail
          refine hK.out _ _ (fun _ => by assumption) (fun _ => ?_)
          clear hK K
          try simp only [Act.put, List.setIfInBounds_toArray, List.set_cons_zero, List.set_cons_succ]
          refine tail_one (i := 5) (o := ⟨some 72, _, _, _, _, _⟩) (by kernel_rfl) rfl (fun K hK => ?_)
          go_simp
          ((with_reducible refine (HFY.out _ (by repeat (first | assumption | apply Frm.drew | exact Frm.refl _ _))).mono ?_); rintro ey wy1 ⟨a2, c2, Y', hy1, rfl, hy2, hfy⟩; have hx3 := hx2.keep hfy (F' := [pa, pb, g1, g2]) (by simp) (fun x hx => .inl hx); have S2 : Frm [] wq wy1 := Frm.trans (by assumption) hfy (by simp) (by simp); clear hfy)
          go_wp2_with fail
          refine hK.out _ _ (fun _ => by assumption) (fun _ => ?_)
          clear hK K
          try simp only [Act.put, List.setIfInBounds_toArray, List.set_cons_zero, List.set_cons_succ]
          refine tail_one (i := 6) (o := ⟨none, _, _, _, _, _⟩) (by kernel_rfl) rfl (fun K hK => ?_)
          go_simp
          refine hK.out _ _ (fun h => absurd h (by decide)) (fun _ => ?_)
          clear hK K
          try simp only [Act.put, List.setIfInBounds_toArray, List.set_cons_zero, List.set_cons_succ]
          refine tail_one (i := 7) (o := ⟨none, _, _, _, _, _⟩) (by kernel_rfl) rfl (fun K hK => ?_)
          go_simp
          refine hK.out _ _ (fun h => absurd h (by decide)) (fun _ => ?_)
          clear hK K
          try simp only [Act.put, List.setIfInBounds_toArray, List.set_cons_zero, List.set_cons_succ]
          refine tail_done (by kernel_rfl) ?_ _
          have HWF : Hid (Wf wr ((((((((wy1.setCell ⟨g1, 0, none⟩ (.int .i64 (fewP P pl : Nat))).setCell ⟨g1, 1, none⟩ (.int .u64 ((su : Int) % 4))).setCell ⟨g1, 2, none⟩ (.slice a1 X.length c1)).setCell ⟨g1, 3, none⟩ (.bool false)).setCell ⟨g2, 0, none⟩ (.int .i64 (fewP P pl2 : Nat))).setCell ⟨g2, 1, none⟩ (.int .u64 ((su2 : Int) % 4))).setCell ⟨g2, 2, none⟩ (.slice a2 Y.length c2)).setCell ⟨g2, 3, none⟩ (.bool false)) [pa, pb, g1, g2] P g1 g2 pl su X pl2 su2 Y a1 c1 X' a2 c2 Y') := Lib.hid (by
            have hW2 := HW2.out
            have hfs : Frm [g1, g2] wy1 ((((((((wy1.setCell ⟨g1, 0, none⟩ (.int .i64 (fewP P pl : Nat))).setCell ⟨g1, 1, none⟩ (.int .u64 ((su : Int) % 4))).setCell ⟨g1, 2, none⟩ (.slice a1 X.length c1)).setCell ⟨g1, 3, none⟩ (.bool false)).setCell ⟨g2, 0, none⟩ (.int .i64 (fewP P pl2 : Nat))).setCell ⟨g2, 1, none⟩ (.int .u64 ((su2 : Int) % 4))).setCell ⟨g2, 2, none⟩ (.slice a2 Y.length c2)).setCell ⟨g2, 3, none⟩ (.bool false)) :=
              ((((((((Frm.refl _ _).setCell (.inl (by simp)) _).setCell (.inl (by simp)) _).setCell (.inl (by simp)) _).setCell (.inl (by simp)) _).setCell (.inl (by simp)) _).setCell (.inl (by simp)) _).setCell (.inl (by simp)) _).setCell (.inl (by simp)) _
            have h1 := S2.whole hW2.one (by simp)
            have h2 := S2.whole hW2.two (by simp)
            have k1 := (((((((h1.put 0 (.int .i64 (fewP P pl : Nat))).put 1 (.int .u64 ((su : Int) % 4))).put 2 (.slice a1 X.length c1)).put 3 (.bool false)).other (p := ⟨g2, 0, none⟩) hne (.int .i64 (fewP P pl2 : Nat))).other (p := ⟨g2, 1, none⟩) hne (.int .u64 ((su2 : Int) % 4))).other (p := ⟨g2, 2, none⟩) hne (.slice a2 Y.length c2)).other (p := ⟨g2, 3, none⟩) hne (.bool false)
            have k2 := (((((((h2.other (p := ⟨g1, 0, none⟩) (Ne.symm hne) (.int .i64 (fewP P pl : Nat))).other (p := ⟨g1, 1, none⟩) (Ne.symm hne) (.int .u64 ((su : Int) % 4))).other (p := ⟨g1, 2, none⟩) (Ne.symm hne) (.slice a1 X.length c1)).other (p := ⟨g1, 3, none⟩) (Ne.symm hne) (.bool false)).put 0 (.int .i64 (fewP P pl2 : Nat))).put 1 (.int .u64 ((su2 : Int) % 4))).put 2 (.slice a2 Y.length c2)).put 3 (.bool false)
            have hin : ∀ x ∈ [g1, g2], x ∈ [pa, pb, g1, g2] ∨ wy1.heap.size ≤ x := fun x hx => by simp at hx; rcases hx with rfl | rfl <;> simp
            refine ⟨⟨(hW2.frm.trans S2 (U := []) (by simp) (by simp)).trans hfs (by simp) (fun x hx => .inr ?_), by simpa [wdC] using k1, by simpa [wdC] using k2, hne, hW2.new⟩, ⟨hx1, hx3.keep hfs hin (fun x hx => .inl hx)⟩, ⟨hy1, hy2.keep hfs hin (fun x hx => .inl hx)⟩⟩
            simp at hx; rcases hx with rfl | rfl
            · exact hW2.new.1
            · exact hW2.new.2)
          go_wp2_with fail
          go_meet
          case rel => exact ⟨rfl, a1, c1, X', a2, c2, Y', HWF⟩
        case rest =>
          obtain ⟨rfl, a1, c1, X', a2, c2, Y', HWF⟩ := hcut
          have hmo := HMO.out.here HWF.out.ww.frm
          have HI := Lib.hid hmo
          have hap := hmo.apart
          have hg1 : pa < g1 ∧ pb < g1 ∧ pa < g2 ∧ pb < g2 := by
            obtain ⟨_, _, _, _, m1, _⟩ := HMO.out.ma
            obtain ⟨_, _, _, _, m2, _⟩ := HMO.out.mb
            have h1 := m1.lt
            have h2 := m2.lt
            have h3 := HW2.out.new
            omega
          have HG1 := Lib.hid hg1
          obtain ⟨h, hsu, t, S, ma, hba, hsa, hka⟩ := hmo.ma
          obtain ⟨h', hsu', t', S', mb, hbb, hsb, hkb⟩ := hmo.mb
          have hlX : X'.length = X.length := by have := congrArg List.length HWF.out.x.1; simpa [its] using this
          have hlY : Y'.length = Y.length := by have := congrArg List.length HWF.out.y.1; simpa [its] using this
          have hfitX : ∀ x ∈ X', x.t.2.length ≤ 140737488355328 := few_fit HWF.out.x.1
          have hfitY : ∀ x ∈ Y', x.t.2.length ≤ 140737488355328 := few_fit HWF.out.y.1
          have HFY := Lib.hid hfitY
          have HLY := Lib.hid hlY
          have HA := hear_any (fewP P pl : Nat) (su % 4) a1 X.length c1 X' ma (by omega) HWF.out.x.2 hlX.symm hfitX (by have := HXN.out; omega) (by simpa using mb.lt)
          have HA := Lib.hid HA
          have x0 := HWF.out.ww.one.cell 0
          have x1 := HWF.out.ww.one.cell 1
          have x2 := HWF.out.ww.one.cell 2
          simp [wdC] at x0 x1 x2
          rw [show ((su % 4 : Nat) : Int) = (su : Int) % 4 by omega] at HA
          have HBA := Lib.hid hba
          have HBB := Lib.hid hbb
          have HSA := Lib.hid hsa
          have HSB := Lib.hid hsb
          have HKA := Lib.hid hka
          have HKB := Lib.hid hkb
          have HMB := Lib.hid mb
          have HPL := Lib.hid ma.lt
          clear hmo hap hg1 ma mb hba hbb hsa hsb hka hkb hlX hlY hfitX hfitY
          go_wp2_with fail
          (with_reducible refine HA.out.mono ?_)
          rintro e w6 (⟨hb, rfl, hf6⟩ | ⟨pn, hpn, _, _, ⟨hno, rfl, hf6⟩ | ⟨t6, hyes, rfl, hf6, hm6⟩⟩)
          · have HZ := Lib.hid (FIN.out _ (HI.out.frm.trans hf6 (U := []) (by simp) (by simp)))
            clear hb hf6 HA x0 x1 x2
            go_wp2
            exact HZ.out
          · have HZ := Lib.hid (FIN.out _ (HI.out.frm.trans hf6 (U := []) (by simp) (by simp)))
            clear hno hf6 HA x0 x1 x2 hpn
            go_wp2
            exact HZ.out
          obtain rfl : fewP P pl = pn := by omega
          have HM6 := Lib.hid hm6
          have HY6 := Lib.hid hyes
          have HF6 := Lib.hid hf6
          have hmb6 := HMB.out.keep hf6 (F' := [pa]) (fun x hx => .inl hx) (fun x hx => .inl hx)
          have HX6 := Lib.hid (HWF.out.y.2.keep hf6 (F' := [pa, pb, g1, g2]) (fun x hx => .inl (by simp at hx; simp [hx])) (fun x hx => .inl hx))
          have hY6 := hf6.whole HWF.out.ww.two (by have := HG1.out; simp; omega)
          have y0 := hY6.cell 0
          have y1 := hY6.cell 1
          have y2 := hY6.cell 2
          simp [wdC] at y0 y1 y2
          have HB := hear_any (fewP P pl2 : Nat) (su2 % 4) a2 Y.length c2 Y' hmb6 (by omega) HX6.out HLY.out.symm HFY.out (by have := HYN.out; omega) (by have := HM6.out.lt; simpa using this)
          rw [show ((su2 % 4 : Nat) : Int) = (su2 : Int) % 4 by omega] at HB
          have HB := Lib.hid HB
          have HFW6 : Hid (Frm [] w w6) := Lib.hid (HI.out.frm.trans hf6 (by simp) (fun x hx => .inr (by have := HI.out.apart; have := HI.out.new; simp at hx; omega)))
          clear hpn hyes hf6 hm6 hmb6 hY6 x0 x1 x2 HA
          go_wp2_with fail
          (with_reducible refine HB.out.mono ?_)
          rintro e w7 (⟨hb, rfl, hf7⟩ | ⟨pn, hpn, _, _, ⟨hno, rfl, hf7⟩ | ⟨t7, hyes, rfl, hf7, hm7⟩⟩)
          · have HZ := Lib.hid (FIN.out _ (HFW6.out.trans hf7 (U := []) (by simp) (by simp)))
            clear hb hf7 HB y0 y1 y2
            go_wp2
            exact HZ.out
          · have HZ := Lib.hid (FIN.out _ (HFW6.out.trans hf7 (U := []) (by simp) (by simp)))
            clear hno hf7 HB y0 y1 y2 hpn
            go_wp2
            exact HZ.out
          obtain rfl : fewP P pl2 = pn := by omega
          have HM7 := Lib.hid hm7
          have HY7 := Lib.hid hyes
          have hma7 := HM6.out.keep hf7 (F' := [pb]) (fun x hx => .inl hx) (fun x hx => .inl hx)
          have HX7 := Lib.hid (HX6.out.keep hf7 (F' := [pa, pb, g1, g2]) (fun x hx => .inl (by simp at hx; simp [hx])) (fun x hx => .inl hx))
          have hY7 := hf7.whole (HF6.out.whole HWF.out.ww.two (by have := HG1.out; simp; omega)) (by have := HG1.out; simp; omega)
          have y0 := hY7.cell 0
          have y1 := hY7.cell 1
          have y2 := hY7.cell 2
          simp [wdC] at y0 y1 y2
          have HC := hear_any (fewP P pl2 : Nat) (su2 % 4) a2 Y.length c2 Y' hm7 (by omega) HX7.out HLY.out.symm HFY.out (by have := HYN.out; omega) (by have := hma7.lt; simpa using this)
          rw [show ((su2 % 4 : Nat) : Int) = (su2 : Int) % 4 by omega] at HC
          have HC := Lib.hid HC
          have HMA7 := Lib.hid hma7
          have HFW7 : Hid (Frm [] w w7) := Lib.hid (HFW6.out.trans hf7 (by simp) (fun x hx => .inr (by have := HI.out.apart; have := HI.out.new; simp at hx; omega)))
          have HF7 := Lib.hid hf7
          clear hpn hyes hf7 hm7 hma7 hY7 HB
          go_wp2_with fail
          (with_reducible refine HC.out.mono ?_)
          rintro e w8 (⟨hb, rfl, hf8⟩ | ⟨pn, hpn, _, _, ⟨hno, rfl, hf8⟩ | ⟨t8, hyes, rfl, hf8, hm8⟩⟩)
          · have HZ := Lib.hid (FIN.out _ (HFW7.out.trans hf8 (U := []) (by simp) (by simp)))
            clear hb hf8 HC y0 y1 y2
            go_wp2
            exact HZ.out
          · have HZ := Lib.hid (FIN.out _ (HFW7.out.trans hf8 (U := []) (by simp) (by simp)))
            clear hno hf8 HC y0 y1 y2 hpn
            go_wp2
            exact HZ.out
          obtain rfl : fewP P pl2 = pn := by omega
          obtain ⟨m, hm⟩ : ∃ m, m = i + 1 := ⟨_, rfl⟩
          have HREL : Hid (Mor w pa pb g P W A turn len ts (.int .i64 (m : Nat)) w8) := Lib.hid (by
            have hxX := HWF.out.x.1
            have hyY := HWF.out.y.1
            have hap := HI.out.apart
            have hnw := HI.out.new
            refine ⟨m, rfl, by omega, Lib.hid ⟨⟨_, _, _, _, HMA7.out.keep hf8 (F' := [pb]) (fun x hx => .inl hx) (fun x hx => .inl hx), HBA.out.hear ⟨fewP P pl, su % 4, its X'⟩ HY6.out, ?_, ?_⟩, ⟨_, _, _, _, hm8, (HBB.out.hear ⟨fewP P pl2, su2 % 4, its Y'⟩ HY7.out).hear ⟨fewP P pl2, su2 % 4, its Y'⟩ hyes, ?_, ?_⟩, (hf8.whole (HF7.out.whole (HF6.out.whole HI.out.quo (by simp; omega)) (by simp; omega)) (by simp; omega)), hap, hnw, HFW7.out.trans hf8 (by simp) (fun x hx => .inr (by simp at hx; omega))⟩⟩
            · rw [hm]
              refine set_snoc HSA.out ?_
              show _ = fwd P (ts.getD i default)
              rw [← HXE.out, hxX]; rfl
            · have h1 := keys_join HY6.out
              rw [its_length] at h1
              have h2 := HKA.out
              have h3 : X'.length = X.length := by have := congrArg List.length hxX; simpa [its] using this
              have h4 := HXN.out
              omega
            · rw [hm]
              have hfy : (⟨fewP P pl2, su2 % 4, its Y'⟩ : Wr12) = (fun j => fwd P (ts.getD ((j + turn) % ts.length) default)) i := by
                show _ = fwd P (ts.getD ((i + turn) % ts.length) default)
                rw [← HLEN.out, ← HJ.out, ← HYE.out, hyY]; rfl
              have h1 := set_snoc (f := fun j => fwd P (ts.getD ((j + turn) % ts.length) default)) HSB.out hfy
              intro x
              rw [List.mem_cons, h1]
              constructor
              · rintro (rfl | h2)
                · exact ⟨i, by omega, hfy⟩
                · exact h2
              · exact .inr
            · have h1 := keys_join HY7.out
              have h1' := keys_join hyes
              rw [its_length] at h1 h1'
              have h2 := HKB.out
              have h3 := HLY.out
              have h4 := HYN.out
              omega)
          have hwm : IntKind.i64.wrap ((i : Int) + 1) = ((i + 1 : Nat) : Int) := by rw [IntWalk.i64_in _ (by omega)]; rfl
          rw [← hm] at hwm
          clear hpn hyes hf8 hm8 HC y0 y1 y2
          go_wp2
          go_roundw
          case rel => first | exact HREL.out | (rw [show ((i : Int) + 1) = (m : Int) by omega]; exact HREL.out)
          case measure => simp [intOf]; omega
    · obtain rfl : i = len := by omega
      obtain ⟨h, su, t, S, ma, hba, hsa, hka⟩ := HMO.out.ma
      obtain ⟨h', su', t', S', mb, hbb, hsb, hkb⟩ := HMO.out.mb
      obtain ⟨rfl, rfl, hft⟩ := hba.same hbb (fun x => by
        rw [hsa, hsb]
        constructor
        · rintro ⟨j, hj, rfl⟩
          obtain ⟨j', hj', he⟩ := turn_all turn hj
          exact ⟨j', hj', by rw [← HLEN.out, he]⟩
        · rintro ⟨j, hj, rfl⟩
          exact ⟨(j + turn) % ts.length, by rw [← HLEN.out]; exact Nat.mod_lt _ (by omega), rfl⟩)
      have hap := HMO.out.apart
      have HRA := Lib.hid (result_u ma (by omega) (by simpa using mb.lt))
      have HRB := Lib.hid (fun z (hz : Frm [] wr z) => result_u (mb.here hz) (by omega) (by have := ma.lt; have := hz.size; simp; omega))
      have HDA := Lib.hid (fun z (hz : Frm [] wr z) => ready_any (ma.here hz))
      have HDB := Lib.hid (fun z (hz : Frm [] wr z) => ready_any (mb.here hz))
      have HFT := Lib.hid hft
      have HFW := Lib.hid HMO.out.frm
      obtain ⟨rd, hrd⟩ : ∃ rd, rd = covN P W A (hrdL h) := ⟨_, rfl⟩
      rw [← hrd] at HDA HDB
      clear ma mb hba hbb hsa hsb hka hkb hft hap hrd HMO
      go_wp2_with fail
      (with_reducible refine HRA.out.mono ?_)
      rintro e w6 ⟨code, a1, c1, X, rfl, hv, hX16, hil, hcap, hf6⟩
      have HV := Lib.hid hv
      have HIL := Lib.hid hil
      have HF6 := Lib.hid hf6
      obtain ⟨xn, hxn⟩ : ∃ xn, xn = X.length := ⟨_, rfl⟩
      rw [← hxn] at hX16 ⊢
      have HXN := Lib.hid hxn
      clear hv hil hf6 hcap hxn HRA
      go_wp2_with fail
      (with_reducible refine (HRB.out _ HF6.out).mono ?_)
      rintro e w7 ⟨code', a2, c2, Y, rfl, hv, hY16, hil, hcap, hf7⟩
      obtain ⟨hcc, hll⟩ := HV.out.one (by rw [HFT.out]; exact hv)
      have hlen2 : Y.length = X.length := by have := congrArg List.length hll; simpa [its] using this.symm
      subst hcc
      rw [hlen2, ← HXN.out]
      have HF7 := Lib.hid (HF6.out.trans hf7 (U := []) (by simp) (by simp))
      have HSA := Lib.hid (fun z (hz : Frm [] w7 z) => sameItems_true a1 a2 xn c1 c2 X Y [] [] z (HIL.out.keep (hf7.trans hz (U := []) (by simp) (by simp)) (by simp) (by simp)) (hil.keep hz (by simp) (by simp)) HXN.out hll (by omega))
      clear hv hil hf7 hcap hll hlen2 HRB
      go_wp2_with fail
      (with_reducible refine (HSA.out _ (Frm.refl _ _)).mono ?_)
      rintro e w8 ⟨rfl, hf8⟩
      have HF8 := Lib.hid (HF7.out.trans hf8 (U := []) (by simp) (by simp))
      clear hf8 HSA
      go_wp2_with fail
      (with_reducible refine (HDA.out _ HF8.out).mono ?_)
      rintro e w9 ⟨rfl, hf9⟩
      have HF9 := Lib.hid (HF8.out.trans hf9 (U := []) (by simp) (by simp))
      clear hf9 HDA
      go_wp2_with fail
      (with_reducible refine (HDB.out _ HF9.out).mono ?_)
      rintro e wx ⟨rfl, hfx⟩
      have HFX := Lib.hid (FIN.out _ (HFW.out.trans (HF9.out.trans hfx (U := []) (by simp) (by simp)) (by simp) (by simp)))
      clear hfx HDB
      cases rd
      · go_wp2
        exact HFX.out
      · go_wp2
        exact HFX.out
end Go.Proofs.Ytecfoomjpjcldaa
