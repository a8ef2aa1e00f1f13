/- The walk of MenderMore. -/
import Derived.Test.YtecfoomjpjcldaaMdMoreM
import Derived.Test.YtecfoomjpjcldaaMdFew
import Derived.Test.YtecfoomjpjcldaaMdAwake
import Derived.Test.YtecfoomjpjcldaaWrQuo
import Derived.Test.YtecfoomjpjcldaaShSame
import Derived.Deep.Cut
import Derived.Deep.CutRange
namespace Go.Proofs.Ytecfoomjpjcldaa
open Go.RowKit
set_option maxRecDepth 100000
theorem keyM : Try.prog.underlying 39 = some (.int .u64) := by kernel_rfl
theorem zeroStr (w : World) : (zeroValue 9).run Try.prog w = .ok (.string ⟨#[]⟩) w := by kernel_rfl
theorem sizeItM (w : World) : (Go.sizeOf 55).run Try.prog w = .ok 2 w := by kernel_rfl
theorem few_fitM {X X' : List Ix} (h : its X' = (its X).map fewE) : ∀ x ∈ X', x.t.2.length ≤ 140737488355328 := by
  intro x hx
  have h1 : x.t ∈ its X' := List.mem_map.2 ⟨x, hx, rfl⟩
  rw [h] at h1
  obtain ⟨y, _, hy⟩ := List.mem_map.1 h1
  rw [← hy]; simp [fewE]
/-- The mender, the map of what was heard. -/
structure Mm (w z : World) (p g mb P W A : Nat) (h : Nat → Bool) (t : Tn) (n : Nat) : Prop where
  md : Md z p [mb] P W A h 0 t
  map : MapV Try.prog 39 z mb n (strM (atT t))
  quo : Whole z g 23 (quC P W A)
  few : (keysT t).length ≤ n
  apart : g < p ∧ p < mb
  new : w.heap.size ≤ g
  frm : Frm [] w z
theorem Mm.here {w z z' : World} {p g mb P W A : Nat} {h : Nat → Bool} {t : Tn} {n : Nat} (m : Mm w z p g mb P W A h t n) (hf : Frm [] z z') : Mm w z' p g mb P W A h t n :=
  ⟨m.md.here hf, m.map.keep hf (by simp), hf.whole m.quo (by simp), m.few, m.apart, m.new, m.frm.trans hf (by simp) (by simp)⟩
theorem Mm.mlt {w z : World} {p g mb P W A : Nat} {h : Nat → Bool} {t : Tn} {n : Nat} (m : Mm w z p g mb P W A h t n) : mb < z.heap.size := m.map.lt
/-- At the loop's head. -/
def Mmr (w : World) (p g mb P W A n : Nat) (s9 s32 : Value) (z : World) : Prop :=
  ∃ (i : Nat) (aw : Option Addr) (wn cw : Nat) (X : List Ix) (h : Nat → Bool) (t : Tn) (code : Nat), s9 = .slice aw wn cw ∧ s32 = .int .i64 (i : Nat) ∧ i ≤ n ∧ i ≤ 31 ∧ Hid (wn = X.length ∧ wn ≤ 16777216) ∧ Hid (X = [] ∨ ResV P W A h 0 (atT t) code (its X)) ∧ Hid (IL z [p, mb] aw X) ∧ Hid (Mm w z p g mb P W A h t (i * 30))
def Mmc (w : World) (p g mb P W A i : Nat) (aw : Option Addr) (W0 : List Ix) (h : Nat → Bool) (t : Tn) (wx : World) : Prop :=
  ∃ h' t', (∀ j, h j = true → h' j = true) ∧ (∀ k d, atT t k = some d → atT t' k = some d) ∧ Hid (IL wx [p, mb] aw W0) ∧ Hid (Mm w wx p g mb P W A h' t' (i * 30 + 30))
def Mmi (wb : World) (mb n : Nat) (f : Nat → Option Value) (l : List (Nat × List Nat)) (s60 : Value) (wx : World) : Prop :=
  ∃ k : Nat, s60 = .int .i64 (k : Nat) ∧ k ≤ l.length ∧ Hid (MapV Try.prog 39 wx mb (n + k) ((l.take k).foldl putM f)) ∧ Hid (Frm [mb] wb wx)
def Mmj (w7 : World) (n : Nat) (s99 : Value) (wx : World) : Prop := ∃ k : Nat, s99 = .int .i64 (k : Nat) ∧ k ≤ n ∧ Hid (Frm [] w7 wx)
set_option maxHeartbeats 16000000 in
theorem menderMore_walk (n : Nat) (a : Option Addr) (len cap : Nat) (ts : List Wd) (w : World) (hn : n < 65536) (hts : Wds w a ts) (hlen : len = ts.length) (_hl63 : len ≤ 9223372036854775807) :
    Calls Try.prog 9 #[.int .u16 (n : Nat), .slice a len cap] w fun e w' => e = .returned (.bool true) ∧ Below w.heap.size w w' := by
  obtain ⟨Q, hQ⟩ : ∃ Q : Ending → World → Prop, Q = fun e w' => e = .returned (.bool true) ∧ Below w.heap.size w w' := ⟨_, rfl⟩
  rw [← hQ]
  have FIN : Hid (∀ z, Frm [] w z → Q (.returned (.bool true)) z) := Lib.hid fun z hz => by rw [hQ]; exact ⟨rfl, hz.below (by simp) (Nat.le_refl _)⟩
  have HQN := Lib.hid (fun z => quorum_any n z hn)
  have HTS := Lib.hid hts
  have HLEN := Lib.hid hlen
  have hmk : ∀ w : World, (Instr.makeMap 90 none).run Try.prog w = .ok (.map (some w.heap.size)) (w.alloc (.map #[] 0)) := by intro w; kernel_rfl
  clear hQ hts hlen
  go_enter Try.func9, Try.ntmps9
  go_wp2_with fail
  (with_reducible refine (awake12_any _).mono ?_)
  rintro e w1 ⟨rfl, hf1⟩
  have HF1 := Lib.hid hf1
  clear hf1
  go_wp2_with fail
  (with_reducible refine (HQN.out _).mono ?_)
  rintro e w2 ⟨P, W, A, r1, r2, r3, r4, rfl, hf2⟩
  unfold quV
  have HF2 := Lib.hid (HF1.out.trans hf2 (U := []) (by simp) (by simp))
  have hok : okQ (P : Int) (W : Int) (A : Int) = true := by rw [okQ_iff]; omega
  clear hf2 HQN
  obtain ⟨w3, hw3⟩ : ∃ w3, w3 = w2.alloc (.cells #[.int .i64 P, .int .i64 W, .int .i64 A] 23) := ⟨_, rfl⟩
  have HNA := Lib.hid (mdnew_ok P W A w3 hok [] (by simp))
  unfold quV at HNA
  go_wp2_with fail
  rw [← hw3]
  obtain ⟨g, hg⟩ : ∃ g, g = w2.heap.size := ⟨_, rfl⟩
  have HQ3 : Hid (Whole w3 g 23 (quC P W A)) := Lib.hid (by rw [hw3, hg]; exact Whole.made _ _ _)
  have hf3 : Frm [] w2 w3 := by rw [hw3]; exact (Frm.refl _ _).alloc _
  have HG3 : Hid (w.heap.size ≤ g ∧ g < w3.heap.size) := Lib.hid ⟨by rw [hg]; exact HF2.out.size, HQ3.out.lt⟩
  have HF3 := Lib.hid (HF2.out.trans hf3 (U := []) (by simp) (by simp))
  rw [← hg]
  clear hw3 hf3 hg
  (with_reducible refine HNA.out.mono ?_)
  rintro e w4 ⟨p, rfl, hf4, hpa, hma⟩
  have hfm : Frm [] w4 (w4.alloc (.map #[] 0)) := (Frm.refl _ _).alloc _
  obtain ⟨mb, hmb⟩ : ∃ mb, mb = w4.heap.size := ⟨_, rfl⟩
  have HMM : Hid (Mm w (w4.alloc (.map #[] 0)) p g mb P W A (fun _ => false) .nil (0 * 30)) := Lib.hid ⟨hma.keep hfm (by simp) (fun x hx => by simp at hx; subst hx; exact .inr (by omega)), by rw [hmb]; exact (MapV.new w4 keyM).mono (Nat.zero_le _), hfm.whole (hf4.whole HQ3.out (by simp)) (by simp), Nat.zero_le _, ⟨by have := HG3.out; omega, by have := hma.lt; omega⟩, HG3.out.1, HF3.out.trans (hf4.trans hfm (U := []) (by simp) (by simp)) (by simp) (by simp)⟩
  have HR0 : Hid (Mmr w p g mb P W A len (.slice none 0 0) (.int .i64 0) (w4.alloc (.map #[] 0))) := Lib.hid ⟨0, none, 0, 0, [], _, _, 0, rfl, rfl, Nat.zero_le _, by omega, Lib.hid ⟨rfl, by omega⟩, Lib.hid (.inl rfl), Lib.hid (IL.nil _ _ _), HMM⟩
  clear hf4 hpa hma HNA hfm HMM HQ3 HG3 HF3 HF2 HF1 hok
  go_wp2_with fail
  rw [← hmb]
  clear hmb
  go_loopw [9, 32] (fun s9 s32 z => Mmr w p g mb P W A len s9 s32 z) (fun _ s32 _ => len - (intOf s32).toNat)
  case atStart => exact HR0.out
  case round =>
    clear HR0
    obtain ⟨i, aw, wn, cw, W0, h, t, code, rfl, rfl, hi, hi31, HWN, HRV, HIL, HMM⟩ := hrel
    by_cases hlt : i < len
    · have hiL : i < ts.length := by rw [← HLEN.out]; exact hlt
      obtain ⟨b, off, ha, hat⟩ := (HTS.out.keep HMM.out.frm) (by omega)
      subst ha
      obtain ⟨c0, c1, c2, c3, okx⟩ := hat i hiL
      obtain ⟨x, hx⟩ : ∃ x, x = ts.getD i default := ⟨_, rfl⟩
      rw [← hx] at c0 c1 c2 c3 okx
      obtain ⟨pl, su, la, lc, X, raw⟩ := x
      simp only at c0 c1 c2 c3
      obtain ⟨xn, hxn⟩ : ∃ xn, xn = X.length := ⟨_, rfl⟩
      rw [← hxn] at c2
      have HXN := Lib.hid hxn
      have HOX := Lib.hid okx
      have HFW := Lib.hid HMM.out.frm
      clear hat hx hxn okx hiL
      by_cases hb0 : 30 < i
      · have d1 : decide ((30 : Int) < (i : Int)) = true := decide_eq_true (by omega)
        have d2 : decide (30 < i) = true := decide_eq_true hb0
        go_wp2
        exact FIN.out _ (by refine HFW.out.trans (T := []) ?_ (by simp) (by simp); repeat (first | exact Frm.refl _ _ | apply Frm.alloc | apply Frm.drew))
      have d1 : decide ((30 : Int) < (i : Int)) = false := decide_eq_false (by omega)
      have d2 : decide (30 < i) = false := decide_eq_false hb0
      by_cases hb1 : 30 < xn
      · have d3 : decide ((30 : Int) < (xn : Int)) = true := decide_eq_true (by omega)
        have d4 : decide (30 < xn) = true := decide_eq_true hb1
        go_wp2
        exact FIN.out _ (by refine HFW.out.trans (T := []) ?_ (by simp) (by simp); repeat (first | exact Frm.refl _ _ | apply Frm.alloc | apply Frm.drew))
      have d3 : decide ((30 : Int) < (xn : Int)) = false := decide_eq_false (by omega)
      have d4 : decide (30 < xn) = false := decide_eq_false hb1
      have q0 : wr.cell? ⟨g, 0, none⟩ = some (.int .i64 (P : Nat)) := HMM.out.quo.cell 0
      have q1 : wr.cell? ⟨g, 1, none⟩ = some (.int .i64 (W : Nat)) := HMM.out.quo.cell 1
      have q2 : wr.cell? ⟨g, 2, none⟩ = some (.int .i64 (A : Nat)) := HMM.out.quo.cell 2
      have qlt := HMM.out.quo.lt
      have qne : g ≠ wr.heap.size := by omega
      obtain ⟨w1, hw1⟩ : ∃ w1, w1 = wr.alloc (.cells #[.int .i64 pl, .int .u64 (su : Nat), .slice la xn lc, .bool false] 67) := ⟨_, rfl⟩
      obtain ⟨g1, hg1⟩ : ∃ g1, g1 = wr.heap.size := ⟨_, rfl⟩
      have hf1 : Frm [] wr w1 := by rw [hw1]; exact (Frm.refl _ _).alloc _
      have HW1 : Hid (Whole w1 g1 67 #[.int .i64 pl, .int .u64 (su : Nat), .slice la xn lc, .bool false]) := Lib.hid (by rw [hw1, hg1]; exact Whole.made _ _ _)
      have hmlt := HMM.out.mlt
      have hplt := HMM.out.md.lt
      have HG1 : Hid (p < g1 ∧ mb < g1) := Lib.hid (by omega)
      have HFEW := Lib.hid (few_any pl su la lc X P W A w1 [p, mb, g1] ((HOX.out.l_b).keep hf1 (F' := []) (by simp) (by simp)) (by omega) r4 HOX.out.sure_lt (by rw [← HXN.out]; omega) (fun x hx => by
        have := hf1.size
        have := HW1.out.lt
        simp at hx
        rcases hx with rfl | rfl | rfl <;> omega))
      rw [← HXN.out] at HFEW
      unfold quV at HFEW
      have HF1 := Lib.hid hf1
      have HNEW : Hid (wr.heap.size ≤ g1) := Lib.hid (by omega)
      go_wp2_with fail
      rw [← hw1, ← hg1]
      clear hw1 hg1 hf1 hmlt hplt q0 q1 q2 qlt qne d1 d2 d3 d4 c0 c1 c2 c3
      (with_reducible refine HFEW.out.mono ?_)
      rintro e w2 ⟨a1, c1, X', hxe, rfl, hilx, hf2⟩
      rw [← HXN.out]
      have hwh := hf2.whole HW1.out (by simp)
      have x0 := hwh.cell 0
      have x1 := hwh.cell 1
      have x2 := hwh.cell 2
      have x3 := hwh.cell 3
      have z0 := hwh.free 0
      have z1 := hwh.free 1
      have z2 := hwh.free 2
      have z3 := hwh.free 3
      simp at x0 x1 x2 x3
      obtain ⟨wh, hwhe⟩ : ∃ wh, wh = (((((w2.setCell ⟨g1, 0, none⟩ (.int .i64 (fewP P pl : Nat))).setCell ⟨g1, 1, none⟩ (.int .u64 ((su : Int) % 4))).setCell ⟨g1, 2, none⟩ (.slice a1 xn c1)).setCell ⟨g1, 3, none⟩ (.bool false)).setCell ⟨g1, 1, none⟩ (.int .u64 0)) := ⟨_, rfl⟩
      have hfr : Frm [] wr w2 := HF1.out.trans hf2 (U := []) (by simp) (by simp)
      have hfs : Frm [g1] w2 wh := by rw [hwhe]; exact (((((Frm.refl _ _).setCell (.inl (by simp)) _).setCell (.inl (by simp)) _).setCell (.inl (by simp)) _).setCell (.inl (by simp)) _).setCell (.inl (by simp)) _
      have hfh : Frm [] wr wh := hfr.trans hfs (by simp) (fun x hx => .inr (by have := HNEW.out; simp at hx; omega))
      have hwg : Whole wh g1 67 #[.int .i64 (fewP P pl : Nat), .int .u64 0, .slice a1 xn c1, .bool false] := by
        have := ((((hwh.put 0 (.int .i64 (fewP P pl : Nat))).put 1 (.int .u64 ((su : Int) % 4))).put 2 (.slice a1 xn c1)).put 3 (.bool false)).put 1 (.int .u64 0)
        rw [hwhe]; simpa using this
      have hilh := hilx.keep hfs (F' := [p, mb, g1]) (fun x hx => .inl (by simp at hx; simp [hx])) (fun x hx => .inl hx)
      have hlX : X'.length = X.length := by have := congrArg List.length hxe; simpa [its] using this
      have hmmh := HMM.out.here hfh
      have HH := hear_u (fewP P pl) 0 a1 xn c1 X' hmmh.md (by omega) (Nat.mod_lt _ (by omega)) hilh (by rw [HXN.out, hlX]) (few_fitM hxe) (by omega) (by have := hmmh.mlt; simpa using this)
      rw [show ((0 : Nat) : Int) = 0 from rfl] at HH
      have HH := Lib.hid HH
      have HILH := Lib.hid hilh
      have HWG := Lib.hid hwg
      have HWHE := Lib.hid hwhe
      have HXE := Lib.hid hxe
      have HLX := Lib.hid (hlX.trans HXN.out.symm)
      have HMH := Lib.hid hmmh
      have HILW := Lib.hid (HIL.out.keep hfh (F' := [p, mb]) (by simp) (fun x hx => .inl hx))
      clear hwh hwhe hfr hfs hfh hwg hilh hlX hmmh hxe hilx hf2 HW1 HFEW HF1
      go_wp2_with fail
      rw [← HWHE.out]
      clear HWHE x0 x1 x2 x3 z0 z1 z2 z3
      (with_reducible refine HH.out.mono ?_)
      rintro e w6 ⟨ok, cd, h', su', t', rfl, hcd, hf6, hm6, hyes, hno⟩
      obtain ⟨x0, x1, x2, x3⟩ : w6.cell? ⟨g1, 0, none⟩ = some (.int .i64 (fewP P pl : Nat)) ∧ w6.cell? ⟨g1, 1, none⟩ = some (.int .u64 0) ∧ w6.cell? ⟨g1, 2, none⟩ = some (.slice a1 xn c1) ∧ w6.cell? ⟨g1, 3, none⟩ = some (.bool false) := by
        have := hf6.whole HWG.out (by have := HG1.out; simp; omega)
        exact ⟨this.cell 0, this.cell 1, this.cell 2, this.cell 3⟩
      have HF6 := Lib.hid hf6
      have HM6 := Lib.hid hm6
      have HYES := Lib.hid hyes
      have HNO := Lib.hid hno
      have HIX6 := Lib.hid (HILH.out.keep hf6 (F' := [p, mb, g1]) (fun x hx => .inl (by simp at hx; simp [hx])) (fun x hx => .inl hx))
      have HIW6 := Lib.hid (HILW.out.keep hf6 (F' := [p, mb]) (fun x hx => .inl (by simp at hx; simp [hx])) (fun x hx => .inl hx))
      have hpm : p ≠ mb := by have := HMM.out.apart; omega
      have HMP6 := Lib.hid (HMH.out.map.keep hf6 (by simpa using hpm.symm))
      clear hf6 hm6 hyes hno hpm HH HMM
      go_upto_if 56 with fail
      go_cut [32] from 32 to 121 (fun v32 wx => v32 = .int .i64 (i : Nat) ∧ Mmc w p g mb P W A i aw W0 h t wx)
      case first =>
        cases ok with
        | false =>
          obtain ⟨hj, hc, rfl, rfl, rfl⟩ := HNO.out rfl
          have HON : Hid (Mmc w p g mb P W A i aw W0 h' t' w6) := Lib.hid ⟨h', t', fun j hj => hj, fun k d hd => hd, HIW6, Lib.hid ⟨HM6.out, HMP6.out.mono (by omega), HF6.out.whole HMH.out.quo (by have := HMH.out.apart; simp; omega), by have := HMH.out.few; omega, HMH.out.apart, HMH.out.new, HMH.out.frm.trans HF6.out (by simp) (fun x hx => .inr (by have := HMH.out.apart; have := HMH.out.new; simp at hx; omega))⟩⟩
          clear hj hc hcd
          go_wp2_with fail
          go_meet
          case rel => exact ⟨rfl, HON.out⟩
        | true =>
          obtain ⟨hj, rfl, hsu⟩ := HYES.out rfl
          obtain rfl : su' = 0 := by rw [hsu]; rfl
          have hJ : joinF (atT t) (its X') = some (atT t') := by rw [← join_map, hj]; rfl
          have HEXT : Hid ((∀ j, h j = true → hrd h (fewP P pl) j = true) ∧ (∀ k d, atT t k = some d → atT t' k = some d)) := Lib.hid ⟨fun j hj => by unfold hrd; split; rfl; exact hj, fun k d hd => (joinF_some hJ k d).2 (.inl hd)⟩
          have HFO := Lib.hid (fold_join hJ)
          have HKJ := Lib.hid (keys_join hj)
          obtain ⟨l, hl⟩ : ∃ l, l = its X' := ⟨_, rfl⟩
          have hln : l.length = xn := by rw [hl, its_length, HLX.out]
          rw [← hl] at HFO HKJ
          have HL := Lib.hid hl
          have HR1 : Hid (Mmi w6 mb (i * 30) (strM (atT t)) l (.int .i64 0) w6) := Lib.hid ⟨0, rfl, Nat.zero_le _, HMP6, Lib.hid (Frm.refl _ _)⟩
          have HLN := Lib.hid hln
          clear hj hsu hJ hl hln hcd HNO HYES
          go_wp2
          go_loopw [60] (fun s60 wx => Mmi w6 mb (i * 30) (strM (atT t)) l s60 wx) (fun s60 _ => xn - (intOf s60).toNat)
          case atStart => exact HR1.out
          case round =>
            clear HR1
            obtain ⟨k, rfl, hk, HMV, HFB⟩ := hrel
            by_cases hkx : k < xn
            · have hkX : k < X'.length := by rw [HLX.out]; exact hkx
              have hkeep := HIX6.out.keep HFB.out (F' := [p, mb, g1]) (fun x hx => .inl (by simp at hx; simp [hx])) (fun x hx => .inl hx)
              obtain ⟨b2, off2, rfl, n0, n1, hix⟩ := hkeep.at hkX
              have hlk : l[k]? = some (X'.getD k default).t := by rw [HL.out, its, List.getElem?_map, List.getD_eq_getElem?_getD, List.getElem?_eq_getElem hkX]; rfl
              obtain ⟨y, hy⟩ : ∃ y, y = X'.getD k default := ⟨_, rfl⟩
              rw [← hy] at n0 n1 hix hlk
              obtain ⟨⟨e2, d2⟩, ad, cd2⟩ := y
              have he2 := hix.num
              simp only at he2 n0 n1 hlk
              have hcv : ∀ z, Frm [] wr z → (convert 38 9 (.slice ad d2.length cd2)).run Try.prog z = .ok (.string (strOf d2)) z := fun z hz => run_to_string (P := Try.prog) (e := 5) Try.underlying38 Try.underlying5 Try.underlying9 (hz.bytes' hix.bytes (by simp)) rfl
              obtain ⟨dn, hdn⟩ : ∃ dn, dn = d2.length := ⟨_, rfl⟩
              rw [← hdn] at n1 hcv
              have hfa : Frm [] wr (wr.alloc (.cells #[.int .u64 (e2 : Nat), .slice ad dn cd2] 55)) := (Frm.refl _ _).alloc _
              have cv := hcv _ hfa
              have HMA := Lib.hid (HMV.out.keep hfa (by simp))
              have hwm : IntKind.i64.wrap ((k : Int) + 1) = ((k + 1 : Nat) : Int) := by rw [IntWalk.i64_in _ (by omega)]; rfl
              obtain ⟨m, hm⟩ : ∃ m, m = k + 1 := ⟨_, rfl⟩
              have HM := Lib.hid hm
              rw [← hm] at hwm
              have HFA := Lib.hid (HFB.out.trans hfa (U := [mb]) (fun x hx => hx) (by simp))
              have HTK : Hid ((l.take m).foldl putM (strM (atT t)) = updV ((l.take k).foldl putM (strM (atT t))) e2 (.string (strOf d2))) := Lib.hid (by
                rw [hm]
                have h1 : k < l.length := by rw [HLN.out]; exact hkx
                rw [List.take_succ_eq_append_getElem h1, List.foldl_append]
                rw [List.getElem?_eq_getElem h1] at hlk
                injection hlk with hlk
                rw [hlk]; rfl)
              have hkm : k < 16777216 := by omega
              clear hy hix hlk hcv hdn hfa hm hkeep hkX HMV
              go_wp2_with (refine wpList_putV _ rfl (.tmp 64) (.tmp 66) (.tmp 69) 90 9 rfl Try.underlying90 mb (i * 30 + k) _ rfl HMA.out (by unfold maxLen; omega) e2 he2 rfl ?_; intro wz hmz hfz; have HMZ := Lib.hid hmz; have HFZ := Lib.hid hfz; clear hmz hfz)
              go_roundw
              case rel =>
                refine ⟨m, ?_, by have := HM.out; have := HLN.out; omega, Lib.hid ?_, Lib.hid (HFA.out.trans HFZ.out (fun x hx => hx) (fun x hx => .inl hx))⟩
                · first | rfl | (rw [HM.out]; rfl) | (rw [HM.out]; go_num)
                · rw [HTK.out, HM.out]; exact HMZ.out
              case measure => simp [intOf]; have := HM.out; omega
            · obtain rfl : k = xn := by have := HLN.out; omega
              have HON : Hid (Mmc w p g mb P W A i aw W0 h t wr) := Lib.hid ⟨_, t', HEXT.out.1, HEXT.out.2, Lib.hid (HIW6.out.keep HFB.out (F' := [p, mb]) (fun x hx => .inl (by simp at hx; simp [hx])) (fun x hx => .inl hx)), Lib.hid ⟨HM6.out.keep HFB.out (fun x hx => .inl hx) (fun x hx => .inl hx), by
                  have h1 := HMV.out
                  rw [List.take_of_length_le (by rw [HLN.out]; exact Nat.le_refl _), HFO.out] at h1
                  exact h1.mono (by omega), HFB.out.whole (HF6.out.whole HMH.out.quo (by have := HMH.out.apart; simp; omega)) (by have := HMH.out.apart; simp; omega), by have := HKJ.out; have := HLN.out; have := HMH.out.few; omega, HMH.out.apart, HMH.out.new, (HMH.out.frm.trans HF6.out (U := []) (by simp) (fun x hx => .inr (by have := HMH.out.apart; have := HMH.out.new; simp at hx; omega))).trans HFB.out (by simp) (fun x hx => .inr (by have := HMH.out.apart; have := HMH.out.new; simp at hx; omega))⟩⟩
              go_wp2_with fail
              go_meet
              case rel => exact ⟨rfl, HON.out⟩
      case rest =>
        obtain ⟨rfl, h2, t2, hh2, ht2, HIL2, HM2⟩ := hcut
        have HRS := Lib.hid (result_u HM2.out.md (by have := HM2.out.few; omega) (by have := HM2.out.mlt; simpa using this))
        have HPV : Hid (∀ c' l', ResV P W A h2 0 (atT t2) c' l' → (its W0).length ≤ l'.length ∧ l'.take (its W0).length = its W0) := Lib.hid fun c' l' hr => by
          rcases HRV.out with h0 | h0
          · rw [h0]; exact ⟨Nat.zero_le _, rfl⟩
          · exact h0.more (by omega) hr r4 hh2 ht2
        clear hh2 ht2 hcd x0 x1 x2 x3
        go_wp2_with fail
        (with_reducible refine HRS.out.mono ?_)
        rintro e w7 ⟨code', a2, c2, Y, rfl, hrv, hY16, hil, hcap, hf7⟩
        obtain ⟨hok7, hc23⟩ := hrv.ok
        obtain ⟨hle, htk⟩ := HPV.out _ _ hrv
        rw [its_length, its_length] at hle
        rw [its_length] at htk
        obtain ⟨yn, hyn⟩ : ∃ yn, yn = Y.length := ⟨_, rfl⟩
        rw [← hyn] at hY16 hcap hle ⊢
        have HM7 := Lib.hid (HM2.out.here hf7)
        have HRD := Lib.hid (ready_any HM7.out.md)
        obtain ⟨rd, hrd⟩ : ∃ rd, rd = covN P W A (hrdL h2) := ⟨_, rfl⟩
        rw [← hrd] at HRD hok7
        have hwnl : wn ≤ yn := by have := HWN.out.1; omega
        have k1 : decide ((yn : Int) < (wn : Int)) = false := decide_eq_false (by omega)
        have k2 : decide (yn < wn) = false := decide_eq_false (by omega)
        have kh := fun w : World => run_head2 (P := Try.prog) Try.underlying49 sizeItM w a2 yn c2 wn (by omega)
        have HIL7 := Lib.hid hil
        have HYN := Lib.hid hyn
        have HRV7 := Lib.hid hrv
        have HIW7 := Lib.hid (HIL2.out.keep hf7 (F' := [p, mb]) (by simp) (fun x hx => .inl hx))
        have HSM := Lib.hid (fun z (hz : Frm [] w7 z) => sameItems_true a2 aw wn c2 cw (Y.take wn) W0 [] [] z ((hil.take wn).keep hz (F' := []) (by simp) (by simp)) (HIW7.out.keep hz (F' := []) (by simp) (by simp)) (by rw [List.length_take, ← hyn]; omega) (by rw [← htk, HWN.out.1]; simp [its, List.map_take]) (by have := HWN.out; omega))
        clear hrv hil hcap hf7 hyn hrd hle htk HRS HPV HIL2 HM2
        cases rd
        all_goals
          go_wp2_with fail
          (with_reducible refine HRD.out.mono ?_)
          rintro e w8 ⟨rfl, hf8⟩
          have HF8 := Lib.hid hf8
          clear hf8 HRD
          go_wp2_with fail
          (with_reducible refine (HSM.out _ HF8.out).mono ?_)
          rintro e w9 ⟨rfl, hf9⟩
          have HF9 := Lib.hid (HF8.out.trans hf9 (U := []) (by simp) (by simp))
          clear hf9 HSM kh k1 k2
          go_wp2
          have HR3 : Hid (Mmj w7 yn (.int .i64 0) w9) := Lib.hid ⟨0, rfl, Nat.zero_le _, HF9⟩
          go_loopw [99] (fun s99 wx => Mmj w7 yn s99 wx) (fun s99 _ => yn - (intOf s99).toNat)
          case atStart => exact HR3.out
          case round =>
            clear HR3
            obtain ⟨k, rfl, hk, HFK⟩ := hrel
            by_cases hky : k < yn
            · have hkY : k < Y.length := by rw [← HYN.out]; exact hky
              obtain ⟨b2, off2, rfl, n0, n1, hix⟩ := (HIL7.out.keep HFK.out (F' := []) (by simp) (by simp)).at hkY
              obtain ⟨dd, hfd, hld⟩ := HRV7.out.has (i := k) (by rw [its_length]; exact hkY)
              have hyt : (Y.getD k default).t = (k, dd) := by
                rw [its, List.getElem?_map, List.getElem?_eq_getElem hkY] at hld
                injection hld with hld
                rw [List.getD_eq_getElem?_getD, List.getElem?_eq_getElem hkY]; exact hld
              obtain ⟨y, hy⟩ : ∃ y, y = Y.getD k default := ⟨_, rfl⟩
              rw [← hy] at n0 n1 hix hyt
              obtain ⟨⟨e2, d2⟩, ad, cd2⟩ := y
              simp only [Prod.mk.injEq] at hyt
              obtain ⟨rfl, rfl⟩ := hyt
              simp only at n0 n1
              have hcv : ∀ z, Frm [] wr z → (convert 38 9 (.slice ad d2.length cd2)).run Try.prog z = .ok (.string (strOf d2)) z := fun z hz => run_to_string (P := Try.prog) (e := 5) Try.underlying38 Try.underlying5 Try.underlying9 (hz.bytes' hix.bytes (by simp)) rfl
              obtain ⟨dn, hdn⟩ : ∃ dn, dn = d2.length := ⟨_, rfl⟩
              rw [← hdn] at n1 hcv
              have hfa : Frm [] wr (wr.alloc (.cells #[.int .u64 (e2 : Nat), .slice ad dn cd2] 55)) := (Frm.refl _ _).alloc _
              have cv := hcv _ hfa
              have HMV : Hid (MapVal Try.prog 39 (wr.alloc (.cells #[.int .u64 (e2 : Nat), .slice ad dn cd2] 55)) (.map (some mb)) (i * 30 + 30) (strM (atT t2))) := Lib.hid (.inr ⟨mb, rfl, HM7.out.map.keep (HFK.out.trans hfa (U := []) (by simp) (by simp)) (by simp)⟩)
              have hsm : strM (atT t2) e2 = some (.string (strOf d2)) := by unfold strM; rw [hfd]; rfl
              have HSV := Lib.hid hsm
              have he64 : e2 < 18446744073709551616 := hix.num
              have HFA := Lib.hid (HFK.out.trans hfa (U := []) (by simp) (by simp))
              have hwm : IntKind.i64.wrap ((e2 : Int) + 1) = ((e2 + 1 : Nat) : Int) := by rw [IntWalk.i64_in _ (by omega)]; rfl
              clear hy hix hcv hdn hfa hfd hld hkY hsm
              go_wp2_with (refine wpList_lookV_ok _ rfl (.tmp 104) (.tmp 106) 90 9 rfl keyM Try.underlying90 (zeroStr _) (i * 30 + 30) (strM (atT t2)) HMV.out e2 he64 rfl ?_; rw [HSV.out])
              go_roundw
              case rel => exact ⟨e2 + 1, by go_num, hky, HFA⟩
              case measure => simp [intOf]; omega
            · obtain rfl : k = yn := by omega
              have HREL : Hid (Mmr w p g mb P W A len (.slice a2 k c2) (.int .i64 ((i + 1 : Nat) : Nat)) wr) := Lib.hid ⟨i + 1, a2, k, c2, Y, h2, t2, code', rfl, rfl, hlt, by omega, Lib.hid ⟨HYN.out, hY16⟩, Lib.hid (.inr HRV7.out), Lib.hid (HIL7.out.keep HFK.out (F' := [p, mb]) (by simp) (fun x hx => .inl (by simp at hx; simp [hx]))), Lib.hid (by
                have := HM7.out.here HFK.out
                rw [show (i + 1) * 30 = i * 30 + 30 by omega]; exact this)⟩
              have hwm : IntKind.i64.wrap ((i : Int) + 1) = ((i + 1 : Nat) : Int) := by rw [IntWalk.i64_in _ (by omega)]; rfl
              clear hY16
              go_wp2
              go_roundw
              case rel => exact HREL.out
              case measure => simp [intOf]; omega
    · go_wp2
      exact FIN.out _ HMM.out.frm
end Go.Proofs.Ytecfoomjpjcldaa
