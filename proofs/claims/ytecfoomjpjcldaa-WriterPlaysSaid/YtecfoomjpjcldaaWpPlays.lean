/- The walk of WriterPlays. -/
import Derived.Test.YtecfoomjpjcldaaWpDid
import Derived.Test.YtecfoomjpjcldaaInQu
namespace Go.Proofs.Ytecfoomjpjcldaa
open Go.RowKit
set_option maxRecDepth 100000
theorem wrnew_u (p q a : Int) (ok : Bool) (hok : okQ p q a = ok) (w : World) : Calls Try.prog 11 #[quV p q a] w fun e w' => ∃ (v : Option Addr) (code : Nat), e = .returned (.tuple #[.pointer v, .int .i64 (code : Nat)]) ∧ ((code : Int) == 0) = ok ∧ (ok = false → code = 22) ∧ Frm [] w w' := by
  cases ok with
  | false =>
    refine (wrnew_bad p q a w hok).mono ?_
    rintro e w' ⟨rfl, hf⟩
    exact ⟨none, 22, rfl, rfl, fun _ => rfl, hf⟩
  | true =>
    refine (wrnew_ok p q a w hok).mono ?_
    rintro e w' ⟨b, rfl, hf, _, _⟩
    exact ⟨_, 0, rfl, rfl, (fun h => by cases h), hf⟩
/-- Both writers, behind i calls. -/
structure Pp (w z : World) (B px pm : Nat) (G : List Nat) (P W A i : Nat) (D : List (List Nat)) (H : Nat → Nat → Bool) (su : Nat) (cl : Bool) : Prop where
  pw : Pw z B px pm G P W A D H su cl
  few : D.length ≤ i
  apart : ∀ y ∈ px :: pm :: G, w.heap.size ≤ y
  low : B ≤ z.heap.size
  frm : Frm [] w z
def Ppr (w : World) (B px pm P W A n : Nat) (s46 : Value) (z : World) : Prop :=
  ∃ (i : Nat) (G : List Nat) (D : List (List Nat)) (H : Nat → Nat → Bool) (su : Nat) (cl : Bool), s46 = .int .i64 (i : Nat) ∧ i ≤ n ∧ i ≤ 151 ∧ Hid (Pp w z B px pm G P W A i D H su cl)
set_option maxHeartbeats 16000000 in
theorem writerPlays_walk (x0 : Qu) (n : Nat) (a : Option Addr) (len cap : Nat) (ts : List Wa) (w : World) (_hx0 : QuOk w x0) (hn : n < 65536) (hts : Was w a ts) (hlen : len = ts.length) (_hl63 : len ≤ 9223372036854775807) :
    Calls Try.prog 3 #[x0.value, .int .u16 (n : Nat), .slice a len cap] w fun e w' => e = .returned (.bool true) ∧ Below w.heap.size w w' := by
  obtain ⟨Q, hQ⟩ : ∃ Q : Ending → World → Prop, Q = fun e w' => e = .returned (.bool true) ∧ Below w.heap.size w w' := ⟨_, rfl⟩
  rw [← hQ]
  have FIN : Hid (∀ z, Frm [] w z → Q (.returned (.bool true)) z) := Lib.hid fun z hz => by rw [hQ]; exact ⟨rfl, hz.below (by simp) (Nat.le_refl _)⟩
  have HQN := Lib.hid (fun z => quorum_any n z hn)
  have HTS := Lib.hid hts
  have HLEN := Lib.hid hlen
  obtain ⟨p0, q0, k0⟩ := x0
  unfold Qu.value
  simp only
  obtain ⟨ok, hok⟩ : ∃ ok, okQ p0 q0 k0 = ok := ⟨_, rfl⟩
  have HN1 := Lib.hid (fun z => wrnew_u p0 q0 k0 ok hok z)
  have HCK := Lib.hid (fun z => rcheck_any p0 q0 k0 z)
  rw [hok] at HCK
  unfold quV at HN1 HCK
  clear hQ hts hlen hok
  go_enter Try.func3, Try.ntmps3
  go_wp2_with fail
  obtain ⟨g, hg⟩ : ∃ g, g = w.heap.size := ⟨_, rfl⟩
  obtain ⟨w0, hw0⟩ : ∃ w0, w0 = w.alloc (.cells #[.int .i64 p0, .int .i64 q0, .int .i64 k0] 23) := ⟨_, rfl⟩
  have HF0 : Hid (Frm [] w w0) := Lib.hid (by rw [hw0]; exact (Frm.refl _ _).alloc _)
  have HW0 : Hid (Whole w0 g 23 #[.int .i64 p0, .int .i64 q0, .int .i64 k0]) := Lib.hid (by rw [hw0, hg]; exact Whole.made _ _ _)
  have HG0 := Lib.hid hg
  rw [← hw0, ← hg]
  clear hw0 hg
  (with_reducible refine (awake11_any _).mono ?_)
  rintro e w1 ⟨rfl, hf1⟩
  have HF1 := Lib.hid (HF0.out.trans hf1 (U := []) (by simp) (by simp))
  have HW1 := Lib.hid (hf1.whole HW0.out (by simp))
  have x0 := HW1.out.cell 0
  have x1 := HW1.out.cell 1
  have x2 := HW1.out.cell 2
  simp at x0 x1 x2
  clear hf1 HF0 HW0
  go_wp2_with fail
  (with_reducible refine (HN1.out _).mono ?_)
  rintro e w2 ⟨v2, code, rfl, hc0, hc22, hf2⟩
  have HF2 := Lib.hid (HF1.out.trans hf2 (U := []) (by simp) (by simp))
  have HW2 := Lib.hid (hf2.whole HW1.out (by simp))
  have x0 := HW2.out.cell 0
  have x1 := HW2.out.cell 1
  have x2 := HW2.out.cell 2
  simp at x0 x1 x2
  clear hf2 HF1 HW1 HN1
  go_upto_region 4 with fail
  go_cut [33] from 21 to 33 (fun v33 wx => v33 = .bool false ∧ Hid (Frm [] w wx) ∧ Hid (Whole wx g 23 #[.int .i64 p0, .int .i64 q0, .int .i64 k0]))
  case first =>
    cases ok with
    | false =>
      obtain rfl := hc22 rfl
      clear hc22
      go_wp2_with fail
      (with_reducible refine (HCK.out _).mono ?_)
      rintro e w3 ⟨rfl, hf3⟩
      have HF3 := Lib.hid (HF2.out.trans hf3 (U := []) (by simp) (by simp))
      have HW3 := Lib.hid (hf3.whole HW2.out (by simp))
      clear hf3 HCK
      go_wp2_with fail
      go_meet
      case rel => exact ⟨by first | rfl | trivial, HF3, HW3⟩
    | true =>
      clear hc22
      obtain rfl : code = 0 := by simpa using hc0
      clear hc0
      go_wp2_with fail
      (with_reducible refine (HCK.out _).mono ?_)
      rintro e w3 ⟨rfl, hf3⟩
      have HF3 := Lib.hid (HF2.out.trans hf3 (U := []) (by simp) (by simp))
      have HW3 := Lib.hid (hf3.whole HW2.out (by simp))
      clear hf3 HCK
      go_wp2_with fail
      go_meet
      case rel => exact ⟨by first | rfl | trivial, HF3, HW3⟩
  case rest =>
    obtain ⟨rfl, HFC, HWC⟩ := hcut
    clear HCK hc0 hc22 x0 x1 x2 HF2 HW2
    go_wp2_with fail
    (with_reducible refine (HQN.out _).mono ?_)
    rintro e w4 ⟨P, W, A, r1, r2, r3, r4, rfl, hf4⟩
    unfold quV
    have hW4 := hf4.whole HWC.out (by simp)
    have x0 := hW4.cell 0
    have x1 := hW4.cell 1
    have x2 := hW4.cell 2
    have z0 := hW4.free 0
    have z1 := hW4.free 1
    have z2 := hW4.free 2
    simp at x0 x1 x2
    obtain ⟨w5, hw5⟩ : ∃ w5, w5 = ((w4.setCell ⟨g, 0, none⟩ (.int .i64 (P : Int))).setCell ⟨g, 1, none⟩ (.int .i64 (W : Int))).setCell ⟨g, 2, none⟩ (.int .i64 (A : Int)) := ⟨_, rfl⟩
    have hf5 : Frm [g] w4 w5 := by rw [hw5]; exact (((Frm.refl _ _).setCell (.inl (by simp)) _).setCell (.inl (by simp)) _).setCell (.inl (by simp)) _
    have HQ5 : Hid (Whole w5 g 23 (quC P W A)) := Lib.hid (by
      have := ((hW4.put 0 (.int .i64 (P : Int))).put 1 (.int .i64 (W : Int))).put 2 (.int .i64 (A : Int))
      rw [hw5]; simpa [quC] using this)
    have HF5 : Hid (Frm [] w w5) := Lib.hid ((HFC.out.trans hf4 (U := []) (by simp) (by simp)).trans hf5 (by simp) (fun x hx => .inr (by have := HG0.out; simp at hx; omega)))
    have hok : okQ (P : Int) (W : Int) (A : Int) = true := by rw [okQ_iff]; omega
    have HNA := Lib.hid (wrnew_ok P W A w5 hok)
    unfold quV at HNA
    clear hf4 hf5 hW4 hok HQN
    go_wp2_with fail
    rw [← hw5]
    clear hw5 x0 x1 x2 z0 z1 z2
    (with_reducible refine HNA.out.mono ?_)
    rintro e w6 ⟨px, rfl, hf6, hpx, hmx⟩
    have hQ6 := hf6.whole HQ5.out (by simp)
    have x0 : w6.cell? ⟨g, 0, none⟩ = some (.int .i64 (P : Nat)) := hQ6.cell 0
    have x1 : w6.cell? ⟨g, 1, none⟩ = some (.int .i64 (W : Nat)) := hQ6.cell 1
    have x2 : w6.cell? ⟨g, 2, none⟩ = some (.int .i64 (A : Nat)) := hQ6.cell 2
    have HMX := Lib.hid (Wq.made (F := []) hf6 hpx hmx ⟨r1, r2, r3, r4⟩ (by simp))
    have HF6 := Lib.hid (HF5.out.trans hf6 (U := []) (by simp) (by simp))
    have HPX : Hid (w.heap.size ≤ w5.heap.size ∧ w5.heap.size ≤ px ∧ px < w6.heap.size) := Lib.hid ⟨HF5.out.size, hpx, hmx.lt⟩
    have hqlt := hQ6.lt
    clear hf6 hpx hmx hQ6 HNA HQ5 HF5
    go_wp2_with fail
    obtain ⟨pm, hpm⟩ : ∃ pm, pm = w6.heap.size := ⟨_, rfl⟩
    obtain ⟨w8, hw8⟩ : ∃ w8, w8 = w6.alloc (.cells #[.int .i64 (P : Int), .int .i64 (W : Int), .int .i64 (A : Int), .slice none 0 0, .slice none 0 0, .int .i64 0, .bool false] 37) := ⟨_, rfl⟩
    have hf8 : Frm [] w6 w8 := by rw [hw8]; exact (Frm.refl _ _).alloc _
    have hW8 : Whole w8 pm 37 (dwC P W A 0 none 0 none 0 0 false) := by
      rw [hw8, hpm]; exact Whole.made w6 _ _
    have HPP : Hid (Pp w w8 w5.heap.size px pm [] P W A 0 [] (fun _ _ => false) 0 false) := Lib.hid ⟨⟨HMX.out.keep hf8 (by simp) (fun x hx => .inr (by simp at hx; omega)), ⟨⟨none, 0, none, 0, [], [], hW8, rfl, rfl, OwnL.nil _ _ _ _, HR.nil _ _ _ _ _⟩, ⟨r1, r2, r3, r4⟩, Nat.le_refl _, by have := HPX.out; simp; omega⟩⟩, Nat.le_refl _, fun y hy => by have := HPX.out; simp at hy; omega, by have := HPX.out; have := hf8.size; omega, HF6.out.trans hf8 (by simp) (by simp)⟩
    obtain ⟨B, hB⟩ : ∃ B, B = w5.heap.size := ⟨_, rfl⟩
    rw [← hB] at HPP
    have HR0 : Hid (Ppr w B px pm P W A len (.int .i64 0) w8) := Lib.hid ⟨0, _, _, _, _, _, rfl, Nat.zero_le _, by omega, HPP⟩
    try rw [← hpm]
    try rw [← hw8]
    clear hf8 hpm hW8 HPP hB hw8 x0 x1 x2 hqlt HMX HF6 HPX
    go_wp2_with fail
    go_loopw [46] (fun s46 z => Ppr w B px pm P W A len s46 z) (fun s46 _ => len - (intOf s46).toNat)
    case atStart => exact HR0.out
    case round =>
      clear HR0
      obtain ⟨i, G, D, H, su, cl, rfl, hi, hi31, HPP⟩ := hrel
      by_cases hlt : i < len
      · have hiL : i < ts.length := by rw [← HLEN.out]; exact hlt
        obtain ⟨b, off, ha, hat⟩ := (HTS.out.keep HPP.out.frm) (by omega)
        subst ha
        obtain ⟨c0, c1, c2, c3, c4, okx⟩ := hat i hiL
        have hokw : WaOk w (ts.getD i default) := by
          obtain ⟨_, _, _, hat0⟩ := HTS.out (by omega)
          exact (hat0 i hiL).ok
        obtain ⟨x, hx⟩ : ∃ x, x = ts.getD i default := ⟨_, rfl⟩
        rw [← hx] at c0 c1 c2 c3 c4 okx hokw
        have HX := Lib.hid okx
        have HXW := Lib.hid hokw
        obtain ⟨k, da, dc, d, pl, en, raw⟩ := x
        simp only at c0 c1 c2 c3 c4
        obtain ⟨dn, hdn⟩ : ∃ dn, dn = d.length := ⟨_, rfl⟩
        rw [← hdn] at c1
        have HDN := Lib.hid hdn
        have hdn63 : dn ≤ 9223372036854775807 ∨ 400 < dn := by omega
        clear hat hx hdn okx hiL hokw hdn63
        by_cases hb0 : 150 < i
        · have d1 : decide ((150 : Int) < (i : Int)) = true := decide_eq_true (by omega)
          have d2 : decide (150 < i) = true := decide_eq_true hb0
          have HFW := Lib.hid HPP.out.frm
          go_wp2
          exact FIN.out _ (by refine HFW.out.trans (T := []) ?_ (by simp) (by simp); repeat (first | exact Frm.refl _ _ | apply Frm.alloc | apply Frm.drew))
        have d1 : decide ((150 : Int) < (i : Int)) = false := decide_eq_false (by omega)
        have d2 : decide (150 < i) = false := decide_eq_false hb0
        by_cases hb1 : 400 < dn
        · have d3 : decide ((400 : Int) < (dn : Int)) = true := decide_eq_true (by omega)
          have d4 : decide (400 < dn) = true := decide_eq_true hb1
          have HFW := Lib.hid HPP.out.frm
          go_wp2
          exact FIN.out _ (by refine HFW.out.trans (T := []) ?_ (by simp) (by simp); repeat (first | exact Frm.refl _ _ | apply Frm.alloc | apply Frm.drew))
        have d3 : decide ((400 : Int) < (dn : Int)) = false := decide_eq_false (by omega)
        have d4 : decide (400 < dn) = false := decide_eq_false hb1
        obtain ⟨w1, hw1⟩ : ∃ w1, w1 = wr.alloc (.cells #[.int .u8 (k : Nat), .slice da dn dc, .int .i64 pl, .int .u64 (en : Nat), .bool raw] 41) := ⟨_, rfl⟩
        have hf1 : Frm [] wr w1 := by rw [hw1]; exact (Frm.refl _ _).alloc _
        have HF1 := Lib.hid hf1
        have HPW1 := Lib.hid (HPP.out.pw.here hf1)
        have hfw1 := HPP.out.frm.trans hf1 (U := []) (by simp) (by simp)
        have HDI := wpdid_any ⟨k, da, dc, d, pl, en, raw⟩ (HXW.out.keep hfw1) (by show d.length ≤ 400; have := HDN.out; omega) (fun hne q hq hm => by
          have h1 := bytes_lt HXW.out.data_b hne q hq
          have h2 := HPP.out.apart _ hm
          omega) HPW1.out (by have := HPP.out.low; have := hf1.size; omega) (by have := HPP.out.few; omega)
        unfold Wa.value at HDI
        simp only at HDI
        rw [← HDN.out] at HDI
        have HDI := Lib.hid HDI
        have hwm : IntKind.i64.wrap ((i : Int) + 1) = ((i + 1 : Nat) : Int) := by rw [IntWalk.i64_in _ (by omega)]; rfl
        obtain ⟨m, hm⟩ : ∃ m, m = i + 1 := ⟨_, rfl⟩
        rw [← hm] at hwm
        have HMI := Lib.hid hm
        have HB := Lib.hid (show m ≤ len ∧ m ≤ 151 ∧ len - m < len - i by omega)
        have HWE := Lib.hid hw1
        clear hw1 hf1 hfw1 hm
        go_wp2_with fail
        rw [← HWE.out]
        (with_reducible refine HDI.out.mono ?_)
        rintro e w2 ⟨rfl, G', D', H', su', cl', hpw2, hf2, hG2, hlen2⟩
        have hs1 := HF1.out.size
        have HPP2 : Hid (Pp w w2 B px pm G' P W A m D' H' su' cl') := Lib.hid ⟨hpw2, by have := HPP.out.few; have := HMI.out; omega, fun y hy => by
          rcases List.mem_cons.1 hy with rfl | hy
          · exact HPP.out.apart _ (by simp)
          · rcases List.mem_cons.1 hy with rfl | hy
            · exact HPP.out.apart _ (by simp)
            · rcases hG2 y hy with h | h
              · exact HPP.out.apart _ (by simp [h])
              · have := HPP.out.frm.size; omega, by have := HPP.out.low; have := hf2.size; omega, (HPP.out.frm.trans HF1.out (U := []) (by simp) (by simp)).trans hf2 (by simp) (fun y hy => .inr (HPP.out.apart y hy))⟩
        have HSH := Lib.hid (wpshows_any hpw2 (by have := HPP2.out.few; have := HB.out; omega))
        clear hpw2 hf2 hG2 hlen2 hs1 HPP HPW1 HDI HWE HF1 c0 c1 c2 c3 c4 d1 d2 d3 d4
        go_wp2_with fail
        (with_reducible refine HSH.out.mono ?_)
        rintro e w3 ⟨rfl, hf3⟩
        have HPP3 : Hid (Pp w w3 B px pm G' P W A m D' H' su' cl') := Lib.hid ⟨HPP2.out.pw.here hf3, HPP2.out.few, HPP2.out.apart, by have := HPP2.out.low; have := hf3.size; omega, HPP2.out.frm.trans hf3 (by simp) (by simp)⟩
        clear hf3 HSH HPP2
        go_wp2
        go_roundw
        case rel => exact ⟨m, G', D', H', su', cl', rfl, HB.out.1, HB.out.2.1, HPP3⟩
        case measure => have := HB.out; simpa [intOf] using this.2.2
      · have HFW := Lib.hid HPP.out.frm
        go_wp2
        exact FIN.out _ HFW.out
end Go.Proofs.Ytecfoomjpjcldaa
