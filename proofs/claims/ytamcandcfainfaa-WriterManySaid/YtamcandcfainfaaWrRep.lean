/- The walk of WriterReplaces. -/
import Derived.Test.YtamcandcfainfaaWrWait
import Derived.Test.YtamcandcfainfaaWrAwake
import Derived.Test.YtamcandcfainfaaWrQuo
import Derived.Test.YtamcandcfainfaaQuRef2
namespace Go.Proofs.Ytamcandcfainfaa
open Go.RowKit
set_option maxRecDepth 100000
/-- Where only one place has said so, at most one has. -/
theorem told_one {P W e pn : Nat} {bs : List Bool} (hW : W ≤ P) (h : ∀ j, bs.getD j false = true → j = pn) : toldN P W e bs ≤ 1 := by
  have h1 : toldN P W e bs ≤ (List.range P).countP (fun p => decide (p = pn)) := by
    rw [← cnt_all P W e bs hW]
    refine List.countP_mono_left (fun x _ hx => ?_)
    simp only [Bool.and_eq_true] at hx
    exact decide_eq_true (h x hx.1)
  refine Nat.le_trans h1 ?_
  clear h h1
  have : ∀ P, (List.range P).countP (fun p => decide (p = pn)) = if pn < P then 1 else 0 := by
    intro P
    induction P with
    | zero => simp
    | succ P ih =>
      rw [List.range_succ, List.countP_append, ih]
      by_cases h1 : pn < P
      · rw [if_pos h1, if_pos (by omega)]; simp; omega
      · by_cases h2 : pn = P
        · rw [if_neg h1, if_pos (by omega)]; simp [h2]
        · rw [if_neg h1, if_neg (by omega)]; simp; omega
  rw [this]; split <;> omega
theorem okN_one {P W A pn i : Nat} {H : Nat → Nat → Bool} (hW : W ≤ P) (hA : 1 < A) (h : ∀ a b, H a b = true → b = pn) : okN P W A H i = false := by
  unfold okN enN
  have := told_one (P := P) (W := W) (e := i) (pn := pn) (bs := hasL (H i)) hW (fun j hj => by
    by_cases h1 : j < 7
    · rw [hasL_at _ _ h1] at hj; exact h _ _ hj
    · rw [List.getD_eq_getElem?_getD, List.getElem?_eq_none (by rw [hasL_len]; omega)] at hj; cases hj)
  exact decide_eq_false (by omega)
theorem keepI_none {f : Nat → Bool} {l : List Nat} (h : ∀ q ∈ l, f q = false) : keepI f l = l := by
  unfold keepI
  rw [List.filter_eq_self]
  intro q hq; rw [h q hq]; rfl
/-- A writer of the call's own, its quorum in a block of its own. -/
def WrOn (w : World) (B p g : Nat) (P W A : Nat) (D : List (List Nat)) (H : Nat → Nat → Bool) (su : Nat) (z : World) : Prop :=
  Wq z B p [] P W A D H su false ∧ Whole z g 23 #[.int .i64 P, .int .i64 W, .int .i64 A] ∧ g < p ∧ w.heap.size ≤ p ∧ Frm [] w z
theorem WrOn.step {w z z' : World} {B p g P W A : Nat} {D D' : List (List Nat)} {H H' : Nat → Nat → Bool} {su su' : Nat} (h : WrOn w B p g P W A D H su z) (hf : Frm [p] z z') (hq : Wq z' B p [] P W A D' H' su' false) : WrOn w B p g P W A D' H' su' z' :=
  ⟨hq, hf.whole h.2.1 (by simp; have := h.2.2.1; omega), h.2.2.1, h.2.2.2.1, h.2.2.2.2.trans hf (by simp) (fun x hx => .inr (by simp at hx; subst hx; exact h.2.2.2.1))⟩
theorem WrOn.here {w z z' : World} {B p g P W A : Nat} {D : List (List Nat)} {H : Nat → Nat → Bool} {su : Nat} (h : WrOn w B p g P W A D H su z) (hf : Frm [] z z') : WrOn w B p g P W A D H su z' := h.step (hf.weak (by simp)) (h.1.here hf)
def Rp1 (w : World) (B p g P W A c : Nat) (s41 : Value) (z : World) : Prop :=
  ∃ (i : Nat) (D : List (List Nat)) (H : Nat → Nat → Bool), s41 = .int .i64 (i : Nat) ∧ i ≤ c ∧ D.length = i ∧ Hid (∀ a b, H a b = false) ∧ Hid (WrOn w B p g P W A D H 0 z)
def Rp2 (w : World) (B p g P W A c pn : Nat) (D : List (List Nat)) (s49 s12 : Value) (z : World) : Prop :=
  ∃ (i su : Nat) (H : Nat → Nat → Bool), s49 = .int .i64 (i : Nat) ∧ s12 = .int .i64 (su : Nat) ∧ i ≤ c ∧ Hid (∀ a b, H a b = true → b = pn) ∧ Hid (1 < A → su = 0) ∧ Hid (WrOn w B p g P W A D H su z)
def Rp3 (wb : World) (k : Nat) (s71 : Value) (z : World) : Prop := ∃ i : Nat, s71 = .int .i64 (i : Nat) ∧ i ≤ k ∧ Hid (Frm [] wb z)
def Rp4 (wb : World) (P W su c pn : Nat) (s21 s20 : Value) (z : World) : Prop := ∃ i v : Nat, s21 = .int .i64 (i : Nat) ∧ s20 = .int .i64 (v : Nat) ∧ su ≤ i ∧ i ≤ c ∧ v ≤ i ∧ Hid (v = (mustN P W su i (pn : Int)).length) ∧ Hid (Frm [] wb z)
set_option maxHeartbeats 8000000 in
theorem writerReplaces_walk (n pl cn : Nat) (w : World) (hn : n < 65536) (hpl : pl < 256) (_hcn : cn < 256) :
    Calls Try.prog 7 #[.int .u16 (n : Nat), .int .u8 (pl : Nat), .int .u8 (cn : Nat)] w fun e w' => e = .returned (.bool true) ∧ Below w.heap.size w w' := by
  have kc := fun (w : World) (C : Array Value) (n c : Nat) => Lib.run_convert_bytes_const (P := Try.prog) w 38 5 C n c Try.underlying38 Try.underlying5
  have HQN := Lib.hid (fun z => quorum_any n z hn)
  go_enter Try.func7, Try.ntmps7
  go_wp2_with fail
  (with_reducible refine (awake11_any _).mono ?_)
  rintro e w1 ⟨rfl, hf1⟩
  have HF1 := Lib.hid hf1
  clear hf1
  go_wp2_with fail
  (with_reducible refine (HQN.out _).mono ?_)
  rintro e w2 ⟨P, W, A, r1, r2, r3, r4, rfl, hf2⟩
  unfold quV
  have HF2 := Lib.hid (HF1.out.trans hf2 (U := []) (by simp) (by simp))
  have hok : okQ (P : Int) (W : Int) (A : Int) = true := by rw [okQ_iff]; omega
  have HNW := Lib.hid (fun z => wrnew_ok P W A z hok)
  clear hf2 hok HQN
  unfold quV at HNW
  go_wp2_with fail
  obtain ⟨w3, hw3⟩ : ∃ w3, w3 = w2.alloc (.cells #[.int .i64 P, .int .i64 W, .int .i64 A] 23) := ⟨_, rfl⟩
  rw [← hw3]
  have hf3 : Frm [] w2 w3 := by rw [hw3]; exact (Frm.refl _ _).alloc _
  have hQ3 : Whole w3 w2.heap.size 23 #[.int .i64 P, .int .i64 W, .int .i64 A] := by rw [hw3]; exact Whole.made _ _ _
  have hF3 := HF2.out.trans hf3 (U := []) (by simp) (by simp)
  have hlt3 := hQ3.lt
  obtain ⟨g, hg⟩ : ∃ g, g = w2.heap.size := ⟨_, rfl⟩
  rw [← hg] at hQ3 hlt3
  have HG := Lib.hid hg
  have HW3 := Lib.hid hw3
  have HF3 := Lib.hid hF3
  have HQ3 := Lib.hid hQ3
  have HLT3 := Lib.hid hlt3
  clear hf3 hQ3 hF3 hlt3 hw3
  (with_reducible refine (HNW.out _).mono ?_)
  rintro e w4 ⟨p, rfl, hf4, hp, hW4⟩
  rw [← hg]
  clear hg
  have hON : WrOn w w3.heap.size p g P W A [] (fun _ _ => false) 0 w4 := ⟨Wq.made hf4 hp hW4 (by omega) (by simp), hf4.whole HQ3.out (by simp), by have := HLT3.out; omega, by have := HF3.out.size; omega, HF3.out.trans hf4 (by simp) (by simp)⟩
  have c0 := hON.2.1.cell 0
  have p1 : (P : Int) ≠ 0 := by omega
  have b1 : ((pl : Int)).tmod (P : Int) = ((pl % P : Nat) : Int) := modI pl P
  have hpn : pl % P < P := Nat.mod_lt _ (by omega)
  obtain ⟨pn, hpn0⟩ : ∃ pn, pn = pl % P := ⟨_, rfl⟩
  rw [← hpn0] at b1 hpn
  have b2 : ((cn : Int)).tmod 10 = ((cn % 10 : Nat) : Int) := modI cn 10
  obtain ⟨cm, hcm⟩ : ∃ cm, cm = cn % 10 := ⟨_, rfl⟩
  have hcm10 : cm < 10 := by omega
  rw [← hcm] at b2
  have v1 : IntKind.u8.wrap (cm : Int) = (cm : Int) := by simp [IntKind.wrap, IntKind.bits, IntKind.signed]; omega
  obtain ⟨c, hc⟩ : ∃ c, c = 1 + cm := ⟨_, rfl⟩
  have v2 : IntKind.i64.wrap (1 + (cm : Int)) = (c : Int) := by rw [hc]; exact IntWalk.i64_in _ (by omega)
  have v3 : IntKind.i64.wrap (pn : Int) = (pn : Int) := IntWalk.i64_in _ (by omega)
  have v4 : IntKind.i64.wrap (pl : Int) = (pl : Int) := IntWalk.i64_in _ (by omega)
  have v5 : IntKind.i64.wrap (cm : Int) = (cm : Int) := IntWalk.i64_in _ (by omega)
  have v6 : 1 + (cm : Int) = (c : Int) := by omega
  have hc10 : c ≤ 10 := by omega
  have HON := Lib.hid hON
  have HPN := Lib.hid hpn
  have HC := Lib.hid hc10
  clear hf4 hp hW4 hON hpn hc10 hpn0 hcm hc HNW HQ3 HLT3 HF3 HW3 HG
  go_wp2
  clear c0 b1 b2 v1 v2 v3 v4 v5 v6 p1
  have HR1 : Hid (Rp1 w w3.heap.size p g P W A c (.int .i64 0) w4) := Lib.hid ⟨0, [], fun _ _ => false, rfl, Nat.zero_le _, rfl, Lib.hid (fun _ _ => rfl), HON⟩
  clear HON
  go_loopw [41] (fun s41 wr => Rp1 w w3.heap.size p g P W A c s41 wr) (fun s41 _ => c - (intOf s41).toNat)
  case atStart => exact HR1.out
  case round =>
    clear HR1
    obtain ⟨i, D, H, rfl, hic, hD, HH, HON⟩ := hrel
    by_cases hlt : i < c
    · have d1 : decide ((i : Int) < (c : Int)) = true := decide_eq_true (by omega)
      have d2 : decide (i < c) = true := decide_eq_true hlt
      have hfa : Frm [] wr (wr.alloc (.cells #[.int .u8 120] 5 (1, 2))) := (Frm.refl _ _).alloc _
      have HA := Lib.hid (wradd_any (some ⟨wr.heap.size, 0, none⟩) 1 1 [120] (HON.out.here hfa).1 (by simp) (u8_at11 wr 120 (by omega) _ _) rfl (by simp))
      have HOA := Lib.hid (HON.out.here hfa)
      have hwm : IntKind.i64.wrap ((i : Int) + 1) = ((i + 1 : Nat) : Int) := by rw [IntWalk.i64_in _ (by have := HC.out; omega)]; rfl
      have HWM := Lib.hid hwm
      have hz : wrAddE D 0 false [120].length = 0 := by
        have := HC.out
        unfold wrAddE
        rw [if_neg (by simp), if_neg (by simp), if_neg (by omega)]
      have HZ := Lib.hid hz
      have HD := Lib.hid hD
      have HLT := Lib.hid hlt
      clear hfa hz hD hwm hlt
      go_wp2_with fail
      (with_reducible refine HA.out.mono ?_)
      rintro e wx ⟨hfx, (⟨hb, _⟩ | ⟨_, rfl, hqx⟩)⟩
      · exact absurd HZ.out hb
      obtain ⟨m, hm⟩ : ∃ m, m = i + 1 := ⟨_, rfl⟩
      have hwm := HWM.out
      rw [← hm] at hwm
      have HREL : Hid (Rp1 w w3.heap.size p g P W A c (.int .i64 (m : Nat)) wx) := Lib.hid ⟨m, _, _, rfl, by have := HLT.out; omega, by rw [List.length_append, HD.out, hm]; rfl, Lib.hid (fun a b => by
        unfold hasNew
        split
        · rfl
        · exact HH.out a b), Lib.hid (HOA.out.step hfx hqx)⟩
      have HMM : Hid (c - m < c - i) := Lib.hid (by have := HLT.out; omega)
      clear hfx hqx hm HA HOA
      go_wp2
      go_roundw
      case rel => exact HREL.out
      case measure => have := HMM.out; simpa [intOf] using this
    · have d1 : decide ((i : Int) < (c : Int)) = false := decide_eq_false (by omega)
      have d2 : decide (i < c) = false := decide_eq_false hlt
      have hDc : D.length = c := by omega
      have HDC := Lib.hid hDc
      have HR2 : Hid (Rp2 w w3.heap.size p g P W A c pn D (.int .i64 0) (.int .i64 0) wr) := Lib.hid ⟨0, 0, H, rfl, rfl, Nat.zero_le _, Lib.hid (fun a b h => by rw [HH.out] at h; cases h), Lib.hid (fun _ => rfl), HON⟩
      clear hic hD hDc HH HON hlt
      go_wp2
      clear d1 d2
      go_loopw [49, 12] (fun s49 s12 wr => Rp2 w w3.heap.size p g P W A c pn D s49 s12 wr) (fun s49 _ _ => c - (intOf s49).toNat)
      case atStart => exact HR2.out
      case round =>
        clear HR2
        obtain ⟨i, su, H, rfl, rfl, hic, HH, HSU, HON⟩ := hrel
        have hsc : su ≤ c := by have := HON.out.1.wait.1; rw [HDC.out] at this; exact this
        by_cases hlt : i < c
        · have d1 : decide ((i : Int) < (c : Int)) = true := decide_eq_true (by omega)
          have d2 : decide (i < c) = true := decide_eq_true hlt
          have hi64 : i < 18446744073709551616 := by have := HC.out; omega
          have HK := Lib.hid (wrack_any (pn : Int) i HON.out.1 hi64)
          have hwm : IntKind.i64.wrap ((i : Int) + 1) = ((i + 1 : Nat) : Int) := by rw [IntWalk.i64_in _ (by have := HC.out; omega)]; rfl
          have hcv : IntKind.u64.wrap (i : Int) = (i : Int) := by simp [IntKind.wrap, IntKind.bits, IntKind.signed]; omega
          have HWM := Lib.hid hwm
          have HLT := Lib.hid hlt
          have HSC := Lib.hid hsc
          have HREL : Hid (∀ (e : Ending) (wx : World), WrAckEnd wr w3.heap.size p [] P W A D H su false (pn : Int) i e wx → ∃ (a : Option Addr) (k cx s : Nat), e = .returned (.slice a k cx) ∧ su + k = s ∧ s ≤ c ∧ Rp2 w w3.heap.size p g P W A c pn D (.int .i64 ((i + 1 : Nat) : Int)) (.int .i64 (s : Nat)) wx) := Lib.hid fun e wx hx => by
            have hlt := HLT.out
            rcases hx with ⟨_, rfl, hf, hq⟩ | ⟨_, _, _, pm, hpm, _, s, a, cx, X, rfl, hs1, hs2, hits, hall, _, _, hq, hf⟩
            · exact ⟨none, 0, 0, su, rfl, rfl, HSC.out, i + 1, su, H, rfl, rfl, by omega, HH, HSU, Lib.hid (HON.out.here hf)⟩
            · obtain rfl : pm = pn := by omega
              have hlen : X.length = s - su := by rw [← its_lengthW, hits, itemsN_len]
              have hH' : ∀ x y, hasAdd H i pm x y = true → y = pm := fun x y h => by
                unfold hasAdd at h
                split at h
                · rename_i h1; exact h1.2
                · exact HH.out x y h
              refine ⟨a, X.length, cx, s, rfl, by omega, by rw [← HDC.out]; exact hs2, i + 1, s, _, rfl, rfl, by omega, Lib.hid hH', Lib.hid (fun hA => ?_), Lib.hid (HON.out.step hf hq)⟩
              have h0 := HSU.out hA
              rcases Nat.eq_zero_or_pos s with h1 | h1
              · exact h1
              · have h2 := hall 0 (by omega) h1
                rw [okN_one (by omega) hA hH'] at h2; cases h2
          clear hwm hlt hsc
          go_wp2_with fail
          (with_reducible refine HK.out.mono ?_)
          intro e wx hx
          obtain ⟨a, k, cx, s, rfl, hsk, hsc, hr⟩ := HREL.out e wx hx
          have hw2 : IntKind.i64.wrap ((su : Int) + (k : Int)) = (s : Int) := by rw [IntWalk.i64_in _ (by have := HC.out; omega)]; omega
          obtain ⟨m, hm⟩ : ∃ m, m = i + 1 := ⟨_, rfl⟩
          have hwm := HWM.out
          rw [← hm] at hwm hr
          have HREL2 := Lib.hid hr
          have HMM : Hid (c - m < c - i) := Lib.hid (by have := HLT.out; omega)
          clear hx hr hm hsk hsc HREL HK
          go_wp2
          go_roundw
          case rel => exact HREL2.out
          case measure => have := HMM.out; simpa [intOf] using this
        · have d1 : decide ((i : Int) < (c : Int)) = false := decide_eq_false (by omega)
          have d2 : decide (i < c) = false := decide_eq_false hlt
          have HSU1 := HSU
          have HRP := wrreplace_any (pn : Int) HON.out.1
          rw [HDC.out] at HRP
          have HRP := Lib.hid HRP
          have HSC := Lib.hid hsc
          clear hic hlt hsc
          go_wp2_with fail
          (with_reducible refine HRP.out.mono ?_)
          rintro e wa ⟨ra, rc, rfl, _, hqa, hfa⟩
          have HONA := Lib.hid (HON.out.step hfa hqa)
          obtain ⟨H', hH'⟩ : ∃ H', H' = hasDrop P W H su c (pn : Int) := ⟨_, rfl⟩
          rw [← hH'] at HONA
          have HLK : Hid (∀ x, su ≤ x → x < c → keepI (H' x) (setN P W x) = setN P W x) := Lib.hid fun x h1 h2 => keepI_none fun q hq => by
            rw [hH']
            unfold hasDrop
            split
            · rfl
            · rename_i h3
              cases hb : H x q with
              | false => rfl
              | true =>
                have h4 := HH.out x q hb
                subst h4
                exact absurd ⟨h1, h2, by rw [hasI_nat]; simpa using hq, rfl⟩ h3
          obtain ⟨mk, hmk⟩ : ∃ mk, mk = (mustN P W su c (pn : Int)).length := ⟨_, rfl⟩
          rw [← hmk]
          have HMK := Lib.hid hmk
          have HWT := waiting_any HONA.out.1
          rw [HDC.out] at HWT
          have HWT := Lib.hid HWT
          clear hqa hfa hH' hmk HRP HON HH
          go_wp2_with fail
          (with_reducible refine HWT.out.mono ?_)
          rintro e wb ⟨xa, xc, X, b, bc, k, rfl, hk, _, _, _, hpl2, hfb⟩
          have HONB := Lib.hid (HONA.out.here hfb)
          have HPL := Lib.hid hpl2
          have HSU := Lib.hid (fun (z : World) (hz : Frm [] wb z) => wrsure_any (HONB.out.1.here hz))
          have hA1 : 1 ≤ A := r1
          have HST := Lib.hid (fun (x : Nat) (hx : x < 18446744073709551616) (z : World) => rset_any P W A x z r1 r2 r4 r3 hx)
          unfold quV at HST
          have Q0 : ∀ y, Frm [] wb y → y.cell? ⟨g, 0, none⟩ = some (.int .i64 (P : Nat)) := fun y hy => ((HONB.out.here hy).2.1).cell 0
          have Q1 : ∀ y, Frm [] wb y → y.cell? ⟨g, 1, none⟩ = some (.int .i64 (W : Nat)) := fun y hy => ((HONB.out.here hy).2.1).cell 1
          have Q2 : ∀ y, Frm [] wb y → y.cell? ⟨g, 2, none⟩ = some (.int .i64 (A : Nat)) := fun y hy => ((HONB.out.here hy).2.1).cell 2
          have HQ0 := Lib.hid Q0
          have HQ1 := Lib.hid Q1
          have HQ2 := Lib.hid Q2
          have HK := Lib.hid hk
          have HFWB : Hid (Frm [] w wb) := Lib.hid HONB.out.2.2.2.2
          have HR3 : Hid (Rp3 wb k (.int .i64 0) wb) := Lib.hid ⟨0, rfl, Nat.zero_le _, Lib.hid (Frm.refl _ _)⟩
          clear hk hpl2 hfb HWT HONA Q0 Q1 Q2 d1 d2
          go_wp2
          go_loopw [71] (fun s71 wr => Rp3 wb k s71 wr) (fun s71 _ => k - (intOf s71).toNat)
          case atStart => exact HR3.out
          case round =>
            clear HR3
            obtain ⟨i, rfl, hik, HFZ⟩ := hrel
            by_cases hlt : i < k
            · have d1 : decide ((i : Int) < (k : Int)) = true := decide_eq_true (by omega)
              have d2 : decide (i < k) = true := decide_eq_true hlt
              have hkc : k ≤ 10 := by have := HK.out; have := HC.out; omega
              have hwm : IntKind.i64.wrap ((i : Int) + 1) = ((i + 1 : Nat) : Int) := by rw [IntWalk.i64_in _ (by omega)]; rfl
              have hcv : IntKind.u64.wrap (i : Int) = (i : Int) := by simp [IntKind.wrap, IntKind.bits, IntKind.signed]; omega
              obtain ⟨x, hx⟩ : ∃ x, x = su + i := ⟨_, rfl⟩
              have hadd : IntKind.u64.wrap ((su : Int) + (i : Int)) = (x : Int) := by have := HSC.out; have := HC.out; simp [IntKind.wrap, IntKind.bits, IntKind.signed]; omega
              have HST := Lib.hid (HST.out x (by have := HSC.out; have := HC.out; omega))
              obtain ⟨bg, off, rfl, ai, ci, hcell, _⟩ := HPL.out.at (i := i) (by rw [lackL_len]; have := HK.out; omega)
              have hll : ((lackL P W H' su c).getD i []).length = W := by
                have h1 : (lackL P W H' su c).getD i [] = keepI (H' (su + i)) (setN P W (su + i)) := by
                  unfold lackL
                  simp [List.getD, show i < c - su by have := HK.out; omega]
                rw [h1, HLK.out _ (by omega) (by have := HK.out; omega)]
                simp [setN]
              rw [hll] at hcell
              have L0 : wr.cell? ⟨bg, off + i, none⟩ = some (.slice ai W ci) := (HFZ.out.cell (p := ⟨bg, off + i, none⟩) (block_lt_of_cell hcell) (by simp)).trans hcell
              have Q0 : ∀ y, Frm [] wr y → y.cell? ⟨g, 0, none⟩ = some (.int .i64 (P : Nat)) := fun y hy => HQ0.out y (HFZ.out.trans hy (U := []) (by simp) (by simp))
              have Q1 : ∀ y, Frm [] wr y → y.cell? ⟨g, 1, none⟩ = some (.int .i64 (W : Nat)) := fun y hy => HQ1.out y (HFZ.out.trans hy (U := []) (by simp) (by simp))
              have Q2 : ∀ y, Frm [] wr y → y.cell? ⟨g, 2, none⟩ = some (.int .i64 (A : Nat)) := fun y hy => HQ2.out y (HFZ.out.trans hy (U := []) (by simp) (by simp))
              have HWM := Lib.hid hwm
              have HLT := Lib.hid hlt
              have hne : ((W : Int) == (W : Int)) = true := by simp
              clear hwm hlt hx hll hcell hkc hik
              go_wp2_with fail
              refine wp_region_held_drew (S := fun w' => Frm [] wr w') (by kernel_rfl) (Frm.drew (Frm.refl _ _)) (fun hHeld => ?_)
              refine wpAnyH_take (i := 0) (oi := ⟨some 76, _, _, _, _, _⟩) (v := ?_) rfl (by kernel_rfl) (by kernel_rfl) (by kernel_rfl) (fun _ _ _ h => h) (Or.inl ⟨by rfl, ?_⟩) (by assumption) ?_
              rotate_left 1
              · (intro w hSw; (try dsimp only at hSw); go_simp; all_goals with_reducible rfl)
              try simp only [Act.put, List.setIfInBounds_toArray, List.set_cons_zero, List.set_cons_succ]
              refine wpAnyH_take (i := 1) (oi := ⟨some 77, _, _, _, _, _⟩) (v := ?_) rfl (by kernel_rfl) (by kernel_rfl) (by kernel_rfl) (fun _ _ _ h => h) (Or.inl ⟨by rfl, ?_⟩) (by assumption) ?_
              rotate_left 1
              · (intro w hSw; (try dsimp only at hSw); go_simp; all_goals with_reducible rfl)
              try simp only [Act.put, List.setIfInBounds_toArray, List.set_cons_zero, List.set_cons_succ]
              refine wpAnyH_take (i := 3) (oi := ⟨some 79, _, _, _, _, _⟩) (v := ?_) rfl (by kernel_rfl) (by kernel_rfl) (by kernel_rfl) (fun _ _ _ h => h) (Or.inl ⟨by rfl, ?_⟩) (by assumption) ?_
              rotate_left 1
              · (intro w hSw; (try dsimp only at hSw); go_simp; all_goals with_reducible rfl)
              try simp only [Act.put, List.setIfInBounds_toArray, List.set_cons_zero, List.set_cons_succ]
              refine wpAnyH_take (i := 4) (oi := ⟨some 80, _, _, _, _, _⟩) (v := ?_) rfl (by kernel_rfl) (by kernel_rfl) (by kernel_rfl) (fun _ _ _ h => h) (Or.inl ⟨by rfl, ?_⟩) (by assumption) ?_
              rotate_left 1
              · (intro w hSw; (try dsimp only at hSw); go_simp; all_goals with_reducible rfl)
              try simp only [Act.put, List.setIfInBounds_toArray, List.set_cons_zero, List.set_cons_succ]
              refine wpAnyH_ready (rs := [2]) (by kernel_rfl) (by simp) ?_
              refine AllReadyH.cons (o := ⟨some 78, _, _, _, _, _⟩) rfl (fun K hK => ?_) AllReadyH.nil
              go_simp
              (go_at_call 19; (refine (HSU.out _ (HFZ.out.trans (U := []) ((by first | exact Frm.refl _ _ | exact (Frm.refl _ _).drew | exact (Frm.refl _ _).drewN _) : Frm [] wr _) (by simp) (by simp))).mono ?_); rintro e w' ⟨rfl, rfl⟩)
              go_wp2_with fail
              refine hK.out _ _ (by assumption) (fun hHeld => ?_)
              clear hK K
              try simp only [Act.put, List.setIfInBounds_toArray, List.set_cons_zero, List.set_cons_succ]
              refine wpAnyH_take (i := 5) (oi := ⟨some 81, _, _, _, _, _⟩) (v := ?_) rfl (by kernel_rfl) (by kernel_rfl) (by kernel_rfl) (fun _ _ _ h => h) (Or.inl ⟨by rfl, ?_⟩) (by assumption) ?_
              rotate_left 1
              · (intro w hSw; (try dsimp only at hSw); go_simp; all_goals with_reducible rfl)
              try simp only [Act.put, List.setIfInBounds_toArray, List.set_cons_zero, List.set_cons_succ]
              refine wpAnyH_ready (rs := [6]) (by kernel_rfl) (by simp) ?_
              refine AllReadyH.cons (o := ⟨some 82, _, _, _, _, _⟩) rfl (fun K hK => ?_) AllReadyH.nil
              go_simp
              (go_at_call 17; (refine (HST.out _).mono ?_); rintro e w5 ⟨aS, cS, rfl, _, hf5⟩; have S5 : Frm [] wr w5 := Frm.trans (U := []) ((by first | exact Frm.refl _ _ | exact (Frm.refl _ _).drew | exact (Frm.refl _ _).drewN _) : Frm [] wr _) hf5 (by simp) (by simp); clear hf5)
              go_wp2_with fail
              refine hK.out _ _ (by assumption) (fun hHeld => ?_)
              clear hK K
              try simp only [Act.put, List.setIfInBounds_toArray, List.set_cons_zero, List.set_cons_succ]
              refine wpAnyH_take (i := 7) (oi := ⟨some 19, _, _, _, _, _⟩) (v := ?_) rfl (by kernel_rfl) (by kernel_rfl) (by kernel_rfl) (fun _ _ _ h => h) (Or.inl ⟨by rfl, ?_⟩) (by assumption) ?_
              rotate_left 1
              · (intro w hSw; (try dsimp only at hSw); go_simp; all_goals with_reducible rfl)
              try simp only [Act.put, List.setIfInBounds_toArray, List.set_cons_zero, List.set_cons_succ]
              refine wpAnyH_done (by kernel_rfl) ?_ _
              clear Q0 Q1 Q2 L0
              obtain ⟨m, hm⟩ : ∃ m, m = i + 1 := ⟨_, rfl⟩
              have hwm := HWM.out
              rw [← hm] at hwm
              have HREL : Hid (Rp3 wb k (.int .i64 (m : Nat)) w5) := Lib.hid ⟨m, rfl, by have := HLT.out; omega, Lib.hid (HFZ.out.trans S5 (U := []) (by simp) (by simp))⟩
              have HMM : Hid (k - m < k - i) := Lib.hid (by have := HLT.out; omega)
              clear hm
              go_wp2
              go_roundw
              case rel => exact HREL.out
              case measure => have := HMM.out; simpa [intOf] using this
            · have d1 : decide ((i : Int) < (k : Int)) = false := decide_eq_false (by omega)
              have d2 : decide (i < k) = false := decide_eq_false hlt
              have HR4 : Hid (Rp4 wb P W su c pn (.int .i64 (su : Nat)) (.int .i64 0) wr) := Lib.hid ⟨su, 0, rfl, rfl, Nat.le_refl _, HSC.out, Nat.zero_le _, Lib.hid (by rw [mustN_self]; rfl), HFZ⟩
              clear hik HFZ hlt
              go_wp2
              clear d1 d2
              go_loopw [21, 20] (fun s21 s20 wr => Rp4 wb P W su c pn s21 s20 wr) (fun s21 _ _ => c - (intOf s21).toNat)
              case atStart => exact HR4.out
              case round =>
                clear HR4
                obtain ⟨i, v, rfl, rfl, hi1, hi2, hvi, HV, HFZ⟩ := hrel
                have hc10 := HC.out
                by_cases hlt : i < c
                · have d1 : decide ((i : Int) < (c : Int)) = true := decide_eq_true (by omega)
                  have d2 : decide (i < c) = true := decide_eq_true hlt
                  have hwm : IntKind.i64.wrap ((i : Int) + 1) = ((i + 1 : Nat) : Int) := by rw [IntWalk.i64_in _ (by omega)]; rfl
                  have hcv : IntKind.u64.wrap (i : Int) = (i : Int) := by simp [IntKind.wrap, IntKind.bits, IntKind.signed]; omega
                  have HST := Lib.hid (HST.out i (by omega))
                  have Q0 := HQ0.out _ HFZ.out
                  have Q1 := HQ1.out _ HFZ.out
                  have Q2 := HQ2.out _ HFZ.out
                  have HWM := Lib.hid hwm
                  have HLT := Lib.hid hlt
                  have HI1 := Lib.hid hi1
                  have HVI := Lib.hid hvi
                  clear hwm hlt hi1 hi2 hvi hc10
                  go_wp2_with fail
                  (with_reducible refine (HST.out _).mono ?_)
                  rintro e w5 ⟨aS, cS, rfl, hin, hf5⟩
                  have HIN := Lib.hid (in_any aS W cS pn (setN P W i) w5 hin (by simp [setN]) (by simp [setN]; omega))
                  have HF5 := Lib.hid (HFZ.out.trans hf5 (U := []) (by simp) (by simp))
                  obtain ⟨bb, hbb⟩ : ∃ bb, bb = (setN P W i).contains pn := ⟨_, rfl⟩
                  rw [← hbb] at HIN
                  have HBB := Lib.hid hbb
                  clear hin hf5 hbb Q0 Q1 Q2 HST
                  go_wp2_with fail
                  (with_reducible refine HIN.out.mono ?_)
                  rintro e w6 ⟨rfl, rfl⟩
                  obtain ⟨m, hm⟩ : ∃ m, m = i + 1 := ⟨_, rfl⟩
                  have hwm := HWM.out
                  rw [← hm] at hwm
                  have hMM : c - m < c - i := by have := HLT.out; omega
                  cases bb with
                  | true =>
                    have hwv : IntKind.i64.wrap ((v : Int) + 1) = ((v + 1 : Nat) : Int) := by rw [IntWalk.i64_in _ (by have := HVI.out; have := HLT.out; have := HC.out; omega)]; rfl
                    have HREL : Hid (Rp4 wb P W su c pn (.int .i64 (m : Nat)) (.int .i64 ((v + 1 : Nat) : Int)) w6) := Lib.hid ⟨m, v + 1, rfl, rfl, by have := HI1.out; omega, by have := HLT.out; omega, by have := HVI.out; omega, Lib.hid (by rw [hm, mustN_succ P W _ HI1.out, hasI_nat, ← HBB.out, HV.out]; simp), HF5⟩
                    have HMM := Lib.hid hMM
                    clear hm hMM HIN
                    go_wp2
                    go_roundw
                    case rel => exact HREL.out
                    case measure => have := HMM.out; simpa [intOf] using this
                  | false =>
                    have HREL : Hid (Rp4 wb P W su c pn (.int .i64 (m : Nat)) (.int .i64 (v : Nat)) w6) := Lib.hid ⟨m, v, rfl, rfl, by have := HI1.out; omega, by have := HLT.out; omega, by have := HVI.out; omega, Lib.hid (by rw [hm, mustN_succ P W _ HI1.out, hasI_nat, ← HBB.out, HV.out]; simp), HF5⟩
                    have HMM := Lib.hid hMM
                    clear hm hMM HIN
                    go_wp2
                    go_roundw
                    case rel => exact HREL.out
                    case measure => have := HMM.out; simpa [intOf] using this
                · obtain rfl : i = c := by omega
                  have d1 : decide ((i : Int) < (i : Int)) = false := by simp
                  have d2 : decide (i < i) = false := by simp
                  obtain rfl : v = mk := by rw [HV.out, HMK.out]
                  have Q2 := HQ2.out _ HFZ.out
                  have HE : Hid (∀ z, Frm [] wr z → Below w.heap.size w z) := Lib.hid fun z hz => ((HFWB.out.trans HFZ.out (U := []) (by simp) (by simp)).trans hz (U := []) (by simp) (by simp)).below (by simp) (Nat.le_refl _)
                  have HSUZ := Lib.hid (HSU.out _ HFZ.out)
                  have hcv : IntKind.u64.wrap (su : Int) = (su : Int) := by have := HSC.out; simp [IntKind.wrap, IntKind.bits, IntKind.signed]; omega
                  clear hlt hi1 hi2 hvi
                  by_cases hA : 1 < A
                  · have hs0 : su = 0 := HSU1.out hA
                    subst hs0
                    have a1 : decide ((1 : Int) < (A : Int)) = true := decide_eq_true (by omega)
                    have a2 : decide (1 < A) = true := decide_eq_true hA
                    clear hA
                    go_wp2_with ((with_reducible refine HSUZ.out.mono ?_); rintro e w' ⟨rfl, rfl⟩)
                    go_ret
                    exact ⟨by rfl, HE.out _ (by first | exact Frm.refl _ _ | exact (Frm.refl _ _).drew | exact (Frm.refl _ _).drewN _)⟩
                  · obtain rfl : A = 1 := by omega
                    clear hA
                    go_wp2_with ((with_reducible refine HSUZ.out.mono ?_); rintro e w' ⟨rfl, rfl⟩)
                    go_ret
                    exact ⟨by rfl, HE.out _ (by first | exact Frm.refl _ _ | exact (Frm.refl _ _).drew | exact (Frm.refl _ _).drewN _)⟩
end Go.Proofs.Ytamcandcfainfaa
