/- The walk of WriterMany. -/
import Derived.Test.YtamcandcfainfaaWrRep
namespace Go.Proofs.Ytamcandcfainfaa
open Go.RowKit
set_option maxRecDepth 100000
theorem okN_zero {P W A a : Nat} {H : Nat → Nat → Bool} (hA : 1 ≤ A) (h : ∀ b, H a b = false) : okN P W A H a = false := by
  unfold okN enN toldN
  have h0 : (List.range W).countP (fun i => (hasL (H a)).getD (plN P a i) false) = 0 := by
    rw [List.countP_eq_zero]
    intro i _
    by_cases h1 : plN P a i < 7
    · rw [hasL_at _ _ h1, h]; simp
    · rw [List.getD_eq_getElem?_getD, List.getElem?_eq_none (by rw [hasL_len]; omega)]; simp
  rw [h0]; exact decide_eq_false (by omega)
theorem okN_full {P W A a : Nat} {H : Nat → Nat → Bool} (hA : A ≤ W) (h7 : P ≤ 7) (hP : 0 < P) (h : ∀ b, b ∈ setN P W a → H a b = true) : okN P W A H a = true := by
  unfold okN enN toldN
  have h0 : (List.range W).countP (fun i => (hasL (H a)).getD (plN P a i) false) = (List.range W).length := by
    rw [List.countP_eq_length]
    intro i hi
    have := plN_lt hP a i
    rw [hasL_at _ _ (by omega)]
    exact h _ (List.mem_map.2 ⟨i, hi, rfl⟩)
  rw [h0]; exact decide_eq_true (by simp; omega)
/-- In the midst of hearing the places of the entry i, up to p. -/
def AkS (P W A i p su : Nat) (H : Nat → Nat → Bool) : Prop :=
  (∀ a, i < a → ∀ b, H a b = false) ∧ (su = i ∨ su = i + 1) ∧ (su = i → okN P W A H i = false ∧ ∀ b, b < p → b ∈ setN P W i → H i b = true)
theorem ak_step {wr wx : World} {B q P W A i p su : Nat} {D : List (List Nat)} {H : Nat → Nat → Bool} {e : Ending} (h : AkS P W A i p su H) (hx : WrAckEnd wr B q [] P W A D H su false (p : Int) i e wx) (hi : i < D.length) (hA : 1 ≤ A) :
    ∃ a k c s H', e = .returned (.slice a k c) ∧ Frm [q] wr wx ∧ Wq wx B q [] P W A D H' s false ∧ AkS P W A i (p + 1) s H' := by
  obtain ⟨h1, h2, h3⟩ := h
  rcases hx with ⟨hb, rfl, hf, hq⟩ | ⟨hs, _, hin, pm, hpm, _, s, a, cx, X, rfl, hs1, hs2, _, hall, hend, _, hq, hf⟩
  · refine ⟨none, 0, 0, su, H, rfl, hf.weak (by simp), hq, h1, h2, fun he => ⟨(h3 he).1, fun b hbp hbs => ?_⟩⟩
    rcases hb with hb | hb | hb
    · omega
    · omega
    · by_cases hbb : b = p
      · subst hbb
        rw [hasI_nat] at hb
        have : (setN P W i).contains b = true := by simpa using hbs
        rw [this] at hb; cases hb
      · exact (h3 he).2 b (by omega) hbs
  · obtain rfl : pm = p := by omega
    have hsu : su = i := by omega
    have h1' : ∀ a, i < a → ∀ b, hasAdd H i pm a b = false := fun a ha b => by
      unfold hasAdd
      rw [if_neg (by omega)]
      exact h1 a ha b
    have hsi : s ≤ i + 1 := by
      rcases Nat.lt_or_ge (i + 1) s with h4 | h4
      · have h5 := hall (i + 1) (by omega) h4
        rw [okN_zero hA (h1' (i + 1) (by omega))] at h5; cases h5
      · exact h4
    refine ⟨a, X.length, cx, s, _, rfl, hf, hq, h1', by omega, fun he => ⟨?_, fun b hbp hbs => ?_⟩⟩
    · have := hend (by omega)
      rw [he] at this; exact this
    · unfold hasAdd
      by_cases hbb : b = pm
      · rw [if_pos ⟨rfl, hbb⟩]
      · rw [if_neg (fun h => hbb h.2)]
        exact (h3 hsu).2 b (by omega) hbs
theorem ak_end {P W A i p su : Nat} {H : Nat → Nat → Bool} (h : AkS P W A i p su H) (hp : P ≤ p) (hA : A ≤ W) (h7 : P ≤ 7) (hP : 0 < P) : su = i + 1 := by
  rcases h.2.1 with h1 | h1
  · obtain ⟨h2, h3⟩ := h.2.2 h1
    rw [okN_full hA h7 hP (fun b hb => h3 b (by
      unfold setN at hb
      obtain ⟨j, _, rfl⟩ := List.mem_map.1 hb
      have := plN_lt hP i j
      omega) hb)] at h2
    cases h2
  · exact h1
theorem ak_new {P W A i : Nat} {H : Nat → Nat → Bool} (hA : 1 ≤ A) (h : ∀ a, i ≤ a → ∀ b, H a b = false) : AkS P W A i 0 i H :=
  ⟨fun a ha b => h a (by omega) b, .inl rfl, fun _ => ⟨okN_zero hA (h i (Nat.le_refl _)), fun b hb => absurd hb (by omega)⟩⟩
theorem nil_bytes (w : World) : Bytes w none [] := ⟨by simp, by simp, .inl rfl⟩
def Rm1 (w : World) (B p g P W A : Nat) (s38 : Value) (z : World) : Prop :=
  ∃ (i : Nat) (D : List (List Nat)) (H : Nat → Nat → Bool), s38 = .int .i64 (i : Nat) ∧ i ≤ 64 ∧ D.length = i ∧ Hid (∀ a b, H a b = false) ∧ Hid (WrOn w B p g P W A D H 0 z)
def Rm2 (w : World) (B p g P W A c : Nat) (D : List (List Nat)) (s72 : Value) (z : World) : Prop :=
  ∃ (i : Nat) (H : Nat → Nat → Bool), s72 = .int .i64 (i : Nat) ∧ i ≤ c ∧ Hid (∀ a, i ≤ a → ∀ b, H a b = false) ∧ Hid (WrOn w B p g P W A D H i z)
def Rm3 (w : World) (B p g P W A i : Nat) (D : List (List Nat)) (s77 : Value) (z : World) : Prop :=
  ∃ (j su : Nat) (H : Nat → Nat → Bool), s77 = .int .i64 (j : Nat) ∧ j ≤ P ∧ Hid (AkS P W A i j su H) ∧ Hid (WrOn w B p g P W A D H su z)
set_option maxHeartbeats 8000000 in
theorem writerMany_walk (n mo : Nat) (w : World) (hn : n < 65536) (_hmo : mo < 256) :
    Calls Try.prog 5 #[.int .u16 (n : Nat), .int .u8 (mo : Nat)] w fun e w' => e = .returned (.bool true) ∧ Below w.heap.size w w' := by
  have HQN := Lib.hid (fun z => quorum_any n z hn)
  go_enter Try.func5, Try.ntmps5
  go_wp2_with fail
  (with_reducible refine (awake11_any _).mono ?_)
  rintro e w1 ⟨rfl, hf1⟩
  have HF1 := Lib.hid hf1
  clear hf1
  go_wp2_with fail
  (with_reducible refine (HQN.out _).mono ?_)
  rintro e w2 ⟨P, W, A, r1, r2, r3, r4, rfl, hf2⟩
  unfold quV
  have HF2 := Lib.hid (HF1.out.trans hf2 (U := []) (by simp) (by simp))
  have hok : okQ (P : Int) (W : Int) (A : Int) = true := by rw [okQ_iff]; omega
  have HNW := Lib.hid (fun z => wrnew_ok P W A z hok)
  clear hf2 hok HQN
  unfold quV at HNW
  go_wp2_with fail
  obtain ⟨w3, hw3⟩ : ∃ w3, w3 = w2.alloc (.cells #[.int .i64 P, .int .i64 W, .int .i64 A] 23) := ⟨_, rfl⟩
  rw [← hw3]
  have hf3 : Frm [] w2 w3 := by rw [hw3]; exact (Frm.refl _ _).alloc _
  have hQ3 : Whole w3 w2.heap.size 23 #[.int .i64 P, .int .i64 W, .int .i64 A] := by rw [hw3]; exact Whole.made _ _ _
  have hF3 := HF2.out.trans hf3 (U := []) (by simp) (by simp)
  have hlt3 := hQ3.lt
  obtain ⟨g, hg⟩ : ∃ g, g = w2.heap.size := ⟨_, rfl⟩
  rw [← hg] at hQ3 hlt3
  have HF3 := Lib.hid hF3
  have HQ3 := Lib.hid hQ3
  have HLT3 := Lib.hid hlt3
  clear hf3 hQ3 hF3 hlt3 hw3
  (with_reducible refine (HNW.out _).mono ?_)
  rintro e w4 ⟨p, rfl, hf4, hp, hW4⟩
  rw [← hg]
  clear hg
  have hON : WrOn w w3.heap.size p g P W A [] (fun _ _ => false) 0 w4 := ⟨Wq.made hf4 hp hW4 (by omega) (by simp), hf4.whole HQ3.out (by simp), by have := HLT3.out; omega, by have := HF3.out.size; omega, HF3.out.trans hf4 (by simp) (by simp)⟩
  have HR1 : Hid (Rm1 w w3.heap.size p g P W A (.int .i64 0) w4) := Lib.hid ⟨0, [], fun _ _ => false, rfl, Nat.zero_le _, rfl, Lib.hid (fun _ _ => rfl), Lib.hid hON⟩
  clear hf4 hp hW4 hON HNW HQ3 HLT3 HF3
  go_wp2
  go_loopw [38] (fun s38 wr => Rm1 w w3.heap.size p g P W A s38 wr) (fun s38 _ => 64 - (intOf s38).toNat)
  case atStart => exact HR1.out
  case round =>
    clear HR1
    obtain ⟨i, D, H, rfl, hic, hD, HH, HON⟩ := hrel
    by_cases hlt : i < 64
    · have d1 : decide ((i : Int) < 64) = true := decide_eq_true (by omega)
      have d2 : decide (i < 64) = true := decide_eq_true hlt
      have hv1 : IntKind.u8.wrap (i : Int) = (i : Int) := by simp [IntKind.wrap, IntKind.bits, IntKind.signed]; omega
      have hv2 : IntKind.u64.wrap (i : Int) = (i : Int) := by simp [IntKind.wrap, IntKind.bits, IntKind.signed]; omega
      have hfa : Frm [] wr (wr.alloc (.cells #[.int .u8 (i : Int)] 5)) := (Frm.refl _ _).alloc _
      have HA := Lib.hid (wradd_any (some ⟨wr.heap.size, 0, none⟩) 1 1 [i] (HON.out.here hfa).1 (by simp) (u8_at11 wr i (by omega) _ _) rfl (by simp))
      have HOA := Lib.hid (HON.out.here hfa)
      have hwm : IntKind.i64.wrap ((i : Int) + 1) = ((i + 1 : Nat) : Int) := by rw [IntWalk.i64_in _ (by omega)]; rfl
      have HWM := Lib.hid hwm
      have hz : wrAddE D 0 false [i].length = 0 := by
        unfold wrAddE
        rw [if_neg (by simp), if_neg (by simp), if_neg (by omega)]
      have HZ := Lib.hid hz
      have HD := Lib.hid hD
      have HLT := Lib.hid hlt
      clear hfa hz hD hwm hlt
      go_wp2_with fail
      (with_reducible refine HA.out.mono ?_)
      rintro e wx ⟨hfx, (⟨hb, _⟩ | ⟨_, rfl, hqx⟩)⟩
      · exact absurd HZ.out hb
      rw [HD.out]
      obtain ⟨m, hm⟩ : ∃ m, m = i + 1 := ⟨_, rfl⟩
      have hwm := HWM.out
      rw [← hm] at hwm
      have HREL : Hid (Rm1 w w3.heap.size p g P W A (.int .i64 (m : Nat)) wx) := Lib.hid ⟨m, _, _, rfl, by have := HLT.out; omega, by rw [List.length_append, HD.out, hm]; rfl, Lib.hid (fun a b => by
        unfold hasNew
        split
        · rfl
        · exact HH.out a b), Lib.hid (HOA.out.step hfx hqx)⟩
      have HMM : Hid (64 - m < 64 - i) := Lib.hid (by have := HLT.out; omega)
      have hne : ((i : Int) == (i : Int)) = true := by simp
      clear hfx hqx hm HA HOA
      go_wp2
      go_roundw
      case rel => exact HREL.out
      case measure => have := HMM.out; simpa [intOf] using this
    · have d1 : decide ((i : Int) < 64) = false := decide_eq_false (by omega)
      have d2 : decide (i < 64) = false := decide_eq_false hlt
      have hD64 : D.length = 64 := by omega
      have HD := Lib.hid hD64
      have HA := Lib.hid (wradd_any none 0 0 [] HON.out.1 (by simp) (nil_bytes _) rfl (by simp))
      have hz : wrAddE D 0 false ([] : List Nat).length = 14 := by
        unfold wrAddE
        rw [if_neg (by simp), if_neg (by simp), if_pos (by omega)]
      have HZ := Lib.hid hz
      clear hic hD hD64 hz hlt
      go_wp2_with fail
      (with_reducible refine HA.out.mono ?_)
      rintro e wx ⟨hfx, (⟨_, rfl, hqx⟩ | ⟨hb, _⟩)⟩
      rotate_left 1
      · rw [HZ.out] at hb; cases hb
      rw [HZ.out]
      have HOX := Lib.hid (HON.out.step hfx hqx)
      clear hfx hqx HA HON
      have HCL := Lib.hid (wrclose_no HOX.out.1 (by rw [HD.out]; omega))
      go_wp2_with fail
      (with_reducible refine HCL.out.mono ?_)
      rintro e wy ⟨rfl, hfy⟩
      have HOY := Lib.hid (HOX.out.here hfy)
      clear hfy HCL HOX d1 d2
      have b2 : ((mo : Int)).tmod 65 = ((mo % 65 : Nat) : Int) := modI mo 65
      obtain ⟨c, hc⟩ : ∃ c, c = mo % 65 := ⟨_, rfl⟩
      have hc64 : c ≤ 64 := by omega
      rw [← hc] at b2
      have v1 : IntKind.u8.wrap (c : Int) = (c : Int) := by simp [IntKind.wrap, IntKind.bits, IntKind.signed]; omega
      have v2 : IntKind.i64.wrap (c : Int) = (c : Int) := IntWalk.i64_in _ (by omega)
      have HR2 : Hid (Rm2 w w3.heap.size p g P W A c D (.int .i64 0) wy) := Lib.hid ⟨0, H, rfl, Nat.zero_le _, Lib.hid (fun a _ b => HH.out a b), HOY⟩
      have HC := Lib.hid hc64
      clear hc hc64 HOY HH
      go_wp2
      clear b2 v1 v2
      go_loopw [72] (fun s72 wr => Rm2 w w3.heap.size p g P W A c D s72 wr) (fun s72 _ => c - (intOf s72).toNat)
      case atStart => exact HR2.out
      case round =>
        clear HR2
        obtain ⟨i, H, rfl, hic, HH, HON⟩ := hrel
        by_cases hlt : i < c
        · have d1 : decide ((i : Int) < (c : Int)) = true := decide_eq_true (by omega)
          have d2 : decide (i < c) = true := decide_eq_true hlt
          have q0 : wr.cell? ⟨g, 0, none⟩ = some (.int .i64 (P : Nat)) := HON.out.2.1.cell 0
          have HR3 : Hid (Rm3 w w3.heap.size p g P W A i D (.int .i64 0) wr) := Lib.hid ⟨0, i, H, rfl, Nat.zero_le _, Lib.hid (ak_new r1 HH.out), HON⟩
          have HLT := Lib.hid hlt
          clear hic HH HON hlt
          go_wp2
          clear d1 d2 q0
          go_loopw [77] (fun s77 wr => Rm3 w w3.heap.size p g P W A i D s77 wr) (fun s77 _ => P - (intOf s77).toNat)
          case atStart => exact HR3.out
          case round =>
            clear HR3
            obtain ⟨j, su, H, rfl, hjp, HAK, HON⟩ := hrel
            have hlc := HLT.out
            have hcc := HC.out
            by_cases hlt : j < P
            · have d1 : decide ((j : Int) < (P : Int)) = true := decide_eq_true (by omega)
              have d2 : decide (j < P) = true := decide_eq_true hlt
              have hcv : IntKind.u64.wrap (i : Int) = (i : Int) := by simp [IntKind.wrap, IntKind.bits, IntKind.signed]; omega
              have hwm : IntKind.i64.wrap ((j : Int) + 1) = ((j + 1 : Nat) : Int) := by rw [IntWalk.i64_in _ (by omega)]; rfl
              have HK := Lib.hid (wrack_any (j : Int) i HON.out.1 (by omega))
              have HLJ := Lib.hid hlt
              have HWM := Lib.hid hwm
              clear hwm hlt hjp hlc hcc
              go_wp2_with fail
              (with_reducible refine HK.out.mono ?_)
              intro e wx hx
              obtain ⟨a, k, cx, s, H', rfl, hf, hq, hak⟩ := ak_step HAK.out hx (by rw [HD.out]; have := HLT.out; have := HC.out; omega) r1
              obtain ⟨m, hm⟩ : ∃ m, m = j + 1 := ⟨_, rfl⟩
              have hwm := HWM.out
              rw [← hm] at hwm hak
              have HREL : Hid (Rm3 w w3.heap.size p g P W A i D (.int .i64 (m : Nat)) wx) := Lib.hid ⟨m, s, H', rfl, by have := HLJ.out; omega, Lib.hid hak, Lib.hid (HON.out.step hf hq)⟩
              have HMM : Hid (P - m < P - j) := Lib.hid (by have := HLJ.out; omega)
              clear hx hf hq hak hm HK
              go_wp2
              go_roundw
              case rel => exact HREL.out
              case measure => have := HMM.out; simpa [intOf] using this
            · have d1 : decide ((j : Int) < (P : Int)) = false := decide_eq_false (by omega)
              have d2 : decide (j < P) = false := decide_eq_false hlt
              obtain rfl := ak_end HAK.out (by omega) r2 r4 (by omega)
              obtain ⟨m, hm⟩ : ∃ m, m = i + 1 := ⟨_, rfl⟩
              have hwm : IntKind.i64.wrap ((i : Int) + 1) = (m : Int) := by rw [IntWalk.i64_in _ (by omega)]; omega
              rw [← hm] at HON
              have HREL : Hid (Rm2 w w3.heap.size p g P W A c D (.int .i64 (m : Nat)) wr) := Lib.hid ⟨m, H, rfl, by omega, Lib.hid (fun a ha b => HAK.out.1 a (by omega) b), HON⟩
              have HMM : Hid (c - m < c - i) := Lib.hid (by omega)
              clear hm hlt hjp hlc hcc
              go_wp2
              go_roundw
              case rel => exact HREL.out
              case measure => have := HMM.out; simpa [intOf] using this
        · obtain rfl : i = c := by omega
          have d1 : decide ((i : Int) < (i : Int)) = false := by simp
          have d2 : decide (i < i) = false := by simp
          have HWT := waiting_any HON.out.1
          rw [HD.out] at HWT
          have HWT := Lib.hid HWT
          clear hic hlt
          go_wp2_with fail
          (with_reducible refine HWT.out.mono ?_)
          rintro e wb ⟨xa, xc, X, b, bc, k, rfl, hk, _, _, _, _, hfb⟩
          have HOB := Lib.hid (HON.out.here hfb)
          have HK := Lib.hid hk
          clear hfb HWT HON hk d1 d2
          have hcc := HC.out
          have hsub : IntKind.i64.wrap (64 - (i : Int)) = (k : Int) := by rw [IntWalk.i64_in _ (by omega)]; have := HK.out; omega
          have hcv : IntKind.u64.wrap (i : Int) = (i : Int) := by simp [IntKind.wrap, IntKind.bits, IntKind.signed]; omega
          have HA := Lib.hid (wradd_any none 0 0 [] HOB.out.1 (by simp) (nil_bytes _) rfl (by simp))
          by_cases hc0 : i = 0
          · subst hc0
            have hz : wrAddE D 0 false ([] : List Nat).length = 14 := by
              have := HD.out
              unfold wrAddE
              rw [if_neg (by simp), if_neg (by simp), if_pos (by omega)]
            have HZ := Lib.hid hz
            obtain rfl : k = 64 := by have := HK.out; omega
            clear hz hcc hsub hcv HK
            go_wp2_with fail
            (with_reducible refine HA.out.mono ?_)
            rintro e wx ⟨hfx, (⟨_, rfl, hqx⟩ | ⟨hb, _⟩)⟩
            rotate_left 1
            · rw [HZ.out] at hb; cases hb
            rw [HZ.out]
            have HOX := Lib.hid (HOB.out.step hfx hqx)
            have HSU := Lib.hid (wrsure_any HOX.out.1)
            have HE : Hid (Below w.heap.size w wx) := Lib.hid (HOX.out.2.2.2.2.below (by simp) (Nat.le_refl _))
            clear hfx hqx HA HOB
            go_wp2_with ((with_reducible refine HSU.out.mono ?_); rintro e w' ⟨rfl, rfl⟩)
            go_ret
            exact ⟨by rfl, HE.out⟩
          · have hz : wrAddE D i false ([] : List Nat).length = 0 := by
              have := HD.out
              unfold wrAddE
              rw [if_neg (by simp), if_neg (by simp), if_neg (by omega)]
            have HZ := Lib.hid hz
            have HC0 := Lib.hid hc0
            clear hz
            go_wp2_with fail
            (with_reducible refine HA.out.mono ?_)
            rintro e wx ⟨hfx, (⟨hb, _⟩ | ⟨_, rfl, hqx⟩)⟩
            · exact absurd HZ.out hb
            rw [HD.out] at hqx ⊢
            have HOX := Lib.hid (HOB.out.step hfx hqx)
            have HSU := Lib.hid (wrsure_any HOX.out.1)
            have g1 : decide ((0 : Int) < (i : Int)) = true := decide_eq_true (by omega)
            have g2 : decide (0 < i) = true := decide_eq_true (by omega)
            clear hfx hqx HA HOB hc0
            by_cases hlt : i < 64
            · have d1 : decide ((i : Int) < 64) = true := decide_eq_true (by omega)
              have d2 : decide (i < 64) = true := decide_eq_true hlt
              have HE : Hid (Below w.heap.size w wx) := Lib.hid (HOX.out.2.2.2.2.below (by simp) (Nat.le_refl _))
              clear hlt hcc
              go_wp2_with ((with_reducible refine HSU.out.mono ?_); rintro e w' ⟨rfl, rfl⟩)
              go_ret
              exact ⟨by rfl, HE.out⟩
            · obtain rfl : i = 64 := by omega
              obtain rfl : k = 0 := by have := HK.out; omega
              have q0 : wx.cell? ⟨g, 0, none⟩ = some (.int .i64 (P : Nat)) := HOX.out.2.1.cell 0
              have HD5 : Hid ((D ++ [[]]).length = 65) := Lib.hid (by rw [List.length_append, HD.out]; rfl)
              obtain ⟨D', hD'⟩ : ∃ D', D' = D ++ [[]] := ⟨_, rfl⟩
              rw [← hD'] at HD5
              have HR4 : Hid (Rm3 w w3.heap.size p g P W A 64 D' (.int .i64 0) wx) := Lib.hid ⟨0, 64, hasNew H 64, rfl, Nat.zero_le _, Lib.hid (ak_new r1 (fun a ha b => by
                unfold hasNew
                split
                · rfl
                · exact HH.out a ha b)), Lib.hid (by rw [hD']; exact HOX.out)⟩
              clear hcc hsub hcv hlt g1 g2 hD' HH
              go_wp2_with ((with_reducible refine HSU.out.mono ?_); rintro e w' ⟨rfl, rfl⟩)
              clear q0
              go_loopw [128] (fun s128 wr => Rm3 w w3.heap.size p g P W A 64 D' s128 wr) (fun s128 _ => P - (intOf s128).toNat)
              case atStart => exact HR4.out
              case round =>
                clear HR4 HSU HOX
                obtain ⟨j, su, H2, rfl, hjp, HAK, HON⟩ := hrel
                by_cases hlt : j < P
                · have d1 : decide ((j : Int) < (P : Int)) = true := decide_eq_true (by omega)
                  have d2 : decide (j < P) = true := decide_eq_true hlt
                  have hwm : IntKind.i64.wrap ((j : Int) + 1) = ((j + 1 : Nat) : Int) := by rw [IntWalk.i64_in _ (by omega)]; rfl
                  have hK := wrack_any (j : Int) 64 HON.out.1 (by omega)
                  rw [show ((64 : Nat) : Int) = 64 from rfl] at hK
                  have HK2 := Lib.hid hK
                  have HLJ := Lib.hid hlt
                  have HWM := Lib.hid hwm
                  clear hwm hlt hjp hK
                  go_wp2_with fail
                  (with_reducible refine HK2.out.mono ?_)
                  intro e wz hx
                  obtain ⟨a, k2, cx, s, H', rfl, hf, hq, hak⟩ := ak_step HAK.out hx (by rw [HD5.out]; omega) r1
                  obtain ⟨m, hm⟩ : ∃ m, m = j + 1 := ⟨_, rfl⟩
                  have hwm := HWM.out
                  rw [← hm] at hwm hak
                  have HREL : Hid (Rm3 w w3.heap.size p g P W A 64 D' (.int .i64 (m : Nat)) wz) := Lib.hid ⟨m, s, H', rfl, by have := HLJ.out; omega, Lib.hid hak, Lib.hid (HON.out.step hf hq)⟩
                  have HMM : Hid (P - m < P - j) := Lib.hid (by have := HLJ.out; omega)
                  clear hx hf hq hak hm HK2
                  go_wp2
                  go_roundw
                  case rel => exact HREL.out
                  case measure => have := HMM.out; simpa [intOf] using this
                · have d1 : decide ((j : Int) < (P : Int)) = false := decide_eq_false (by omega)
                  have d2 : decide (j < P) = false := decide_eq_false hlt
                  obtain rfl := ak_end HAK.out (by omega) r2 r4 (by omega)
                  have hC1 := wrclose_ok HON.out.1 (by rw [HD5.out]; omega)
                  rw [HD5.out, show ((65 : Nat) : Int) = 65 from rfl] at hC1
                  have HC1 := Lib.hid hC1
                  clear hC1 hlt hjp
                  go_wp2_with fail
                  (with_reducible refine HC1.out.mono ?_)
                  rintro e wc ⟨rfl, hfc, hqc⟩
                  have hC2 := wrclose_ok hqc (by rw [HD5.out]; omega)
                  rw [HD5.out, show ((65 : Nat) : Int) = 65 from rfl] at hC2
                  have HC2 := Lib.hid hC2
                  have HFC := Lib.hid hfc
                  clear hC2 hqc hfc HC1 d1 d2
                  go_wp2_with fail
                  (with_reducible refine HC2.out.mono ?_)
                  rintro e wd ⟨rfl, hfd, hqd⟩
                  have HA3 := Lib.hid (wradd_any none 0 0 [] hqd (by simp) (nil_bytes _) rfl (by simp))
                  have HFD := Lib.hid (HFC.out.trans hfd (U := [p]) (by simp) (fun x hx => .inl hx))
                  clear hfd hqd HC2
                  go_wp2_with fail
                  (with_reducible refine HA3.out.mono ?_)
                  rintro e we ⟨hfe, (⟨_, rfl, _⟩ | ⟨hb, _⟩)⟩
                  rotate_left 1
                  · exact absurd hb (by unfold wrAddE; rw [if_pos rfl]; omega)
                  have h24 : wrAddE D' (64 + 1) true ([] : List Nat).length = 24 := by unfold wrAddE; rw [if_pos rfl]
                  rw [h24]
                  have HE : Hid (Below w.heap.size w we) := Lib.hid ((HON.out.2.2.2.2.trans (HFD.out.trans hfe (U := [p]) (by simp) (fun x hx => .inl hx)) (U := []) (by simp) (fun x hx => .inr (by simp at hx; subst hx; exact HON.out.2.2.2.1))).below (by simp) (Nat.le_refl _))
                  clear hfe h24 HA3
                  go_wp2
                  go_ret
                  exact ⟨by rfl, HE.out⟩
end Go.Proofs.Ytamcandcfainfaa
