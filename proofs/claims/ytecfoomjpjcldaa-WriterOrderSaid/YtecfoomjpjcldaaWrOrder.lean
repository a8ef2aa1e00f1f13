/- The walk of WriterOrder. -/
import Derived.Test.YtecfoomjpjcldaaWoTab
import Derived.Test.YtecfoomjpjcldaaInHs
import Derived.Test.YtecfoomjpjcldaaTail
import Derived.Deep.RegionHeld3
import Derived.Deep.Cut
import Derived.Deep.CutRange
import Derived.BigQuiet
namespace Go.Proofs.Ytecfoomjpjcldaa
open Go.RowKit
set_option maxRecDepth 100000
theorem brow_bool {P : Nat} {f : Nat → Bool} {i : Nat} {v : Value} (h : (brow P f)[i]? = some v) : ∃ b, v = .bool b := by
  unfold brow rowB at h
  simp only [List.getElem?_toArray, List.getElem?_map, Option.map_eq_some_iff] at h
  obtain ⟨b, _, rfl⟩ := h
  exact ⟨_, rfl⟩
/-- Entries do not lie in a row of bools. -/
theorem IL.off_bool {w : World} {b : Nat} {t : TypeId} {P : Nat} {f : Nat → Bool} {a : Option Addr} {X : List Ix} (h : IL w [] a X) (hb : Whole w b t (brow P f)) : IL w [b] a X := by
  refine ⟨h.vals, fun x hx => ⟨(h.ok x hx).bytes, fun hne q hq hm => ?_, (h.ok x hx).nil, (h.ok x hx).num⟩, fun hne q hq hm => ?_⟩
  · rcases (h.ok x hx).bytes.2.2 with h0 | ⟨b', off, ha, hc⟩
    · exact hne h0
    · rw [ha] at hq
      injection hq with hq
      subst hq
      simp only [List.mem_singleton] at hm
      subst hm
      have h1 := hc 0 (List.length_pos_iff.2 hne)
      rw [hb.cell] at h1
      obtain ⟨_, h2⟩ := brow_bool h1
      cases h2
  · obtain ⟨b', off, ha, hc, _⟩ := h.at (List.length_pos_iff.2 hne)
    rw [ha] at hq
    injection hq with hq
    subst hq
    simp only [List.mem_singleton] at hm
    subst hm
    rw [hb.cell] at hc
    obtain ⟨_, h2⟩ := brow_bool hc
    cases h2
/-- Ack, whatever it does. -/
def WoAck (w : World) (B p : Nat) (F : List Nat) (P W A : Nat) (L : List (List Nat)) (H : Nat → Nat → Bool) (su p1 e1 : Nat) (e : Ending) (w' : World) : Prop :=
  ∃ (a : Option Addr) (c s : Nat) (X : List Ix) (H' : Nat → Nat → Bool), e = .returned (.slice a X.length c) ∧ its X = itemsN L su s ∧ su ≤ s ∧ s ≤ L.length ∧ Wq w' B p F P W A L H' s false ∧ Frm [p] w w' ∧ IL w' [] a X ∧ (∀ i, su ≤ i → i < s → okN P W A H' i = true) ∧ (s < L.length → okN P W A H' s = false) ∧
    (∀ i, su ≤ i → ∀ j, H' i j = (if i = e1 ∧ j = p1 ∧ (setN P W e1).contains p1 = true then true else H i j))
theorem woack {w : World} {B p : Nat} {F : List Nat} {P W A : Nat} {L : List (List Nat)} {H : Nat → Nat → Bool} {su : Nat} (p1 e1 : Nat) (h : Wq w B p F P W A L H su false) (he : e1 < L.length) (he64 : e1 < 18446744073709551616) (hw : su < L.length → okN P W A H su = false) :
    Calls Try.prog 17 #[.pointer (some ⟨p, 0, none⟩), .int .i64 (p1 : Nat), .int .u64 (e1 : Nat)] w (WoAck w B p F P W A L H su p1 e1) := by
  refine (wrack_any (p1 : Int) e1 h he64).mono ?_
  rintro e w' (⟨hb, rfl, hf, hq⟩ | ⟨h1, h2, h3, pn, hpn, _, s, a, c, X, rfl, hs1, hs2, hits, hall, hend, hil, hq, hf⟩)
  · refine ⟨none, 0, su, [], H, rfl, by rw [itemsN_self]; rfl, Nat.le_refl _, h.wait.1, hq, hf.weak (by simp), IL.nil _ _ _, fun i h1 h2 => by omega, hw, fun i hi j => ?_⟩
    rw [if_neg]
    rintro ⟨rfl, _, hc⟩
    rcases hb with hb | hb | hb
    · omega
    · omega
    · rw [hasI_nat, hc] at hb; cases hb
  · obtain rfl : p1 = pn := by omega
    refine ⟨a, c, s, X, _, rfl, hits, hs1, hs2, hq, hf, hil, hall, hend, fun i _ j => ?_⟩
    rw [hasI_nat] at h3
    unfold hasAdd
    by_cases hij : i = e1 ∧ j = p1
    · rw [if_pos hij, if_pos ⟨hij.1, hij.2, h3⟩]
    · rw [if_neg hij, if_neg (fun hh => hij ⟨hh.1, hh.2.1⟩)]
/-- Behind Ack and the law's own note. -/
structure Wo5 (w z : World) (B p g hb P W A : Nat) (bf : Nat → Nat) (L : List (List Nat)) (H T : Nat → Nat → Bool) (su s : Nat) (ax : Option Addr) (X : List Ix) : Prop where
  wr : Wq z B p (hb :: (List.range L.length).map bf) P W A L H s false
  tab : Tb w z hb P L.length L.length bf T
  quo : Whole z g 23 #[.int .i64 P, .int .i64 W, .int .i64 A]
  frm : Frm [] w z
  same : ∀ i, su ≤ i → ∀ j, j < P → T i j = H i j
  il : IL z [] ax X
/-- While entries are added. -/
def Wo1 (w : World) (B p g P W A : Nat) (L : List (List Nat)) (s41 : Value) (z : World) : Prop :=
  ∃ (i : Nat) (H : Nat → Nat → Bool), s41 = .int .i64 (i : Nat) ∧ i ≤ L.length ∧ Hid (∀ a b, H a b = false) ∧ Hid (WrOn w B p g P W A (L.take i) H 0 z)
/-- While the table is made. -/
def Wo2 (w0 : World) (hb P n : Nat) (s57 : Value) (z : World) : Prop :=
  ∃ (i : Nat) (bf : Nat → Nat), s57 = .int .i64 (i : Nat) ∧ i ≤ n ∧ Hid (Tb w0 z hb P n i bf (fun _ _ => false)) ∧ Hid (Frm [] w0 z)
/-- The writer, the law's table. -/
structure Wo (w z : World) (B p g hb P W A : Nat) (bf : Nat → Nat) (L : List (List Nat)) (H T : Nat → Nat → Bool) (su : Nat) : Prop where
  wr : Wq z B p (hb :: (List.range L.length).map bf) P W A L H su false
  tab : Tb w z hb P L.length L.length bf T
  quo : Whole z g 23 #[.int .i64 P, .int .i64 W, .int .i64 A]
  low : g < p ∧ p < hb ∧ (∀ i, i < L.length → p < bf i) ∧ w.heap.size ≤ g
  frm : Frm [] w z
  same : ∀ i, su ≤ i → ∀ j, j < P → T i j = H i j
  wait : su < L.length → okN P W A H su = false
def Wo3 (w : World) (B p g hb P W A : Nat) (bf : Nat → Nat) (L : List (List Nat)) (n : Nat) (s14 s69 : Value) (z : World) : Prop :=
  ∃ (i su : Nat) (H T : Nat → Nat → Bool), s14 = .int .i64 (su : Nat) ∧ s69 = .int .i64 (i : Nat) ∧ i ≤ n ∧ su ≤ L.length ∧ Hid (Wo w z B p g hb P W A bf L H T su)
def Wo4 (wb : World) (su n : Nat) (s14 s119 : Value) (z : World) : Prop := ∃ k : Nat, s14 = .int .i64 ((su + k : Nat) : Nat) ∧ s119 = .int .i64 (k : Nat) ∧ k ≤ n ∧ Hid (Frm [] wb z)
set_option maxHeartbeats 16000000 in
theorem writerOrder_walk (n : Nat) (a : Option Addr) (len cap : Nat) (L : List (List Nat)) (a2 : Option Addr) (len2 cap2 : Nat) (os : List Nat) (w : World) (hn : n < 65536) (hL : LIn w a cap L) (hlen : len = L.length) (_hl63 : len ≤ 9223372036854775807) (hos : Hs w a2 os) (hlen2 : len2 = os.length) (_hl263 : len2 ≤ 9223372036854775807) :
    Calls Try.prog 4 #[.int .u16 (n : Nat), .slice a len cap, .slice a2 len2 cap2] w fun e w' => e = .returned (.bool true) ∧ Below w.heap.size w w' := by
  obtain ⟨Q, hQ⟩ : ∃ Q : Ending → World → Prop, Q = fun e w' => e = .returned (.bool true) ∧ Below w.heap.size w w' := ⟨_, rfl⟩
  rw [← hQ]
  have FIN : Hid (∀ z, Frm [] w z → Q (.returned (.bool true)) z) := Lib.hid fun z hz => by rw [hQ]; exact ⟨rfl, hz.below (by simp) (Nat.le_refl _)⟩
  have HQN := Lib.hid (fun z => quorum_any n z hn)
  have HL := Lib.hid hL
  have HLEN := Lib.hid hlen
  have HOS := Lib.hid hos
  have HLEN2 := Lib.hid hlen2
  clear hQ hL hlen hos hlen2
  go_enter Try.func4, Try.ntmps4
  go_wp2_with fail
  (with_reducible refine (awake11_any _).mono ?_)
  rintro e w1 ⟨rfl, hf1⟩
  have HF1 := Lib.hid hf1
  clear hf1
  by_cases h30 : 30 < len
  · have d1 : decide ((30 : Int) < (len : Int)) = true := decide_eq_true (by omega)
    have d2 : decide (30 < len) = true := decide_eq_true h30
    go_wp2
    exact FIN.out _ HF1.out
  have d1 : decide ((30 : Int) < (len : Int)) = false := decide_eq_false (by omega)
  have d2 : decide (30 < len) = false := decide_eq_false h30
  by_cases h400 : 400 < len2
  · have d3 : decide ((400 : Int) < (len2 : Int)) = true := decide_eq_true (by omega)
    have d4 : decide (400 < len2) = true := decide_eq_true h400
    go_wp2
    exact FIN.out _ HF1.out
  have d3 : decide ((400 : Int) < (len2 : Int)) = false := decide_eq_false (by omega)
  have d4 : decide (400 < len2) = false := decide_eq_false h400
  go_wp2_with fail
  (with_reducible refine (HQN.out _).mono ?_)
  rintro e w2 ⟨P, W, A, r1, r2, r3, r4, rfl, hf2⟩
  unfold quV
  have HF2 := Lib.hid (HF1.out.trans hf2 (U := []) (by simp) (by simp))
  have hok : okQ (P : Int) (W : Int) (A : Int) = true := by rw [okQ_iff]; omega
  have HNW := Lib.hid (fun z => wrnew_ok P W A z hok)
  clear hf2 hok HQN d1 d2 d3 d4
  unfold quV at HNW
  go_wp2_with fail
  obtain ⟨w3, hw3⟩ : ∃ w3, w3 = w2.alloc (.cells #[.int .i64 P, .int .i64 W, .int .i64 A] 23) := ⟨_, rfl⟩
  rw [← hw3]
  have hf3 : Frm [] w2 w3 := by rw [hw3]; exact (Frm.refl _ _).alloc _
  have hQ3 : Whole w3 w2.heap.size 23 #[.int .i64 P, .int .i64 W, .int .i64 A] := by rw [hw3]; exact Whole.made _ _ _
  have hF3 := HF2.out.trans hf3 (U := []) (by simp) (by simp)
  have hlt3 := hQ3.lt
  obtain ⟨g, hg⟩ : ∃ g, g = w2.heap.size := ⟨_, rfl⟩
  rw [← hg] at hQ3 hlt3
  have HG0 : Hid (w.heap.size ≤ g) := Lib.hid (by rw [hg]; exact HF2.out.size)
  have HF3 := Lib.hid hF3
  have HQ3 := Lib.hid hQ3
  have HLT3 := Lib.hid hlt3
  clear hf3 hQ3 hF3 hlt3 hw3
  (with_reducible refine (HNW.out _).mono ?_)
  rintro e w4 ⟨p, rfl, hf4, hp, hW4⟩
  rw [← hg]
  clear hg
  obtain ⟨B, hB⟩ : ∃ B, B = w3.heap.size := ⟨_, rfl⟩
  have hON : WrOn w B p g P W A [] (fun _ _ => false) 0 w4 := by rw [hB]; exact ⟨Wq.made hf4 hp hW4 (by omega) (by simp), hf4.whole HQ3.out (by simp), by have := HLT3.out; omega, by have := HF3.out.size; omega, HF3.out.trans hf4 (by simp) (by simp)⟩
  have HR1 : Hid (Wo1 w B p g P W A L (.int .i64 0) w4) := Lib.hid ⟨0, fun _ _ => false, rfl, Nat.zero_le _, Lib.hid (fun _ _ => rfl), Lib.hid hON⟩
  clear hf4 hp hW4 hON HNW HQ3 HLT3 HF3 hB HF1 HF2
  go_wp2
  go_loopw [41] (fun s41 z => Wo1 w B p g P W A L s41 z) (fun s41 _ => len - (intOf s41).toNat)
  case atStart => exact HR1.out
  case round =>
    clear HR1
    obtain ⟨i, H, rfl, hi, HH, HON⟩ := hrel
    by_cases hlt : i < len
    · have hiL : i < L.length := by rw [← HLEN.out]; exact hlt
      obtain ⟨b, off, rfl, ai, ci, hc, hby, hnil⟩ := (HL.out.here HON.out.2.2.2.2).at hiL
      obtain ⟨d, hd⟩ : ∃ d, d = L.getD i [] := ⟨_, rfl⟩
      rw [← hd] at hc hby
      have hwm : IntKind.i64.wrap ((i : Int) + 1) = ((i + 1 : Nat) : Int) := by rw [IntWalk.i64_in _ (by omega)]; rfl
      have HA := Lib.hid (wradd_any ai d.length ci d HON.out.1 (by simp) hby rfl hnil)
      obtain ⟨dn, hdn⟩ : ∃ dn, dn = d.length := ⟨_, rfl⟩
      rw [← hdn] at hc HA
      have hz : dn ≤ 256 → wrAddE (L.take i) 0 false d.length = 0 := fun h => by
        unfold wrAddE
        rw [if_neg (by simp), if_neg (by omega), if_neg (by rw [List.length_take]; omega)]
      have HZ := Lib.hid hz
      have HD := Lib.hid hd
      have HLT := Lib.hid hlt
      have HIL := Lib.hid hiL
      have HON0 := Lib.hid HON.out
      clear hz hd hby hnil hdn hiL
      by_cases hbig : 256 < dn
      · have d3 : decide ((256 : Int) < (dn : Int)) = true := decide_eq_true (by omega)
        have d4 : decide (256 < dn) = true := decide_eq_true hbig
        clear HA
        go_wp2
        exact FIN.out _ HON0.out.2.2.2.2
      have d3 : decide ((256 : Int) < (dn : Int)) = false := decide_eq_false (by omega)
      have d4 : decide (256 < dn) = false := decide_eq_false hbig
      have HZ := Lib.hid (HZ.out (by omega))
      clear hlt
      have hlt : i < len := HLT.out
      go_wp2_with fail
      (with_reducible refine HA.out.mono ?_)
      rintro e wx ⟨hfx, (⟨hb, _⟩ | ⟨_, rfl, hqx⟩)⟩
      · exact absurd HZ.out hb
      obtain ⟨m, hm⟩ : ∃ m, m = i + 1 := ⟨_, rfl⟩
      have hwm2 := hwm
      rw [← hm] at hwm2
      have HREL : Hid (Wo1 w B p g P W A L (.int .i64 (m : Nat)) wx) := Lib.hid ⟨m, hasNew H (L.take i).length, rfl, by have := HIL.out; omega, Lib.hid (fun a b => by
        unfold hasNew
        split
        · rfl
        · exact HH.out a b), Lib.hid (by
        have := HON0.out.step hfx hqx
        rw [show L.take i ++ [d] = L.take m by rw [hm, List.take_succ_eq_append_getElem HIL.out, HD.out]; simp [HIL.out]] at this
        exact this)⟩
      have HMM : Hid (len - m < len - i) := Lib.hid (by omega)
      clear hfx hqx hm HA HON0 HON hwm hlt hc
      go_wp2
      go_roundw
      case rel => exact HREL.out
      case measure => have := HMM.out; simpa [intOf] using this
    · have hiL : i = L.length := by have := HLEN.out; omega
      have hTK : L.take i = L := by rw [hiL, List.take_length]
      rw [hTK] at HON
      have hmkr := mk_brows len (by omega)
      have hmkb := mk_bools P (by omega)
      obtain ⟨w0, hw0⟩ : ∃ w0, w0 = wr := ⟨_, rfl⟩
      have HON0 : Hid (WrOn w B p g P W A L H 0 w0) := Lib.hid (by rw [hw0]; exact HON.out)
      rw [← hw0]
      clear hw0 HON hTK hiL
      obtain ⟨hb, hhb⟩ : ∃ hb, hb = w0.heap.size := ⟨_, rfl⟩
      have HR2 : Hid (Wo2 w0 hb P len (.int .i64 0) (w0.alloc (.cells (List.replicate len (.slice none 0 0)).toArray 48))) := Lib.hid ⟨0, fun _ => 0, rfl, Nat.zero_le _, Lib.hid ⟨⟨_, by rw [hhb]; exact Whole.made _ _ _, by simp, fun i hi => absurd hi (by omega)⟩, fun i hi => absurd hi (by omega), fun i j hi => absurd hi (by omega), fun i hi => absurd hi (by omega), by omega, fun i hi => absurd hi (by omega)⟩, Lib.hid ((Frm.refl _ _).alloc _)⟩
      have HHB := Lib.hid hhb
      go_wp2_with fail
      rw [← hhb]
      clear hhb hmkr
      go_loopw [57] (fun s57 z => Wo2 w0 hb P len s57 z) (fun s57 _ => len - (intOf s57).toNat)
      case atStart => exact HR2.out
      case round =>
        clear HR2
        obtain ⟨k, bf, rfl, hk, HTB, HFK⟩ := hrel
        by_cases hkl : k < len
        · have q0 : wr.cell? ⟨g, 0, none⟩ = some (.int .i64 (P : Nat)) := (HFK.out.whole HON0.out.2.1 (by simp)).cell 0
          have hqlt := (HFK.out.whole HON0.out.2.1 (by simp)).lt
          have hgne : g ≠ wr.heap.size := by omega
          have hmore := HTB.out.more hkl (fun _ => rfl)
          obtain ⟨C, hC, hCn, _⟩ := HTB.out.outer
          obtain ⟨v, hv⟩ : ∃ v, C[k]? = some v := ⟨C[k]'(by omega), Array.getElem?_eq_getElem (by omega)⟩
          have hblt := hC.lt
          have hbne : hb ≠ wr.heap.size := by omega
          have x0 : wr.cell? ⟨hb, k, none⟩ = some v := (hC.cell k).trans hv
          have z0 := hC.free k
          have hwm : IntKind.i64.wrap ((k : Int) + 1) = ((k + 1 : Nat) : Int) := by rw [IntWalk.i64_in _ (by omega)]; rfl
          obtain ⟨m, hm⟩ : ∃ m, m = k + 1 := ⟨_, rfl⟩
          rw [← hm] at hwm
          have HREL : Hid (Wo2 w0 hb P len (.int .i64 (m : Nat)) ((wr.alloc (.cells (rowB (List.replicate P false)) 4)).setCell ⟨hb, k, none⟩ (.slice (some ⟨wr.heap.size, 0, none⟩) P P))) := Lib.hid ⟨m, _, rfl, by omega, Lib.hid (by rw [hm]; exact hmore), Lib.hid (HFK.out.trans (((Frm.refl _ _).alloc _).setCell (.inl (by simp)) _) (U := []) (T := [hb]) (by simp) (fun x hx => .inr (by have := HHB.out; simp at hx; omega)))⟩
          have HMM : Hid (len - m < len - k) := Lib.hid (by omega)
          rw [World.setCell_alloc_past _ _ _ _ hblt] at HREL
          clear hmore hC hCn hm
          go_wp2
          go_roundw
          case rel => exact HREL.out
          case measure => have := HMM.out; simpa [intOf] using this
        · obtain rfl : k = len := by omega
          have HW : Hid (Wo w wr B p g hb P W A bf L H (fun _ _ => false) 0) := Lib.hid (by
            have htb := HTB.out
            have hon := HON0.out
            have hhb := HHB.out
            have hpl := hon.1.lt
            have hl := HLEN.out
            rw [hl] at htb
            refine ⟨hon.1.keep HFK.out (by simp) (fun x hx => .inr ?_), ⟨htb.outer, htb.row, htb.ne, htb.out, by have := hon.2.2.2.2.size; omega, fun i hi => by have := htb.new.2 i hi; have := hon.2.2.2.2.size; omega⟩, HFK.out.whole hon.2.1 (by simp), ⟨hon.2.2.1, by omega, fun i hi => by have := htb.new.2 i hi; omega, HG0.out⟩, hon.2.2.2.2.trans HFK.out (by simp) (by simp), fun i _ j _ => (HH.out i j).symm, fun _ => okN_zero r1 (HH.out 0)⟩
            simp only [List.mem_cons, List.mem_map, List.mem_range] at hx
            rcases hx with rfl | ⟨i, hi, rfl⟩
            · omega
            · exact htb.new.2 i hi)
          have HR3 : Hid (Wo3 w B p g hb P W A bf L len2 (.int .i64 0) (.int .i64 0) wr) := Lib.hid ⟨0, 0, H, _, rfl, rfl, Nat.zero_le _, Nat.zero_le _, HW⟩
          clear HW HTB HFK HON0 HHB hmkb HH
          go_wp2
          go_loopw [14, 69] (fun s14 s69 z => Wo3 w B p g hb P W A bf L len2 s14 s69 z) (fun _ s69 _ => len2 - (intOf s69).toNat)
          case atStart => exact HR3.out
          case round =>
            clear HR3
            obtain ⟨i, su, H, T, rfl, rfl, hi, hsu, HW⟩ := hrel
            have HCO := Lib.hid (fun z (hz : Frm [] wr z) => wrcount_any (HW.out.wr.here hz))
            have HSU := Lib.hid (fun z (hz : Frm [] wr z) => wrsure_any (HW.out.wr.here hz))
            have hwsu : IntKind.u64.wrap (su : Int) = (su : Int) := by simp [IntKind.wrap, IntKind.bits, IntKind.signed]; have := HLEN.out; omega
            have hwlen : IntKind.u64.wrap (k : Int) = (k : Int) := by simp [IntKind.wrap, IntKind.bits, IntKind.signed]; omega
            rw [← HLEN.out] at HCO
            by_cases hil2 : i < len2
            · by_cases hk0 : k = 0
              · subst hk0
                obtain ⟨ho16, b, off, rfl, oc⟩ := (HOS.out.keep HW.out.frm) i (by rw [← HLEN2.out]; exact hil2)
                go_wp2_with fail
                (with_reducible refine (HSU.out _ (by repeat (first | apply Frm.drew | apply Frm.drewN | exact Frm.refl _ _))).mono ?_)
                rintro e w' ⟨rfl, rfl⟩
                go_wp2_with fail
                (with_reducible refine (HCO.out _ (by repeat (first | apply Frm.drew | apply Frm.drewN | exact Frm.refl _ _))).mono ?_)
                rintro e w' ⟨rfl, rfl⟩
                go_wp2
                exact FIN.out _ (HW.out.frm.trans (T := []) (by repeat (first | apply Frm.drew | apply Frm.drewN | exact Frm.refl _ _)) (by simp) (by simp))
              · clear HCO HSU
                obtain ⟨ho16, b, off, rfl, oc⟩ := (HOS.out.keep HW.out.frm) i (by rw [← HLEN2.out]; exact hil2)
                obtain ⟨o, hoe⟩ : ∃ o, o = os.getD i 0 := ⟨_, rfl⟩
                rw [← hoe] at ho16 oc
                have hkne : ((k : Int) == 0) = false := by simp; omega
                obtain ⟨p1, hp1⟩ : ∃ p1, p1 = o % 7 % P := ⟨_, rfl⟩
                obtain ⟨e1, he1⟩ : ∃ e1, e1 = o / 7 % k := ⟨_, rfl⟩
                have hp1P : p1 < P := by rw [hp1]; exact Nat.mod_lt _ (by omega)
                have he1k : e1 < k := by rw [he1]; exact Nat.mod_lt _ (by omega)
                have t1 : ((o : Int)).tmod 7 = ((o % 7 : Nat) : Int) := modI o 7
                have t2 : ((o : Int)).tdiv 7 = ((o / 7 : Nat) : Int) := by rw [Int.tdiv_eq_ediv_of_nonneg (by omega)]; rfl
                obtain ⟨o7, ho7⟩ : ∃ o7, o7 = o % 7 := ⟨_, rfl⟩
                obtain ⟨o8, ho8⟩ : ∃ o8, o8 = o / 7 := ⟨_, rfl⟩
                rw [← ho7] at t1 hp1
                rw [← ho8] at t2 he1
                have t3 : ((o7 : Int)).tmod (P : Int) = (p1 : Int) := by rw [hp1]; exact modI _ _
                have t4 : ((o8 : Int)).tmod (k : Int) = (e1 : Int) := by rw [he1]; exact modI _ _
                have v1 : IntKind.i64.wrap (o7 : Int) = (o7 : Int) := IntWalk.i64_in _ (by omega)
                have v2 : IntKind.i64.wrap (o8 : Int) = (o8 : Int) := IntWalk.i64_in _ (by omega)
                have v3 : IntKind.u16.wrap (o7 : Int) = (o7 : Int) := by simp [IntKind.wrap, IntKind.bits, IntKind.signed]; omega
                have v4 : IntKind.u16.wrap (o8 : Int) = (o8 : Int) := by simp [IntKind.wrap, IntKind.bits, IntKind.signed]; omega
                have v5 : IntKind.u64.wrap (e1 : Int) = (e1 : Int) := by simp [IntKind.wrap, IntKind.bits, IntKind.signed]; omega
                have n1 : (P : Int) ≠ 0 := by omega
                have n2 : (k : Int) ≠ 0 := by omega
                have n3 : P ≠ 0 := by omega
                have HQ0 := Lib.hid HW.out.quo
                have Q0 : ∀ z, Frm [] wr z → z.cell? ⟨g, 0, none⟩ = some (.int .i64 (P : Nat)) := fun z hz => (hz.whole HQ0.out (by simp)).cell 0
                have hS0 := Frm.refl [] wr
                clear hoe hp1 he1 ho7 ho8 hwlen
                go_wp2_with fail
                go_region_held3 (fun y => Frm [] wr y) (repeat (first | assumption | apply Frm.drew | exact Frm.refl _ _)) (fail)
                clear t1 t2 t3 t4 v1 v2 v3 v4 n1 n2 n3 oc hkne Q0
                obtain ⟨w5, hw5⟩ : ∃ w5, w5 = wr.drew := ⟨_, rfl⟩
                have hf5 : Frm [] wr w5 := by rw [hw5]; exact (Frm.refl _ _).drew
                rw [← hw5]
                clear hw5
                have HACK := Lib.hid (woack p1 e1 (HW.out.wr.here hf5) (by rw [← HLEN.out]; exact he1k) (by omega) HW.out.wait)
                have HF5 := Lib.hid hf5
                clear hf5
                go_wp2_with fail
                (with_reducible refine HACK.out.mono ?_)
                rintro e w6 ⟨ax, cx, s, X, H', rfl, hits, hs1, hs2, hwq, hf6, hil, hall, hend, hH⟩
                obtain ⟨nx, hnx⟩ : ∃ nx, nx = X.length := ⟨_, rfl⟩
                rw [← hnx]
                have hnxs : su + nx = s := by rw [hnx, ← its_lengthW, hits, itemsN_len]; omega
                have HNX := Lib.hid hnx
                have HITS := Lib.hid hits
                have HALL := Lib.hid hall
                have HEND := Lib.hid hend
                have htb6 : Tb w w6 hb P L.length L.length bf T := (HW.out.tab.here HF5.out).keep hf6 (by have := HW.out.low; simp; omega) (fun i hi => by have := HW.out.low.2.2.1 i hi; simp; omega)
                have hq6 := hf6.whole (HF5.out.whole HW.out.quo (by simp)) (by have := HW.out.low; simp; omega)
                have hfw6 : Frm [] w w6 := (HW.out.frm.trans HF5.out (U := []) (by simp) (by simp)).trans hf6 (by simp) (fun x hx => .inr (by have := HW.out.low; simp at hx; omega))
                have HIL := Lib.hid hil
                have HWQ := Lib.hid hwq
                have HTB6 := Lib.hid htb6
                have HQ6 := Lib.hid hq6
                have HFW6 := Lib.hid hfw6
                have HH' := Lib.hid hH
                obtain ⟨bge, hbge⟩ : ∃ bge, bge = decide (su ≤ e1) := ⟨_, rfl⟩
                have dge : decide ((su : Int) ≤ (e1 : Int)) = bge := by rw [hbge]; exact decide_eq_decide.2 (by omega)
                have dge2 : decide (su ≤ e1) = bge := hbge.symm
                clear hits hall hend hil hwq htb6 hq6 hfw6 hH hf6 hnx HACK hbge
                go_upto_if 95 with fail
                go_cut [69] from 69 to 167 (fun v69 wx => v69 = .int .i64 (i : Nat) ∧ ∃ T', Hid (Wo5 w wx B p g hb P W A bf L H' T' su s ax X))
                case first =>
                  cases bge with
                  | false =>
                    have hlt1 : e1 < su := by have := of_decide_eq_false dge2; omega
                    have HON : Hid (Wo5 w w6 B p g hb P W A bf L H' T su s ax X) := Lib.hid ⟨HWQ.out, HTB6.out, HQ6.out, HFW6.out, fun i hi j hj => by rw [HH'.out i hi j, if_neg (fun h => by omega)]; exact HW.out.same i hi j hj, HIL.out⟩
                    clear dge dge2
                    go_wp2_with fail
                    go_meet
                    case rel => exact ⟨by first | rfl | trivial, T, HON⟩
                  | true =>
                    have hge : su ≤ e1 := of_decide_eq_true dge2
                    have hel : e1 < L.length := by rw [← HLEN.out]; exact he1k
                    obtain ⟨wq, hwqe⟩ : ∃ wq, wq = w6 := ⟨_, rfl⟩
                    rw [← hwqe] at HIL HWQ HTB6 HQ6 HFW6 ⊢
                    clear hwqe
                    obtain ⟨C, hC, hCn, hCe⟩ := HTB6.out.outer
                    have K0 : ∀ z, Frm [] wq z → z.cell? ⟨hb, e1, none⟩ = some (.slice (some ⟨bf e1, 0, none⟩) P P) := fun z hz => ((hz.whole hC (by simp)).cell e1).trans (hCe e1 hel)
                    have K1 : ∀ z, Frm [] wq z → z.cell? ⟨bf e1, p1, none⟩ = some (.bool (T e1 p1)) := fun z hz => ((hz.whole (HTB6.out.row e1 hel) (by simp)).cell p1).trans (brow_at hp1P)
                    have Z1 : ∀ z, Frm [] wq z → z.frozen? ⟨bf e1, p1, none⟩ = false := fun z hz => (hz.whole (HTB6.out.row e1 hel) (by simp)).free p1
                    have Q0 : ∀ z, Frm [] wq z → z.cell? ⟨g, 0, none⟩ = some (.int .i64 (P : Nat)) := fun z hz => (hz.whole HQ6.out (by simp)).cell 0
                    have Q1 : ∀ z, Frm [] wq z → z.cell? ⟨g, 1, none⟩ = some (.int .i64 (W : Nat)) := fun z hz => (hz.whole HQ6.out (by simp)).cell 1
                    have Q2 : ∀ z, Frm [] wq z → z.cell? ⟨g, 2, none⟩ = some (.int .i64 (A : Nat)) := fun z hz => (hz.whole HQ6.out (by simp)).cell 2
                    have HSET := Lib.hid (fun (z : World) (_ : Frm [] wq z) => rset_any P W A e1 z r1 r2 r4 r3 (by omega))
                    unfold quV at HSET
                    have i1 : (e1 : Int) < (k : Int) := by omega
                    have i2 : (p1 : Int) < (P : Int) := by omega
                    have hS0 := Frm.refl [] wq
                    obtain ⟨nb, hnb⟩ : ∃ nb, nb = (T e1 p1 || (setN P W e1).contains p1) := ⟨_, rfl⟩
                    have HON : Hid (∀ z, Frm [] wq z → Wo5 w (z.setCell ⟨bf e1, p1, none⟩ (.bool nb)) B p g hb P W A bf L H' (fun i => if i = e1 then fun q => if q = p1 then nb else T e1 q else T i) su s ax X) := Lib.hid (fun z hz => by
                      have hfs : Frm [bf e1] z (z.setCell ⟨bf e1, p1, none⟩ (.bool nb)) := (Frm.refl _ _).setCell (.inl (by simp)) _
                      have hlow := HW.out.low
                      have hbe := hlow.2.2.1 e1 hel
                      have hwr := HW.out.frm.size
                      refine ⟨(HWQ.out.here hz).keep hfs (fun x hx => .inl ?_) (fun x hx => .inl hx), (HTB6.out.here hz).set hel nb, hfs.whole (hz.whole HQ6.out (by simp)) (by simp; omega), (HFW6.out.trans hz (U := []) (by simp) (by simp)).trans hfs (by simp) (fun x hx => .inr (by simp at hx; omega)), fun i hi j hj => ?_, ?_⟩
                      · simp only [List.mem_singleton] at hx
                        subst hx
                        exact List.mem_cons_of_mem _ (List.mem_map.2 ⟨e1, List.mem_range.2 hel, rfl⟩)
                      · rw [HH'.out i hi j]
                        by_cases hie : i = e1
                        · subst hie
                          simp only [if_true]
                          by_cases hjp : j = p1
                          · subst hjp
                            rw [if_pos rfl, hnb, HW.out.same i hi j hj]
                            by_cases hct : (setN P W i).contains j = true
                            · rw [if_pos (by first | exact ⟨rfl, rfl, hct⟩ | exact ⟨trivial, rfl, hct⟩ | simpa using hct), hct]; simp
                            · rw [if_neg (fun h => hct (by first | exact h.2.2 | simpa using h)), Bool.eq_false_iff.2 hct]; simp
                          · rw [if_neg hjp, if_neg (fun h => hjp (by first | exact h.2.1 | exact h.1))]; exact HW.out.same i hi j hj
                        · simp only [if_neg hie]
                          rw [if_neg (fun h => hie h.1)]; exact HW.out.same i hi j hj
                      · exact ((HIL.out.off_bool (HTB6.out.row e1 hel)).keep (hz.trans hfs (U := [bf e1]) (by simp) (fun x hx => .inl hx)) (F' := []) (fun x hx => .inl hx) (by simp)))
                    obtain ⟨tv, htv⟩ : ∃ tv, tv = T e1 p1 := ⟨_, rfl⟩
                    rw [← htv] at K1 hnb
                    clear dge dge2 hC hCn hCe htv
                    cases tv with
                    | false =>
                      obtain rfl : nb = (setN P W e1).contains p1 := by rw [hnb]; rfl
                      clear hnb
                      obtain ⟨cb, hcb⟩ : ∃ cb, cb = (setN P W e1).contains p1 := ⟨_, rfl⟩
                      have HIN : Hid (∀ sa sc z, IIn z sa (setN P W e1) → Calls Try.prog 18 #[.slice sa W sc, .int .i64 (p1 : Nat)] z fun x w' => x = .returned (.bool cb) ∧ w' = z) := Lib.hid fun sa sc z hz => by rw [hcb]; exact in_any sa W sc p1 (setN P W e1) z hz (setN_len P W e1).symm (by rw [setN_len]; omega)
                      rw [← hcb] at HON
                      clear hcb
                      go_upto_region 28 with fail
                      refine wp_region_tail (S := fun w' => Frm [] wq w') (tl := (fun j => j == 21)) (by kernel_rfl) (Frm.drew (Frm.refl _ _)) (fun hHeld => ?_)
                      refine tail_take (i := 0) (oi := ⟨some 96, _, _, _, _, _⟩) (v := ?_) rfl (by kernel_rfl) (by kernel_rfl) (by kernel_rfl) (by kernel_rfl) (by kernel_rfl) (fun _ _ _ h => h) (Or.inl ⟨by rfl, ?_⟩) (by assumption) ?_
                      rotate_left 1
                      · (intro w hSw; (try dsimp only at hSw); go_simp; all_goals with_reducible rfl)
                      try simp only [Act.put, List.setIfInBounds_toArray, List.set_cons_zero, List.set_cons_succ]
                      refine tail_take (i := 1) (oi := ⟨some 97, _, _, _, _, _⟩) (v := ?_) rfl (by kernel_rfl) (by kernel_rfl) (by kernel_rfl) (by kernel_rfl) (by kernel_rfl) (fun _ _ _ h => h) (Or.inl ⟨by rfl, ?_⟩) (by assumption) ?_
                      rotate_left 1
                      · (intro w hSw; (try dsimp only at hSw); go_simp; all_goals with_reducible rfl)
                      try simp only [Act.put, List.setIfInBounds_toArray, List.set_cons_zero, List.set_cons_succ]
                      refine tail_take (i := 2) (oi := ⟨some 98, _, _, _, _, _⟩) (v := ?_) rfl (by kernel_rfl) (by kernel_rfl) (by kernel_rfl) (by kernel_rfl) (by kernel_rfl) (fun _ _ _ h => h) (Or.inl ⟨by rfl, ?_⟩) (by assumption) ?_
                      rotate_left 1
                      · (intro w hSw; (try dsimp only at hSw); go_simp; all_goals with_reducible rfl)
                      try simp only [Act.put, List.setIfInBounds_toArray, List.set_cons_zero, List.set_cons_succ]
                      refine tail_take (i := 3) (oi := ⟨some 99, _, _, _, _, _⟩) (v := ?_) rfl (by kernel_rfl) (by kernel_rfl) (by kernel_rfl) (by kernel_rfl) (by kernel_rfl) (fun _ _ _ h => h) (Or.inl ⟨by rfl, ?_⟩) (by assumption) ?_
                      rotate_left 1
                      · (intro w hSw; (try dsimp only at hSw); go_simp; all_goals with_reducible rfl)
                      try simp only [Act.put, List.setIfInBounds_toArray, List.set_cons_zero, List.set_cons_succ]
                      refine tail_take (i := 4) (oi := ⟨some 100, _, _, _, _, _⟩) (v := ?_) rfl (by kernel_rfl) (by kernel_rfl) (by kernel_rfl) (by kernel_rfl) (by kernel_rfl) (fun _ _ _ h => h) (Or.inl ⟨by rfl, ?_⟩) (by assumption) ?_
                      rotate_left 1
                      · (intro w hSw; (try dsimp only at hSw); go_simp; all_goals with_reducible rfl)
                      try simp only [Act.put, List.setIfInBounds_toArray, List.set_cons_zero, List.set_cons_succ]
                      refine tail_take (i := 5) (oi := ⟨some 101, _, _, _, _, _⟩) (v := ?_) rfl (by kernel_rfl) (by kernel_rfl) (by kernel_rfl) (by kernel_rfl) (by kernel_rfl) (fun _ _ _ h => h) (Or.inl ⟨by rfl, ?_⟩) (by assumption) ?_
                      rotate_left 1
                      · (intro w hSw; (try dsimp only at hSw); go_simp; all_goals with_reducible rfl)
                      try simp only [Act.put, List.setIfInBounds_toArray, List.set_cons_zero, List.set_cons_succ]
                      refine tail_take (i := 6) (oi := ⟨some 102, _, _, _, _, _⟩) (v := ?_) rfl (by kernel_rfl) (by kernel_rfl) (by kernel_rfl) (by kernel_rfl) (by kernel_rfl) (fun _ _ _ h => h) (Or.inl ⟨by rfl, ?_⟩) (by assumption) ?_
                      rotate_left 1
                      · (intro w hSw; (try dsimp only at hSw); go_simp; all_goals with_reducible rfl)
                      try simp only [Act.put, List.setIfInBounds_toArray, List.set_cons_zero, List.set_cons_succ]
                      refine tail_take (i := 7) (oi := ⟨some 103, _, _, _, _, _⟩) (v := ?_) rfl (by kernel_rfl) (by kernel_rfl) (by kernel_rfl) (by kernel_rfl) (by kernel_rfl) (fun _ _ _ h => h) (Or.inl ⟨by rfl, ?_⟩) (by assumption) ?_
                      rotate_left 1
                      · (intro w hSw; (try dsimp only at hSw); go_simp; all_goals with_reducible rfl)
                      try simp only [Act.put, List.setIfInBounds_toArray, List.set_cons_zero, List.set_cons_succ]
                      refine tail_take (i := 8) (oi := ⟨some 104, _, _, _, _, _⟩) (v := ?_) rfl (by kernel_rfl) (by kernel_rfl) (by kernel_rfl) (by kernel_rfl) (by kernel_rfl) (fun _ _ _ h => h) (Or.inl ⟨by rfl, ?_⟩) (by assumption) ?_
                      rotate_left 1
                      · (intro w hSw; (try dsimp only at hSw); go_simp; all_goals with_reducible rfl)
                      try simp only [Act.put, List.setIfInBounds_toArray, List.set_cons_zero, List.set_cons_succ]
                      refine tail_take (i := 9) (oi := ⟨some 105, _, _, _, _, _⟩) (v := ?_) rfl (by kernel_rfl) (by kernel_rfl) (by kernel_rfl) (by kernel_rfl) (by kernel_rfl) (fun _ _ _ h => h) (Or.inl ⟨by rfl, ?_⟩) (by assumption) ?_
                      rotate_left 1
                      · (intro w hSw; (try dsimp only at hSw); go_simp; all_goals with_reducible rfl)
                      try simp only [Act.put, List.setIfInBounds_toArray, List.set_cons_zero, List.set_cons_succ]
                      refine tail_take (i := 10) (oi := ⟨some 106, _, _, _, _, _⟩) (v := ?_) rfl (by kernel_rfl) (by kernel_rfl) (by kernel_rfl) (by kernel_rfl) (by kernel_rfl) (fun _ _ _ h => h) (Or.inl ⟨by rfl, ?_⟩) (by assumption) ?_
                      rotate_left 1
                      · (intro w hSw; (try dsimp only at hSw); go_simp; all_goals with_reducible rfl)
                      try simp only [Act.put, List.setIfInBounds_toArray, List.set_cons_zero, List.set_cons_succ]
                      refine tail_take (i := 11) (oi := ⟨some 107, _, _, _, _, _⟩) (v := ?_) rfl (by kernel_rfl) (by kernel_rfl) (by kernel_rfl) (by kernel_rfl) (by kernel_rfl) (fun _ _ _ h => h) (Or.inl ⟨by rfl, ?_⟩) (by assumption) ?_
                      rotate_left 1
                      · (intro w hSw; (try dsimp only at hSw); go_simp; all_goals with_reducible rfl)
                      try simp only [Act.put, List.setIfInBounds_toArray, List.set_cons_zero, List.set_cons_succ]
                      refine tail_take (i := 12) (oi := ⟨some 108, _, _, _, _, _⟩) (v := ?_) rfl (by kernel_rfl) (by kernel_rfl) (by kernel_rfl) (by kernel_rfl) (by kernel_rfl) (fun _ _ _ h => h) (Or.inl ⟨by rfl, ?_⟩) (by assumption) ?_
                      rotate_left 1
                      · (intro w hSw; (try dsimp only at hSw); go_simp; all_goals with_reducible rfl)
                      try simp only [Act.put, List.setIfInBounds_toArray, List.set_cons_zero, List.set_cons_succ]
                      refine tail_take (i := 13) (oi := ⟨some 109, _, _, _, _, _⟩) (v := ?_) rfl (by kernel_rfl) (by kernel_rfl) (by kernel_rfl) (by kernel_rfl) (by kernel_rfl) (fun _ _ _ h => h) (Or.inl ⟨by rfl, ?_⟩) (by assumption) ?_
                      rotate_left 1
                      · (intro w hSw; (try dsimp only at hSw); go_simp; all_goals with_reducible rfl)
                      try simp only [Act.put, List.setIfInBounds_toArray, List.set_cons_zero, List.set_cons_succ]
                      refine tail_take (i := 14) (oi := ⟨some 110, _, _, _, _, _⟩) (v := ?_) rfl (by kernel_rfl) (by kernel_rfl) (by kernel_rfl) (by kernel_rfl) (by kernel_rfl) (fun _ _ _ h => h) (Or.inl ⟨by rfl, ?_⟩) (by assumption) ?_
                      rotate_left 1
                      · (intro w hSw; (try dsimp only at hSw); go_simp; all_goals with_reducible rfl)
                      try simp only [Act.put, List.setIfInBounds_toArray, List.set_cons_zero, List.set_cons_succ]
                      refine tail_take (i := 15) (oi := ⟨some 111, _, _, _, _, _⟩) (v := ?_) rfl (by kernel_rfl) (by kernel_rfl) (by kernel_rfl) (by kernel_rfl) (by kernel_rfl) (fun _ _ _ h => h) (Or.inl ⟨by rfl, ?_⟩) (by assumption) ?_
                      rotate_left 1
                      · (intro w hSw; (try dsimp only at hSw); go_simp; all_goals with_reducible rfl)
                      try simp only [Act.put, List.setIfInBounds_toArray, List.set_cons_zero, List.set_cons_succ]
                      refine tail_take (i := 17) (oi := ⟨some 113, _, _, _, _, _⟩) (v := ?_) rfl (by kernel_rfl) (by kernel_rfl) (by kernel_rfl) (by kernel_rfl) (by kernel_rfl) (fun _ _ _ h => h) (Or.inl ⟨by rfl, ?_⟩) (by assumption) ?_
                      rotate_left 1
                      · (intro w hSw; (try dsimp only at hSw); go_simp; all_goals with_reducible rfl)
                      try simp only [Act.put, List.setIfInBounds_toArray, List.set_cons_zero, List.set_cons_succ]
                      refine tail_one (i := 16) (o := ⟨some 112, _, _, _, _, _⟩) (by kernel_rfl) rfl (fun K hK => ?_)
                      go_simp
                      ((with_reducible refine (HSET.out _ (by repeat (first | assumption | apply Frm.drew | exact Frm.refl _ _))).mono ?_); rintro ex ws ⟨sa, sc, rfl, hsi, hfs⟩; have S1 : Frm [] wq ws := Frm.trans (by repeat (first | assumption | apply Frm.drew | exact Frm.refl _ _)) hfs (by simp) (by simp); clear hfs)
                      go_wp2_with fail
                      refine hK.out _ _ (fun _ => by assumption) (fun _ => ?_)
                      clear hK K
                      try simp only [Act.put, List.setIfInBounds_toArray, List.set_cons_zero, List.set_cons_succ]
                      refine tail_one (i := 18) (o := ⟨some 114, _, _, _, _, _⟩) (by kernel_rfl) rfl (fun K hK => ?_)
                      go_simp
                      ((with_reducible refine (HIN.out sa sc _ (by first | exact hsi | exact hsi.keep (by repeat (first | assumption | apply Frm.drew | exact Frm.refl _ _)))).mono ?_); rintro ex ws2 ⟨rfl, rfl⟩)
                      go_wp2_with fail
                      refine hK.out _ _ (fun _ => by assumption) (fun _ => ?_)
                      clear hK K
                      try simp only [Act.put, List.setIfInBounds_toArray, List.set_cons_zero, List.set_cons_succ]
                      refine tail_take (i := 19) (oi := ⟨some 115, _, _, _, _, _⟩) (v := ?_) rfl (by kernel_rfl) (by kernel_rfl) (by kernel_rfl) (by kernel_rfl) (by kernel_rfl) (fun _ _ _ h => h) (Or.inl ⟨by rfl, ?_⟩) (by assumption) ?_
                      rotate_left 1
                      · (intro w hSw; (try dsimp only at hSw); go_simp; all_goals with_reducible rfl)
                      try simp only [Act.put, List.setIfInBounds_toArray, List.set_cons_zero, List.set_cons_succ]
                      refine tail_take (i := 20) (oi := ⟨some 116, _, _, _, _, _⟩) (v := ?_) rfl (by kernel_rfl) (by kernel_rfl) (by kernel_rfl) (by kernel_rfl) (by kernel_rfl) (fun _ _ _ h => h) (Or.inl ⟨by rfl, ?_⟩) (by assumption) ?_
                      rotate_left 1
                      · (intro w hSw; (try dsimp only at hSw); go_simp; all_goals with_reducible rfl)
                      try simp only [Act.put, List.setIfInBounds_toArray, List.set_cons_zero, List.set_cons_succ]
                      refine tail_one (i := 21) (o := ⟨none, _, _, _, _, _⟩) (by kernel_rfl) rfl (fun K hK => ?_)
                      go_simp
                      refine hK.out _ _ (fun h => absurd h (by decide)) (fun _ => ?_)
                      clear hK K
                      try simp only [Act.put, List.setIfInBounds_toArray, List.set_cons_zero, List.set_cons_succ]
                      refine tail_done (by kernel_rfl) ?_ _
                      go_wp2_with fail
                      go_meet
                      case rel => exact ⟨by first | rfl | trivial, _, Lib.hid (HON.out _ S1)⟩
                    | true =>
                      obtain rfl : nb = true := by rw [hnb]; rfl
                      clear hnb
                      go_upto_region 28 with fail
                      refine wp_region_tail (S := fun w' => Frm [] wq w') (tl := (fun j => j == 21)) (by kernel_rfl) (Frm.drew (Frm.refl _ _)) (fun hHeld => ?_)
                      refine tail_take (i := 0) (oi := ⟨some 96, _, _, _, _, _⟩) (v := ?_) rfl (by kernel_rfl) (by kernel_rfl) (by kernel_rfl) (by kernel_rfl) (by kernel_rfl) (fun _ _ _ h => h) (Or.inl ⟨by rfl, ?_⟩) (by assumption) ?_
                      rotate_left 1
                      · (intro w hSw; (try dsimp only at hSw); go_simp; all_goals with_reducible rfl)
                      try simp only [Act.put, List.setIfInBounds_toArray, List.set_cons_zero, List.set_cons_succ]
                      refine tail_take (i := 1) (oi := ⟨some 97, _, _, _, _, _⟩) (v := ?_) rfl (by kernel_rfl) (by kernel_rfl) (by kernel_rfl) (by kernel_rfl) (by kernel_rfl) (fun _ _ _ h => h) (Or.inl ⟨by rfl, ?_⟩) (by assumption) ?_
                      rotate_left 1
                      · (intro w hSw; (try dsimp only at hSw); go_simp; all_goals with_reducible rfl)
                      try simp only [Act.put, List.setIfInBounds_toArray, List.set_cons_zero, List.set_cons_succ]
                      refine tail_take (i := 2) (oi := ⟨some 98, _, _, _, _, _⟩) (v := ?_) rfl (by kernel_rfl) (by kernel_rfl) (by kernel_rfl) (by kernel_rfl) (by kernel_rfl) (fun _ _ _ h => h) (Or.inl ⟨by rfl, ?_⟩) (by assumption) ?_
                      rotate_left 1
                      · (intro w hSw; (try dsimp only at hSw); go_simp; all_goals with_reducible rfl)
                      try simp only [Act.put, List.setIfInBounds_toArray, List.set_cons_zero, List.set_cons_succ]
                      refine tail_take (i := 3) (oi := ⟨some 99, _, _, _, _, _⟩) (v := ?_) rfl (by kernel_rfl) (by kernel_rfl) (by kernel_rfl) (by kernel_rfl) (by kernel_rfl) (fun _ _ _ h => h) (Or.inl ⟨by rfl, ?_⟩) (by assumption) ?_
                      rotate_left 1
                      · (intro w hSw; (try dsimp only at hSw); go_simp; all_goals with_reducible rfl)
                      try simp only [Act.put, List.setIfInBounds_toArray, List.set_cons_zero, List.set_cons_succ]
                      refine tail_take (i := 4) (oi := ⟨some 100, _, _, _, _, _⟩) (v := ?_) rfl (by kernel_rfl) (by kernel_rfl) (by kernel_rfl) (by kernel_rfl) (by kernel_rfl) (fun _ _ _ h => h) (Or.inl ⟨by rfl, ?_⟩) (by assumption) ?_
                      rotate_left 1
                      · (intro w hSw; (try dsimp only at hSw); go_simp; all_goals with_reducible rfl)
                      try simp only [Act.put, List.setIfInBounds_toArray, List.set_cons_zero, List.set_cons_succ]
                      refine tail_take (i := 5) (oi := ⟨some 101, _, _, _, _, _⟩) (v := ?_) rfl (by kernel_rfl) (by kernel_rfl) (by kernel_rfl) (by kernel_rfl) (by kernel_rfl) (fun _ _ _ h => h) (Or.inl ⟨by rfl, ?_⟩) (by assumption) ?_
                      rotate_left 1
                      · (intro w hSw; (try dsimp only at hSw); go_simp; all_goals with_reducible rfl)
                      try simp only [Act.put, List.setIfInBounds_toArray, List.set_cons_zero, List.set_cons_succ]
                      refine tail_take (i := 6) (oi := ⟨some 102, _, _, _, _, _⟩) (v := ?_) rfl (by kernel_rfl) (by kernel_rfl) (by kernel_rfl) (by kernel_rfl) (by kernel_rfl) (fun _ _ _ h => h) (Or.inl ⟨by rfl, ?_⟩) (by assumption) ?_
                      rotate_left 1
                      · (intro w hSw; (try dsimp only at hSw); go_simp; all_goals with_reducible rfl)
                      try simp only [Act.put, List.setIfInBounds_toArray, List.set_cons_zero, List.set_cons_succ]
                      refine tail_take (i := 7) (oi := ⟨some 103, _, _, _, _, _⟩) (v := ?_) rfl (by kernel_rfl) (by kernel_rfl) (by kernel_rfl) (by kernel_rfl) (by kernel_rfl) (fun _ _ _ h => h) (Or.inl ⟨by rfl, ?_⟩) (by assumption) ?_
                      rotate_left 1
                      · (intro w hSw; (try dsimp only at hSw); go_simp; all_goals with_reducible rfl)
                      try simp only [Act.put, List.setIfInBounds_toArray, List.set_cons_zero, List.set_cons_succ]
                      refine tail_take (i := 8) (oi := ⟨some 104, _, _, _, _, _⟩) (v := ?_) rfl (by kernel_rfl) (by kernel_rfl) (by kernel_rfl) (by kernel_rfl) (by kernel_rfl) (fun _ _ _ h => h) (Or.inl ⟨by rfl, ?_⟩) (by assumption) ?_
                      rotate_left 1
                      · (intro w hSw; (try dsimp only at hSw); go_simp; all_goals with_reducible rfl)
                      try simp only [Act.put, List.setIfInBounds_toArray, List.set_cons_zero, List.set_cons_succ]
                      refine tail_take (i := 9) (oi := ⟨some 105, _, _, _, _, _⟩) (v := ?_) rfl (by kernel_rfl) (by kernel_rfl) (by kernel_rfl) (by kernel_rfl) (by kernel_rfl) (fun _ _ _ h => h) (Or.inl ⟨by rfl, ?_⟩) (by assumption) ?_
                      rotate_left 1
                      · (intro w hSw; (try dsimp only at hSw); go_simp; all_goals with_reducible rfl)
                      try simp only [Act.put, List.setIfInBounds_toArray, List.set_cons_zero, List.set_cons_succ]
                      refine tail_take (i := 10) (oi := ⟨some 106, _, _, _, _, _⟩) (v := ?_) rfl (by kernel_rfl) (by kernel_rfl) (by kernel_rfl) (by kernel_rfl) (by kernel_rfl) (fun _ _ _ h => h) (Or.inl ⟨by rfl, ?_⟩) (by assumption) ?_
                      rotate_left 1
                      · (intro w hSw; (try dsimp only at hSw); go_simp; all_goals with_reducible rfl)
                      try simp only [Act.put, List.setIfInBounds_toArray, List.set_cons_zero, List.set_cons_succ]
                      refine tail_take (i := 11) (oi := ⟨some 107, _, _, _, _, _⟩) (v := ?_) rfl (by kernel_rfl) (by kernel_rfl) (by kernel_rfl) (by kernel_rfl) (by kernel_rfl) (fun _ _ _ h => h) (Or.inl ⟨by rfl, ?_⟩) (by assumption) ?_
                      rotate_left 1
                      · (intro w hSw; (try dsimp only at hSw); go_simp; all_goals with_reducible rfl)
                      try simp only [Act.put, List.setIfInBounds_toArray, List.set_cons_zero, List.set_cons_succ]
                      refine tail_take (i := 12) (oi := ⟨some 108, _, _, _, _, _⟩) (v := ?_) rfl (by kernel_rfl) (by kernel_rfl) (by kernel_rfl) (by kernel_rfl) (by kernel_rfl) (fun _ _ _ h => h) (Or.inl ⟨by rfl, ?_⟩) (by assumption) ?_
                      rotate_left 1
                      · (intro w hSw; (try dsimp only at hSw); go_simp; all_goals with_reducible rfl)
                      try simp only [Act.put, List.setIfInBounds_toArray, List.set_cons_zero, List.set_cons_succ]
                      refine tail_take (i := 13) (oi := ⟨some 109, _, _, _, _, _⟩) (v := undef) rfl (by kernel_rfl) (by kernel_rfl) (by kernel_rfl) (by kernel_rfl) (by kernel_rfl) (fun _ _ _ h => h) (Or.inr ⟨by rfl, rfl⟩) (by assumption) ?_
                      try simp only [Act.put, List.setIfInBounds_toArray, List.set_cons_zero, List.set_cons_succ]
                      refine tail_take (i := 14) (oi := ⟨some 110, _, _, _, _, _⟩) (v := undef) rfl (by kernel_rfl) (by kernel_rfl) (by kernel_rfl) (by kernel_rfl) (by kernel_rfl) (fun _ _ _ h => h) (Or.inr ⟨by rfl, rfl⟩) (by assumption) ?_
                      try simp only [Act.put, List.setIfInBounds_toArray, List.set_cons_zero, List.set_cons_succ]
                      refine tail_take (i := 15) (oi := ⟨some 111, _, _, _, _, _⟩) (v := undef) rfl (by kernel_rfl) (by kernel_rfl) (by kernel_rfl) (by kernel_rfl) (by kernel_rfl) (fun _ _ _ h => h) (Or.inr ⟨by rfl, rfl⟩) (by assumption) ?_
                      try simp only [Act.put, List.setIfInBounds_toArray, List.set_cons_zero, List.set_cons_succ]
                      refine tail_take (i := 16) (oi := ⟨some 112, _, _, _, _, _⟩) (v := undef) rfl (by kernel_rfl) (by kernel_rfl) (by kernel_rfl) (by kernel_rfl) (by kernel_rfl) (fun _ _ _ h => h) (Or.inr ⟨by rfl, rfl⟩) (by assumption) ?_
                      try simp only [Act.put, List.setIfInBounds_toArray, List.set_cons_zero, List.set_cons_succ]
                      refine tail_take (i := 17) (oi := ⟨some 113, _, _, _, _, _⟩) (v := undef) rfl (by kernel_rfl) (by kernel_rfl) (by kernel_rfl) (by kernel_rfl) (by kernel_rfl) (fun _ _ _ h => h) (Or.inr ⟨by rfl, rfl⟩) (by assumption) ?_
                      try simp only [Act.put, List.setIfInBounds_toArray, List.set_cons_zero, List.set_cons_succ]
                      refine tail_take (i := 18) (oi := ⟨some 114, _, _, _, _, _⟩) (v := undef) rfl (by kernel_rfl) (by kernel_rfl) (by kernel_rfl) (by kernel_rfl) (by kernel_rfl) (fun _ _ _ h => h) (Or.inr ⟨by rfl, rfl⟩) (by assumption) ?_
                      try simp only [Act.put, List.setIfInBounds_toArray, List.set_cons_zero, List.set_cons_succ]
                      refine tail_take (i := 19) (oi := ⟨some 115, _, _, _, _, _⟩) (v := ?_) rfl (by kernel_rfl) (by kernel_rfl) (by kernel_rfl) (by kernel_rfl) (by kernel_rfl) (fun _ _ _ h => h) (Or.inl ⟨by rfl, ?_⟩) (by assumption) ?_
                      rotate_left 1
                      · (intro w hSw; (try dsimp only at hSw); go_simp; all_goals with_reducible rfl)
                      try simp only [Act.put, List.setIfInBounds_toArray, List.set_cons_zero, List.set_cons_succ]
                      refine tail_take (i := 20) (oi := ⟨some 116, _, _, _, _, _⟩) (v := ?_) rfl (by kernel_rfl) (by kernel_rfl) (by kernel_rfl) (by kernel_rfl) (by kernel_rfl) (fun _ _ _ h => h) (Or.inl ⟨by rfl, ?_⟩) (by assumption) ?_
                      rotate_left 1
                      · (intro w hSw; (try dsimp only at hSw); go_simp; all_goals with_reducible rfl)
                      try simp only [Act.put, List.setIfInBounds_toArray, List.set_cons_zero, List.set_cons_succ]
                      refine tail_one (i := 21) (o := ⟨none, _, _, _, _, _⟩) (by kernel_rfl) rfl (fun K hK => ?_)
                      go_simp
                      refine hK.out _ _ (fun h => absurd h (by decide)) (fun _ => ?_)
                      clear hK K
                      try simp only [Act.put, List.setIfInBounds_toArray, List.set_cons_zero, List.set_cons_succ]
                      refine tail_done (by kernel_rfl) ?_ _
                      go_wp2_with fail
                      go_meet
                      case rel => exact ⟨by first | rfl | trivial, _, Lib.hid (HON.out wq.drew (Frm.refl _ _).drew)⟩
                case rest =>
                  obtain ⟨rfl, T', HW5⟩ := hcut
                  have hlow := HW.out.low
                  obtain ⟨C, hC, hCn, hCe⟩ := HW5.out.tab.outer
                  have HC := Lib.hid hC
                  have HCE := Lib.hid hCe
                  have HR4 : Hid (Wo4 wc su nx (.int .i64 (su : Nat)) (.int .i64 0) wc) := Lib.hid ⟨0, rfl, rfl, Nat.zero_le _, Lib.hid (Frm.refl _ _)⟩
                  have hsk : s ≤ k := by have := HLEN.out; omega
                  clear dge dge2 hC hCn hCe hlow
                  go_wp2
                  go_loopw [14, 119] (fun s14 s119 z => Wo4 wc su nx s14 s119 z) (fun _ s119 _ => nx - (intOf s119).toNat)
                  case atStart => exact HR4.out
                  case round =>
                    clear HR4
                    obtain ⟨j, rfl, rfl, hj, HFJ⟩ := hrel
                    by_cases hjn : j < nx
                    · have hjX : j < X.length := by rw [← HNX.out]; exact hjn
                      obtain ⟨m, hm⟩ : ∃ m, m = su + j := ⟨_, rfl⟩
                      have hms : m < s := by omega
                      obtain ⟨b3, off3, hax, x0, x1, hix⟩ := (HW5.out.il.keep HFJ.out (F' := []) (by simp) (by simp)).at hjX
                      have hxt : (X.getD j default).t = (m, L.getD m []) := by
                        have h1 : (its X)[j]? = some (m, L.getD m []) := by
                          rw [HITS.out, hm]; unfold itemsN
                          simp [show j < s - su by omega]
                        rw [its, List.getElem?_map, List.getElem?_eq_getElem hjX] at h1
                        injection h1 with h1
                        rw [List.getD_eq_getElem?_getD, List.getElem?_eq_getElem hjX]; exact h1
                      obtain ⟨y, hy⟩ : ∃ y, y = X.getD j default := ⟨_, rfl⟩
                      rw [← hy] at x0 x1 hix hxt
                      obtain ⟨⟨e3, d3⟩, ad, cd3⟩ := y
                      simp only [Prod.mk.injEq] at hxt
                      obtain ⟨rfl, hd3⟩ := hxt
                      simp only at x0 x1
                      have hmL : e3 < L.length := by have := HLEN.out; omega
                      obtain ⟨b4, off4, ha4, al, cl, l0, lby, lnil⟩ := (HL.out.here (HW5.out.frm.trans HFJ.out (U := []) (by simp) (by simp))).at hmL
                      rw [← hd3] at l0 lby
                      obtain ⟨wq, hwq⟩ : ∃ wq, wq = wr.alloc (.cells #[.int .u64 (e3 : Nat), .slice ad d3.length cd3] 55) := ⟨_, rfl⟩
                      have hfq : Frm [] wr wq := by rw [hwq]; exact (Frm.refl _ _).alloc _
                      have hWq : Whole wq wr.heap.size 55 #[.int .u64 (e3 : Nat), .slice ad d3.length cd3] := by rw [hwq]; exact Whole.made _ _ _
                      obtain ⟨gi, hgi⟩ : ∃ gi, gi = wr.heap.size := ⟨_, rfl⟩
                      rw [← hgi] at hWq
                      have hfcq : Frm [] wc wq := HFJ.out.trans hfq (U := []) (by simp) (by simp)
                      obtain ⟨dn3, hdn3⟩ : ∃ dn3, dn3 = d3.length := ⟨_, rfl⟩
                      have C1 : ∀ z, Frm [] wq z → (convert 38 9 (.slice ad dn3 cd3)).run Try.prog z = .ok (.string (strOf d3)) z := fun z hz => run_to_string (P := Try.prog) (e := 5) Try.underlying38 Try.underlying5 Try.underlying9 (((hfq.trans hz (U := []) (by simp) (by simp))).bytes' hix.bytes (by simp)) hdn3
                      have C2 : ∀ z, Frm [] wq z → (convert 38 9 (.slice al dn3 cl)).run Try.prog z = .ok (.string (strOf d3)) z := fun z hz => run_to_string (P := Try.prog) (e := 5) Try.underlying38 Try.underlying5 Try.underlying9 (((hfq.trans hz (U := []) (by simp) (by simp))).bytes' lby (by simp)) hdn3
                      rw [← hdn3] at x1 l0 hWq hwq
                      have G0 : ∀ z, Frm [] wq z → z.cell? ⟨gi, 0, none⟩ = some (.int .u64 (e3 : Nat)) := fun z hz => (hz.whole hWq (by simp)).cell 0
                      have G1 : ∀ z, Frm [] wq z → z.cell? ⟨gi, 1, none⟩ = some (.slice ad dn3 cd3) := fun z hz => (hz.whole hWq (by simp)).cell 1
                      have G2 : ∀ z, Frm [] wq z → z.cell? ⟨b4, off4 + e3, none⟩ = some (.slice al dn3 cl) := fun z hz => ((hfq.trans hz (U := []) (by simp) (by simp)).cell (block_lt_of_cell l0) (by simp)).trans l0
                      have K0 : ∀ z, Frm [] wq z → z.cell? ⟨hb, e3, none⟩ = some (.slice (some ⟨bf e3, 0, none⟩) P P) := fun z hz => (((hfcq.trans hz (U := []) (by simp) (by simp)).whole HC.out (by simp)).cell e3).trans (HCE.out e3 hmL)
                      have Q0 : ∀ z, Frm [] wq z → z.cell? ⟨g, 0, none⟩ = some (.int .i64 (P : Nat)) := fun z hz => ((hfcq.trans hz (U := []) (by simp) (by simp)).whole HW5.out.quo (by simp)).cell 0
                      have Q1 : ∀ z, Frm [] wq z → z.cell? ⟨g, 1, none⟩ = some (.int .i64 (W : Nat)) := fun z hz => ((hfcq.trans hz (U := []) (by simp) (by simp)).whole HW5.out.quo (by simp)).cell 1
                      have Q2 : ∀ z, Frm [] wq z → z.cell? ⟨g, 2, none⟩ = some (.int .i64 (A : Nat)) := fun z hz => ((hfcq.trans hz (U := []) (by simp) (by simp)).whole HW5.out.quo (by simp)).cell 2
                      have HEN := Lib.hid (fun z (hz : Frm [] wq z) => renough_any P W A e3 (some ⟨bf e3, 0, none⟩) P P ((List.range P).map (T' e3)) z r1 r2 r4 r3 (by omega) ((HW5.out.tab.here (hfcq.trans hz (U := []) (by simp) (by simp))).bin hmL) (by simp))
                      rw [okN_tab (H := H') (by omega) r4 (fun q hq => HW5.out.same e3 (by omega) q hq), HALL.out e3 (by omega) hms] at HEN
                      unfold quV at HEN
                      have HFQ := Lib.hid hfcq
                      have HWQE := Lib.hid hwq
                      have HGI := Lib.hid hgi
                      have HJM := Lib.hid hm
                      have he3k : (e3 : Int) < (k : Int) := by omega
                      have he3n : e3 < k := by omega
                      have v6 : IntKind.u64.wrap (e3 : Int) = (e3 : Int) := by simp [IntKind.wrap, IntKind.bits, IntKind.signed]; omega
                      have v7 : IntKind.i64.wrap ((e3 : Int) + 1) = ((e3 + 1 : Nat) : Int) := by rw [IntWalk.i64_in _ (by omega)]; rfl
                      have v8 : IntKind.i64.wrap ((j : Int) + 1) = ((j + 1 : Nat) : Int) := by rw [IntWalk.i64_in _ (by omega)]; rfl
                      have hS0 := Frm.refl [] wq
                      subst hax
                      subst ha4
                      clear hix hd3 lby lnil l0 hfq hWq hfcq hdn3 hwq hgi hy hjX
                      rw [← hm]
                      clear hm
                      go_upto_region 32 with fail
                      rw [← HWQE.out, ← HGI.out]
                      refine wp_region_held_drew (S := fun w' => Frm [] wq w') (by kernel_rfl) (Frm.drew (Frm.refl _ _)) (fun hHeld => ?_)
                      refine wpAnyH_take (i := 0) (oi := ⟨some 123, _, _, _, _, _⟩) (v := ?_) rfl (by kernel_rfl) (by kernel_rfl) (by kernel_rfl) (fun _ _ _ h => h) (Or.inl ⟨by rfl, ?_⟩) (by assumption) ?_
                      rotate_left 1
                      · (intro w hSw; (try dsimp only at hSw); go_simp; all_goals with_reducible rfl)
                      try simp only [Act.put, List.setIfInBounds_toArray, List.set_cons_zero, List.set_cons_succ]
                      refine wpAnyH_take (i := 1) (oi := ⟨some 124, _, _, _, _, _⟩) (v := ?_) rfl (by kernel_rfl) (by kernel_rfl) (by kernel_rfl) (fun _ _ _ h => h) (Or.inl ⟨by rfl, ?_⟩) (by assumption) ?_
                      rotate_left 1
                      · (intro w hSw; (try dsimp only at hSw); go_simp; all_goals with_reducible rfl)
                      try simp only [Act.put, List.setIfInBounds_toArray, List.set_cons_zero, List.set_cons_succ]
                      refine wpAnyH_take (i := 2) (oi := ⟨some 125, _, _, _, _, _⟩) (v := ?_) rfl (by kernel_rfl) (by kernel_rfl) (by kernel_rfl) (fun _ _ _ h => h) (Or.inl ⟨by rfl, ?_⟩) (by assumption) ?_
                      rotate_left 1
                      · (intro w hSw; (try dsimp only at hSw); go_simp; all_goals with_reducible rfl)
                      try simp only [Act.put, List.setIfInBounds_toArray, List.set_cons_zero, List.set_cons_succ]
                      refine wpAnyH_take (i := 3) (oi := ⟨some 126, _, _, _, _, _⟩) (v := ?_) rfl (by kernel_rfl) (by kernel_rfl) (by kernel_rfl) (fun _ _ _ h => h) (Or.inl ⟨by rfl, ?_⟩) (by assumption) ?_
                      rotate_left 1
                      · (intro w hSw; (try dsimp only at hSw); go_simp; all_goals with_reducible rfl)
                      try simp only [Act.put, List.setIfInBounds_toArray, List.set_cons_zero, List.set_cons_succ]
                      refine wpAnyH_take (i := 4) (oi := ⟨some 127, _, _, _, _, _⟩) (v := ?_) rfl (by kernel_rfl) (by kernel_rfl) (by kernel_rfl) (fun _ _ _ h => h) (Or.inl ⟨by rfl, ?_⟩) (by assumption) ?_
                      rotate_left 1
                      · (intro w hSw; (try dsimp only at hSw); go_simp; all_goals with_reducible rfl)
                      try simp only [Act.put, List.setIfInBounds_toArray, List.set_cons_zero, List.set_cons_succ]
                      refine wpAnyH_take (i := 5) (oi := ⟨some 128, _, _, _, _, _⟩) (v := ?_) rfl (by kernel_rfl) (by kernel_rfl) (by kernel_rfl) (fun _ _ _ h => h) (Or.inl ⟨by rfl, ?_⟩) (by assumption) ?_
                      rotate_left 1
                      · (intro w hSw; (try dsimp only at hSw); go_simp; all_goals with_reducible rfl)
                      try simp only [Act.put, List.setIfInBounds_toArray, List.set_cons_zero, List.set_cons_succ]
                      refine wpAnyH_take (i := 6) (oi := ⟨some 129, _, _, _, _, _⟩) (v := ?_) rfl (by kernel_rfl) (by kernel_rfl) (by kernel_rfl) (fun _ _ _ h => h) (Or.inl ⟨by rfl, ?_⟩) (by assumption) ?_
                      rotate_left 1
                      · (intro w hSw; (try dsimp only at hSw); go_simp; all_goals with_reducible rfl)
                      try simp only [Act.put, List.setIfInBounds_toArray, List.set_cons_zero, List.set_cons_succ]
                      refine wpAnyH_take (i := 7) (oi := ⟨some 130, _, _, _, _, _⟩) (v := ?_) rfl (by kernel_rfl) (by kernel_rfl) (by kernel_rfl) (fun _ _ _ h => h) (Or.inl ⟨by rfl, ?_⟩) (by assumption) ?_
                      rotate_left 1
                      · (intro w hSw; (try dsimp only at hSw); go_simp; all_goals with_reducible rfl)
                      try simp only [Act.put, List.setIfInBounds_toArray, List.set_cons_zero, List.set_cons_succ]
                      refine wpAnyH_take (i := 8) (oi := ⟨some 131, _, _, _, _, _⟩) (v := ?_) rfl (by kernel_rfl) (by kernel_rfl) (by kernel_rfl) (fun _ _ _ h => h) (Or.inl ⟨by rfl, ?_⟩) (by assumption) ?_
                      rotate_left 1
                      · (intro w hSw; (try dsimp only at hSw); go_simp; all_goals with_reducible rfl)
                      try simp only [Act.put, List.setIfInBounds_toArray, List.set_cons_zero, List.set_cons_succ]
                      refine wpAnyH_take (i := 9) (oi := ⟨some 132, _, _, _, _, _⟩) (v := ?_) rfl (by kernel_rfl) (by kernel_rfl) (by kernel_rfl) (fun _ _ _ h => h) (Or.inl ⟨by rfl, ?_⟩) (by assumption) ?_
                      rotate_left 1
                      · (intro w hSw; (try dsimp only at hSw); go_simp; all_goals with_reducible rfl)
                      try simp only [Act.put, List.setIfInBounds_toArray, List.set_cons_zero, List.set_cons_succ]
                      refine wpAnyH_take (i := 10) (oi := ⟨some 133, _, _, _, _, _⟩) (v := ?_) rfl (by kernel_rfl) (by kernel_rfl) (by kernel_rfl) (fun _ _ _ h => h) (Or.inl ⟨by rfl, ?_⟩) (by assumption) ?_
                      rotate_left 1
                      · (intro w hSw; (try dsimp only at hSw); go_simp; all_goals with_reducible rfl)
                      try simp only [Act.put, List.setIfInBounds_toArray, List.set_cons_zero, List.set_cons_succ]
                      refine wpAnyH_take (i := 11) (oi := ⟨some 134, _, _, _, _, _⟩) (v := ?_) rfl (by kernel_rfl) (by kernel_rfl) (by kernel_rfl) (fun _ _ _ h => h) (Or.inl ⟨by rfl, ?_⟩) (by assumption) ?_
                      rotate_left 1
                      · (intro w hSw; (try dsimp only at hSw); go_simp; all_goals with_reducible rfl)
                      try simp only [Act.put, List.setIfInBounds_toArray, List.set_cons_zero, List.set_cons_succ]
                      refine wpAnyH_take (i := 12) (oi := ⟨some 135, _, _, _, _, _⟩) (v := ?_) rfl (by kernel_rfl) (by kernel_rfl) (by kernel_rfl) (fun _ _ _ h => h) (Or.inl ⟨by rfl, ?_⟩) (by assumption) ?_
                      rotate_left 1
                      · (intro w hSw; (try dsimp only at hSw); go_simp; all_goals with_reducible rfl)
                      try simp only [Act.put, List.setIfInBounds_toArray, List.set_cons_zero, List.set_cons_succ]
                      refine wpAnyH_take (i := 13) (oi := ⟨some 136, _, _, _, _, _⟩) (v := ?_) rfl (by kernel_rfl) (by kernel_rfl) (by kernel_rfl) (fun _ _ _ h => h) (Or.inl ⟨by rfl, ?_⟩) (by assumption) ?_
                      rotate_left 1
                      · (intro w hSw; (try dsimp only at hSw); go_simp; all_goals with_reducible rfl)
                      try simp only [Act.put, List.setIfInBounds_toArray, List.set_cons_zero, List.set_cons_succ]
                      refine wpAnyH_take (i := 14) (oi := ⟨some 137, _, _, _, _, _⟩) (v := ?_) rfl (by kernel_rfl) (by kernel_rfl) (by kernel_rfl) (fun _ _ _ h => h) (Or.inl ⟨by rfl, ?_⟩) (by assumption) ?_
                      rotate_left 1
                      · (intro w hSw; (try dsimp only at hSw); go_simp; all_goals with_reducible rfl)
                      try simp only [Act.put, List.setIfInBounds_toArray, List.set_cons_zero, List.set_cons_succ]
                      refine wpAnyH_take (i := 15) (oi := ⟨some 138, _, _, _, _, _⟩) (v := ?_) rfl (by kernel_rfl) (by kernel_rfl) (by kernel_rfl) (fun _ _ _ h => h) (Or.inl ⟨by rfl, ?_⟩) (by assumption) ?_
                      rotate_left 1
                      · (intro w hSw; (try dsimp only at hSw); go_simp; all_goals with_reducible rfl)
                      try simp only [Act.put, List.setIfInBounds_toArray, List.set_cons_zero, List.set_cons_succ]
                      refine wpAnyH_take (i := 16) (oi := ⟨some 139, _, _, _, _, _⟩) (v := ?_) rfl (by kernel_rfl) (by kernel_rfl) (by kernel_rfl) (fun _ _ _ h => h) (Or.inl ⟨by rfl, ?_⟩) (by assumption) ?_
                      rotate_left 1
                      · (intro w hSw; (try dsimp only at hSw); go_simp; all_goals with_reducible rfl)
                      try simp only [Act.put, List.setIfInBounds_toArray, List.set_cons_zero, List.set_cons_succ]
                      refine wpAnyH_take (i := 17) (oi := ⟨some 140, _, _, _, _, _⟩) (v := ?_) rfl (by kernel_rfl) (by kernel_rfl) (by kernel_rfl) (fun _ _ _ h => h) (Or.inl ⟨by rfl, ?_⟩) (by assumption) ?_
                      rotate_left 1
                      · (intro w hSw; (try dsimp only at hSw); go_simp; all_goals with_reducible rfl)
                      try simp only [Act.put, List.setIfInBounds_toArray, List.set_cons_zero, List.set_cons_succ]
                      refine wpAnyH_take (i := 18) (oi := ⟨some 141, _, _, _, _, _⟩) (v := ?_) rfl (by kernel_rfl) (by kernel_rfl) (by kernel_rfl) (fun _ _ _ h => h) (Or.inl ⟨by rfl, ?_⟩) (by assumption) ?_
                      rotate_left 1
                      · (intro w hSw; (try dsimp only at hSw); go_simp; all_goals with_reducible rfl)
                      try simp only [Act.put, List.setIfInBounds_toArray, List.set_cons_zero, List.set_cons_succ]
                      refine wpAnyH_take (i := 19) (oi := ⟨some 142, _, _, _, _, _⟩) (v := ?_) rfl (by kernel_rfl) (by kernel_rfl) (by kernel_rfl) (fun _ _ _ h => h) (Or.inl ⟨by rfl, ?_⟩) (by assumption) ?_
                      rotate_left 1
                      · (intro w hSw; (try dsimp only at hSw); go_simp; all_goals with_reducible rfl)
                      try simp only [Act.put, List.setIfInBounds_toArray, List.set_cons_zero, List.set_cons_succ]
                      refine wpAnyH_take (i := 20) (oi := ⟨some 143, _, _, _, _, _⟩) (v := ?_) rfl (by kernel_rfl) (by kernel_rfl) (by kernel_rfl) (fun _ _ _ h => h) (Or.inl ⟨by rfl, ?_⟩) (by assumption) ?_
                      rotate_left 1
                      · (intro w hSw; (try dsimp only at hSw); go_simp; all_goals with_reducible rfl)
                      try simp only [Act.put, List.setIfInBounds_toArray, List.set_cons_zero, List.set_cons_succ]
                      refine wpAnyH_take (i := 21) (oi := ⟨some 144, _, _, _, _, _⟩) (v := ?_) rfl (by kernel_rfl) (by kernel_rfl) (by kernel_rfl) (fun _ _ _ h => h) (Or.inl ⟨by rfl, ?_⟩) (by assumption) ?_
                      rotate_left 1
                      · (intro w hSw; (try dsimp only at hSw); go_simp; all_goals with_reducible rfl)
                      try simp only [Act.put, List.setIfInBounds_toArray, List.set_cons_zero, List.set_cons_succ]
                      refine wpAnyH_take (i := 22) (oi := ⟨some 145, _, _, _, _, _⟩) (v := ?_) rfl (by kernel_rfl) (by kernel_rfl) (by kernel_rfl) (fun _ _ _ h => h) (Or.inl ⟨by rfl, ?_⟩) (by assumption) ?_
                      rotate_left 1
                      · (intro w hSw; (try dsimp only at hSw); go_simp; all_goals with_reducible rfl)
                      try simp only [Act.put, List.setIfInBounds_toArray, List.set_cons_zero, List.set_cons_succ]
                      refine wpAnyH_take (i := 23) (oi := ⟨some 146, _, _, _, _, _⟩) (v := ?_) rfl (by kernel_rfl) (by kernel_rfl) (by kernel_rfl) (fun _ _ _ h => h) (Or.inl ⟨by rfl, ?_⟩) (by assumption) ?_
                      rotate_left 1
                      · (intro w hSw; (try dsimp only at hSw); go_simp; all_goals with_reducible rfl)
                      try simp only [Act.put, List.setIfInBounds_toArray, List.set_cons_zero, List.set_cons_succ]
                      refine wpAnyH_ready (rs := [24]) (by kernel_rfl) (by simp) ?_
                      refine AllReadyH.cons (o := ⟨some 147, _, _, _, _, _⟩) rfl (fun K hK => ?_) AllReadyH.nil
                      go_simp
                      ((with_reducible refine (HEN.out _ (by repeat (first | assumption | apply Frm.drew | exact Frm.refl _ _))).mono ?_); rintro ex ws ⟨rfl, hfs⟩; have S1 : Frm [] wq ws := Frm.trans (by repeat (first | assumption | apply Frm.drew | exact Frm.refl _ _)) hfs (by simp) (by simp); clear hfs)
                      go_wp2_with fail
                      refine hK.out _ _ (by assumption) (fun hHeld => ?_)
                      clear hK K
                      try simp only [Act.put, List.setIfInBounds_toArray, List.set_cons_zero, List.set_cons_succ]
                      refine wpAnyH_take (i := 25) (oi := ⟨some 148, _, _, _, _, _⟩) (v := ?_) rfl (by kernel_rfl) (by kernel_rfl) (by kernel_rfl) (fun _ _ _ h => h) (Or.inl ⟨by rfl, ?_⟩) (by assumption) ?_
                      rotate_left 1
                      · (intro w hSw; (try dsimp only at hSw); go_simp; all_goals with_reducible rfl)
                      try simp only [Act.put, List.setIfInBounds_toArray, List.set_cons_zero, List.set_cons_succ]
                      refine wpAnyH_take (i := 26) (oi := ⟨some 149, _, _, _, _, _⟩) (v := ?_) rfl (by kernel_rfl) (by kernel_rfl) (by kernel_rfl) (fun _ _ _ h => h) (Or.inl ⟨by rfl, ?_⟩) (by assumption) ?_
                      rotate_left 1
                      · (intro w hSw; (try dsimp only at hSw); go_simp; all_goals with_reducible rfl)
                      try simp only [Act.put, List.setIfInBounds_toArray, List.set_cons_zero, List.set_cons_succ]
                      refine wpAnyH_done (by kernel_rfl) ?_ _
                      clear G0 G1 G2 K0 Q0 Q1 Q2 C1 C2 HEN
                      have HREL : Hid (Wo4 wc su nx (.int .i64 ((e3 + 1 : Nat) : Nat)) (.int .i64 ((j + 1 : Nat) : Nat)) ws) := Lib.hid ⟨j + 1, by rw [show e3 + 1 = su + (j + 1) by have := HJM.out; omega], rfl, hjn, Lib.hid (HFQ.out.trans S1 (by simp) (by simp))⟩
                      go_wp2
                      go_roundw
                      case rel => exact HREL.out
                      case measure => simp [intOf]; omega
                    · obtain rfl : j = nx := by omega
                      have hcr : Frm [] wc wr := HFJ.out
                      have hWn : Hid (∀ z, Frm [] wr z → Wo3 w B p g hb P W A bf L len2 (.int .i64 (s : Nat)) (.int .i64 ((i + 1 : Nat) : Nat)) z) := Lib.hid fun z hz => ⟨i + 1, s, H', T', rfl, rfl, hil2, hs2, Lib.hid (by
                        have hcz := hcr.trans hz (U := []) (by simp) (by simp)
                        exact ⟨HW5.out.wr.here hcz, HW5.out.tab.here hcz, hcz.whole HW5.out.quo (by simp), HW.out.low, HW5.out.frm.trans hcz (by simp) (by simp), fun q hq => HW5.out.same q (by omega), HEND.out⟩)⟩
                      have v8 : IntKind.i64.wrap ((i : Int) + 1) = ((i + 1 : Nat) : Int) := by rw [IntWalk.i64_in _ (by omega)]; rfl
                      have hS0 := Frm.refl [] wr
                      rw [hnxs]
                      have v9 : IntKind.u64.wrap (s : Int) = (s : Int) := by simp [IntKind.wrap, IntKind.bits, IntKind.signed]; omega
                      by_cases hsl : s < k
                      · have hsL : s < L.length := by rw [← HLEN.out]; exact hsl
                        have e1' : decide ((s : Int) < (k : Int)) = true := decide_eq_true (by omega)
                        have e2' : decide (s < k) = true := decide_eq_true hsl
                        have hsi : (s : Int) < (k : Int) := by omega
                        have K0 : ∀ z, Frm [] wr z → z.cell? ⟨hb, s, none⟩ = some (.slice (some ⟨bf s, 0, none⟩) P P) := fun z hz => (((hcr.trans hz (U := []) (by simp) (by simp)).whole HC.out (by simp)).cell s).trans (HCE.out s hsL)
                        have Q0 : ∀ z, Frm [] wr z → z.cell? ⟨g, 0, none⟩ = some (.int .i64 (P : Nat)) := fun z hz => ((hcr.trans hz (U := []) (by simp) (by simp)).whole HW5.out.quo (by simp)).cell 0
                        have Q1 : ∀ z, Frm [] wr z → z.cell? ⟨g, 1, none⟩ = some (.int .i64 (W : Nat)) := fun z hz => ((hcr.trans hz (U := []) (by simp) (by simp)).whole HW5.out.quo (by simp)).cell 1
                        have Q2 : ∀ z, Frm [] wr z → z.cell? ⟨g, 2, none⟩ = some (.int .i64 (A : Nat)) := fun z hz => ((hcr.trans hz (U := []) (by simp) (by simp)).whole HW5.out.quo (by simp)).cell 2
                        have HEN := Lib.hid (fun z (hz : Frm [] wr z) => renough_any P W A s (some ⟨bf s, 0, none⟩) P P ((List.range P).map (T' s)) z r1 r2 r4 r3 (by omega) ((HW5.out.tab.here (hcr.trans hz (U := []) (by simp) (by simp))).bin hsL) (by simp))
                        rw [okN_tab (H := H') (by omega) r4 (fun q hq => HW5.out.same s hs1 q hq), HEND.out hsL] at HEN
                        unfold quV at HEN
                        clear hcr hnxs
                        go_upto_region 36 with fail
                        refine wp_region_held_drew (S := fun w' => Frm [] wr w') (by kernel_rfl) (Frm.drew (Frm.refl _ _)) (fun hHeld => ?_)
                        refine wpAnyH_take (i := 0) (oi := ⟨some 153, _, _, _, _, _⟩) (v := ?_) rfl (by kernel_rfl) (by kernel_rfl) (by kernel_rfl) (fun _ _ _ h => h) (Or.inl ⟨by rfl, ?_⟩) (by assumption) ?_
                        rotate_left 1
                        · (intro w hSw; (try dsimp only at hSw); go_simp; all_goals with_reducible rfl)
                        try simp only [Act.put, List.setIfInBounds_toArray, List.set_cons_zero, List.set_cons_succ]
                        refine wpAnyH_take (i := 1) (oi := ⟨some 154, _, _, _, _, _⟩) (v := ?_) rfl (by kernel_rfl) (by kernel_rfl) (by kernel_rfl) (fun _ _ _ h => h) (Or.inl ⟨by rfl, ?_⟩) (by assumption) ?_
                        rotate_left 1
                        · (intro w hSw; (try dsimp only at hSw); go_simp; all_goals with_reducible rfl)
                        try simp only [Act.put, List.setIfInBounds_toArray, List.set_cons_zero, List.set_cons_succ]
                        refine wpAnyH_take (i := 2) (oi := ⟨some 155, _, _, _, _, _⟩) (v := ?_) rfl (by kernel_rfl) (by kernel_rfl) (by kernel_rfl) (fun _ _ _ h => h) (Or.inl ⟨by rfl, ?_⟩) (by assumption) ?_
                        rotate_left 1
                        · (intro w hSw; (try dsimp only at hSw); go_simp; all_goals with_reducible rfl)
                        try simp only [Act.put, List.setIfInBounds_toArray, List.set_cons_zero, List.set_cons_succ]
                        refine wpAnyH_take (i := 3) (oi := ⟨some 156, _, _, _, _, _⟩) (v := ?_) rfl (by kernel_rfl) (by kernel_rfl) (by kernel_rfl) (fun _ _ _ h => h) (Or.inl ⟨by rfl, ?_⟩) (by assumption) ?_
                        rotate_left 1
                        · (intro w hSw; (try dsimp only at hSw); go_simp; all_goals with_reducible rfl)
                        try simp only [Act.put, List.setIfInBounds_toArray, List.set_cons_zero, List.set_cons_succ]
                        refine wpAnyH_take (i := 4) (oi := ⟨some 157, _, _, _, _, _⟩) (v := ?_) rfl (by kernel_rfl) (by kernel_rfl) (by kernel_rfl) (fun _ _ _ h => h) (Or.inl ⟨by rfl, ?_⟩) (by assumption) ?_
                        rotate_left 1
                        · (intro w hSw; (try dsimp only at hSw); go_simp; all_goals with_reducible rfl)
                        try simp only [Act.put, List.setIfInBounds_toArray, List.set_cons_zero, List.set_cons_succ]
                        refine wpAnyH_take (i := 5) (oi := ⟨some 158, _, _, _, _, _⟩) (v := ?_) rfl (by kernel_rfl) (by kernel_rfl) (by kernel_rfl) (fun _ _ _ h => h) (Or.inl ⟨by rfl, ?_⟩) (by assumption) ?_
                        rotate_left 1
                        · (intro w hSw; (try dsimp only at hSw); go_simp; all_goals with_reducible rfl)
                        try simp only [Act.put, List.setIfInBounds_toArray, List.set_cons_zero, List.set_cons_succ]
                        refine wpAnyH_take (i := 6) (oi := ⟨some 159, _, _, _, _, _⟩) (v := ?_) rfl (by kernel_rfl) (by kernel_rfl) (by kernel_rfl) (fun _ _ _ h => h) (Or.inl ⟨by rfl, ?_⟩) (by assumption) ?_
                        rotate_left 1
                        · (intro w hSw; (try dsimp only at hSw); go_simp; all_goals with_reducible rfl)
                        try simp only [Act.put, List.setIfInBounds_toArray, List.set_cons_zero, List.set_cons_succ]
                        refine wpAnyH_take (i := 7) (oi := ⟨some 160, _, _, _, _, _⟩) (v := ?_) rfl (by kernel_rfl) (by kernel_rfl) (by kernel_rfl) (fun _ _ _ h => h) (Or.inl ⟨by rfl, ?_⟩) (by assumption) ?_
                        rotate_left 1
                        · (intro w hSw; (try dsimp only at hSw); go_simp; all_goals with_reducible rfl)
                        try simp only [Act.put, List.setIfInBounds_toArray, List.set_cons_zero, List.set_cons_succ]
                        refine wpAnyH_take (i := 8) (oi := ⟨some 161, _, _, _, _, _⟩) (v := ?_) rfl (by kernel_rfl) (by kernel_rfl) (by kernel_rfl) (fun _ _ _ h => h) (Or.inl ⟨by rfl, ?_⟩) (by assumption) ?_
                        rotate_left 1
                        · (intro w hSw; (try dsimp only at hSw); go_simp; all_goals with_reducible rfl)
                        try simp only [Act.put, List.setIfInBounds_toArray, List.set_cons_zero, List.set_cons_succ]
                        refine wpAnyH_take (i := 9) (oi := ⟨some 162, _, _, _, _, _⟩) (v := ?_) rfl (by kernel_rfl) (by kernel_rfl) (by kernel_rfl) (fun _ _ _ h => h) (Or.inl ⟨by rfl, ?_⟩) (by assumption) ?_
                        rotate_left 1
                        · (intro w hSw; (try dsimp only at hSw); go_simp; all_goals with_reducible rfl)
                        try simp only [Act.put, List.setIfInBounds_toArray, List.set_cons_zero, List.set_cons_succ]
                        refine wpAnyH_take (i := 10) (oi := ⟨some 163, _, _, _, _, _⟩) (v := ?_) rfl (by kernel_rfl) (by kernel_rfl) (by kernel_rfl) (fun _ _ _ h => h) (Or.inl ⟨by rfl, ?_⟩) (by assumption) ?_
                        rotate_left 1
                        · (intro w hSw; (try dsimp only at hSw); go_simp; all_goals with_reducible rfl)
                        try simp only [Act.put, List.setIfInBounds_toArray, List.set_cons_zero, List.set_cons_succ]
                        refine wpAnyH_take (i := 11) (oi := ⟨some 164, _, _, _, _, _⟩) (v := ?_) rfl (by kernel_rfl) (by kernel_rfl) (by kernel_rfl) (fun _ _ _ h => h) (Or.inl ⟨by rfl, ?_⟩) (by assumption) ?_
                        rotate_left 1
                        · (intro w hSw; (try dsimp only at hSw); go_simp; all_goals with_reducible rfl)
                        try simp only [Act.put, List.setIfInBounds_toArray, List.set_cons_zero, List.set_cons_succ]
                        refine wpAnyH_ready (rs := [12]) (by kernel_rfl) (by simp) ?_
                        refine AllReadyH.cons (o := ⟨some 165, _, _, _, _, _⟩) rfl (fun K hK => ?_) AllReadyH.nil
                        go_simp
                        ((with_reducible refine (HEN.out _ (by repeat (first | assumption | apply Frm.drew | exact Frm.refl _ _))).mono ?_); rintro ex ws ⟨rfl, hfs⟩; have S1 : Frm [] wr ws := Frm.trans (by repeat (first | assumption | apply Frm.drew | exact Frm.refl _ _)) hfs (by simp) (by simp); clear hfs)
                        go_wp2_with fail
                        refine hK.out _ _ (by assumption) (fun hHeld => ?_)
                        clear hK K
                        try simp only [Act.put, List.setIfInBounds_toArray, List.set_cons_zero, List.set_cons_succ]
                        refine wpAnyH_take (i := 13) (oi := ⟨some 166, _, _, _, _, _⟩) (v := ?_) rfl (by kernel_rfl) (by kernel_rfl) (by kernel_rfl) (fun _ _ _ h => h) (Or.inl ⟨by rfl, ?_⟩) (by assumption) ?_
                        rotate_left 1
                        · (intro w hSw; (try dsimp only at hSw); go_simp; all_goals with_reducible rfl)
                        try simp only [Act.put, List.setIfInBounds_toArray, List.set_cons_zero, List.set_cons_succ]
                        refine wpAnyH_done (by kernel_rfl) ?_ _
                        clear K0 Q0 Q1 Q2 HEN
                        have HREL : Hid (Wo3 w B p g hb P W A bf L len2 (.int .i64 (s : Nat)) (.int .i64 ((i + 1 : Nat) : Nat)) ws) := Lib.hid (hWn.out _ S1)
                        clear hWn
                        go_wp2
                        go_roundw
                        case rel => exact HREL.out
                        case measure => simp [intOf]; omega
                      · have e1' : decide ((s : Int) < (k : Int)) = false := decide_eq_false (by omega)
                        have e2' : decide (s < k) = false := decide_eq_false hsl
                        clear hcr hnxs
                        go_upto_region 36 with fail
                        refine wp_region_held_drew (S := fun w' => Frm [] wr w') (by kernel_rfl) (Frm.drew (Frm.refl _ _)) (fun hHeld => ?_)
                        refine wpAnyH_take (i := 0) (oi := ⟨some 153, _, _, _, _, _⟩) (v := ?_) rfl (by kernel_rfl) (by kernel_rfl) (by kernel_rfl) (fun _ _ _ h => h) (Or.inl ⟨by rfl, ?_⟩) (by assumption) ?_
                        rotate_left 1
                        · (intro w hSw; (try dsimp only at hSw); go_simp; all_goals with_reducible rfl)
                        try simp only [Act.put, List.setIfInBounds_toArray, List.set_cons_zero, List.set_cons_succ]
                        refine wpAnyH_take (i := 1) (oi := ⟨some 154, _, _, _, _, _⟩) (v := ?_) rfl (by kernel_rfl) (by kernel_rfl) (by kernel_rfl) (fun _ _ _ h => h) (Or.inl ⟨by rfl, ?_⟩) (by assumption) ?_
                        rotate_left 1
                        · (intro w hSw; (try dsimp only at hSw); go_simp; all_goals with_reducible rfl)
                        try simp only [Act.put, List.setIfInBounds_toArray, List.set_cons_zero, List.set_cons_succ]
                        refine wpAnyH_take (i := 2) (oi := ⟨some 155, _, _, _, _, _⟩) (v := ?_) rfl (by kernel_rfl) (by kernel_rfl) (by kernel_rfl) (fun _ _ _ h => h) (Or.inl ⟨by rfl, ?_⟩) (by assumption) ?_
                        rotate_left 1
                        · (intro w hSw; (try dsimp only at hSw); go_simp; all_goals with_reducible rfl)
                        try simp only [Act.put, List.setIfInBounds_toArray, List.set_cons_zero, List.set_cons_succ]
                        refine wpAnyH_take (i := 3) (oi := ⟨some 156, _, _, _, _, _⟩) (v := ?_) rfl (by kernel_rfl) (by kernel_rfl) (by kernel_rfl) (fun _ _ _ h => h) (Or.inl ⟨by rfl, ?_⟩) (by assumption) ?_
                        rotate_left 1
                        · (intro w hSw; (try dsimp only at hSw); go_simp; all_goals with_reducible rfl)
                        try simp only [Act.put, List.setIfInBounds_toArray, List.set_cons_zero, List.set_cons_succ]
                        refine wpAnyH_take (i := 4) (oi := ⟨some 157, _, _, _, _, _⟩) (v := ?_) rfl (by kernel_rfl) (by kernel_rfl) (by kernel_rfl) (fun _ _ _ h => h) (Or.inl ⟨by rfl, ?_⟩) (by assumption) ?_
                        rotate_left 1
                        · (intro w hSw; (try dsimp only at hSw); go_simp; all_goals with_reducible rfl)
                        try simp only [Act.put, List.setIfInBounds_toArray, List.set_cons_zero, List.set_cons_succ]
                        refine wpAnyH_take (i := 5) (oi := ⟨some 158, _, _, _, _, _⟩) (v := undef) rfl (by kernel_rfl) (by kernel_rfl) (by kernel_rfl) (fun _ _ _ h => h) (Or.inr ⟨by rfl, rfl⟩) (by assumption) ?_
                        try simp only [Act.put, List.setIfInBounds_toArray, List.set_cons_zero, List.set_cons_succ]
                        refine wpAnyH_take (i := 6) (oi := ⟨some 159, _, _, _, _, _⟩) (v := undef) rfl (by kernel_rfl) (by kernel_rfl) (by kernel_rfl) (fun _ _ _ h => h) (Or.inr ⟨by rfl, rfl⟩) (by assumption) ?_
                        try simp only [Act.put, List.setIfInBounds_toArray, List.set_cons_zero, List.set_cons_succ]
                        refine wpAnyH_take (i := 7) (oi := ⟨some 160, _, _, _, _, _⟩) (v := undef) rfl (by kernel_rfl) (by kernel_rfl) (by kernel_rfl) (fun _ _ _ h => h) (Or.inr ⟨by rfl, rfl⟩) (by assumption) ?_
                        try simp only [Act.put, List.setIfInBounds_toArray, List.set_cons_zero, List.set_cons_succ]
                        refine wpAnyH_take (i := 8) (oi := ⟨some 161, _, _, _, _, _⟩) (v := undef) rfl (by kernel_rfl) (by kernel_rfl) (by kernel_rfl) (fun _ _ _ h => h) (Or.inr ⟨by rfl, rfl⟩) (by assumption) ?_
                        try simp only [Act.put, List.setIfInBounds_toArray, List.set_cons_zero, List.set_cons_succ]
                        refine wpAnyH_take (i := 9) (oi := ⟨some 162, _, _, _, _, _⟩) (v := undef) rfl (by kernel_rfl) (by kernel_rfl) (by kernel_rfl) (fun _ _ _ h => h) (Or.inr ⟨by rfl, rfl⟩) (by assumption) ?_
                        try simp only [Act.put, List.setIfInBounds_toArray, List.set_cons_zero, List.set_cons_succ]
                        refine wpAnyH_take (i := 10) (oi := ⟨some 163, _, _, _, _, _⟩) (v := undef) rfl (by kernel_rfl) (by kernel_rfl) (by kernel_rfl) (fun _ _ _ h => h) (Or.inr ⟨by rfl, rfl⟩) (by assumption) ?_
                        try simp only [Act.put, List.setIfInBounds_toArray, List.set_cons_zero, List.set_cons_succ]
                        refine wpAnyH_take (i := 11) (oi := ⟨some 164, _, _, _, _, _⟩) (v := undef) rfl (by kernel_rfl) (by kernel_rfl) (by kernel_rfl) (fun _ _ _ h => h) (Or.inr ⟨by rfl, rfl⟩) (by assumption) ?_
                        try simp only [Act.put, List.setIfInBounds_toArray, List.set_cons_zero, List.set_cons_succ]
                        refine wpAnyH_take (i := 12) (oi := ⟨some 165, _, _, _, _, _⟩) (v := undef) rfl (by kernel_rfl) (by kernel_rfl) (by kernel_rfl) (fun _ _ _ h => h) (Or.inr ⟨by rfl, rfl⟩) (by assumption) ?_
                        try simp only [Act.put, List.setIfInBounds_toArray, List.set_cons_zero, List.set_cons_succ]
                        refine wpAnyH_take (i := 13) (oi := ⟨some 166, _, _, _, _, _⟩) (v := ?_) rfl (by kernel_rfl) (by kernel_rfl) (by kernel_rfl) (fun _ _ _ h => h) (Or.inl ⟨by rfl, ?_⟩) (by assumption) ?_
                        rotate_left 1
                        · (intro w hSw; (try dsimp only at hSw); go_simp; all_goals with_reducible rfl)
                        try simp only [Act.put, List.setIfInBounds_toArray, List.set_cons_zero, List.set_cons_succ]
                        refine wpAnyH_done (by kernel_rfl) ?_ _
                        have HREL : Hid (Wo3 w B p g hb P W A bf L len2 (.int .i64 (s : Nat)) (.int .i64 ((i + 1 : Nat) : Nat)) wr.drew) := Lib.hid (hWn.out _ (Frm.refl _ _).drew)
                        clear hWn
                        go_wp2
                        go_roundw
                        case rel => exact HREL.out
                        case measure => simp [intOf]; omega
            · obtain rfl : i = len2 := by omega
              go_wp2_with fail
              (with_reducible refine (HSU.out _ (by repeat (first | apply Frm.drew | apply Frm.drewN | exact Frm.refl _ _))).mono ?_)
              rintro e w' ⟨rfl, rfl⟩
              go_wp2_with fail
              (with_reducible refine (HCO.out _ (by repeat (first | apply Frm.drew | apply Frm.drewN | exact Frm.refl _ _))).mono ?_)
              rintro e w' ⟨rfl, rfl⟩
              go_wp2
              exact FIN.out _ (HW.out.frm.trans (T := []) (by repeat (first | apply Frm.drew | apply Frm.drewN | exact Frm.refl _ _)) (by simp) (by simp))
end Go.Proofs.Ytecfoomjpjcldaa
