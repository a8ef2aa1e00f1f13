/- LeasePlays: the walk. -/
import Derived.Test.YtefplgligmkbiaaLsTw
import Derived.Test.YtefplgligmkbiaaInLe
import Derived.Test.YtefplgligmkbiaaInSe
import Derived.Deep.RegionHeld3
import Derived.Lib.QuietBelow
namespace Go.Proofs.Ytefplgligmkbiaa
open Go.RowKit

def seS (t : Se) : Sn := ⟨t.id, t.ends, t.life⟩
theorem sl_of {w : World} {a : Option Addr} {ts : List Se} (h : Ses w a ts) : SL w [] a (ts.map seS) := by
  have hfit : ∀ x ∈ ts.map seS, x.fits := by
    intro x hx
    obtain ⟨t, ht, rfl⟩ := List.mem_map.1 hx
    obtain ⟨i, hi, rfl⟩ := List.getElem_of_mem ht
    obtain ⟨b, off, _, hin⟩ := h (by omega)
    have hok := (hin i hi).ok
    rw [show ts.getD i default = ts[i] by simp [hi]] at hok
    exact ⟨hok.id_lt, hok.ends_lt, hok.life_lt⟩
  refine ⟨?_, hfit, fun _ _ _ => by simp⟩
  by_cases h0 : 0 < ts.length
  · obtain ⟨b, off, rfl, hin⟩ := h h0
    refine .inr ⟨b, off, rfl, fun i u hu => ?_⟩
    have hil : i < ts.length * 3 := by
      have := (List.getElem?_eq_some_iff.1 hu).1
      rw [snc_length, List.length_map] at this; exact this
    have hk : i / 3 < ts.length := by omega
    obtain ⟨h1, h2, h3⟩ := snc_at (ts.map seS) (i / 3) (by simpa using hk)
    have e : (ts.map seS).getD (i / 3) default = seS (ts.getD (i / 3) default) := by simp [hk]
    rw [e] at h1 h2 h3
    have hx := hin (i / 3) hk
    rcases (show i = i / 3 * 3 ∨ i = i / 3 * 3 + 1 ∨ i = i / 3 * 3 + 2 by omega) with hi | hi | hi
    · rw [hi] at hu ⊢
      rw [h1] at hu
      rw [← hu]; exact hx.c0
    · rw [hi] at hu ⊢
      rw [h2] at hu
      rw [← hu, ← Nat.add_assoc]; exact hx.c1
    · rw [hi] at hu ⊢
      rw [h3] at hu
      rw [← hu, ← Nat.add_assoc]; exact hx.c2
  · obtain rfl : ts = [] := List.eq_nil_of_length_eq_zero (by omega)
    exact .inl rfl

theorem vals_off {n b : Nat} {a : Option Addr} (h : ∀ q, a = some q → n ≤ q.block) (hb : b < n) : ∀ q, a = some q → q.block ∉ [b] := fun q hq hm => by
  have h1 := h q hq
  rw [List.mem_singleton] at hm
  omega
def PyRel (w : World) (p r n : Nat) (s50 : Value) (wr : World) : Prop :=
  ∃ (k last : Nat) (X : List Sn), k ≤ n ∧ s50 = .int .i64 (k : Nat) ∧ Hid (Tw w wr wr p r last X last X)

set_option maxRecDepth 100000 in
set_option maxHeartbeats 16000000 in
theorem leasePlays_walk (last : Nat) (a1 : Option Addr) (m cap1 : Nat) (ss : List Se) (a0 : Option Addr) (n cap0 : Nat) (ts : List Le) (w : World) (hl : last < 18446744073709551616) (h1 : Ses w a1 ss ∧ (a1 = none → cap1 = 0)) (hm : m = ss.length) (hm63 : m ≤ 9223372036854775807) (h : Les w a0 ts) (hn : n = ts.length) (h63 : n ≤ 9223372036854775807) :
    Calls Try.prog 3 #[.int .u64 (last : Nat), .slice a1 m cap1, .slice a0 n cap0] w fun e w' => e = .returned (.bool true) ∧ Below w.heap.size w w' := by
  have HAW := Lib.hid (awake7_any w)
  have H := Lib.hid h; clear h
  have HN := Lib.hid hn; clear hn
  have HSL := Lib.hid (sl_of h1.1)
  have HNIL := Lib.hid h1.2
  obtain ⟨L, hL⟩ : ∃ L, L = ss.map seS := ⟨_, rfl⟩
  have HM : Hid (m = L.length) := Lib.hid (by rw [hL, hm]; simp)
  rw [← hL] at HSL
  have HL := Lib.hid hl
  clear h1 hm hL hl
  by_cases h40 : 40 < m
  · have hd : ¬ (m : Int) ≤ 40 := by omega
    go_enter Try.func3, Try.ntmps3
    go_wp2_with fail
    (with_reducible refine HAW.out.mono ?_)
    rintro e w1 ⟨rfl, hf1⟩
    have HF1 := Lib.hid hf1; clear hf1 HAW
    go_wp2
    go_ret
    exact ⟨rfl, HF1.out.below (by simp) (Nat.le_refl _)⟩
  have hd : (m : Int) ≤ 40 := by omega
  go_enter Try.func3, Try.ntmps3
  go_wp2_with fail
  (with_reducible refine HAW.out.mono ?_)
  rintro e w1 ⟨rfl, hf1⟩
  have HF1 := Lib.hid hf1; clear hf1 HAW
  go_wp2_with fail
  (with_reducible refine (new_any (HSL.out.keep (F' := []) HF1.out (by simp) (by simp)) HM.out (by omega) HL.out).mono ?_)
  rintro e w2 (⟨hr, p, Y, rfl, hb, hf⟩ | ⟨hr, rfl, hf⟩)
  rotate_left 1
  · have HF2 := Lib.hid (HF1.out.trans hf (U := []) (by simp) (by simp))
    have HNR := Lib.hid hr
    clear hf HF1 hr
    go_wp2_with fail
    (with_reducible refine (bookOf_any (F := []) (HSL.out.keep (F' := []) HF2.out (by simp) (by simp)) HNIL.out HM.out (by omega) HL.out (by simp)).mono ?_)
    rintro e w3 (⟨hr, _⟩ | ⟨_, rfl, hf⟩)
    · exact absurd hr HNR.out
    have HF3 := Lib.hid (HF2.out.trans hf (U := []) (by simp) (by simp))
    clear hf HF2
    go_wp2
    go_ret
    exact ⟨rfl, HF3.out.below (by simp) (Nat.le_refl _)⟩
  have HF2 := Lib.hid (HF1.out.trans hf (U := []) (by simp) (by simp))
  have HR := Lib.hid hr
  have HPW : Hid (w.heap.size ≤ p) := Lib.hid (Nat.le_trans HF1.out.size hb.hp)
  have HB2 : Hid (Bk w2 w.heap.size p 63 last L Y) := Lib.hid { hb with hp := HPW.out }
  clear hf hr hb HF1
  go_wp2_with fail
  (with_reducible refine (bookOf_any (F := [p]) (HSL.out.keep (F' := []) HF2.out (by simp) (by simp)) HNIL.out HM.out (by omega) HL.out (fun y hy => by simp at hy; subst hy; exact HB2.out.book.lt)).mono ?_)
  rintro e w3 (⟨_, r, ra, rc, rfl, hrb, hf⟩ | ⟨hr, _⟩)
  rotate_left 1
  · exact absurd HR.out hr
  have hrb2 : Rb w3 w.heap.size r [p] ra rc last L := { hrb with hp := Nat.le_trans HF2.out.size hrb.hp, row := ⟨⟨hrb.row.own.1, by
    rcases hrb.row.own.2 with h | ⟨g, cp, cur, hv, hbb, rr⟩
    · exact .inl h
    · exact .inr ⟨g, cp, cur, hv, Nat.le_trans HF2.out.size hbb, rr⟩⟩, hrb.row.fits, hrb.row.away⟩ }
  have hT : Tw w w3 w3 p r last L last L := ⟨⟨⟨Y, HB2.out.keep hf (by simp)⟩, HF2.out.trans hf (U := []) (by simp) (by simp)⟩, ⟨ra, rc, hrb2⟩, Frm.refl _ _⟩
  have HR0 : Hid (PyRel w p r n (.int .i64 0) w3) := Lib.hid ⟨0, last, L, Nat.zero_le _, rfl, Lib.hid hT⟩
  clear hrb hrb2 hf hT HB2 HF2 HSL HNIL HPW HR
  go_wp2
  go_loopw [50] (fun s50 wr => PyRel w p r n s50 wr) (fun s50 _ => n - (intOf s50).toNat)
  case atStart => exact HR0.out
  case round =>
    clear HR0 HL HM
    obtain ⟨k, lst, X, hk, rfl, T⟩ := hrel
    have HFE := Lib.hid T.out.frm
    by_cases hlt : k < n
    · obtain ⟨bb, off, rfl, hin⟩ := H.out (by have := HN.out; omega)
      have hin0 := (hin k (by have := HN.out; omega)).keep HFE.out
      generalize ts.getD k default = t at hin0
      obtain ⟨tk, tid, tnow, tlife⟩ := t
      obtain ⟨d0, d1, d2, d3, ok⟩ := hin0
      simp only at d0 d1 d2 d3
      have htk : tk < 256 := ok.k_lt
      have HTN := Lib.hid (show tnow < 18446744073709551616 from ok.now_lt)
      have HTL := Lib.hid (show tlife < 18446744073709551616 from ok.life_lt)
      obtain ⟨g, hg⟩ : ∃ g, g = wr.heap.size := ⟨_, rfl⟩
      obtain ⟨wx, hwx⟩ : ∃ wx, wx = wr.alloc (.cells #[.int .u8 (tk : Nat), .int .u64 (tid : Nat), .int .u64 (tnow : Nat), .int .u64 (tlife : Nat)] 33) := ⟨_, rfl⟩
      have hW2 := Whole.made wr 33 #[.int .u8 (tk : Nat), .int .u64 (tid : Nat), .int .u64 (tnow : Nat), .int .u64 (tlife : Nat)]
      rw [← hwx, ← hg] at hW2
      have hf2 : Frm [] wr wx := by rw [hwx]; exact (Frm.refl _ _).alloc _
      have hgpr : g ∉ [p, r] := by have := T.out.lts; simp; omega
      have TX := Lib.hid ((T.out.keep hf2).here)
      have HWX := Lib.hid hwx
      have HGG := Lib.hid hg
      have CG := Lib.hid (fun (z : World) (hz : Frm [p, r] wx z) => (show z.cell? ⟨g, 0, none⟩ = some (.int .u8 (tk : Nat)) ∧ z.cell? ⟨g, 1, none⟩ = some (.int .u64 (tid : Nat)) ∧ z.cell? ⟨g, 2, none⟩ = some (.int .u64 (tnow : Nat)) ∧ z.cell? ⟨g, 3, none⟩ = some (.int .u64 (tlife : Nat)) from by
        have h1 := hz.whole hW2 hgpr
        exact ⟨h1.cell 0, h1.cell 1, h1.cell 2, h1.cell 3⟩))
      have HFX := Lib.hid TX.out.frm
      clear hin hwx hg hW2 hf2 ok hgpr T
      by_cases h100 : 100 < k
      · have HFE2 := HFX
        rw [HWX.out] at HFE2
        go_wp2
        go_ret
        exact ⟨rfl, HFE2.out.below (by simp) (Nat.le_refl _)⟩
      obtain ⟨m5, hm5⟩ : ∃ m5, m5 = tk % 5 := ⟨_, rfl⟩
      have hk5 : (tk : Int) % 5 = (m5 : Int) := by rw [hm5]; rfl
      have hc5 : m5 = 0 ∨ m5 = 1 ∨ m5 = 2 ∨ m5 = 3 ∨ m5 = 4 := by omega
      obtain ⟨q0, q1, q2, q3⟩ := CG.out wx (Frm.refl _ _)
      clear hm5 HFE
      rcases hc5 with rfl | rfl | rfl | rfl | rfl
      · have OP := Lib.hid (tw_openP tnow tlife TX.out HTN.out)
        have OR := Lib.hid (fun (y : World) (hy : Tw w wx y p r (openT lst X.length tlife) (openS X lst tnow tlife) lst X) => tw_openR tnow tlife hy HTN.out HTL.out)
        obtain ⟨X2, hX2⟩ : ∃ X2, X2 = openS X lst tnow tlife := ⟨_, rfl⟩
        obtain ⟨l2, hl2⟩ : ∃ l2, l2 = openT lst X.length tlife := ⟨_, rfl⟩
        obtain ⟨o1, ho1⟩ : ∃ o1, o1 = openR lst X.length tlife := ⟨_, rfl⟩
        obtain ⟨o2, ho2⟩ : ∃ o2, o2 = openC lst X.length tlife := ⟨_, rfl⟩
        rw [← hX2, ← hl2, ← ho1, ← ho2] at OP OR
        have hb1 : ((o1 : Int) != (o1 : Int)) = false := by simp
        have hb2 : ((o2 : Int) != (o2 : Int)) = false := by simp
        clear hX2 hl2 ho1 ho2
        go_wp2_with fail
        rw [← HWX.out, ← HGG.out]
        (refine OP.out.mono ?_)
        rintro e z1 ⟨rfl, hz1⟩
        have TZ1 := Lib.hid hz1
        obtain ⟨r0, r1, r2, r3⟩ := CG.out _ hz1.2.2
        clear hz1 OP q0 q1 q2 q3 d0 d1 d2 d3
        go_wp2_with fail
        (refine (OR.out _ TZ1.out).mono ?_)
        rintro e z ⟨rfl, hz⟩
        have TZ := Lib.hid hz
        obtain ⟨t0, t1, t2, t3⟩ := CG.out _ hz.2.2
        clear hz OR TZ1 r0 r1 r2 r3
        go_wp2
        obtain ⟨lv, hlv⟩ : ∃ lv, lv = liveS X2 tid tnow := ⟨_, rfl⟩
        have SH := Lib.hid (fun (y : World) (hy : Tw w wx y p r l2 X2 l2 X2) => shows_any hy)
        have LP := Lib.hid (fun (y : World) (hy : Tw w wx y p r l2 X2 l2 X2) => tw_liveP tid tnow hy)
        have LR := Lib.hid (fun (y : World) (hy : Tw w wx y p r l2 X2 l2 X2) => tw_liveR tid tnow hy)
        rw [← hlv] at LP LR
        have CZ1 : ∀ y, Frm [] z y → y.cell? ⟨g, 1, none⟩ = some (.int .u64 (tid : Nat)) := fun y hy => (CG.out _ (TZ.out.keep hy).2.2).2.1
        have CZ2 : ∀ y, Frm [] z y → y.cell? ⟨g, 2, none⟩ = some (.int .u64 (tnow : Nat)) := fun y hy => (CG.out _ (TZ.out.keep hy).2.2).2.2.1
        have hbb : (lv != lv) = false := by simp
        clear hlv
        go_region_held3 (fun y => Frm [] z y) (repeat (first | assumption | apply Frm.drew | exact Frm.refl _ _)) ((first
          | (go_at_call 20; (refine (SH.out _ (TZ.out.keep (by assumption))).mono ?_); rintro e y1 ⟨rfl, hfy⟩; have S1 : Frm [] z y1 := Frm.trans (by assumption) hfy (by simp) (by simp); clear hfy)
          | (go_at_call 21; (refine (LP.out _ (TZ.out.keep (by assumption))).mono ?_); rintro e y2 ⟨rfl, hfy⟩; have S2 : Frm [] z y2 := Frm.trans (by assumption) hfy (by simp) (by simp); clear hfy)
          | (go_at_call 22; (refine (LR.out _ (TZ.out.keep (by assumption))).mono ?_); rintro e y3 ⟨rfl, rfl⟩)))
        all_goals
          have HT2 := Lib.hid ((TZ.out.keep S2).here)
          clear CZ1 CZ2
          go_wp2
          go_roundw
          case rel => exact ⟨k + 1, l2, X2, by omega, by go_num, HT2⟩
          case measure => simp [intOf]; omega
      · have OP := Lib.hid (tw_openP tnow tlife TX.out HTN.out)
        have OR := Lib.hid (fun (y : World) (hy : Tw w wx y p r (openT lst X.length tlife) (openS X lst tnow tlife) lst X) => tw_openR tnow tlife hy HTN.out HTL.out)
        obtain ⟨X2, hX2⟩ : ∃ X2, X2 = openS X lst tnow tlife := ⟨_, rfl⟩
        obtain ⟨l2, hl2⟩ : ∃ l2, l2 = openT lst X.length tlife := ⟨_, rfl⟩
        obtain ⟨o1, ho1⟩ : ∃ o1, o1 = openR lst X.length tlife := ⟨_, rfl⟩
        obtain ⟨o2, ho2⟩ : ∃ o2, o2 = openC lst X.length tlife := ⟨_, rfl⟩
        rw [← hX2, ← hl2, ← ho1, ← ho2] at OP OR
        have hb1 : ((o1 : Int) != (o1 : Int)) = false := by simp
        have hb2 : ((o2 : Int) != (o2 : Int)) = false := by simp
        clear hX2 hl2 ho1 ho2
        go_wp2_with fail
        rw [← HWX.out, ← HGG.out]
        (refine OP.out.mono ?_)
        rintro e z1 ⟨rfl, hz1⟩
        have TZ1 := Lib.hid hz1
        obtain ⟨r0, r1, r2, r3⟩ := CG.out _ hz1.2.2
        clear hz1 OP q0 q1 q2 q3 d0 d1 d2 d3
        go_wp2_with fail
        (refine (OR.out _ TZ1.out).mono ?_)
        rintro e z ⟨rfl, hz⟩
        have TZ := Lib.hid hz
        obtain ⟨t0, t1, t2, t3⟩ := CG.out _ hz.2.2
        clear hz OR TZ1 r0 r1 r2 r3
        go_wp2
        obtain ⟨lv, hlv⟩ : ∃ lv, lv = liveS X2 tid tnow := ⟨_, rfl⟩
        have SH := Lib.hid (fun (y : World) (hy : Tw w wx y p r l2 X2 l2 X2) => shows_any hy)
        have LP := Lib.hid (fun (y : World) (hy : Tw w wx y p r l2 X2 l2 X2) => tw_liveP tid tnow hy)
        have LR := Lib.hid (fun (y : World) (hy : Tw w wx y p r l2 X2 l2 X2) => tw_liveR tid tnow hy)
        rw [← hlv] at LP LR
        have CZ1 : ∀ y, Frm [] z y → y.cell? ⟨g, 1, none⟩ = some (.int .u64 (tid : Nat)) := fun y hy => (CG.out _ (TZ.out.keep hy).2.2).2.1
        have CZ2 : ∀ y, Frm [] z y → y.cell? ⟨g, 2, none⟩ = some (.int .u64 (tnow : Nat)) := fun y hy => (CG.out _ (TZ.out.keep hy).2.2).2.2.1
        have hbb : (lv != lv) = false := by simp
        clear hlv
        go_region_held3 (fun y => Frm [] z y) (repeat (first | assumption | apply Frm.drew | exact Frm.refl _ _)) ((first
          | (go_at_call 20; (refine (SH.out _ (TZ.out.keep (by assumption))).mono ?_); rintro e y1 ⟨rfl, hfy⟩; have S1 : Frm [] z y1 := Frm.trans (by assumption) hfy (by simp) (by simp); clear hfy)
          | (go_at_call 21; (refine (LP.out _ (TZ.out.keep (by assumption))).mono ?_); rintro e y2 ⟨rfl, hfy⟩; have S2 : Frm [] z y2 := Frm.trans (by assumption) hfy (by simp) (by simp); clear hfy)
          | (go_at_call 22; (refine (LR.out _ (TZ.out.keep (by assumption))).mono ?_); rintro e y3 ⟨rfl, rfl⟩)))
        all_goals
          have HT2 := Lib.hid ((TZ.out.keep S2).here)
          clear CZ1 CZ2
          go_wp2
          go_roundw
          case rel => exact ⟨k + 1, l2, X2, by omega, by go_num, HT2⟩
          case measure => simp [intOf]; omega
      · have PA := Lib.hid (fun (y : World) (hy : Tw w wx y p r lst X lst X) => tw_renewP tid tnow hy HTN.out)
        have RA := Lib.hid (fun (y : World) (hy : Tw w wx y p r lst (renewL X tid tnow) lst X) => tw_renewR tid tnow hy HTN.out)
        have RB := Lib.hid (fun (y : World) (hy : Tw w wx y p r lst X lst X) => tw_renewR tid tnow hy HTN.out)
        have PB := Lib.hid (fun (y : World) (hy : Tw w wx y p r lst X lst (renewL X tid tnow)) => tw_renewP tid tnow hy HTN.out)
        obtain ⟨X2, hX2⟩ : ∃ X2, X2 = renewL X tid tnow := ⟨_, rfl⟩
        obtain ⟨l2, hl2⟩ : ∃ l2, l2 = lst := ⟨_, rfl⟩
        obtain ⟨o1, ho1⟩ : ∃ o1, o1 = renewC X tid tnow := ⟨_, rfl⟩
        rw [← hX2, ← ho1] at PA RA RB PB
        rw [← hl2] at PA RA RB PB TX
        have hb1 : ((o1 : Int) != (o1 : Int)) = false := by simp
        clear hX2 ho1 hl2
        have CX1 : ∀ y, Frm [p, r] wx y → y.cell? ⟨g, 1, none⟩ = some (.int .u64 (tid : Nat)) := fun y hy => (CG.out _ hy).2.1
        have CX2 : ∀ y, Frm [p, r] wx y → y.cell? ⟨g, 2, none⟩ = some (.int .u64 (tnow : Nat)) := fun y hy => (CG.out _ hy).2.2.1
        go_wp2_with fail
        try rw [← HWX.out, ← HGG.out]
        have TD0 := TX.out.keep ((Frm.refl [] wx).drew)
        clear d0 d1 d2 d3 q0 q1 q2 q3
        go_region_held3 (fun y => Frm [p, r] wx y) (repeat (first | assumption | apply Frm.drew | exact Frm.refl _ _)) ((first
          | (go_at_call 13; (refine (PA.out _ TD0).mono ?_); rintro e z1 ⟨rfl, TA⟩; have S1 := TA.2.2)
          | (go_at_call 14; (refine (RA.out _ TA).mono ?_); rintro e z ⟨rfl, hz⟩; have TZ := Lib.hid hz; have S2 := hz.2.2; clear hz)
          | (go_at_call 14; (refine (RB.out _ TD0).mono ?_); rintro e z1 ⟨rfl, TB⟩; have S1 := TB.2.2)
          | (go_at_call 13; (refine (PB.out _ TB).mono ?_); rintro e z ⟨rfl, hz⟩; have TZ := Lib.hid hz; have S2 := hz.2.2; clear hz)))
        all_goals
          clear CX1 CX2
          go_wp2
          obtain ⟨lv, hlv⟩ : ∃ lv, lv = liveS X2 tid tnow := ⟨_, rfl⟩
          have SH := Lib.hid (fun (y : World) (hy : Tw w wx y p r l2 X2 l2 X2) => shows_any hy)
          have LP := Lib.hid (fun (y : World) (hy : Tw w wx y p r l2 X2 l2 X2) => tw_liveP tid tnow hy)
          have LR := Lib.hid (fun (y : World) (hy : Tw w wx y p r l2 X2 l2 X2) => tw_liveR tid tnow hy)
          rw [← hlv] at LP LR
          have CZ1 : ∀ y, Frm [] z y → y.cell? ⟨g, 1, none⟩ = some (.int .u64 (tid : Nat)) := fun y hy => (CG.out _ (TZ.out.keep hy).2.2).2.1
          have CZ2 : ∀ y, Frm [] z y → y.cell? ⟨g, 2, none⟩ = some (.int .u64 (tnow : Nat)) := fun y hy => (CG.out _ (TZ.out.keep hy).2.2).2.2.1
          have hbb : (lv != lv) = false := by simp
          clear hlv
          go_region_held3 (fun y => Frm [] z y) (repeat (first | assumption | apply Frm.drew | exact Frm.refl _ _)) ((first
            | (go_at_call 20; (refine (SH.out _ (TZ.out.keep (by assumption))).mono ?_); rintro e y1 ⟨rfl, hfy⟩; have S1 : Frm [] z y1 := Frm.trans (by assumption) hfy (by simp) (by simp); clear hfy)
            | (go_at_call 21; (refine (LP.out _ (TZ.out.keep (by assumption))).mono ?_); rintro e y2 ⟨rfl, hfy⟩; have S2 : Frm [] z y2 := Frm.trans (by assumption) hfy (by simp) (by simp); clear hfy)
            | (go_at_call 22; (refine (LR.out _ (TZ.out.keep (by assumption))).mono ?_); rintro e y3 ⟨rfl, rfl⟩)))
          all_goals
            have HT2 := Lib.hid ((TZ.out.keep S2).here)
            clear CZ1 CZ2
            go_wp2
            go_roundw
            case rel => exact ⟨k + 1, l2, X2, by omega, by go_num, HT2⟩
            case measure => simp [intOf]; omega
      · have PA := Lib.hid (fun (y : World) (hy : Tw w wx y p r lst X lst X) => tw_closeP tid hy)
        have RA := Lib.hid (fun (y : World) (hy : Tw w wx y p r lst (closeL X tid) lst X) => tw_closeR tid hy)
        have RB := Lib.hid (fun (y : World) (hy : Tw w wx y p r lst X lst X) => tw_closeR tid hy)
        have PB := Lib.hid (fun (y : World) (hy : Tw w wx y p r lst X lst (closeL X tid)) => tw_closeP tid hy)
        obtain ⟨X2, hX2⟩ : ∃ X2, X2 = closeL X tid := ⟨_, rfl⟩
        obtain ⟨l2, hl2⟩ : ∃ l2, l2 = lst := ⟨_, rfl⟩
        obtain ⟨o1, ho1⟩ : ∃ o1, o1 = closeC X tid := ⟨_, rfl⟩
        rw [← hX2, ← ho1] at PA RA RB PB
        rw [← hl2] at PA RA RB PB TX
        have hb1 : ((o1 : Int) != (o1 : Int)) = false := by simp
        clear hX2 ho1 hl2
        have CX1 : ∀ y, Frm [p, r] wx y → y.cell? ⟨g, 1, none⟩ = some (.int .u64 (tid : Nat)) := fun y hy => (CG.out _ hy).2.1
        have CX2 : ∀ y, Frm [p, r] wx y → y.cell? ⟨g, 2, none⟩ = some (.int .u64 (tnow : Nat)) := fun y hy => (CG.out _ hy).2.2.1
        go_wp2_with fail
        try rw [← HWX.out, ← HGG.out]
        have TD0 := TX.out.keep ((Frm.refl [] wx).drew)
        clear d0 d1 d2 d3 q0 q1 q2 q3
        go_region_held3 (fun y => Frm [p, r] wx y) (repeat (first | assumption | apply Frm.drew | exact Frm.refl _ _)) ((first
          | (go_at_call 15; (refine (PA.out _ TD0).mono ?_); rintro e z1 ⟨rfl, TA⟩; have S1 := TA.2.2)
          | (go_at_call 16; (refine (RA.out _ TA).mono ?_); rintro e z ⟨rfl, hz⟩; have TZ := Lib.hid hz; have S2 := hz.2.2; clear hz)
          | (go_at_call 16; (refine (RB.out _ TD0).mono ?_); rintro e z1 ⟨rfl, TB⟩; have S1 := TB.2.2)
          | (go_at_call 15; (refine (PB.out _ TB).mono ?_); rintro e z ⟨rfl, hz⟩; have TZ := Lib.hid hz; have S2 := hz.2.2; clear hz)))
        all_goals
          clear CX1 CX2
          go_wp2
          obtain ⟨lv, hlv⟩ : ∃ lv, lv = liveS X2 tid tnow := ⟨_, rfl⟩
          have SH := Lib.hid (fun (y : World) (hy : Tw w wx y p r l2 X2 l2 X2) => shows_any hy)
          have LP := Lib.hid (fun (y : World) (hy : Tw w wx y p r l2 X2 l2 X2) => tw_liveP tid tnow hy)
          have LR := Lib.hid (fun (y : World) (hy : Tw w wx y p r l2 X2 l2 X2) => tw_liveR tid tnow hy)
          rw [← hlv] at LP LR
          have CZ1 : ∀ y, Frm [] z y → y.cell? ⟨g, 1, none⟩ = some (.int .u64 (tid : Nat)) := fun y hy => (CG.out _ (TZ.out.keep hy).2.2).2.1
          have CZ2 : ∀ y, Frm [] z y → y.cell? ⟨g, 2, none⟩ = some (.int .u64 (tnow : Nat)) := fun y hy => (CG.out _ (TZ.out.keep hy).2.2).2.2.1
          have hbb : (lv != lv) = false := by simp
          clear hlv
          go_region_held3 (fun y => Frm [] z y) (repeat (first | assumption | apply Frm.drew | exact Frm.refl _ _)) ((first
            | (go_at_call 20; (refine (SH.out _ (TZ.out.keep (by assumption))).mono ?_); rintro e y1 ⟨rfl, hfy⟩; have S1 : Frm [] z y1 := Frm.trans (by assumption) hfy (by simp) (by simp); clear hfy)
            | (go_at_call 21; (refine (LP.out _ (TZ.out.keep (by assumption))).mono ?_); rintro e y2 ⟨rfl, hfy⟩; have S2 : Frm [] z y2 := Frm.trans (by assumption) hfy (by simp) (by simp); clear hfy)
            | (go_at_call 22; (refine (LR.out _ (TZ.out.keep (by assumption))).mono ?_); rintro e y3 ⟨rfl, rfl⟩)))
          all_goals
            have HT2 := Lib.hid ((TZ.out.keep S2).here)
            clear CZ1 CZ2
            go_wp2
            go_roundw
            case rel => exact ⟨k + 1, l2, X2, by omega, by go_num, HT2⟩
            case measure => simp [intOf]; omega
      · obtain ⟨gn, hgn⟩ : ∃ gn, gn = (goneS tnow X).length := ⟨_, rfl⟩
        have PA := Lib.hid (fun (y : World) (hy : Tw w wx y p r lst X lst X) => tw_expireP tnow gn hy hgn)
        have RA := Lib.hid (fun (y : World) (hy : Tw w wx y p r lst (leftS tnow X) lst X) => tw_expireR tnow gn hy hgn)
        have RB := Lib.hid (fun (y : World) (hy : Tw w wx y p r lst X lst X) => tw_expireR tnow gn hy hgn)
        have PB := Lib.hid (fun (y : World) (hy : Tw w wx y p r lst X lst (leftS tnow X)) => tw_expireP tnow gn hy hgn)
        obtain ⟨X2, hX2⟩ : ∃ X2, X2 = leftS tnow X := ⟨_, rfl⟩
        obtain ⟨l2, hl2⟩ : ∃ l2, l2 = lst := ⟨_, rfl⟩
        rw [← hX2] at PA RA RB PB
        rw [← hl2] at PA RA RB PB TX
        have HGN := Lib.hid hgn
        have hg16 : gn < 4611686018427387904 := by
          have h1 : gn ≤ X.length := by rw [hgn]; unfold goneS; rw [List.length_map]; exact List.length_filter_le _ _
          have := TX.out.1.few
          omega
        clear hX2 hl2 hgn
        have CX1 : ∀ y, Frm [p, r] wx y → y.cell? ⟨g, 1, none⟩ = some (.int .u64 (tid : Nat)) := fun y hy => (CG.out _ hy).2.1
        have CX2 : ∀ y, Frm [p, r] wx y → y.cell? ⟨g, 2, none⟩ = some (.int .u64 (tnow : Nat)) := fun y hy => (CG.out _ hy).2.2.1
        go_wp2_with fail
        try rw [← HWX.out, ← HGG.out]
        have TD0 := TX.out.keep ((Frm.refl [] wx).drew)
        clear d0 d1 d2 d3 q0 q1 q2 q3
        have HDL := Lib.hid TD0.lts
        go_region_held3 (fun y => Frm [p, r] wx y) (repeat (first | assumption | apply Frm.drew | exact Frm.refl _ _)) ((first
          | (go_at_call 18; (refine (PA.out _ TD0).mono ?_); rintro e z1 ⟨ga, gc, rfl, hga, hva, TA, hfa⟩; have VA := Lib.hid hva; have BA := Lib.hid hga; have S1 := TA.2.2; clear hva hga hfa)
          | (go_at_call 19; (refine (RA.out _ TA).mono ?_); rintro e z2 ⟨gb, gd, rfl, hgb, hvb, hz, hfb⟩; have TE := Lib.hid hz; have S2 := hz.2.2; have VP := Lib.hid (VA.out.keep hfb (fun _ => vals_off BA.out HDL.out.2)); have VR := Lib.hid hvb; clear hz hvb hgb hfb)
          | (go_at_call 19; (refine (RB.out _ TD0).mono ?_); rintro e z1 ⟨ga, gc, rfl, hga, hva, TB, hfa⟩; have VA := Lib.hid hva; have BA := Lib.hid hga; have S1 := TB.2.2; clear hva hga hfa)
          | (go_at_call 18; (refine (PB.out _ TB).mono ?_); rintro e z2 ⟨gb, gd, rfl, hgb, hvb, hz, hfb⟩; have TE := Lib.hid hz; have S2 := hz.2.2; have VR := Lib.hid (VA.out.keep hfb (fun _ => vals_off BA.out HDL.out.1)); have VP := Lib.hid hvb; clear hz hvb hgb hfb)
          | (go_at_call 17; (refine (sameIds_any VP.out VR.out HGN.out hg16).mono ?_); rintro e z ⟨rfl, hfz⟩; have TZ := Lib.hid (TE.out.keep hfz); have S3 := TZ.out.2.2; clear hfz)))
        all_goals
          clear CX1 CX2
          go_wp2
          obtain ⟨lv, hlv⟩ : ∃ lv, lv = liveS X2 tid tnow := ⟨_, rfl⟩
          have SH := Lib.hid (fun (y : World) (hy : Tw w wx y p r l2 X2 l2 X2) => shows_any hy)
          have LP := Lib.hid (fun (y : World) (hy : Tw w wx y p r l2 X2 l2 X2) => tw_liveP tid tnow hy)
          have LR := Lib.hid (fun (y : World) (hy : Tw w wx y p r l2 X2 l2 X2) => tw_liveR tid tnow hy)
          rw [← hlv] at LP LR
          have CZ1 : ∀ y, Frm [] z y → y.cell? ⟨g, 1, none⟩ = some (.int .u64 (tid : Nat)) := fun y hy => (CG.out _ (TZ.out.keep hy).2.2).2.1
          have CZ2 : ∀ y, Frm [] z y → y.cell? ⟨g, 2, none⟩ = some (.int .u64 (tnow : Nat)) := fun y hy => (CG.out _ (TZ.out.keep hy).2.2).2.2.1
          have hbb : (lv != lv) = false := by simp
          clear hlv
          go_region_held3 (fun y => Frm [] z y) (repeat (first | assumption | apply Frm.drew | exact Frm.refl _ _)) ((first
            | (go_at_call 20; (refine (SH.out _ (TZ.out.keep (by assumption))).mono ?_); rintro e y1 ⟨rfl, hfy⟩; have S1 : Frm [] z y1 := Frm.trans (by assumption) hfy (by simp) (by simp); clear hfy)
            | (go_at_call 21; (refine (LP.out _ (TZ.out.keep (by assumption))).mono ?_); rintro e y2 ⟨rfl, hfy⟩; have S2 : Frm [] z y2 := Frm.trans (by assumption) hfy (by simp) (by simp); clear hfy)
            | (go_at_call 22; (refine (LR.out _ (TZ.out.keep (by assumption))).mono ?_); rintro e y3 ⟨rfl, rfl⟩)))
          all_goals
            have HT2 := Lib.hid ((TZ.out.keep S2).here)
            clear CZ1 CZ2
            go_wp2
            go_roundw
            case rel => exact ⟨k + 1, l2, X2, by omega, by go_num, HT2⟩
            case measure => simp [intOf]; omega
    · obtain rfl : k = n := by omega
      go_wp2
      go_ret
      exact ⟨rfl, HFE.out.below (by simp) (Nat.le_refl _)⟩
end Go.Proofs.Ytefplgligmkbiaa
