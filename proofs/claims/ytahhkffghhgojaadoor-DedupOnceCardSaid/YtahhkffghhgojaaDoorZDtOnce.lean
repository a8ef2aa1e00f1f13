/- (For a door seat.) The walk of DedupOnce. -/
import Derived.Test.YtahhkffghhgojaaDoorZDtOnceM
import Derived.Test.YtahhkffghhgojaaDoorZDtOnceC
import Derived.Test.YtahhkffghhgojaaDoorZDtBackM
import Derived.Test.YtahhkffghhgojaaDoorZInHs
import Derived.Deep.DeepCutAuto
import Derived.Deep.CutBlock
import Derived.Deep.CutRange
namespace Go.Proofs.YtahhkffghhgojaaDoor
open Go.RowKit
set_option maxRecDepth 100000

theorem OnS.asc {X : List Ln} {t d : Nat} (h : OnS X t d) : Asc X := by
  rcases h with ⟨rfl, _, _⟩ | ⟨l, e, rfl, _, _⟩
  · exact Asc.nil
  · intro x hx
    simp at hx
    subst hx
    exact ⟨by show ∀ c ∈ strL sP, c < 128; decide, by show sP.size ≤ 9; decide⟩
theorem OnS.le {X : List Ln} {t d : Nat} (h : OnS X t d) : d ≤ t := by
  rcases h with ⟨_, rfl, rfl⟩ | ⟨l, e, _, _, h⟩
  · exact Nat.le_refl _
  · exact h
/-- What holds through DedupOnce. -/
def OnRel (w : World) (q : Nat) (X : List Ln) (t d g : Nat) (wr : World) : Prop := OnS X t d ∧ t ≤ 20 ∧ Whole wr q 25 #[.pointer (some ⟨g, 0, none⟩)] ∧ DdB w.heap.size wr g X ∧ Frm [] w wr
set_option linter.unusedVariables false in
set_option maxHeartbeats 32000000 in
theorem dedupOnce_walk (a : Option Addr) (m cap : Nat) (ss : List Nat) (ad : Option Addr) (nd cd : Nat) (ds : List Nat) (w : World) (hT : Tabs w) (h : Hs w a ss) (hm : m = ss.length) (h63 : m ≤ 9223372036854775807) (hnd : nd = ds.length) (hd : Bytes w ad ds) (_hc1 : nd ≤ cd) (_hc2 : ad = none → cd = 0) :
    Calls Tryd.prog 4 #[.slice a m cap, .slice ad nd cd] w fun e w' => e = .returned (.bool true) ∧ Below w.heap.size w w' := by
  obtain ⟨V, hV⟩ := exVV
  have HV := Lib.hid hV
  have TB := Lib.hid hT
  have H := Lib.hid h
  have HM := Lib.hid hm
  have HD0 := Lib.hid hd
  have HND := Lib.hid hnd
  have HN63 : Hid (nd ≤ 9223372036854775807) := Lib.hid (by have := hd.2.1; omega)
  clear hV hT h hm hd hnd
  go_enter Tryd.func4, Tryd.ntmps4
  go_wp2_with (first
    | ((with_reducible refine (awake15_any _).mono ?_); rintro e w1 ⟨rfl, hf1⟩; have F1 := Lib.hid hf1; clear hf1)
    | ((with_reducible refine (dnew_any _).mono ?_); rintro e w' ⟨rfl, rfl⟩))
  obtain ⟨q, hq⟩ : ∃ q, q = w1.heap.size + 1 := ⟨_, rfl⟩
  obtain ⟨w0, hw0⟩ : ∃ w0, w0 = (w1.alloc (.cells #[.map none] 64)).alloc (.cells #[.pointer (some ⟨w1.heap.size, 0, none⟩)] 25) := ⟨_, rfl⟩
  have HB : Hid (w.heap.size ≤ q) := Lib.hid (by rw [hq]; have := F1.out.size; omega)
  have R0 : Hid (OnRel w q [] 0 0 w1.heap.size w0) := Lib.hid (by
    have hb : Whole w0 q 25 #[.pointer (some ⟨w1.heap.size, 0, none⟩)] := by
      rw [hw0, hq]
      have := Whole.made (w1.alloc (.cells #[.map none] 64)) 25 #[.pointer (some ⟨w1.heap.size, 0, none⟩)]
      rwa [World.size_alloc] at this
    refine ⟨.inl ⟨rfl, rfl, rfl⟩, by omega, hb, ?_, ?_⟩
    · rw [hw0]
      exact ((DdB.new w1).keep0 ((Frm.refl _ _).alloc _)).low F1.out.size
    · rw [hw0]
      exact (F1.out.alloc _).alloc _)
  obtain ⟨g0, hg0⟩ : ∃ g0, g0 = w1.heap.size := ⟨_, rfl⟩
  rw [← hg0] at R0
  try rw [← hg0] at hw0
  have e1 : g0 + 1 = q := by rw [hg0, hq]
  try rw [← hw0]
  try rw [← hg0]
  try rw [e1]
  try rw [← hw0]
  clear hq hw0 hg0 F1
  go_loopw [6, 7, 22] (fun u6 u7 u22 wr => ∃ (i t d g : Nat) (X : List Ln), i ≤ m ∧ u22 = .int .i64 (i : Nat) ∧ u6 = .int .u64 (d : Nat) ∧ u7 = .int .u64 (t : Nat) ∧ Hid (OnRel w q X t d g wr)) (fun _ _ u22 _ => m - (intOf u22).toNat)
  case atStart => exact ⟨0, 0, 0, g0, [], Nat.zero_le _, rfl, rfl, rfl, R0⟩
  case round =>
    clear R0 e1
    obtain ⟨i, t, d, g, X, hi, rfl, rfl, rfl, HR⟩ := hrel
    by_cases hlt : i < m
    · obtain ⟨hs16, b, off, rfl, hcell⟩ := H.out i (by have := HM.out; omega)
      have hc2 := (HR.out.2.2.2.2.cell (block_lt_of_cell hcell) (by simp)).trans hcell
      obtain ⟨s, hs⟩ : ∃ s, s = ss.getD i 0 := ⟨_, rfl⟩
      rw [← hs] at hs16 hc2
      clear hcell hs
      obtain ⟨n0, hn0⟩ : ∃ n0, n0 = s % 20 := ⟨_, rfl⟩
      have w1' : (s : Int).tmod 20 = (n0 : Int) := by rw [Int.tmod_eq_emod_of_nonneg (by omega)]; omega
      have w2' : (s : Int) % 20 = (n0 : Int) := by omega
      have w3' : IntKind.u16.wrap (n0 : Int) = (n0 : Int) := by simp [IntKind.wrap, IntKind.bits, IntKind.signed]; omega
      have w4' : IntKind.u64.wrap (n0 : Int) = (n0 : Int) := by simp [IntKind.wrap, IntKind.bits, IntKind.signed]; omega
      obtain ⟨n, hn⟩ : ∃ n, n = 1 + n0 := ⟨_, rfl⟩
      have w5' : (1 : Int) + (n0 : Int) = (n : Int) := by omega
      have w6' : IntKind.u64.wrap (n : Int) = (n : Int) := by simp [IntKind.wrap, IntKind.bits, IntKind.signed]; omega
      have N20 : Hid (1 ≤ n ∧ n ≤ 20) := Lib.hid (by omega)
      clear hn0 hn
      by_cases hbrk : 100 < i
      · have x0 := HR.out.2.2.1.cell 0
        simp at x0
        have LS := on_last HR.out.1
        have hls := blast_any HR.out.2.2.2.1 sP (by unfold maxLen; decide)
        have FR := Lib.hid HR.out.2.2.2.2
        by_cases ht0 : t = 0
        · obtain ⟨hl0, hd0⟩ := LS.2.2 ht0
          subst ht0 hd0
          rw [LS.1, hl0] at hls
          have HLS := Lib.hid hls
          clear LS hls hl0
          go_wp2_with fail
          refine HLS.out.mono ?_
          rintro e w2 ⟨rfl, hf2⟩
          have F2 : Hid (Frm [] w w2) := Lib.hid (FR.out.trans hf2 (by simp) (by simp))
          clear hf2 x0
          simp only [Ln.val]
          go_wp2
          go_ret
          exact ⟨rfl, (F2.out.alloc _).below (by simp) (Nat.le_refl _)⟩
        · obtain ⟨ll, le, hl0⟩ := LS.2.1 (by omega)
          rw [LS.1, hl0, decide_eq_true (by omega : 0 < t)] at hls
          have HLS := Lib.hid hls
          have ht2 : (0 : Int) < (t : Int) := by omega
          clear LS hls hl0
          go_wp2_with fail
          refine HLS.out.mono ?_
          rintro e w2 ⟨rfl, hf2⟩
          have F2 : Hid (Frm [] w w2) := Lib.hid (FR.out.trans hf2 (by simp) (by simp))
          clear hf2 x0
          simp only [Ln.val]
          go_wp2
          go_ret
          exact ⟨rfl, (F2.out.alloc _).below (by simp) (Nat.le_refl _)⟩
      · have x0 := HR.out.2.2.1.cell 0
        simp at x0
        have C1 := Lib.hid (bbeg_any HR.out.2.2.2.1 HR.out.2.2.2.2.size sP n (by decide) (by have := N20.out; omega))
        have OB := on_beg HR.out.1 N20.out.1
        obtain ⟨c, hc⟩ : ∃ c, c = begC X sP n := ⟨_, rfl⟩
        rw [← hc] at C1 OB
        have CC := Lib.hid OB.1
        have OX := Lib.hid OB.2
        clear OB hc
        go_upto_region 11 with (fail)
        have DT : Hid (d ≤ t ∧ t ≤ 20) := Lib.hid ⟨HR.out.1.le, HR.out.2.1⟩
        clear w1' w2' w3' w4' w5' w6'
        go_wp2_with fail
        refine C1.out.mono ?_
        rintro e w2 ⟨rfl, hd2, hf2⟩
        have D2 := Lib.hid hd2
        have B2 := Lib.hid (hf2.whole HR.out.2.2.1 (by simp; exact fun e => HR.out.2.2.2.1.gne HR.out.2.2.1 e.symm))
        have F2 : Hid (Frm [] w w2) := Lib.hid (HR.out.2.2.2.2.trans hf2 (by simp) (fun x hx => by simp at hx; subst hx; exact .inr HR.out.2.2.2.1.hg))
        clear hd2 hf2 x0 C1
        have hcs : (n ≤ d ∧ c = 40) ∨ (¬ n ≤ d ∧ n ≤ t ∧ c = 41) ∨ (¬ n ≤ d ∧ ¬ n ≤ t ∧ c = 0) := by
          have := CC.out
          by_cases h1 : n ≤ d
          · rw [if_pos h1] at this; exact .inl ⟨h1, this⟩
          · rw [if_neg h1] at this
            by_cases h2 : n ≤ t
            · rw [if_pos h2] at this; exact .inr (.inl ⟨h1, h2, this⟩)
            · rw [if_neg h2] at this; exact .inr (.inr ⟨h1, h2, this⟩)
        obtain ⟨t1, ht1⟩ : ∃ t1, t1 = max t n := ⟨_, rfl⟩
        rw [← ht1] at OX
        have hmx : max (t : Int) (n : Int) = (t1 : Int) := by rw [ht1]; omega
        have T1 : Hid (n ≤ t1 ∧ t1 ≤ 20 ∧ d ≤ t1) := Lib.hid (by have := DT.out; have := N20.out; omega)
        go_upto_region 12 with (fail)
        rcases hcs with ⟨h1, rfl⟩ | ⟨h1, h2, rfl⟩ | ⟨h1, h2, rfl⟩
        · have h2 : ¬ t < n := by have := DT.out; omega
          have HT1 := Lib.hid ht1
          clear ht1
          go_upto_region 15 with (fail)
          by_cases hi2 : i < nd
          rotate_left
          · have R2 : Hid (OnRel w q (begX X sP n) t1 d g w2) := Lib.hid ⟨OX.out, T1.out.2.1, B2.out, D2.out, F2.out⟩
            go_wp2
            go_roundw
            case rel => exact ⟨i + 1, t1, d, g, _, by omega, by go_num, rfl, (by first | rfl | (have := HT1.out; congr 1; omega)), R2⟩
            case measure => simp [intOf]; omega
          have hi2' : ¬ (nd : Int) ≤ (i : Int) := by omega
          obtain ⟨db, doff, rfl, x, hx256, hcx⟩ : ∃ db doff, ad = some ⟨db, doff, none⟩ ∧ ∃ x : Nat, x < 256 ∧ w2.cell? ⟨db, doff + i, none⟩ = some (.int .u8 (x : Nat)) := by
            have hbb := F2.out.bytes HD0.out (by simp)
            have hil : i < ds.length := by have := HND.out; omega
            rcases hbb.2.2 with h0 | ⟨db, doff, hab, hc⟩
            · rw [h0] at hil; simp at hil
            · refine ⟨db, doff, hab, ds[i], hbb.1 _ (List.getElem_mem hil), ?_⟩
              have := hc i hil
              first | (simp [hil]; done) | (simpa [hil] using this)
          obtain ⟨m4, hm4⟩ : ∃ m4, m4 = x % 4 := ⟨_, rfl⟩
          have hmod : m4 < 4 := by rw [hm4]; exact Nat.mod_lt _ (by decide)
          have hk6 : (x : Int) % 4 = (m4 : Int) := by rw [hm4]; rfl
          have hk7 : (x : Int).tmod 4 = (m4 : Int) := by rw [Int.tmod_eq_emod_of_nonneg (by omega)]; exact hk6
          have wk6 : IntKind.u8.wrap (m4 : Int) = (m4 : Int) := by simp [IntKind.wrap, IntKind.bits, IntKind.signed]; omega
          have wk8 : IntKind.u8.wrap ((x : Int) % 4) = (m4 : Int) := by rw [hk6, wk6]
          clear hm4
          go_upto_region 17 with (fail)
          clear hcx hk6 hk7 wk6 wk8
          have x0 := B2.out.cell 0
          simp at x0
          have hcs4 : m4 = 0 ∨ m4 = 1 ∨ m4 = 2 ∨ m4 = 3 := by omega
          rcases hcs4 with rfl | rfl | rfl | rfl
          ·
            have R2 : Hid (OnRel w q (begX X sP n) t1 d g w2) := Lib.hid ⟨OX.out, T1.out.2.1, B2.out, D2.out, F2.out⟩
            clear x0
            go_wp2
            go_roundw
            case rel => exact ⟨i + 1, t1, d, g, _, by omega, by go_num, rfl, (by first | rfl | (have := HT1.out; congr 1; omega)), R2⟩
            case measure => simp [intOf]; omega
          ·
            have C3 := Lib.hid (bdon_any D2.out F2.out.size sP n 0 n (by decide) (by have := N20.out; omega) (by decide) (by have := N20.out; omega))
            have OD := on_don OX.out N20.out.1 T1.out.1
            rw [OD.1] at C3
            have OX3 := Lib.hid OD.2
            clear OD
            obtain ⟨d1, hd1⟩ : ∃ d1, d1 = max d n := ⟨_, rfl⟩
            rw [← hd1] at OX3
            have HD1 := Lib.hid hd1
            clear hd1
            by_cases hnd2 : n ≤ d
            · first
              | exact absurd hnd2 h1
              | (
                rw [if_pos hnd2] at C3
                have hnd3 : ¬ d < n := by omega
                go_wp2_with fail
                refine C3.out.mono ?_
                rintro e w3 ⟨rfl, hd3, hf3⟩
                have R3 : Hid (OnRel w q (donX (begX X sP n) sP n 0 n) t1 d1 g w3) := Lib.hid ⟨OX3.out, T1.out.2.1, hf3.whole B2.out (by simp; exact fun e => D2.out.gne B2.out e.symm), hd3, F2.out.trans hf3 (by simp) (fun x hx => by simp at hx; subst hx; exact .inr D2.out.hg)⟩
                clear hd3 hf3 x0 C3
                go_wp2
                go_roundw
                case rel => exact ⟨i + 1, t1, d1, g, _, by omega, by go_num, (by first | rfl | (have := HD1.out; congr 1; omega)), (by first | rfl | (have := HT1.out; congr 1; omega)), R3⟩
                case measure => simp [intOf]; omega
                )
            · first
              | exact absurd h1 hnd2
              | (
                rw [if_neg hnd2] at C3
                have hnd3 : d < n := by omega
                go_wp2_with fail
                refine C3.out.mono ?_
                rintro e w3 ⟨rfl, hd3, hf3⟩
                have R3 : Hid (OnRel w q (donX (begX X sP n) sP n 0 n) t1 d1 g w3) := Lib.hid ⟨OX3.out, T1.out.2.1, hf3.whole B2.out (by simp; exact fun e => D2.out.gne B2.out e.symm), hd3, F2.out.trans hf3 (by simp) (fun x hx => by simp at hx; subst hx; exact .inr D2.out.hg)⟩
                clear hd3 hf3 x0 C3
                go_wp2
                go_roundw
                case rel => exact ⟨i + 1, t1, d1, g, _, by omega, by go_num, (by first | rfl | (have := HD1.out; congr 1; omega)), (by first | rfl | (have := HT1.out; congr 1; omega)), R3⟩
                case measure => simp [intOf]; omega
                )
          ·
            have C3 := Lib.hid (bfor_any D2.out F2.out.size)
            go_wp2_with fail
            refine C3.out.mono ?_
            rintro e w3 ⟨rfl, hd3, hf3⟩
            have R3 : Hid (OnRel w q (forX (begX X sP n)) d d g w3) := Lib.hid ⟨on_for OX.out, by have := T1.out; omega, hf3.whole B2.out (by simp; exact fun e => D2.out.gne B2.out e.symm), hd3, F2.out.trans hf3 (by simp) (fun x hx => by simp at hx; subst hx; exact .inr D2.out.hg)⟩
            clear hd3 hf3 x0 C3
            go_wp2
            go_roundw
            case rel => exact ⟨i + 1, d, d, g, _, by omega, by go_num, rfl, rfl, R3⟩
            case measure => simp [intOf]; omega
          ·
            have C3 := Lib.hid (bbytes_any D2.out)
            have BE := back_end HV.out D2.out.ok OX.out.asc
            rw [on_all (on_for OX.out)] at BE
            have PB := Lib.hid (endTb_inl BE)
            have L15 := Lib.hid (encY_few D2.out.ok)
            have L8 : Hid (∀ c ∈ encY (keepD (allX (begX X sP n))), c < 256) := Lib.hid (encY_byte _)
            obtain ⟨l8, hl8⟩ : ∃ l8, l8 = encY (keepD (allX (begX X sP n))) := ⟨_, rfl⟩
            rw [← hl8] at C3 PB L15 L8
            clear hl8 BE
            go_wp2_with fail
            refine C3.out.mono ?_
            rintro e w3 ⟨a3, c3, rfl, ho3, hf3⟩
            have F3 : Hid (Frm [] w w3) := Lib.hid (F2.out.trans hf3 (by simp) (by simp))
            have B3 := Lib.hid (hf3.whole B2.out (by simp))
            have hob := own_bytes ho3 L8.out
            have hT3 : Tabs w3 := TB.out.keep F3.out (by simp)
            have RD := Lib.hid (read_ret8 18 #[.pointer (some ⟨q, 0, none⟩)] a3 l8.length c3 l8 w3 (TbQ w3 q (forX (begX X sP n)) []) hob.1 rfl hob.2 (by have := L15.out; omega) enters_once (fun w1 rb cb db h => byonce_ret HV.out h hT3 (by have := L15.out; omega) B3.out PB.out))
            have hmf : ∀ (fn : Fn) (first cap : Array Value) (w : World), (Instr.makeFunc fn first cap).run Tryd.prog w = .ok (.func fn first cap) w := fun _ _ _ _ => rfl
            clear ho3 hf3 hob hT3 C3 x0
            go_wp2_with fail
            refine RD.out.mono ?_
            rintro e w5 ⟨w4, cc, T, rfl, ⟨rest, ⟨rfl, g4, hb4, hd4, hf4⟩, hc⟩, hfT, hTx⟩
            rw [if_pos rfl] at hc
            subst hc
            have hq3 : q < w3.heap.size := B3.out.lt
            have F5 : Hid (Frm [] w w5) := Lib.hid (by
              have h1 : Frm [] w w4 := F3.out.trans hf4 (by simp) (fun x hx => by simp at hx; subst hx; exact .inr HB.out)
              exact h1.trans hfT (by simp) (fun x hx => .inr (by have h2 := (hTx x hx).1; have h3 := F3.out.size; omega)))
            have R5 : Hid (OnRel w q (forX (begX X sP n)) d d g4 w5) := Lib.hid ⟨on_for OX.out, by have := T1.out; omega, hfT.whole hb4 (fun hm => by have := (hTx q hm).1; omega), (hd4.keep hfT (fun x hx => .inl (hTx x hx).2)).low (by have := F3.out.size; omega), F5.out⟩
            clear hb4 hd4 hf4 hfT hTx hq3
            go_wp2
            go_roundw
            case rel => exact ⟨i + 1, d, d, g4, _, by omega, by go_num, rfl, rfl, R5⟩
            case measure => simp [intOf]; omega
        ·
          have HT1 := Lib.hid ht1
          clear ht1
          go_upto_region 15 with (fail)
          by_cases hi2 : i < nd
          rotate_left
          · have R2 : Hid (OnRel w q (begX X sP n) t1 d g w2) := Lib.hid ⟨OX.out, T1.out.2.1, B2.out, D2.out, F2.out⟩
            go_wp2
            go_roundw
            case rel => exact ⟨i + 1, t1, d, g, _, by omega, by go_num, rfl, (by first | rfl | (have := HT1.out; congr 1; omega)), R2⟩
            case measure => simp [intOf]; omega
          have hi2' : ¬ (nd : Int) ≤ (i : Int) := by omega
          obtain ⟨db, doff, rfl, x, hx256, hcx⟩ : ∃ db doff, ad = some ⟨db, doff, none⟩ ∧ ∃ x : Nat, x < 256 ∧ w2.cell? ⟨db, doff + i, none⟩ = some (.int .u8 (x : Nat)) := by
            have hbb := F2.out.bytes HD0.out (by simp)
            have hil : i < ds.length := by have := HND.out; omega
            rcases hbb.2.2 with h0 | ⟨db, doff, hab, hc⟩
            · rw [h0] at hil; simp at hil
            · refine ⟨db, doff, hab, ds[i], hbb.1 _ (List.getElem_mem hil), ?_⟩
              have := hc i hil
              first | (simp [hil]; done) | (simpa [hil] using this)
          obtain ⟨m4, hm4⟩ : ∃ m4, m4 = x % 4 := ⟨_, rfl⟩
          have hmod : m4 < 4 := by rw [hm4]; exact Nat.mod_lt _ (by decide)
          have hk6 : (x : Int) % 4 = (m4 : Int) := by rw [hm4]; rfl
          have hk7 : (x : Int).tmod 4 = (m4 : Int) := by rw [Int.tmod_eq_emod_of_nonneg (by omega)]; exact hk6
          have wk6 : IntKind.u8.wrap (m4 : Int) = (m4 : Int) := by simp [IntKind.wrap, IntKind.bits, IntKind.signed]; omega
          have wk8 : IntKind.u8.wrap ((x : Int) % 4) = (m4 : Int) := by rw [hk6, wk6]
          clear hm4
          go_upto_region 17 with (fail)
          clear hcx hk6 hk7 wk6 wk8
          have x0 := B2.out.cell 0
          simp at x0
          have hcs4 : m4 = 0 ∨ m4 = 1 ∨ m4 = 2 ∨ m4 = 3 := by omega
          rcases hcs4 with rfl | rfl | rfl | rfl
          ·
            have R2 : Hid (OnRel w q (begX X sP n) t1 d g w2) := Lib.hid ⟨OX.out, T1.out.2.1, B2.out, D2.out, F2.out⟩
            clear x0
            go_wp2
            go_roundw
            case rel => exact ⟨i + 1, t1, d, g, _, by omega, by go_num, rfl, (by first | rfl | (have := HT1.out; congr 1; omega)), R2⟩
            case measure => simp [intOf]; omega
          ·
            have C3 := Lib.hid (bdon_any D2.out F2.out.size sP n 0 n (by decide) (by have := N20.out; omega) (by decide) (by have := N20.out; omega))
            have OD := on_don OX.out N20.out.1 T1.out.1
            rw [OD.1] at C3
            have OX3 := Lib.hid OD.2
            clear OD
            obtain ⟨d1, hd1⟩ : ∃ d1, d1 = max d n := ⟨_, rfl⟩
            rw [← hd1] at OX3
            have HD1 := Lib.hid hd1
            clear hd1
            by_cases hnd2 : n ≤ d
            · first
              | exact absurd hnd2 h1
              | (
                rw [if_pos hnd2] at C3
                have hnd3 : ¬ d < n := by omega
                go_wp2_with fail
                refine C3.out.mono ?_
                rintro e w3 ⟨rfl, hd3, hf3⟩
                have R3 : Hid (OnRel w q (donX (begX X sP n) sP n 0 n) t1 d1 g w3) := Lib.hid ⟨OX3.out, T1.out.2.1, hf3.whole B2.out (by simp; exact fun e => D2.out.gne B2.out e.symm), hd3, F2.out.trans hf3 (by simp) (fun x hx => by simp at hx; subst hx; exact .inr D2.out.hg)⟩
                clear hd3 hf3 x0 C3
                go_wp2
                go_roundw
                case rel => exact ⟨i + 1, t1, d1, g, _, by omega, by go_num, (by first | rfl | (have := HD1.out; congr 1; omega)), (by first | rfl | (have := HT1.out; congr 1; omega)), R3⟩
                case measure => simp [intOf]; omega
                )
            · first
              | exact absurd h1 hnd2
              | (
                rw [if_neg hnd2] at C3
                have hnd3 : d < n := by omega
                go_wp2_with fail
                refine C3.out.mono ?_
                rintro e w3 ⟨rfl, hd3, hf3⟩
                have R3 : Hid (OnRel w q (donX (begX X sP n) sP n 0 n) t1 d1 g w3) := Lib.hid ⟨OX3.out, T1.out.2.1, hf3.whole B2.out (by simp; exact fun e => D2.out.gne B2.out e.symm), hd3, F2.out.trans hf3 (by simp) (fun x hx => by simp at hx; subst hx; exact .inr D2.out.hg)⟩
                clear hd3 hf3 x0 C3
                go_wp2
                go_roundw
                case rel => exact ⟨i + 1, t1, d1, g, _, by omega, by go_num, (by first | rfl | (have := HD1.out; congr 1; omega)), (by first | rfl | (have := HT1.out; congr 1; omega)), R3⟩
                case measure => simp [intOf]; omega
                )
          ·
            have C3 := Lib.hid (bfor_any D2.out F2.out.size)
            go_wp2_with fail
            refine C3.out.mono ?_
            rintro e w3 ⟨rfl, hd3, hf3⟩
            have R3 : Hid (OnRel w q (forX (begX X sP n)) d d g w3) := Lib.hid ⟨on_for OX.out, by have := T1.out; omega, hf3.whole B2.out (by simp; exact fun e => D2.out.gne B2.out e.symm), hd3, F2.out.trans hf3 (by simp) (fun x hx => by simp at hx; subst hx; exact .inr D2.out.hg)⟩
            clear hd3 hf3 x0 C3
            go_wp2
            go_roundw
            case rel => exact ⟨i + 1, d, d, g, _, by omega, by go_num, rfl, rfl, R3⟩
            case measure => simp [intOf]; omega
          ·
            have C3 := Lib.hid (bbytes_any D2.out)
            have BE := back_end HV.out D2.out.ok OX.out.asc
            rw [on_all (on_for OX.out)] at BE
            have PB := Lib.hid (endTb_inl BE)
            have L15 := Lib.hid (encY_few D2.out.ok)
            have L8 : Hid (∀ c ∈ encY (keepD (allX (begX X sP n))), c < 256) := Lib.hid (encY_byte _)
            obtain ⟨l8, hl8⟩ : ∃ l8, l8 = encY (keepD (allX (begX X sP n))) := ⟨_, rfl⟩
            rw [← hl8] at C3 PB L15 L8
            clear hl8 BE
            go_wp2_with fail
            refine C3.out.mono ?_
            rintro e w3 ⟨a3, c3, rfl, ho3, hf3⟩
            have F3 : Hid (Frm [] w w3) := Lib.hid (F2.out.trans hf3 (by simp) (by simp))
            have B3 := Lib.hid (hf3.whole B2.out (by simp))
            have hob := own_bytes ho3 L8.out
            have hT3 : Tabs w3 := TB.out.keep F3.out (by simp)
            have RD := Lib.hid (read_ret8 18 #[.pointer (some ⟨q, 0, none⟩)] a3 l8.length c3 l8 w3 (TbQ w3 q (forX (begX X sP n)) []) hob.1 rfl hob.2 (by have := L15.out; omega) enters_once (fun w1 rb cb db h => byonce_ret HV.out h hT3 (by have := L15.out; omega) B3.out PB.out))
            have hmf : ∀ (fn : Fn) (first cap : Array Value) (w : World), (Instr.makeFunc fn first cap).run Tryd.prog w = .ok (.func fn first cap) w := fun _ _ _ _ => rfl
            clear ho3 hf3 hob hT3 C3 x0
            go_wp2_with fail
            refine RD.out.mono ?_
            rintro e w5 ⟨w4, cc, T, rfl, ⟨rest, ⟨rfl, g4, hb4, hd4, hf4⟩, hc⟩, hfT, hTx⟩
            rw [if_pos rfl] at hc
            subst hc
            have hq3 : q < w3.heap.size := B3.out.lt
            have F5 : Hid (Frm [] w w5) := Lib.hid (by
              have h1 : Frm [] w w4 := F3.out.trans hf4 (by simp) (fun x hx => by simp at hx; subst hx; exact .inr HB.out)
              exact h1.trans hfT (by simp) (fun x hx => .inr (by have h2 := (hTx x hx).1; have h3 := F3.out.size; omega)))
            have R5 : Hid (OnRel w q (forX (begX X sP n)) d d g4 w5) := Lib.hid ⟨on_for OX.out, by have := T1.out; omega, hfT.whole hb4 (fun hm => by have := (hTx q hm).1; omega), (hd4.keep hfT (fun x hx => .inl (hTx x hx).2)).low (by have := F3.out.size; omega), F5.out⟩
            clear hb4 hd4 hf4 hfT hTx hq3
            go_wp2
            go_roundw
            case rel => exact ⟨i + 1, d, d, g4, _, by omega, by go_num, rfl, rfl, R5⟩
            case measure => simp [intOf]; omega
        ·
          have HT1 := Lib.hid ht1
          clear ht1
          go_upto_region 15 with (fail)
          by_cases hi2 : i < nd
          rotate_left
          · have R2 : Hid (OnRel w q (begX X sP n) t1 d g w2) := Lib.hid ⟨OX.out, T1.out.2.1, B2.out, D2.out, F2.out⟩
            go_wp2
            go_roundw
            case rel => exact ⟨i + 1, t1, d, g, _, by omega, by go_num, rfl, (by first | rfl | (have := HT1.out; congr 1; omega)), R2⟩
            case measure => simp [intOf]; omega
          have hi2' : ¬ (nd : Int) ≤ (i : Int) := by omega
          obtain ⟨db, doff, rfl, x, hx256, hcx⟩ : ∃ db doff, ad = some ⟨db, doff, none⟩ ∧ ∃ x : Nat, x < 256 ∧ w2.cell? ⟨db, doff + i, none⟩ = some (.int .u8 (x : Nat)) := by
            have hbb := F2.out.bytes HD0.out (by simp)
            have hil : i < ds.length := by have := HND.out; omega
            rcases hbb.2.2 with h0 | ⟨db, doff, hab, hc⟩
            · rw [h0] at hil; simp at hil
            · refine ⟨db, doff, hab, ds[i], hbb.1 _ (List.getElem_mem hil), ?_⟩
              have := hc i hil
              first | (simp [hil]; done) | (simpa [hil] using this)
          obtain ⟨m4, hm4⟩ : ∃ m4, m4 = x % 4 := ⟨_, rfl⟩
          have hmod : m4 < 4 := by rw [hm4]; exact Nat.mod_lt _ (by decide)
          have hk6 : (x : Int) % 4 = (m4 : Int) := by rw [hm4]; rfl
          have hk7 : (x : Int).tmod 4 = (m4 : Int) := by rw [Int.tmod_eq_emod_of_nonneg (by omega)]; exact hk6
          have wk6 : IntKind.u8.wrap (m4 : Int) = (m4 : Int) := by simp [IntKind.wrap, IntKind.bits, IntKind.signed]; omega
          have wk8 : IntKind.u8.wrap ((x : Int) % 4) = (m4 : Int) := by rw [hk6, wk6]
          clear hm4
          go_upto_region 17 with (fail)
          clear hcx hk6 hk7 wk6 wk8
          have x0 := B2.out.cell 0
          simp at x0
          have hcs4 : m4 = 0 ∨ m4 = 1 ∨ m4 = 2 ∨ m4 = 3 := by omega
          rcases hcs4 with rfl | rfl | rfl | rfl
          ·
            have R2 : Hid (OnRel w q (begX X sP n) t1 d g w2) := Lib.hid ⟨OX.out, T1.out.2.1, B2.out, D2.out, F2.out⟩
            clear x0
            go_wp2
            go_roundw
            case rel => exact ⟨i + 1, t1, d, g, _, by omega, by go_num, rfl, (by first | rfl | (have := HT1.out; congr 1; omega)), R2⟩
            case measure => simp [intOf]; omega
          ·
            have C3 := Lib.hid (bdon_any D2.out F2.out.size sP n 0 n (by decide) (by have := N20.out; omega) (by decide) (by have := N20.out; omega))
            have OD := on_don OX.out N20.out.1 T1.out.1
            rw [OD.1] at C3
            have OX3 := Lib.hid OD.2
            clear OD
            obtain ⟨d1, hd1⟩ : ∃ d1, d1 = max d n := ⟨_, rfl⟩
            rw [← hd1] at OX3
            have HD1 := Lib.hid hd1
            clear hd1
            by_cases hnd2 : n ≤ d
            · first
              | exact absurd hnd2 h1
              | (
                rw [if_pos hnd2] at C3
                have hnd3 : ¬ d < n := by omega
                go_wp2_with fail
                refine C3.out.mono ?_
                rintro e w3 ⟨rfl, hd3, hf3⟩
                have R3 : Hid (OnRel w q (donX (begX X sP n) sP n 0 n) t1 d1 g w3) := Lib.hid ⟨OX3.out, T1.out.2.1, hf3.whole B2.out (by simp; exact fun e => D2.out.gne B2.out e.symm), hd3, F2.out.trans hf3 (by simp) (fun x hx => by simp at hx; subst hx; exact .inr D2.out.hg)⟩
                clear hd3 hf3 x0 C3
                go_wp2
                go_roundw
                case rel => exact ⟨i + 1, t1, d1, g, _, by omega, by go_num, (by first | rfl | (have := HD1.out; congr 1; omega)), (by first | rfl | (have := HT1.out; congr 1; omega)), R3⟩
                case measure => simp [intOf]; omega
                )
            · first
              | exact absurd h1 hnd2
              | (
                rw [if_neg hnd2] at C3
                have hnd3 : d < n := by omega
                go_wp2_with fail
                refine C3.out.mono ?_
                rintro e w3 ⟨rfl, hd3, hf3⟩
                have R3 : Hid (OnRel w q (donX (begX X sP n) sP n 0 n) t1 d1 g w3) := Lib.hid ⟨OX3.out, T1.out.2.1, hf3.whole B2.out (by simp; exact fun e => D2.out.gne B2.out e.symm), hd3, F2.out.trans hf3 (by simp) (fun x hx => by simp at hx; subst hx; exact .inr D2.out.hg)⟩
                clear hd3 hf3 x0 C3
                go_wp2
                go_roundw
                case rel => exact ⟨i + 1, t1, d1, g, _, by omega, by go_num, (by first | rfl | (have := HD1.out; congr 1; omega)), (by first | rfl | (have := HT1.out; congr 1; omega)), R3⟩
                case measure => simp [intOf]; omega
                )
          ·
            have C3 := Lib.hid (bfor_any D2.out F2.out.size)
            go_wp2_with fail
            refine C3.out.mono ?_
            rintro e w3 ⟨rfl, hd3, hf3⟩
            have R3 : Hid (OnRel w q (forX (begX X sP n)) d d g w3) := Lib.hid ⟨on_for OX.out, by have := T1.out; omega, hf3.whole B2.out (by simp; exact fun e => D2.out.gne B2.out e.symm), hd3, F2.out.trans hf3 (by simp) (fun x hx => by simp at hx; subst hx; exact .inr D2.out.hg)⟩
            clear hd3 hf3 x0 C3
            go_wp2
            go_roundw
            case rel => exact ⟨i + 1, d, d, g, _, by omega, by go_num, rfl, rfl, R3⟩
            case measure => simp [intOf]; omega
          ·
            have C3 := Lib.hid (bbytes_any D2.out)
            have BE := back_end HV.out D2.out.ok OX.out.asc
            rw [on_all (on_for OX.out)] at BE
            have PB := Lib.hid (endTb_inl BE)
            have L15 := Lib.hid (encY_few D2.out.ok)
            have L8 : Hid (∀ c ∈ encY (keepD (allX (begX X sP n))), c < 256) := Lib.hid (encY_byte _)
            obtain ⟨l8, hl8⟩ : ∃ l8, l8 = encY (keepD (allX (begX X sP n))) := ⟨_, rfl⟩
            rw [← hl8] at C3 PB L15 L8
            clear hl8 BE
            go_wp2_with fail
            refine C3.out.mono ?_
            rintro e w3 ⟨a3, c3, rfl, ho3, hf3⟩
            have F3 : Hid (Frm [] w w3) := Lib.hid (F2.out.trans hf3 (by simp) (by simp))
            have B3 := Lib.hid (hf3.whole B2.out (by simp))
            have hob := own_bytes ho3 L8.out
            have hT3 : Tabs w3 := TB.out.keep F3.out (by simp)
            have RD := Lib.hid (read_ret8 18 #[.pointer (some ⟨q, 0, none⟩)] a3 l8.length c3 l8 w3 (TbQ w3 q (forX (begX X sP n)) []) hob.1 rfl hob.2 (by have := L15.out; omega) enters_once (fun w1 rb cb db h => byonce_ret HV.out h hT3 (by have := L15.out; omega) B3.out PB.out))
            have hmf : ∀ (fn : Fn) (first cap : Array Value) (w : World), (Instr.makeFunc fn first cap).run Tryd.prog w = .ok (.func fn first cap) w := fun _ _ _ _ => rfl
            clear ho3 hf3 hob hT3 C3 x0
            go_wp2_with fail
            refine RD.out.mono ?_
            rintro e w5 ⟨w4, cc, T, rfl, ⟨rest, ⟨rfl, g4, hb4, hd4, hf4⟩, hc⟩, hfT, hTx⟩
            rw [if_pos rfl] at hc
            subst hc
            have hq3 : q < w3.heap.size := B3.out.lt
            have F5 : Hid (Frm [] w w5) := Lib.hid (by
              have h1 : Frm [] w w4 := F3.out.trans hf4 (by simp) (fun x hx => by simp at hx; subst hx; exact .inr HB.out)
              exact h1.trans hfT (by simp) (fun x hx => .inr (by have h2 := (hTx x hx).1; have h3 := F3.out.size; omega)))
            have R5 : Hid (OnRel w q (forX (begX X sP n)) d d g4 w5) := Lib.hid ⟨on_for OX.out, by have := T1.out; omega, hfT.whole hb4 (fun hm => by have := (hTx q hm).1; omega), (hd4.keep hfT (fun x hx => .inl (hTx x hx).2)).low (by have := F3.out.size; omega), F5.out⟩
            clear hb4 hd4 hf4 hfT hTx hq3
            go_wp2
            go_roundw
            case rel => exact ⟨i + 1, d, d, g4, _, by omega, by go_num, rfl, rfl, R5⟩
            case measure => simp [intOf]; omega
    · obtain rfl : i = m := by omega
      have x0 := HR.out.2.2.1.cell 0
      simp at x0
      have LS := on_last HR.out.1
      have hls := blast_any HR.out.2.2.2.1 sP (by unfold maxLen; decide)
      have FR := Lib.hid HR.out.2.2.2.2
      by_cases ht0 : t = 0
      · obtain ⟨hl0, hd0⟩ := LS.2.2 ht0
        subst ht0 hd0
        rw [LS.1, hl0] at hls
        have HLS := Lib.hid hls
        clear LS hls hl0
        go_wp2_with fail
        refine HLS.out.mono ?_
        rintro e w2 ⟨rfl, hf2⟩
        have F2 : Hid (Frm [] w w2) := Lib.hid (FR.out.trans hf2 (by simp) (by simp))
        clear hf2 x0
        simp only [Ln.val]
        go_wp2
        go_ret
        exact ⟨rfl, (F2.out.alloc _).below (by simp) (Nat.le_refl _)⟩
      · obtain ⟨ll, le, hl0⟩ := LS.2.1 (by omega)
        rw [LS.1, hl0, decide_eq_true (by omega : 0 < t)] at hls
        have HLS := Lib.hid hls
        have ht2 : (0 : Int) < (t : Int) := by omega
        clear LS hls hl0
        go_wp2_with fail
        refine HLS.out.mono ?_
        rintro e w2 ⟨rfl, hf2⟩
        have F2 : Hid (Frm [] w w2) := Lib.hid (FR.out.trans hf2 (by simp) (by simp))
        clear hf2 x0
        simp only [Ln.val]
        go_wp2
        go_ret
        exact ⟨rfl, (F2.out.alloc _).below (by simp) (Nat.le_refl _)⟩
end Go.Proofs.YtahhkffghhgojaaDoor
