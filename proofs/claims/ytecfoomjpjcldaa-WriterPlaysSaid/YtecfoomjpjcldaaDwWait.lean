/- Contract of Waiting of the document's writer. -/
import Derived.Test.YtecfoomjpjcldaaDwRest
import Derived.Test.YtecfoomjpjcldaaWrWait
namespace Go.Proofs.Ytecfoomjpjcldaa
open Go.RowKit
set_option maxRecDepth 100000
def DwaRel (w : World) (P W : Nat) (D : List (List Nat)) (H : Nat → Nat → Bool) (su : Nat) (s6 s4 s5 : Value) (wr : World) : Prop :=
  ∃ (n : Nat) (a : Option Addr) (k c : Nat) (X : List Ix) (b : Option Addr) (c' : Nat) (L : List (List Nat)) (V : List Value), s6 = .int .i64 (n : Nat) ∧ s4 = .slice a k c ∧ s5 = .slice b k c' ∧ k = X.length ∧ k = L.length ∧ k + su = n ∧ n ≤ D.length ∧
    Hid (IOwn wr w.heap.size 55 (blk b) a c X) ∧ Hid (LOwn wr w.heap.size (blk a) b c' L V) ∧ Hid (its X = itemsN D su n) ∧ Hid (L = lackL P W H su n) ∧ Hid (Frm [] w wr)
def DiRel (w4 : World) (p : Nat → Bool) (qs : List Nat) (s9 s7 : Value) (z : World) : Prop :=
  ∃ (i : Nat) (b : Option Addr) (k c : Nat), s9 = .int .i64 (i : Nat) ∧ s7 = .slice b k c ∧ i ≤ qs.length ∧ k ≤ i ∧ Hid (k = (keepI p (qs.take i)).length) ∧ Hid (z.ownsRow w4.heap.size 3 1 (.slice b k c) k ((keepI p (qs.take i)).map ivl)) ∧ Hid (Frm [] w4 z)
set_option maxHeartbeats 8000000 in
theorem dwwaiting_any {w : World} {B pm : Nat} {F G : List Nat} {P W A : Nat} {D : List (List Nat)} {H : Nat → Nat → Bool} {su : Nat} {cl : Bool} (m : Dw w B pm F G P W A D H su cl) (hl : D.length ≤ 100000) :
    Calls Try.prog 42 #[.pointer (some ⟨pm, 0, none⟩)] w fun e w' => ∃ a c X b c' k, e = .returned (.tuple #[.slice a k c, .slice b k c']) ∧ k = D.length - su ∧ X.length = k ∧ its X = itemsN D su D.length ∧ IL w' [] a X ∧ PlIn w' [] b (lackL P W H su D.length) ∧ Frm [] w w' := by
  obtain ⟨i0, hinf, hz0, hz1, hz2⟩ := info_parts infoItW
  obtain ⟨j0, hjnf, hy0, hy1, hy2⟩ := info_parts infoIs
  obtain ⟨k0, hknf, hx0, hx1, hx2⟩ := info_parts infoInt
  have HINF := Lib.hid hinf
  have HJNF := Lib.hid hjnf
  have HKNF := Lib.hid hknf
  obtain ⟨co, hco⟩ : ∃ co, co = D.length := ⟨_, rfl⟩
  have hco20 : co ≤ 100000 := by omega
  obtain ⟨aD, cD, bH, eH, R, vs, hv, hG, hR, hL, hH⟩ := m.box
  have hplt := hv.lt
  have v3 : w.cell? ⟨pm, 3, none⟩ = some (.slice aD co cD) := by rw [hco]; exact hv.cell 3
  have v4 : w.cell? ⟨pm, 4, none⟩ = some (.slice bH co eH) := by rw [hco]; exact hv.cell 4
  have v5 : w.cell? ⟨pm, 5, none⟩ = some (.int .i64 (su : Nat)) := hv.cell 5
  have HR0 : Hid (DwaRel w P W D H su (.int .i64 (su : Nat)) (.slice none 0 0) (.slice none 0 0) w) := Lib.hid ⟨su, none, 0, 0, [], none, 0, [], [], rfl, rfl, rfl, rfl, rfl, Nat.zero_add _, m.su_le, Lib.hid (IOwn.nil _ _ _ _), Lib.hid (LOwn.nil _ _ _), Lib.hid (by rw [itemsN_self]; rfl), Lib.hid (lackL_self _ _ _ _).symm, Lib.hid (Frm.refl _ _)⟩
  have K : Hid (∀ y, Frm [] w y → y.cell? ⟨pm, 0, none⟩ = some (.int .i64 (P : Nat)) ∧ y.cell? ⟨pm, 1, none⟩ = some (.int .i64 (W : Nat)) ∧ y.cell? ⟨pm, 2, none⟩ = some (.int .i64 (A : Nat)) ∧ y.cell? ⟨pm, 3, none⟩ = some (.slice aD co cD) ∧ y.cell? ⟨pm, 4, none⟩ = some (.slice bH co eH)) := Lib.hid fun y hy => by
    have h := hy.whole hv (by simp)
    exact ⟨h.cell 0, h.cell 1, h.cell 2, by rw [hco]; exact h.cell 3, by rw [hco]; exact h.cell 4⟩
  have HCO := Lib.hid hco
  have HM := Lib.hid m
  have HR := Lib.hid hR
  have HL := Lib.hid hL
  have HH := Lib.hid hH
  clear m hv hG hR hL hH hinf hjnf hknf hco hl v3 v4
  go_enter Try.func42, Try.ntmps42
  go_wp2
  clear v5
  go_loopw [6, 4, 5] (fun s6 s4 s5 wr => DwaRel w P W D H su s6 s4 s5 wr) (fun s6 _ _ _ => co - (intOf s6).toNat)
  case atStart => exact HR0.out
  case round =>
    clear HR0
    obtain ⟨n, a, k, c, X, b, c', L, V, rfl, rfl, rfl, hkx, hkl, hks, hn2, HIO, HLO, HIT, HLA, HF⟩ := hrel
    rw [← HCO.out] at hn2
    obtain ⟨_, _, _, c3, _⟩ := K.out wr HF.out
    have hn1 : su ≤ n := by omega
    have HKX := Lib.hid hkx
    have HKL := Lib.hid hkl
    have HKS := Lib.hid hks
    have HN1 := Lib.hid hn1
    clear hkx hkl
    by_cases hlt : n < co
    · have d1 : decide ((n : Int) < (co : Int)) = true := decide_eq_true (by omega)
      have d2 : decide (n < co) = true := decide_eq_true hlt
      have hni : (n : Int) < (co : Int) := by omega
      have hkf : k ≤ 100000 := by omega
      have hwm : IntKind.i64.wrap ((n : Int) + 1) = ((n + 1 : Nat) : Int) := by rw [IntWalk.i64_in _ (by omega)]; rfl
      have hwu : IntKind.u64.wrap (n : Int) = (n : Int) := by rw [IntWalk.u64_in _ (by omega)]
      have HWM := Lib.hid hwm
      have HLT := Lib.hid hlt
      have hnD : n < D.length := by have := HCO.out; omega
      have hnR : n < R.length := by have := HR.out; omega
      obtain ⟨ga, oa, hga, ai, ci, hac0, hab0, _, han⟩ := HL.out.ll.at hnD
      have hac := (HF.out.cell (block_lt_of_cell hac0) (by simp)).trans hac0
      have hab := HF.out.bytes' hab0 (by simp)
      have HAI : Hid (∀ x, ai = some x → D.getD n [] ≠ [] → x.block < w.heap.size) := Lib.hid fun x hx hne => bytes_lt hab0 hne x hx
      subst hga
      obtain ⟨d, hd⟩ : ∃ d, d = D.getD n [] := ⟨_, rfl⟩
      rw [← hd] at hac hab HAI
      obtain ⟨dn, hdn⟩ : ∃ dn, dn = d.length := ⟨_, rfl⟩
      rw [← hdn] at hac
      have HD := Lib.hid hd
      have HDN := Lib.hid hdn
      obtain ⟨wA, hwA⟩ : ∃ wA, wA = wr.alloc (.cells #[.int .u64 (n : Nat), .slice ai dn ci] 55) := ⟨_, rfl⟩
      have hfA : Frm [] wr wA := by rw [hwA]; exact (Frm.refl _ _).alloc _
      have hwr := HF.out.size
      have hrl := hfA.size
      have hioA := HIO.out.keep (F' := blk b) hfA (by simp) (fun x hx => .inl hx)
      have hloA := HLO.out.keep (F' := blk a) hfA (by simp) (fun x hx => .inl hx)
      have HOWA : Hid (wA.ownsRow w.heap.size 55 2 (.slice a k c) k (ic X)) := Lib.hid (by have := hioA.own; rw [← HKX.out] at this; exact this)
      have HBA : Hid (w.heap.size ≤ wA.heap.size) := Lib.hid (by omega)
      have HVA : Hid (ValsAt wA (some ⟨wr.heap.size, 0, none⟩) (ic [⟨(n, d), ai, ci⟩])) := Lib.hid (by
        rw [hwA, show ic [⟨(n, d), ai, ci⟩] = [.int .u64 (n : Nat), .slice ai dn ci] from by rw [HDN.out]; rfl]
        exact two_vals _ _ _ _ _)
      have HQA : Hid (∀ (a' : Option Addr) (c1 : Nat) (w4 : World), AppS wA w4 w.heap.size 55 2 (.slice a k c) k 1 (ic X) (ic [⟨(n, d), ai, ci⟩]) a' c1 → IOwn w4 w.heap.size 55 (blk b) a' c1 (X ++ [⟨(n, d), ai, ci⟩]) ∧ LOwn w4 w.heap.size (blk a') b c' L V ∧ k + 1 = (X ++ [(⟨(n, d), ai, ci⟩ : Ix)]).length ∧ Frm [] w w4) := Lib.hid fun a' c1 w4 happ => by
        have hok : IOk wA (blk a ++ blk b) [⟨(n, d), ai, ci⟩] := by
          intro y hy
          simp only [List.mem_singleton] at hy
          subst hy
          refine ⟨hfA.bytes' hab (by simp), fun hne x hx hm => ?_, han, by show n < _; omega⟩
          have h1 := HAI.out x hx hne
          rcases List.mem_append.1 hm with h2 | h2
          · have := (HIO.out.blk_lt _ h2).1; omega
          · have := (HLO.out.blk_lt _ h2).1; omega
        obtain ⟨g1, g2, g3, g4⟩ := hioA.app HKX.out hok rfl (fun y hy => by have := (HLO.out.blk_lt _ hy).2; omega) happ
        exact ⟨g1, hloA.keep g2 (fun x hx => .inl hx) (fun x hx => g3 x hx), g4, (HF.out.trans hfA (U := []) (by simp) (by simp)).trans g2 (by simp) (fun x hx => .inr (HIO.out.blk_lt x hx).1)⟩
      have HWAE := Lib.hid hwA
      clear hwm hlt hd hdn hwA hfA hwr hrl hioA hloA hab hab0 hac0 han
      go_wp2_with (at_builtin; rw [← HWAE.out]; refine wpList_appS rfl (.tmp 23) (.tmp 34) 49 rfl w.heap.size 55 i0 (.agg #[.int .u64 0, .slice none 0 0]) 2 32 Try.underlying49 HINF.out hz0 rfl (by omega) hz1 hz2 (by omega) (.slice a k c) k (ic X) rfl HOWA.out (some ⟨wr.heap.size, 0, none⟩) 1 1 (ic [⟨(n, d), ai, ci⟩]) rfl HVA.out rfl (ic_one _) (fun h => by cases h) (by omega) HBA.out ?_)
      intro a' c1 w4 happ
      obtain ⟨g1, g2, g4, g5⟩ := HQA.out a' c1 w4 happ
      have HI4 := Lib.hid g1
      have HL4 := Lib.hid g2
      have HK4 := Lib.hid g4
      have HF4 := Lib.hid g5
      obtain ⟨e0, e1, e2, _, e4⟩ := K.out w4 g5
      have hq := HM.out.quo
      have HS := Lib.hid (fun z => rset_any P W A n z hq.1 hq.2.1 hq.2.2.2 hq.2.2.1 (by omega))
      unfold quV at HS
      have hW7 : W ≤ 7 := by omega
      clear happ g1 g2 g4 g5 HOWA HVA HBA HQA c3 hac hq
      go_wp2_with fail
      (with_reducible refine (HS.out _).mono ?_)
      rintro ex w5 ⟨aS, cS, rfl, his, hf5⟩
      have HIS := Lib.hid his
      have HF5 := Lib.hid hf5
      obtain ⟨qs, hqs⟩ : ∃ qs, qs = setN P W n := ⟨_, rfl⟩
      have hqW : qs.length = W := by rw [hqs]; exact setN_len P W n
      have HQW := Lib.hid hqW
      have HQP : Hid (∀ q ∈ qs, q < P) := Lib.hid fun q hqm => by
        rw [hqs] at hqm
        unfold setN at hqm
        obtain ⟨i, hi, rfl⟩ := List.mem_map.1 hqm
        exact plN_lt (by have := HM.out.quo; omega) _ _
      rw [← hqs] at HIS
      have HQS := Lib.hid hqs
      have HI0 : Hid (DiRel w5 (H n) qs (.int .i64 0) (.slice none 0 0) w5) := Lib.hid ⟨0, none, 0, 0, rfl, rfl, Nat.zero_le _, Nat.zero_le _, Lib.hid (by simp [keepI]), Lib.hid (by simpa [keepI] using World.ownsRow_nil _ _ _ _), Lib.hid (Frm.refl _ _)⟩
      have hw5 := HF4.out.trans hf5 (U := []) (by simp) (by simp)
      obtain ⟨gb, hgb, hrc⟩ := (HH.out.here hw5).at hnR
      have hrw := (HH.out.here hw5).row n hnR
      obtain ⟨rg, hrg⟩ : ∃ rg, rg = R.getD n 0 := ⟨_, rfl⟩
      rw [← hrg] at hrc hrw
      have HRC : Hid (∀ z, Frm [] w5 z → z.cell? ⟨pm, 4, none⟩ = some (.slice (some ⟨gb, 0, none⟩) co eH) ∧ z.cell? ⟨gb, n, none⟩ = some (.slice (some ⟨rg, 0, none⟩) P P) ∧ ∀ q, q < P → z.cell? ⟨rg, q, none⟩ = some (.bool (H n q))) := Lib.hid fun z hz => by
        refine ⟨?_, (hz.cell (block_lt_of_cell hrc) (by simp)).trans hrc, fun q hq => ?_⟩
        · obtain ⟨_, _, _, _, h4⟩ := K.out z (hw5.trans hz (U := []) (by simp) (by simp))
          rw [← hgb]; exact h4
        · exact ((hz.whole hrw (by simp)).cell q).trans (brow_at hq)
      clear his hf5 hqs hqW hw5 hgb hrc hrw hrg HS e0 e1 e2 e4 hnD hnR
      go_wp2
      go_loopw [9, 7] (fun s9 s7 z => DiRel w5 (H n) qs s9 s7 z) (fun s9 _ _ => W - (intOf s9).toNat)
      case atStart => exact HI0.out
      case round =>
        clear HI0
        obtain ⟨i, bl, kl, cl', rfl, rfl, hi, hki, HKI, HOI, HFZ⟩ := hrel
        rw [HQW.out] at hi
        by_cases hiw : i < W
        · have g1 : decide ((i : Int) < (W : Int)) = true := decide_eq_true (by omega)
          have g2 : decide (i < W) = true := decide_eq_true hiw
          have hiwi : (i : Int) < (W : Int) := by omega
          have hiq : i < qs.length := by rw [HQW.out]; exact hiw
          obtain ⟨bS, oS, hbs, hsc⟩ := (HIS.out.keep HFZ.out) i hiq
          subst hbs
          obtain ⟨r4, rn, rqa⟩ := HRC.out _ HFZ.out
          have hks := keepI_step (p := H n) hiq
          have hqm := HQP.out (qs.getD i 0) (by simp [hiq])
          obtain ⟨q, hq⟩ : ∃ q, q = qs.getD i 0 := ⟨_, rfl⟩
          rw [← hq] at hsc hks hqm
          have rq := rqa q hqm
          clear rqa
          obtain ⟨bo, hbo⟩ : ∃ bo, bo = H n q := ⟨_, rfl⟩
          rw [← hbo] at rq hks
          have hqi : (q : Int) < (P : Int) := by omega
          have HKS2 := Lib.hid hks
          have hwi : IntKind.i64.wrap ((i : Int) + 1) = ((i + 1 : Nat) : Int) := by rw [IntWalk.i64_in _ (by omega)]; rfl
          have HBO := Lib.hid hbo
          clear hks hq hbo
          go_upto_region 12 with fail
          obtain ⟨m, hm⟩ : ∃ m, m = i + 1 := ⟨_, rfl⟩
          rw [← hm] at hwi
          cases bo with
          | true =>
            go_region
            obtain ⟨wz, hwz⟩ : ∃ wz, wz = wr.drew := ⟨_, rfl⟩
            have hfz : Frm [] wr wz := by rw [hwz]; exact (Frm.refl _ _).drew
            rw [← hwz]
            clear hwz
            have HREL : Hid (DiRel w5 (H n) qs (.int .i64 (m : Nat)) (.slice bl kl cl') wz) := Lib.hid ⟨m, bl, kl, cl', rfl, rfl, by omega, by omega, Lib.hid (by rw [hm, HKS2.out, if_pos rfl]; exact HKI.out), Lib.hid (by rw [hm, HKS2.out, if_pos rfl]; exact hfz.own HOI.out (by simp)), Lib.hid (HFZ.out.trans hfz (by simp) (by simp))⟩
            have HMM : Hid (W - m < W - i) := Lib.hid (by omega)
            clear hm hfz r4 rn rq hsc
            go_wp2
            go_roundw
            case rel => exact HREL.out
            case measure => have := HMM.out; simpa [intOf] using this
          | false =>
            go_region
            obtain ⟨wz, hwz⟩ : ∃ wz, wz = wr.drew := ⟨_, rfl⟩
            have hfz : Frm [] wr wz := by rw [hwz]; exact (Frm.refl _ _).drew
            rw [← hwz]
            clear hwz
            obtain ⟨w6, hw6⟩ : ∃ w6, w6 = wz.alloc (.cells #[.int .i64 (q : Nat)] 3) := ⟨_, rfl⟩
            have hf6 : Frm [] wz w6 := by rw [hw6]; exact (Frm.refl _ _).alloc _
            have hr6 := hfz.trans hf6 (U := []) (by simp) (by simp)
            have HO6 := Lib.hid (hr6.own HOI.out (by simp))
            have HV6 : Hid (ValsAt w6 (some ⟨wz.heap.size, 0, none⟩) [ivl q]) := Lib.hid (by rw [hw6]; exact ValsAt.one _ _ _)
            have HB6 : Hid (w5.heap.size ≤ w6.heap.size) := Lib.hid (by have := HFZ.out.size; have := hr6.size; omega)
            have HNX : Hid (∀ (b' : Option Addr) (c2 : Nat) (w7 : World), AppV w6 w7 w5.heap.size 3 (.slice bl kl cl') kl 1 ((keepI (H n) (qs.take i)).map ivl) [ivl q] b' c2 → DiRel w5 (H n) qs (.int .i64 (m : Nat)) (.slice b' (kl + 1) c2) w7) := Lib.hid fun b' c2 w7 happ => by
              have hf7 : Frm (blk bl) w6 w7 := (Frm.refl _ _).grown happ.grown (fun x hx => .inl (ownBlk.1 hx))
              refine ⟨m, b', kl + 1, c2, rfl, rfl, by omega, by omega, Lib.hid (by rw [hm, HKS2.out, if_neg (by simp), List.length_append, ← HKI.out]; rfl), Lib.hid (by rw [hm, HKS2.out, if_neg (by simp), List.map_append]; exact happ.own), Lib.hid ((HFZ.out.trans hr6 (U := []) (by simp) (by simp)).trans hf7 (by simp) (fun x hx => .inr (World.ownsRow.lt HOI.out x (ownBlk.2 hx)).1))⟩
            have HW6 := Lib.hid hw6
            have HMM : Hid (W - m < W - i) := Lib.hid (by omega)
            have hscz := (hfz.cell (block_lt_of_cell hsc) (by simp)).trans hsc
            clear hm hfz r4 rn rq hsc hw6 hf6 hr6
            go_wp2_with (at_builtin; rw [← HW6.out]; refine wpList_appV rfl (.tmp 63) (.tmp 68) 52 rfl w5.heap.size 3 k0 (.int .i64 0) 8 Try.underlying52 HKNF.out hx0 rfl hx1 hx2 (by decide) (.slice bl kl cl') kl ((keepI (H n) (qs.take i)).map ivl) rfl HO6.out (some ⟨wz.heap.size, 0, none⟩) 1 1 [ivl q] rfl HV6.out rfl (by simp [Value.oneCell', ivl]) (fun h => by cases h) (by omega) HB6.out ?_)
            intro b' c2 w7 happ
            have HREL := Lib.hid (HNX.out b' c2 w7 happ)
            clear happ HNX HO6 HV6
            go_wp2
            go_roundw
            case rel => exact HREL.out
            case measure => have := HMM.out; simpa [intOf] using this
        · have g1 : decide ((i : Int) < (W : Int)) = false := decide_eq_false (by omega)
          have g2 : decide (i < W) = false := decide_eq_false hiw
          have htk : qs.take i = qs := List.take_of_length_le (by rw [HQW.out]; omega)
          have hki2 := HKI.out
          have hoi2 := HOI.out
          rw [htk] at hki2 hoi2
          obtain ⟨l, hl⟩ : ∃ l, l = keepI (H n) qs := ⟨_, rfl⟩
          rw [← hl] at hki2 hoi2
          obtain ⟨w7, hw7⟩ : ∃ w7, w7 = wr.alloc (.cells #[.slice bl kl cl'] 52) := ⟨_, rfl⟩
          have hf67 : Frm [] wr w7 := by rw [hw7]; exact (Frm.refl _ _).alloc _
          have hf47 : Frm [] w4 w7 := (HF5.out.trans HFZ.out (U := []) (by simp) (by simp)).trans hf67 (by simp) (by simp)
          have hl7 := HL4.out.keep (F' := blk a') hf47 (by simp) (fun x hx => .inl hx)
          have hi7 := HI4.out.keep (F' := blk b) hf47 (by simp) (fun x hx => .inl hx)
          have hs47 := hf47.size
          have hs45 := HF5.out.size
          have HOW7 : Hid (w7.ownsRow w.heap.size 52 1 (.slice b k c') k V) := Lib.hid (by have := hl7.own; rw [← HKL.out] at this; exact this)
          have HV7 : Hid (ValsAt w7 (some ⟨wr.heap.size, 0, none⟩) [.slice bl kl cl']) := Lib.hid (by rw [hw7]; exact ValsAt.one _ _ _)
          have HBS : Hid (w.heap.size ≤ w7.heap.size) := Lib.hid (by have := HF4.out.size; omega)
          have HNX : Hid (∀ (b' : Option Addr) (c2 : Nat) (w8 : World), AppV w7 w8 w.heap.size 52 (.slice b k c') k 1 V [.slice bl kl cl'] b' c2 → DwaRel w P W D H su (.int .i64 ((n + 1 : Nat) : Nat)) (.slice a' (k + 1) c1) (.slice b' (k + 1) c2) w8) := Lib.hid fun b' c2 w8 happ => by
            have hrow : LRow w7 (blk b ++ blk a') (.slice bl kl cl') l := by
              refine ⟨bl, cl', by rw [hki2], (own_iinI (base := w5.heap.size) (by unfold OwnI; rw [List.length_map, ← hki2]; exact hoi2)).keep hf67, fun _ x hx hmm => ?_⟩
              have h1 := (World.ownsRow.lt hoi2 x.block (by rw [hx]; rfl)).1
              rcases List.mem_append.1 hmm with h2 | h2
              · have := (HL4.out.blk_lt _ h2).2; omega
              · have := (HI4.out.blk_lt _ h2).2; omega
            obtain ⟨g1, g2, g3, g4⟩ := hl7.app HKL.out hrow (fun y hy => by have := (HI4.out.blk_lt _ hy).2; omega) happ
            have hi8 := hi7.keep (F' := blk b') g2 (fun x hx => .inl hx) (fun x hx => g3 x hx)
            refine ⟨n + 1, a', k + 1, c1, _, b', c2, _, _, rfl, rfl, rfl, HK4.out, g4, by have := HKS.out; omega, by have := HLT.out; have := HCO.out; omega, Lib.hid hi8, Lib.hid g1, Lib.hid ?_, Lib.hid ?_, Lib.hid ((HF4.out.trans hf47 (U := []) (by simp) (by simp)).trans g2 (by simp) (fun x hx => .inr (HL4.out.blk_lt x hx).1))⟩
            · rw [itemsN_succ D HN1.out, ← HIT.out, ← HD.out]; simp [its]
            · rw [lackL_succ P W H HN1.out, ← HQS.out, ← hl, ← HLA.out]
          have HW7 := Lib.hid hw7
          have HMM : Hid (co - (n + 1) < co - n) := Lib.hid (by have := HLT.out; omega)
          clear htk hki2 hoi2 hl hw7 hf67 hf47 hl7 hi7 hs47 hs45
          go_wp2_with (at_builtin; rw [← HW7.out]; refine wpList_appV rfl (.tmp 70) (.tmp 72) 106 rfl w.heap.size 52 j0 (.slice none 0 0) 24 Try.underlying106 HJNF.out hy0 rfl hy1 hy2 (by decide) (.slice b k c') k V rfl HOW7.out (some ⟨wr.heap.size, 0, none⟩) 1 1 [.slice bl kl cl'] rfl HV7.out rfl (by simp [Value.oneCell']) (fun h => by cases h) (by omega) HBS.out ?_)
          intro b' c2 w8 happ
          have HREL := Lib.hid (HNX.out b' c2 w8 happ)
          obtain ⟨m1, hm1⟩ : ∃ m1, m1 = n + 1 := ⟨_, rfl⟩
          have hwm := HWM.out
          rw [← hm1] at HREL hwm HMM
          clear happ hm1 HOW7 HV7 HNX
          go_wp2
          go_roundw
          case rel => exact HREL.out
          case measure => have := HMM.out; simpa [intOf] using this
    · obtain rfl : n = co := by omega
      have d1 : decide ((n : Int) < (n : Int)) = false := by simp
      have d2 : decide (n < n) = false := by simp
      have HE : Hid (∃ a2 c2 X2 b2 c3 k2, (Ending.returned (.tuple #[.slice a k c, .slice b k c'])) = .returned (.tuple #[.slice a2 k2 c2, .slice b2 k2 c3]) ∧ k2 = D.length - su ∧ X2.length = k2 ∧ its X2 = itemsN D su D.length ∧ IL wr [] a2 X2 ∧ PlIn wr [] b2 (lackL P W H su D.length) ∧ Frm [] w wr) := Lib.hid (by
        rw [← HCO.out]
        refine ⟨a, c, X, b, c', k, rfl, by omega, HKX.out.symm, HIT.out, (HIO.out.il.keep (F' := []) (Frm.refl [] _) (by simp) (by simp)), ?_, HF.out⟩
        rw [← HLA.out]
        exact (HLO.out.lin.keep (F' := []) (Frm.refl [] _) (by simp) (by simp)))
      clear hlt hks hn1 hn2
      go_wp2
      go_ret2
      exact HE.out
end Go.Proofs.Ytecfoomjpjcldaa
