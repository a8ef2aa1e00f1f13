/- Contracts of Close and Replace of the document's writer. -/
import Derived.Test.YtecfoomjpjcldaaDwAck
import Derived.Test.YtecfoomjpjcldaaWrRest
namespace Go.Proofs.Ytecfoomjpjcldaa
open Go.RowKit
set_option maxRecDepth 100000
def DwCloseEnd (w : World) (B pm : Nat) (F G : List Nat) (P W A : Nat) (D : List (List Nat)) (H : Nat → Nat → Bool) (su : Nat) (ex : Ending) (w' : World) : Prop :=
  (su < D.length ∧ ex = .returned (.tuple #[.int .u64 0, .int .i64 23]) ∧ Frm [] w w') ∨
  (¬ su < D.length ∧ ex = .returned (.tuple #[.int .u64 (D.length : Nat), .int .i64 0]) ∧ Frm (pm :: G) w w' ∧ Dw w' B pm F G P W A D H su true)
theorem dwclose_any {w : World} {B pm : Nat} {F G : List Nat} {P W A : Nat} {D : List (List Nat)} {H : Nat → Nat → Bool} {su : Nat} {cl : Bool} (m : Dw w B pm F G P W A D H su cl) (hl : D.length ≤ 100000) :
    Calls Try.prog 39 #[.pointer (some ⟨pm, 0, none⟩)] w (DwCloseEnd w B pm F G P W A D H su) := by
  obtain ⟨Q, hQ⟩ : ∃ Q, Q = DwCloseEnd w B pm F G P W A D H su := ⟨_, rfl⟩
  rw [← hQ]
  have hsu := m.su_le
  obtain ⟨a, c, b, e, R, vs, hv, hG, hR, hL, hH⟩ := m.box
  obtain ⟨co, hco⟩ : ∃ co, co = D.length := ⟨_, rfl⟩
  have c3 : w.cell? ⟨pm, 3, none⟩ = some (.slice a co c) := by rw [hco]; exact hv.cell 3
  have c5 : w.cell? ⟨pm, 5, none⟩ = some (.int .i64 (su : Nat)) := hv.cell 5
  by_cases hlt : su < co
  · have d1 : decide ((su : Int) < (co : Int)) = true := decide_eq_true (by omega)
    have d2 : decide (su < co) = true := decide_eq_true hlt
    have HE : Hid (∀ z, Frm [] w z → Q (.returned (.tuple #[.int .u64 0, .int .i64 23])) z) := Lib.hid fun z hz => by
      rw [hQ]; exact .inl ⟨by omega, rfl, hz⟩
    clear hQ m hv hG hR hL hH hco hlt hl hsu
    go_enter Try.func39, Try.ntmps39
    go_upto_region 1 with fail
    go_region
    go_wp2_with fail
    exact HE.out _ (by first | exact Frm.refl _ _ | exact (Frm.refl _ _).drew)
  · have d1 : decide ((su : Int) < (co : Int)) = false := decide_eq_false (by omega)
    have d2 : decide (su < co) = false := decide_eq_false hlt
    have hsc : su = D.length := by omega
    have c6 : w.cell? ⟨pm, 6, none⟩ = some (.bool cl) := hv.cell 6
    have f6 := hv.free 6
    have HE : Hid (∀ z, Frm [] w z → z.cell? ⟨pm, 6, none⟩ = some (.bool cl) ∧ z.frozen? ⟨pm, 6, none⟩ = false ∧ (z.setCell ⟨pm, 6, none⟩ (.bool true)).cell? ⟨pm, 5, none⟩ = some (.int .i64 (su : Nat)) ∧ Q (.returned (.tuple #[.int .u64 (su : Nat), .int .i64 0])) (z.setCell ⟨pm, 6, none⟩ (.bool true))) := Lib.hid fun z hz => by
      have h0 := hz.whole hv (by simp)
      have h1 := h0.put 6 (.bool true)
      have h2 : Whole (z.setCell ⟨pm, 6, none⟩ (.bool true)) pm 37 (dwC P W A D.length a c b e su true) := by simpa [dwC] using h1
      have hf : Frm [pm] w (z.setCell ⟨pm, 6, none⟩ (.bool true)) := (hz.weak (by simp)).setCell (.inl (by simp)) _
      refine ⟨h0.cell 6, h0.free 6, h2.cell 5, ?_⟩
      rw [hQ, hsc]
      rw [hsc] at h2
      exact .inr ⟨Nat.lt_irrefl _, rfl, hf.weak (fun x hx => .inl (by simp at hx; simp [hx])), ⟨a, c, b, e, R, vs, h2, hG, hR, hL.keep hf (fun x hx => .inl (by simp at hx; simp [hx])) (fun x hx => .inl hx), hH.keep hf (fun x hx => .inl (by simp at hx; simp [hx])) (fun x hx => .inl hx)⟩, m.quo, Nat.le_refl _, m.out⟩
    have hwu : IntKind.u64.wrap (su : Int) = (su : Int) := by rw [IntWalk.u64_in _ (by omega)]
    have hplt := hv.lt
    clear hQ m hv hG hR hL hH hco hlt hl hsu hsc c6 f6
    go_enter Try.func39, Try.ntmps39
    go_upto_region 1 with fail
    go_region
    obtain ⟨c6, f6, c5', HF⟩ := HE.out w.drew (Frm.refl _ _).drew
    clear HE
    have HF := Lib.hid HF
    generalize w.drew = wd at c6 f6 c5' HF ⊢
    go_wp2
    exact HF.out
theorem hasDrop_skip {P W : Nat} {H : Nat → Nat → Bool} {su n : Nat} {pl : Int} (h : hasI (setN P W n) pl = false) : hasDrop P W H su (n + 1) pl = hasDrop P W H su n pl := by
  funext i j
  unfold hasDrop
  by_cases hi : i = n
  · subst hi
    rw [if_neg (fun h' => by rw [h] at h'; exact absurd h'.2.2.1 (by simp)), if_neg (fun h' => by rw [h] at h'; exact absurd h'.2.2.1 (by simp))]
  · by_cases h2 : su ≤ i ∧ i < n ∧ hasI (setN P W i) pl = true ∧ (j : Int) = pl
    · rw [if_pos h2, if_pos ⟨h2.1, by omega, h2.2.2⟩]
    · rw [if_neg h2, if_neg (fun h => h2 ⟨h.1, by omega, h.2.2⟩)]
theorem hasDrop_next {P W : Nat} {H : Nat → Nat → Bool} {su n pn : Nat} (hn1 : su ≤ n) (h : hasI (setN P W n) (pn : Int) = true) :
    (fun k => if k = n then (fun q => if q = pn then false else hasDrop P W H su n (pn : Int) n q) else hasDrop P W H su n (pn : Int) k) = hasDrop P W H su (n + 1) (pn : Int) := by
  funext i j
  by_cases hi : i = n
  · subst hi
    rw [if_pos rfl]
    by_cases hj : j = pn
    · subst hj
      simp only [if_pos]
      unfold hasDrop
      rw [if_pos ⟨hn1, by omega, h, rfl⟩]
    · simp only [if_neg hj]
      unfold hasDrop
      rw [if_neg (fun h2 => by omega), if_neg (fun h2 => by omega)]
  · rw [if_neg hi]
    unfold hasDrop
    by_cases h2 : su ≤ i ∧ i < n ∧ hasI (setN P W i) (pn : Int) = true ∧ (j : Int) = (pn : Int)
    · rw [if_pos h2, if_pos ⟨h2.1, by omega, h2.2.2⟩]
    · rw [if_neg h2, if_neg (fun h => h2 ⟨h.1, by omega, h.2.2⟩)]
def DrRel (w : World) (B pm : Nat) (F G : List Nat) (P W A : Nat) (D : List (List Nat)) (H : Nat → Nat → Bool) (su : Nat) (cl : Bool) (pl : Int) (s6 s5 : Value) (wr : World) : Prop :=
  ∃ (n : Nat) (a : Option Addr) (k c : Nat) (L : List Nat), s6 = .int .i64 (n : Nat) ∧ s5 = .slice a k c ∧ k = L.length ∧ su ≤ n ∧ n ≤ D.length ∧ k ≤ n ∧ Hid (L = mustN P W su n pl) ∧ Hid (wr.ownsRow w.heap.size 39 1 (.slice a k c) k (uvW L)) ∧ Hid (Dw wr B pm (blk a ++ F) G P W A D (hasDrop P W H su n pl) su cl) ∧ Hid (Frm (pm :: G) w wr)
set_option maxHeartbeats 8000000 in
theorem dwreplace_any {w : World} {B pm : Nat} {F G : List Nat} {P W A : Nat} {D : List (List Nat)} {H : Nat → Nat → Bool} {su : Nat} {cl : Bool} (pl : Int) (m : Dw w B pm F G P W A D H su cl) (hl : D.length ≤ 100000) :
    Calls Try.prog 37 #[.pointer (some ⟨pm, 0, none⟩), .int .i64 pl] w fun ex w' => ∃ a c, ex = .returned (.slice a (mustN P W su D.length pl).length c) ∧ ValsAt w' a (uvW (mustN P W su D.length pl)) ∧ Dw w' B pm F G P W A D (hasDrop P W H su D.length pl) su cl ∧ Frm (pm :: G) w w' := by
  obtain ⟨i0, hinf, hz0, hz1, hz2⟩ := info_parts infoU64
  have HINF := Lib.hid hinf
  obtain ⟨co, hco⟩ : ∃ co, co = D.length := ⟨_, rfl⟩
  have hco20 : co ≤ 100000 := by omega
  obtain ⟨a, c, b, e, R, vs, hv, hG, hR, hL, hH⟩ := m.box
  have c5 : w.cell? ⟨pm, 5, none⟩ = some (.int .i64 (su : Nat)) := hv.cell 5
  have hdrop0 : hasDrop P W H su su pl = H := by funext i j; unfold hasDrop; rw [if_neg (by omega)]
  have HR0 : Hid (DrRel w B pm F G P W A D H su cl pl (.int .i64 (su : Nat)) (.slice none 0 0) w) := Lib.hid ⟨su, none, 0, 0, [], rfl, rfl, rfl, Nat.le_refl _, m.su_le, Nat.zero_le _, Lib.hid (mustN_self _ _ _ _).symm, Lib.hid (World.ownsRow_nil _ _ _ _), Lib.hid (by rw [hdrop0]; exact m), Lib.hid (Frm.refl _ _)⟩
  have HCO := Lib.hid hco
  clear m hv hG hR hL hH hdrop0 hinf hco hl
  go_enter Try.func37, Try.ntmps37
  go_wp2
  clear c5
  go_loopw [6, 5] (fun s6 s5 wr => DrRel w B pm F G P W A D H su cl pl s6 s5 wr) (fun s6 _ _ => co - (intOf s6).toNat)
  case atStart => exact HR0.out
  case round =>
    clear HR0
    obtain ⟨n, ax, k, cx, L, rfl, rfl, hk, hn1, hn2, hkn, HL, HO, HDW, HF⟩ := hrel
    rw [← HCO.out] at hn2
    obtain ⟨a, c, b, e, R, vs, hv, hG, hR, hL, hH⟩ := HDW.out.box
    have hplt := hv.lt
    have c3 : wr.cell? ⟨pm, 3, none⟩ = some (.slice a co c) := by rw [HCO.out]; exact hv.cell 3
    have HK := Lib.hid hk
    by_cases hlt : n < co
    · have d1 : decide ((n : Int) < (co : Int)) = true := decide_eq_true (by omega)
      have d2 : decide (n < co) = true := decide_eq_true hlt
      have hni : (n : Int) < (co : Int) := by omega
      have hn64 : n < 18446744073709551616 := by omega
      have c0 : wr.cell? ⟨pm, 0, none⟩ = some (.int .i64 (P : Nat)) := hv.cell 0
      have c1 : wr.cell? ⟨pm, 1, none⟩ = some (.int .i64 (W : Nat)) := hv.cell 1
      have c2 : wr.cell? ⟨pm, 2, none⟩ = some (.int .i64 (A : Nat)) := hv.cell 2
      have hq := HDW.out.quo
      have HSET := Lib.hid (rset_any P W A n wr hq.1 hq.2.1 hq.2.2.2 hq.2.2.1 hn64)
      unfold quV at HSET
      have HSL : Hid (W = (setN P W n).length) := Lib.hid (setN_len P W n).symm
      have hW7 : W ≤ 7 := by omega
      have hwm : IntKind.i64.wrap ((n : Int) + 1) = ((n + 1 : Nat) : Int) := by rw [IntWalk.i64_in _ (by omega)]; rfl
      have hwu : IntKind.u64.wrap (n : Int) = (n : Int) := by rw [IntWalk.u64_in _ (by omega)]
      have HWM := Lib.hid hwm
      obtain ⟨g, hg⟩ : ∃ g, g = hasI (setN P W n) pl := ⟨_, rfl⟩
      have HGI := Lib.hid hg
      have HLT := Lib.hid hlt
      have HV := Lib.hid hv
      have HG := Lib.hid hG
      have HR := Lib.hid hR
      have HLL := Lib.hid hL
      have HH := Lib.hid hH
      clear hk hg hwm hlt hv hG hR hL hH hq
      go_wp2_with fail
      (with_reducible refine HSET.out.mono ?_)
      rintro ex w1 ⟨aS, cS, rfl, his, hf1⟩
      have HIN := Lib.hid (inI_any aS W cS pl (setN P W n) w1 his HSL.out (by rw [← HSL.out]; omega))
      rw [← HGI.out] at HIN
      have HF1 := Lib.hid hf1
      clear his HSET c0 c1 c2
      go_wp2_with fail
      (with_reducible refine HIN.out.mono ?_)
      rintro ex w9 ⟨rfl, hw9⟩
      rw [hw9]
      clear hw9 w9 HIN
      cases g with
      | false =>
        obtain ⟨m, hm⟩ : ∃ m, m = n + 1 := ⟨_, rfl⟩
        have hwm := HWM.out
        rw [← hm] at hwm
        have HREL : Hid (DrRel w B pm F G P W A D H su cl pl (.int .i64 (m : Nat)) (.slice ax k cx) w1) := Lib.hid ⟨m, ax, k, cx, L, rfl, rfl, HK.out, by omega, by rw [← HCO.out]; have := HLT.out; omega, by omega, Lib.hid (by rw [hm, mustN_succ P W pl hn1, if_neg (by rw [← HGI.out]; simp), List.append_nil]; exact HL.out), Lib.hid (hf1.own HO.out (by simp)), Lib.hid (by rw [hm, hasDrop_skip HGI.out.symm]; exact HDW.out.here hf1), Lib.hid (HF.out.trans hf1 (fun x hx => hx) (by simp))⟩
        have HMM : Hid (co - m < co - n) := Lib.hid (by have := HLT.out; omega)
        clear hm hf1 hwu c3
        go_wp2
        go_roundw
        case rel => exact HREL.out
        case measure => have := HMM.out; simpa [intOf] using this
      | true =>
        obtain ⟨pn, hpl, hpn⟩ : ∃ pn : Nat, pl = (pn : Int) ∧ pn < P := by
          have hh := HGI.out.symm
          unfold hasI at hh
          rw [List.any_eq_true] at hh
          obtain ⟨x, hx, he⟩ := hh
          rw [beq_iff_eq] at he
          refine ⟨x, he.symm, ?_⟩
          unfold setN at hx
          obtain ⟨i, hi, rfl⟩ := List.mem_map.1 hx
          exact plN_lt (by have := HDW.out.quo; omega) _ _
        subst hpl
        have hpni : (pn : Int) < (P : Int) := by omega
        have hv1 := hf1.whole HV.out (by simp)
        have hH1 := HH.out.here hf1
        have hL1 := HLL.out.keep hf1 (F' := pm :: (blk b ++ (R ++ (blk ax ++ F)))) (by simp) (fun x hx => .inl hx)
        have hnR : n < R.length := by have := HR.out; have := HCO.out; have := HLT.out; omega
        obtain ⟨gb, hgb, hrc⟩ := hH1.at hnR
        have hrw := hH1.row n hnR
        have HFL := Lib.hid (dw_flag hv1 HR.out hL1 hH1 HDW.out.quo HDW.out.su_le HDW.out.out (i := n) (by have := HCO.out; have := HLT.out; omega) pn false)
        rw [hasDrop_next hn1 HGI.out.symm, ← HG.out] at HFL
        have hrgG : R.getD n 0 ∈ G ∧ R.getD n 0 ∉ blk ax := by
          refine ⟨by rw [HG.out]; simp [hnR], fun hm => (HH.out.out _ (getD_mem hnR)).2.2 (by simp only [List.mem_cons, List.mem_append]; exact .inr (.inr (.inl hm)))⟩
        obtain ⟨rg, hrg⟩ : ∃ rg, rg = R.getD n 0 := ⟨_, rfl⟩
        rw [← hrg] at hrc hrw HFL hrgG
        have y4 : w1.cell? ⟨pm, 4, none⟩ = some (.slice (some ⟨gb, 0, none⟩) co e) := by rw [HCO.out, ← hgb]; exact hv1.cell 4
        have y5 : w1.cell? ⟨rg, pn, none⟩ = some (.bool (hasDrop P W H su n (pn : Int) n pn)) := (hrw.cell pn).trans (brow_at hpn)
        obtain ⟨bo, hbo⟩ : ∃ bo, bo = hasDrop P W H su n (pn : Int) n pn := ⟨_, rfl⟩
        rw [← hbo] at y5
        have z5 := hrw.free pn
        obtain ⟨w2, hw2⟩ : ∃ w2, w2 = w1.setCell ⟨rg, pn, none⟩ (.bool false) := ⟨_, rfl⟩
        rw [← hw2] at HFL
        have hf2 : Frm [rg] wr w2 := by rw [hw2]; exact (hf1.weak (by simp)).setCell (.inl (by simp)) _
        have ho2 := hf2.own HO.out (fun g hg hm => hrgG.2 (by simp at hm; subst hm; exact ownBlk.1 hg))
        obtain ⟨w3, hw3⟩ : ∃ w3, w3 = w2.alloc (.cells #[.int .u64 (n : Nat)] 39) := ⟨_, rfl⟩
        have hf3 : Frm [] w2 w3 := by rw [hw3]; exact (Frm.refl _ _).alloc _
        have HO3 := Lib.hid (hf3.own ho2 (by simp))
        have HV3 : Hid (ValsAt w3 (some ⟨w1.heap.size, 0, none⟩) (uvW [n])) := Lib.hid (by rw [show w1.heap.size = w2.heap.size by rw [hw2]; simp, hw3]; exact ValsAt.one _ _ _)
        have HSZ : Hid (w.heap.size ≤ w3.heap.size) := Lib.hid (by have h1 := HF.out.size; have h2 := hf2.size; have h3 := hf3.size; omega)
        have HNX : Hid (∀ (a' : Option Addr) (c' : Nat) (w4 : World), AppV w3 w4 w.heap.size 39 (.slice ax k cx) k 1 (uvW L) (uvW [n]) a' c' → DrRel w B pm F G P W A D H su cl (pn : Int) (.int .i64 ((n + 1 : Nat) : Nat)) (.slice a' (k + 1) c') w4) := Lib.hid fun a' c' w4 happ => by
          have hbl : ∀ x ∈ blk ax, w.heap.size ≤ x := fun x hx => (World.ownsRow.lt HO.out x (ownBlk.2 hx)).1
          have hf4 : Frm (blk ax) w3 w4 := (Frm.refl _ _).grown happ.grown (fun x hx => .inl (ownBlk.1 hx))
          have hnew : ∀ x ∈ blk a', x ∈ blk ax ∨ w3.heap.size ≤ x := fun x hx => by
            have hg' := (ownBlk (n := k + 1) (c := c')).2 hx
            rcases happ.place with h1 | h1
            · exact .inl (ownBlk.1 (h1 ▸ hg'))
            · rw [hg'] at h1; cases h1; exact .inr (Nat.le_refl _)
          have hq3 := HFL.out.here hf3
          refine ⟨n + 1, a', k + 1, c', L ++ [n], rfl, rfl, by rw [List.length_append, ← HK.out]; rfl, by omega, by rw [← HCO.out]; have := HLT.out; omega, by omega, Lib.hid (by rw [mustN_succ P W (pn : Int) hn1, if_pos HGI.out.symm, ← HL.out]), Lib.hid (by have := happ.own; simpa [uvW] using this), Lib.hid ?_, Lib.hid ?_⟩
          · refine hq3.keep hf4 (fun x hx => .inl (List.mem_append_left _ hx)) (fun x hx => ?_)
            rcases List.mem_append.1 hx with h1 | h1
            · exact (hnew x h1).imp (List.mem_append_left _) (fun h => h)
            · exact .inl (List.mem_append_right _ h1)
          · exact ((HF.out.trans hf2 (fun x hx => hx) (fun x hx => .inl (by simp only [List.mem_singleton] at hx; subst hx; exact List.mem_cons_of_mem _ hrgG.1))).trans hf3 (fun x hx => hx) (by simp)).trans hf4 (fun x hx => hx) (fun x hx => .inr (hbl x hx))
        have HW3 := Lib.hid hw3
        have HW2 := Lib.hid hw2
        have HMM : Hid (co - (n + 1) < co - n) := Lib.hid (by have := HLT.out; omega)
        have hkfit : k + 1 ≤ 1000000000 := by omega
        clear hv1 hH1 hL1 hnR hgb hrw HFL hrg hrgG hbo hf1 hf2 ho2 hf3 hw2 hw3 hpn c3
        go_wp2_with (at_builtin; (rw [← HW2.out, ← HW3.out]; refine wpList_appV rfl (.tmp 38) (.tmp 41) 102 rfl w.heap.size 39 i0 (.int .u64 0) 8 Try.underlying102 HINF.out hz0 rfl hz1 hz2 (by decide) (.slice ax k cx) k (uvW L) rfl HO3.out (some ⟨w1.heap.size, 0, none⟩) 1 1 (uvW [n]) rfl HV3.out rfl (uvW_one _) (fun h => by cases h) hkfit HSZ.out ?_))
        intro a' c' w4 happ
        have HREL := Lib.hid (HNX.out a' c' w4 happ)
        obtain ⟨m, hm⟩ : ∃ m, m = n + 1 := ⟨_, rfl⟩
        have hwm := HWM.out
        rw [← hm] at HREL hwm HMM
        clear happ hm HO3 HV3 y4 y5 z5 hrc
        go_wp2
        go_roundw
        case rel => exact HREL.out
        case measure => have := HMM.out; simpa [intOf] using this
    · obtain rfl : n = co := by omega
      have d1 : decide ((n : Int) < (n : Int)) = false := by simp
      have d2 : decide (n < n) = false := by simp
      have HEND : Hid (∀ z, Frm [] wr z → ∃ a c, (Ending.returned (.slice ax k cx)) = .returned (.slice a (mustN P W su D.length pl).length c) ∧ ValsAt z a (uvW (mustN P W su D.length pl)) ∧ Dw z B pm F G P W A D (hasDrop P W H su D.length pl) su cl ∧ Frm (pm :: G) w z) := Lib.hid fun z hz => by
        have hkl := HK.out
        have hll := HL.out
        rw [HCO.out] at hll
        refine ⟨ax, cx, by rw [hkl, hll], ?_, ?_, HF.out.trans hz (fun x hx => hx) (by simp)⟩
        · rw [← hll]; exact (own_vals (hz.own HO.out (by simp)))
        · have h1 := (HDW.out.here hz).keep (Frm.refl [] _) (F' := F) (by simp) (fun x hx => .inl (by simp [hx]))
          rw [HCO.out] at h1; exact h1
      clear hv hG hR hL hH
      go_wp2
      go_ret
      exact HEND.out _ (Frm.refl _ _)
end Go.Proofs.Ytecfoomjpjcldaa
