/- Contract of Ack of the document's writer. Written by wip/mk-dwack.py. -/
import Derived.Test.YtecfoomjpjcldaaDw
import Derived.Deep.Cut
import Derived.Deep.CutRange
namespace Go.Proofs.Ytecfoomjpjcldaa
open Go.RowKit
set_option maxRecDepth 100000
def InRelI (l : List Nat) (p : Int) (s5 : Value) (w wr : World) : Prop := ∃ k : Nat, k ≤ l.length ∧ s5 = .int .i64 (k : Nat) ∧ (∀ i, i < k → ((l.getD i 0 : Nat) : Int) ≠ p) ∧ wr = w
theorem hasI_yes {l : List Nat} {p : Int} {k : Nat} (hk : k < l.length) (h : ((l.getD k 0 : Nat) : Int) = p) : hasI l p = true := by
  unfold hasI
  rw [List.any_eq_true]
  exact ⟨l.getD k 0, by simp [hk], by simpa using h⟩
theorem hasI_no {l : List Nat} {p : Int} (h : ∀ i, i < l.length → ((l.getD i 0 : Nat) : Int) ≠ p) : hasI l p = false := by
  unfold hasI
  rw [List.any_eq_false]
  intro x hx
  obtain ⟨i, hi, rfl⟩ := List.getElem_of_mem hx
  have := h i hi
  simpa [hi] using this
set_option maxHeartbeats 2000000 in
theorem inI_any (a : Option Addr) (n cap : Nat) (p : Int) (l : List Nat) (w : World) (h : IIn w a l) (hn : n = l.length) (hl : l.length ≤ 1000) :
    Calls Try.prog 18 #[.slice a n cap, .int .i64 p] w fun x w' => x = .returned (.bool (hasI l p)) ∧ w' = w := by
  have HN := Lib.hid hn; clear hn
  have H := Lib.hid h; clear h
  have HR0 : Hid (InRelI l p (.int .i64 (0 : Nat)) w w) := Lib.hid ⟨0, Nat.zero_le _, rfl, fun i hi => absurd hi (by omega), rfl⟩
  go_enter Try.func18, Try.ntmps18
  go_wp2
  go_loopw [5] (fun s5 wr => InRelI l p s5 w wr) (fun s5 _ => l.length - (intOf s5).toNat)
  case atStart => exact HR0.out
  case round =>
    clear HR0
    obtain ⟨k, hk, rfl, hall, rfl⟩ := hrel
    have HALL := Lib.hid hall; clear hall
    by_cases hlt : k < n
    · have hlt' : k < l.length := by rw [← HN.out]; exact hlt
      obtain ⟨b, off, rfl, hc⟩ := H.out k hlt'
      obtain ⟨q, hq⟩ : ∃ q, q = l.getD k 0 := ⟨_, rfl⟩
      rw [← hq] at hc
      have HQ := Lib.hid hq; clear hq
      by_cases hqp : (q : Int) = p
      · subst hqp
        have hd : ((q : Int) == (q : Int)) = true := by simp
        have HC := Lib.hid (hasI_yes hlt' (by rw [← HQ.out] : ((l.getD k 0 : Nat) : Int) = (q : Int)))
        go_wp2
        go_ret
        exact ⟨by rw [HC.out]; rfl, rfl⟩
      · have hd : ((q : Int) == p) = false := by simpa using hqp
        go_wp2
        go_roundw
        case rel =>
          refine ⟨k + 1, hlt', by go_num, fun i hi => ?_, rfl⟩
          by_cases hik : i = k
          · rw [hik, ← HQ.out]; exact hqp
          · exact HALL.out i (by omega)
        case measure => simp [intOf]; omega
    · have HC := Lib.hid (hasI_no (l := l) (p := p) (fun i hi => HALL.out i (by have := HN.out; omega)))
      go_wp2
      go_ret
      exact ⟨by rw [HC.out]; rfl, rfl⟩
/-- One flag of who has what. -/
theorem dw_flag {w : World} {B pm : Nat} {F R : List Nat} {P W A : Nat} {D : List (List Nat)} {H : Nat → Nat → Bool} {su : Nat} {cl : Bool} {a b : Option Addr} {c e : Nat} {vs : List Value} (hv : Whole w pm 37 (dwC P W A D.length a c b e su cl)) (hR : R.length = D.length)
    (hL : OwnL w B 38 (pm :: (blk b ++ (R ++ F))) a c D vs) (hH : HR w B (pm :: (blk a ++ F)) b e P R H) (quo : 1 ≤ A ∧ A ≤ W ∧ W ≤ P ∧ P ≤ 7) (su_le : su ≤ D.length) (out : pm ∉ F) {i : Nat} (hi : i < D.length) (j : Nat) (v : Bool) :
    Dw (w.setCell ⟨R.getD i 0, j, none⟩ (.bool v)) B pm F (blk a ++ (blk b ++ R)) P W A D (fun k => if k = i then (fun q => if q = j then v else H i q) else H k) su cl := by
  have hiR : i < R.length := by omega
  have hm := getD_mem hiR
  have hf : Frm [R.getD i 0] w (w.setCell ⟨R.getD i 0, j, none⟩ (.bool v)) := (Frm.refl _ _).setCell (.inl (by simp)) _
  have hne : pm ≠ R.getD i 0 := fun h => (hH.out _ hm).2.2 (by simp [h])
  have hrow := (hH.row i hiR).put j (.bool v)
  rw [brow_set] at hrow
  exact ⟨⟨a, c, b, e, R, vs, hv.other (p := ⟨R.getD i 0, j, none⟩) hne _, rfl, hR, hL.keep hf (fun x hx => .inl (by simp only [List.mem_singleton] at hx; subst hx; simp only [List.mem_cons, List.mem_append]; exact .inr (.inr (.inl hm)))) (fun x hx => .inl hx), hH.set hiR hf hrow⟩, quo, su_le, out⟩
/-- How many are confirmed, written. -/
theorem dw_sure {w : World} {B pm : Nat} {F G : List Nat} {P W A : Nat} {D : List (List Nat)} {H : Nat → Nat → Bool} {su s : Nat} {cl : Bool} (m : Dw w B pm F G P W A D H su cl) (hs : s < D.length) : Dw (w.setCell ⟨pm, 5, none⟩ (.int .i64 ((s + 1 : Nat) : Int))) B pm F G P W A D H (s + 1) cl := by
  obtain ⟨a, c, b, e, R, vs, hv, hG, hR, hL, hH⟩ := m.box
  have hf : Frm [pm] w (w.setCell ⟨pm, 5, none⟩ (.int .i64 ((s + 1 : Nat) : Int))) := (Frm.refl _ _).setCell (.inl (by simp)) _
  have h1 := hv.put 5 (.int .i64 ((s + 1 : Nat) : Int))
  exact ⟨⟨a, c, b, e, R, vs, by simpa [dwC] using h1, hG, hR, hL.keep hf (fun x hx => .inl (by simp at hx; simp [hx])) (fun x hx => .inl hx), hH.keep hf (fun x hx => .inl (by simp at hx; simp [hx])) (fun x hx => .inl hx)⟩, m.quo, hs, m.out⟩
theorem hasAdd_eq (H : Nat → Nat → Bool) (n pn : Nat) : (fun k => if k = n then (fun q => if q = pn then true else H n q) else H k) = hasAdd H n pn := by
  funext k q
  unfold hasAdd
  by_cases hk : k = n
  · subst hk; by_cases hq : q = pn
    · simp [hq]
    · simp [hq]
  · simp [hk]
def DaRel (w0 : World) (B pm : Nat) (F G : List Nat) (P W A : Nat) (D : List (List Nat)) (H : Nat → Nat → Bool) (su : Nat) (cl : Bool) (s7 : Value) (wr : World) : Prop :=
  ∃ (s : Nat) (a : Option Addr) (k c : Nat) (X : List Ix), s7 = .slice a k c ∧ k = X.length ∧ k + su = s ∧ s ≤ D.length ∧ Hid (IOwn wr w0.heap.size 55 [pm] a c X) ∧ Hid (its X = itemsN D su s) ∧ Hid (∀ i, su ≤ i → i < s → okN P W A H i = true) ∧ Hid (Dw wr B pm (blk a ++ F) G P W A D H s cl) ∧ Hid (Frm (pm :: G) w0 wr)
def DwAckEnd (w : World) (B pm : Nat) (F G : List Nat) (P W A : Nat) (D : List (List Nat)) (H : Nat → Nat → Bool) (su : Nat) (cl : Bool) (pl : Int) (n : Nat) (ex : Ending) (w' : World) : Prop :=
  ((n < su ∨ D.length ≤ n ∨ hasI (setN P W n) pl = false) ∧ ex = .returned (.slice none 0 0) ∧ Frm [] w w') ∨
  (su ≤ n ∧ n < D.length ∧ hasI (setN P W n) pl = true ∧ ∃ pn : Nat, pl = (pn : Int) ∧ pn < P ∧ ∃ (s : Nat) (a : Option Addr) (c : Nat) (X : List Ix), ex = .returned (.slice a X.length c) ∧ su ≤ s ∧ s ≤ D.length ∧ its X = itemsN D su s ∧ (∀ i, su ≤ i → i < s → okN P W A (hasAdd H n pn) i = true) ∧ (s < D.length → okN P W A (hasAdd H n pn) s = false) ∧ IL w' [] a X ∧ Dw w' B pm F G P W A D (hasAdd H n pn) s cl ∧ Frm (pm :: G) w w')
set_option maxHeartbeats 16000000 in
theorem dwack_any {w : World} {B pm : Nat} {F G : List Nat} {P W A : Nat} {D : List (List Nat)} {H : Nat → Nat → Bool} {su : Nat} {cl : Bool} (pl : Int) (n : Nat) (m : Dw w B pm F G P W A D H su cl) (hl : D.length ≤ 100000) (hF : ∀ x ∈ F, x < w.heap.size) (hn : n < 18446744073709551616) :
    Calls Try.prog 40 #[.pointer (some ⟨pm, 0, none⟩), .int .i64 pl, .int .u64 (n : Nat)] w (DwAckEnd w B pm F G P W A D H su cl pl n) := by
  obtain ⟨i0, hinf, hz0, hz1, hz2⟩ := info_parts infoItW
  obtain ⟨Q, hQ⟩ : ∃ Q, Q = DwAckEnd w B pm F G P W A D H su cl pl n := ⟨_, rfl⟩
  rw [← hQ]
  have BAD : Hid ((n < su ∨ D.length ≤ n ∨ hasI (setN P W n) pl = false) → ∀ z, Frm [] w z → Q (.returned (.slice none 0 0)) z) := Lib.hid fun hb z hz => by
    rw [hQ]
    exact .inl ⟨hb, rfl, hz⟩
  have hsu := m.su_le
  obtain ⟨a, c, b, e, R, vs, hv, hG, hR, hL, hH⟩ := m.box
  obtain ⟨co, hco⟩ : ∃ co, co = D.length := ⟨_, rfl⟩
  have c0 : w.cell? ⟨pm, 0, none⟩ = some (.int .i64 (P : Nat)) := hv.cell 0
  have c1 : w.cell? ⟨pm, 1, none⟩ = some (.int .i64 (W : Nat)) := hv.cell 1
  have c2 : w.cell? ⟨pm, 2, none⟩ = some (.int .i64 (A : Nat)) := hv.cell 2
  have c3 : w.cell? ⟨pm, 3, none⟩ = some (.slice a co c) := by rw [hco]; exact hv.cell 3
  have c5 : w.cell? ⟨pm, 5, none⟩ = some (.int .i64 (su : Nat)) := hv.cell 5
  have hw1 : IntKind.u64.wrap (su : Int) = (su : Int) := by rw [IntWalk.u64_in _ (by omega)]
  have hw2 : IntKind.u64.wrap (co : Int) = (co : Int) := by rw [IntWalk.u64_in _ (by omega)]
  rw [← hco] at BAD
  have HCO := Lib.hid hco
  have hco20 : co ≤ 100000 := by omega
  have HSU : Hid (su ≤ co) := Lib.hid (by omega)
  have HM := Lib.hid m
  have HV := Lib.hid hv
  have HG := Lib.hid hG
  have HR0 := Lib.hid hR
  have HL := Lib.hid hL
  have HH := Lib.hid hH
  have HLOW := Lib.hid hF
  have HQ := Lib.hid hQ
  have hq := m.quo
  have HSET := Lib.hid (fun z => rset_any P W A n z hq.1 hq.2.1 hq.2.2.2 hq.2.2.1 hn)
  unfold quV at HSET
  have HSL : Hid (W = (setN P W n).length) := Lib.hid (setN_len P W n).symm
  have hW7 : W ≤ 7 := by omega
  have hplt := hv.lt
  clear hco hsu m hv hG hR hL hH hF hQ hl hq
  by_cases hn1 : n < su
  · have HX := Lib.hid (BAD.out (.inl hn1))
    have e1 : decide ((n : Int) < (su : Int)) = true := decide_eq_true (by omega)
    have e2 : decide (n < su) = true := decide_eq_true hn1
    clear BAD hn1 hinf
    go_enter Try.func40, Try.ntmps40
    go_wp2
    exact HX.out _ (by first | exact Frm.refl _ _ | exact (Frm.refl _ _).drew)
  · by_cases hn2 : co ≤ n
    · have HX := Lib.hid (BAD.out (.inr (.inl hn2)))
      have e1 : decide ((n : Int) < (su : Int)) = false := decide_eq_false (by omega)
      have e2 : decide (n < su) = false := decide_eq_false hn1
      have e3 : decide ((co : Int) ≤ (n : Int)) = true := decide_eq_true (by omega)
      have e4 : decide (co ≤ n) = true := decide_eq_true hn2
      clear BAD hn1 hn2 hinf
      go_enter Try.func40, Try.ntmps40
      go_wp2
      exact HX.out _ (by first | exact Frm.refl _ _ | exact (Frm.refl _ _).drew)
    · have e1 : decide ((n : Int) < (su : Int)) = false := decide_eq_false (by omega)
      have e2 : decide (n < su) = false := decide_eq_false hn1
      have e3 : decide ((co : Int) ≤ (n : Int)) = false := decide_eq_false (by omega)
      have e4 : decide (co ≤ n) = false := decide_eq_false hn2
      have HN1 := Lib.hid hn1
      have HN2 := Lib.hid hn2
      obtain ⟨g, hg⟩ : ∃ g, g = hasI (setN P W n) pl := ⟨_, rfl⟩
      have HGI := Lib.hid hg
      clear hn1 hn2 hg
      cases g with
      | false =>
        have HX := Lib.hid (BAD.out (.inr (.inr HGI.out.symm)))
        clear BAD hinf
        go_enter Try.func40, Try.ntmps40
        go_wp2_with fail
        (refine (HSET.out _).mono ?_)
        rintro ex w1 ⟨aS, cS, rfl, his, hf1⟩
        have HIN := Lib.hid (inI_any aS W cS pl (setN P W n) w1 his HSL.out (by rw [← HSL.out]; omega))
        rw [← HGI.out] at HIN
        have HF1 := Lib.hid hf1
        clear hf1 his HSET
        go_wp2_with fail
        (refine HIN.out.mono ?_)
        rintro ex w2 ⟨rfl, rfl⟩
        go_wp2
        exact HX.out _ HF1.out
      | true =>
        clear BAD
        obtain ⟨pn, hpl, hpn⟩ : ∃ pn : Nat, pl = (pn : Int) ∧ pn < P := by
          have hh := HGI.out.symm
          unfold hasI at hh
          rw [List.any_eq_true] at hh
          obtain ⟨x, hx, he⟩ := hh
          rw [beq_iff_eq] at he
          refine ⟨x, he.symm, ?_⟩
          unfold setN at hx
          obtain ⟨i, hi, rfl⟩ := List.mem_map.1 hx
          exact plN_lt (by have := HM.out.quo; omega) _ _
        subst hpl
        have HINF := Lib.hid hinf
        clear hinf
        go_enter Try.func40, Try.ntmps40
        go_wp2_with fail
        (refine (HSET.out _).mono ?_)
        rintro ex w1 ⟨aS, cS, rfl, his, hf1⟩
        have HIN := Lib.hid (inI_any aS W cS (pn : Int) (setN P W n) w1 his HSL.out (by rw [← HSL.out]; omega))
        rw [← HGI.out] at HIN
        have hv1 := hf1.whole HV.out (by simp)
        have hH1 := HH.out.here hf1
        have hL1 := HL.out.keep hf1 (F' := pm :: (blk b ++ (R ++ F))) (by simp) (fun x hx => .inl hx)
        have hnR : n < R.length := by have := HR0.out; have := HCO.out; have := HN2.out; omega
        obtain ⟨gb, hgb, hrc⟩ := hH1.at hnR
        have hrw := hH1.row n hnR
        have HFL := Lib.hid (dw_flag hv1 HR0.out hL1 hH1 HM.out.quo HM.out.su_le HM.out.out (i := n) (by have := HCO.out; have := HN2.out; omega) pn true)
        rw [hasAdd_eq, ← HG.out] at HFL
        obtain ⟨rg, hrg⟩ : ∃ rg, rg = R.getD n 0 := ⟨_, rfl⟩
        rw [← hrg] at hrc hrw HFL
        have y4 : w1.cell? ⟨pm, 4, none⟩ = some (.slice (some ⟨gb, 0, none⟩) co e) := by rw [HCO.out, ← hgb]; exact hv1.cell 4
        have y5 : w1.cell? ⟨rg, pn, none⟩ = some (.bool (H n pn)) := (hrw.cell pn).trans (brow_at hpn)
        have z5 := hrw.free pn
        have hno : n < co := by have := HN2.out; omega
        have hnoi : (n : Int) < (co : Int) := by omega
        have hpni : (pn : Int) < (P : Int) := by omega
        have hrgG : rg ∈ G := by rw [HG.out, hrg]; simp [hnR]
        have HREL : Hid (DaRel w B pm F G P W A D (hasAdd H n pn) su cl (.slice none 0 0) (w1.setCell ⟨rg, pn, none⟩ (.bool true))) := Lib.hid ⟨su, none, 0, 0, [], rfl, rfl, Nat.zero_add _, HM.out.su_le, Lib.hid (IOwn.nil _ _ _ _), Lib.hid (by rw [itemsN_self]; rfl), Lib.hid (fun i h1 h2 => by omega), Lib.hid HFL.out, Lib.hid (hf1.trans ((Frm.refl [rg] _).setCell (.inl (by simp)) _) (by simp) (fun x hx => .inl (by simp only [List.mem_singleton] at hx; subst hx; exact List.mem_cons_of_mem _ hrgG)))⟩
        clear hf1 his HSET hv1 hH1 hL1 hnR hgb hrw HFL hrg hrgG e1 e2 e3 e4 c0 c1 c2 c3 c5
        go_wp2_with fail
        (refine HIN.out.mono ?_)
        rintro ex w2 ⟨rfl, rfl⟩
        go_wp2_with fail
        clear y4 y5 z5 hrc HIN hnoi
        go_loopw [7] (fun s7 wr => DaRel w B pm F G P W A D (hasAdd H n pn) su cl s7 wr) (fun s7 _ => co - lenOf s7)
        case atStart => exact HREL.out
        case round =>
          clear HREL
          obtain ⟨s, ax, kx, cx, X, rfl, hkx, hks, hs2, HIO, HIT, HOKS, HDW, HFR⟩ := hrel
          have hsu5 : su ≤ s := by omega
          obtain ⟨a', c', b', e', R', vs', hv', hG', hR', hL', hH'⟩ := HDW.out.box
          have hplr := hv'.lt
          have hv3 : wr.cell? ⟨pm, 3, none⟩ = some (.slice a' co c') := by rw [HCO.out]; exact hv'.cell 3
          have hv4 : wr.cell? ⟨pm, 4, none⟩ = some (.slice b' co e') := by rw [HCO.out]; exact hv'.cell 4
          have K0 : ∀ y, Frm [] wr y → y.cell? ⟨pm, 0, none⟩ = some (.int .i64 (P : Nat)) := fun y hy => (hy.cell hplr (by simp)).trans (hv'.cell 0)
          have K1 : ∀ y, Frm [] wr y → y.cell? ⟨pm, 1, none⟩ = some (.int .i64 (W : Nat)) := fun y hy => (hy.cell hplr (by simp)).trans (hv'.cell 1)
          have K2 : ∀ y, Frm [] wr y → y.cell? ⟨pm, 2, none⟩ = some (.int .i64 (A : Nat)) := fun y hy => (hy.cell hplr (by simp)).trans (hv'.cell 2)
          have K3 : ∀ y, Frm [] wr y → y.cell? ⟨pm, 3, none⟩ = some (.slice a' co c') := fun y hy => (hy.cell hplr (by simp)).trans hv3
          have K4 : ∀ y, Frm [] wr y → y.cell? ⟨pm, 4, none⟩ = some (.slice b' co e') := fun y hy => (hy.cell hplr (by simp)).trans hv4
          have K5 : ∀ y, Frm [] wr y → y.cell? ⟨pm, 5, none⟩ = some (.int .i64 (s : Nat)) := fun y hy => (hy.cell hplr (by simp)).trans (hv'.cell 5)
          have HS2 := Lib.hid hs2
          have HKX := Lib.hid (show kx = X.length ∧ kx + su = s from ⟨hkx, hks⟩)
          rw [← HCO.out] at hs2
          have hk7 : kx ≤ 100000 := by omega
          have hwu : IntKind.u64.wrap (s : Int) = (s : Int) := by rw [IntWalk.u64_in _ (by omega)]
          clear hkx hks hv3 hv4
          by_cases hsn : s < co
          · have g1 : decide ((s : Int) < (co : Int)) = true := decide_eq_true (by omega)
            have g2 : decide (s < co) = true := decide_eq_true hsn
            have hsni : (s : Int) < (co : Int) := by omega
            have hsR : s < R'.length := by have := HCO.out; omega
            obtain ⟨gb', hgb', hrc'⟩ := hH'.at hsR
            have hsD : s < D.length := by have := HCO.out; omega
            obtain ⟨ga, oa, hga, ai, ci, hac, hab, haf, han⟩ := hL'.ll.at hsD
            obtain ⟨rg', hrg'⟩ : ∃ rg', rg' = R'.getD s 0 := ⟨_, rfl⟩
            have hbin := hH'.bin hsR
            rw [← hrg'] at hrc' hbin
            subst hgb'
            subst hga
            have K6 : ∀ y, Frm [] wr y → y.cell? ⟨gb', s, none⟩ = some (.slice (some ⟨rg', 0, none⟩) P P) := fun y hy => (hy.cell (block_lt_of_cell hrc') (by simp)).trans hrc'
            have hq := HM.out.quo
            have HEN : Hid (∀ z, Frm [] wr z → Calls Try.prog 20 #[quV P W A, .int .u64 (s : Nat), .slice (some ⟨rg', 0, none⟩) P P] z fun ex w' => ex = .returned (.bool (okN P W A (hasAdd H n pn) s)) ∧ Frm [] z w') := Lib.hid fun z hz => by
              have h1 := renough_any P W A s (some ⟨rg', 0, none⟩) P P ((List.range P).map (hasAdd H n pn s)) z hq.1 hq.2.1 hq.2.2.2 hq.2.2.1 (by omega) (fun j hj => by
                obtain ⟨x, o, hx, hc⟩ := hbin j hj
                exact ⟨x, o, hx, (hz.cell (block_lt_of_cell hc) (by simp)).trans hc⟩) (by simp)
              rw [okN_tab (by omega) hq.2.2.2 (fun j _ => rfl)] at h1
              exact h1
            unfold quV at HEN
            obtain ⟨ok, hok⟩ : ∃ ok, ok = okN P W A (hasAdd H n pn) s := ⟨_, rfl⟩
            rw [← hok] at HEN
            have HOK := Lib.hid hok
            have HAB := Lib.hid hab
            have HAN := Lib.hid han
            have HRG : Hid (ga < wr.heap.size) := Lib.hid (block_lt_of_cell hac)
            have HAC : Hid (∀ y, Frm [] wr y → y.cell? ⟨ga, oa + s, none⟩ = some (.slice ai (D.getD s []).length ci)) := Lib.hid fun y hy => (hy.cell (block_lt_of_cell hac) (by simp)).trans hac
            have HPA : Hid (pm ∉ blk ax ∧ ga ∉ blk ax) := Lib.hid ⟨fun hm => HIO.out.away pm hm (by simp), fun hm => hL'.away ga (by simp) (by simp [hm])⟩
            have HGA : Hid (∀ x, ai = some x → D.getD s [] ≠ [] → x.block ∉ blk ax ∧ x.block ≠ pm) := Lib.hid fun x hx hne => ⟨fun hm => haf hne x hx (by simp [hm]), fun hp => haf hne x hx (by simp [hp])⟩
            have HV' := Lib.hid hv'
            clear hG' hR' hL' hH' hrc' hbin hrg' hac hab haf han hsR hsD hok hv'
            go_upto_region 5 with fail
            cases ok with
            | false =>
              refine wp_region_held_drew (S := fun w' => Frm [] wr w') (by kernel_rfl) (Frm.drew (Frm.refl _ _)) (fun hHeld => ?_)
              refine wpAnyH_take (i := 0) (oi := ⟨some 45, _, _, _, _, _⟩) (v := ?_) rfl (by kernel_rfl) (by kernel_rfl) (by kernel_rfl) (fun _ _ _ h => h) (Or.inl ⟨by rfl, ?_⟩) (by assumption) ?_
              rotate_left 1
              · (intro w hSw; (try dsimp only at hSw); have k0 := K0 w hSw; have k1 := K1 w hSw; have k2 := K2 w hSw; have k3 := K3 w hSw; have k4 := K4 w hSw; have k5 := K5 w hSw; have k6 := K6 w hSw; go_simp; all_goals with_reducible rfl)
              try simp only [Act.put, List.setIfInBounds_toArray, List.set_cons_zero, List.set_cons_succ]
              refine wpAnyH_take (i := 1) (oi := ⟨some 46, _, _, _, _, _⟩) (v := ?_) rfl (by kernel_rfl) (by kernel_rfl) (by kernel_rfl) (fun _ _ _ h => h) (Or.inl ⟨by rfl, ?_⟩) (by assumption) ?_
              rotate_left 1
              · (intro w hSw; (try dsimp only at hSw); have k0 := K0 w hSw; have k1 := K1 w hSw; have k2 := K2 w hSw; have k3 := K3 w hSw; have k4 := K4 w hSw; have k5 := K5 w hSw; have k6 := K6 w hSw; go_simp; all_goals with_reducible rfl)
              try simp only [Act.put, List.setIfInBounds_toArray, List.set_cons_zero, List.set_cons_succ]
              refine wpAnyH_take (i := 2) (oi := ⟨some 47, _, _, _, _, _⟩) (v := ?_) rfl (by kernel_rfl) (by kernel_rfl) (by kernel_rfl) (fun _ _ _ h => h) (Or.inl ⟨by rfl, ?_⟩) (by assumption) ?_
              rotate_left 1
              · (intro w hSw; (try dsimp only at hSw); have k0 := K0 w hSw; have k1 := K1 w hSw; have k2 := K2 w hSw; have k3 := K3 w hSw; have k4 := K4 w hSw; have k5 := K5 w hSw; have k6 := K6 w hSw; go_simp; all_goals with_reducible rfl)
              try simp only [Act.put, List.setIfInBounds_toArray, List.set_cons_zero, List.set_cons_succ]
              refine wpAnyH_take (i := 3) (oi := ⟨some 48, _, _, _, _, _⟩) (v := ?_) rfl (by kernel_rfl) (by kernel_rfl) (by kernel_rfl) (fun _ _ _ h => h) (Or.inl ⟨by rfl, ?_⟩) (by assumption) ?_
              rotate_left 1
              · (intro w hSw; (try dsimp only at hSw); have k0 := K0 w hSw; have k1 := K1 w hSw; have k2 := K2 w hSw; have k3 := K3 w hSw; have k4 := K4 w hSw; have k5 := K5 w hSw; have k6 := K6 w hSw; go_simp; all_goals with_reducible rfl)
              try simp only [Act.put, List.setIfInBounds_toArray, List.set_cons_zero, List.set_cons_succ]
              refine wpAnyH_take (i := 4) (oi := ⟨some 49, _, _, _, _, _⟩) (v := ?_) rfl (by kernel_rfl) (by kernel_rfl) (by kernel_rfl) (fun _ _ _ h => h) (Or.inl ⟨by rfl, ?_⟩) (by assumption) ?_
              rotate_left 1
              · (intro w hSw; (try dsimp only at hSw); have k0 := K0 w hSw; have k1 := K1 w hSw; have k2 := K2 w hSw; have k3 := K3 w hSw; have k4 := K4 w hSw; have k5 := K5 w hSw; have k6 := K6 w hSw; go_simp; all_goals with_reducible rfl)
              try simp only [Act.put, List.setIfInBounds_toArray, List.set_cons_zero, List.set_cons_succ]
              refine wpAnyH_take (i := 5) (oi := ⟨some 50, _, _, _, _, _⟩) (v := ?_) rfl (by kernel_rfl) (by kernel_rfl) (by kernel_rfl) (fun _ _ _ h => h) (Or.inl ⟨by rfl, ?_⟩) (by assumption) ?_
              rotate_left 1
              · (intro w hSw; (try dsimp only at hSw); have k0 := K0 w hSw; have k1 := K1 w hSw; have k2 := K2 w hSw; have k3 := K3 w hSw; have k4 := K4 w hSw; have k5 := K5 w hSw; have k6 := K6 w hSw; go_simp; all_goals with_reducible rfl)
              try simp only [Act.put, List.setIfInBounds_toArray, List.set_cons_zero, List.set_cons_succ]
              refine wpAnyH_take (i := 6) (oi := ⟨some 51, _, _, _, _, _⟩) (v := ?_) rfl (by kernel_rfl) (by kernel_rfl) (by kernel_rfl) (fun _ _ _ h => h) (Or.inl ⟨by rfl, ?_⟩) (by assumption) ?_
              rotate_left 1
              · (intro w hSw; (try dsimp only at hSw); have k0 := K0 w hSw; have k1 := K1 w hSw; have k2 := K2 w hSw; have k3 := K3 w hSw; have k4 := K4 w hSw; have k5 := K5 w hSw; have k6 := K6 w hSw; go_simp; all_goals with_reducible rfl)
              try simp only [Act.put, List.setIfInBounds_toArray, List.set_cons_zero, List.set_cons_succ]
              refine wpAnyH_take (i := 7) (oi := ⟨some 52, _, _, _, _, _⟩) (v := ?_) rfl (by kernel_rfl) (by kernel_rfl) (by kernel_rfl) (fun _ _ _ h => h) (Or.inl ⟨by rfl, ?_⟩) (by assumption) ?_
              rotate_left 1
              · (intro w hSw; (try dsimp only at hSw); have k0 := K0 w hSw; have k1 := K1 w hSw; have k2 := K2 w hSw; have k3 := K3 w hSw; have k4 := K4 w hSw; have k5 := K5 w hSw; have k6 := K6 w hSw; go_simp; all_goals with_reducible rfl)
              try simp only [Act.put, List.setIfInBounds_toArray, List.set_cons_zero, List.set_cons_succ]
              refine wpAnyH_take (i := 8) (oi := ⟨some 53, _, _, _, _, _⟩) (v := ?_) rfl (by kernel_rfl) (by kernel_rfl) (by kernel_rfl) (fun _ _ _ h => h) (Or.inl ⟨by rfl, ?_⟩) (by assumption) ?_
              rotate_left 1
              · (intro w hSw; (try dsimp only at hSw); have k0 := K0 w hSw; have k1 := K1 w hSw; have k2 := K2 w hSw; have k3 := K3 w hSw; have k4 := K4 w hSw; have k5 := K5 w hSw; have k6 := K6 w hSw; go_simp; all_goals with_reducible rfl)
              try simp only [Act.put, List.setIfInBounds_toArray, List.set_cons_zero, List.set_cons_succ]
              refine wpAnyH_take (i := 9) (oi := ⟨some 54, _, _, _, _, _⟩) (v := ?_) rfl (by kernel_rfl) (by kernel_rfl) (by kernel_rfl) (fun _ _ _ h => h) (Or.inl ⟨by rfl, ?_⟩) (by assumption) ?_
              rotate_left 1
              · (intro w hSw; (try dsimp only at hSw); have k0 := K0 w hSw; have k1 := K1 w hSw; have k2 := K2 w hSw; have k3 := K3 w hSw; have k4 := K4 w hSw; have k5 := K5 w hSw; have k6 := K6 w hSw; go_simp; all_goals with_reducible rfl)
              try simp only [Act.put, List.setIfInBounds_toArray, List.set_cons_zero, List.set_cons_succ]
              refine wpAnyH_take (i := 10) (oi := ⟨some 55, _, _, _, _, _⟩) (v := ?_) rfl (by kernel_rfl) (by kernel_rfl) (by kernel_rfl) (fun _ _ _ h => h) (Or.inl ⟨by rfl, ?_⟩) (by assumption) ?_
              rotate_left 1
              · (intro w hSw; (try dsimp only at hSw); have k0 := K0 w hSw; have k1 := K1 w hSw; have k2 := K2 w hSw; have k3 := K3 w hSw; have k4 := K4 w hSw; have k5 := K5 w hSw; have k6 := K6 w hSw; go_simp; all_goals with_reducible rfl)
              try simp only [Act.put, List.setIfInBounds_toArray, List.set_cons_zero, List.set_cons_succ]
              refine wpAnyH_take (i := 11) (oi := ⟨some 56, _, _, _, _, _⟩) (v := ?_) rfl (by kernel_rfl) (by kernel_rfl) (by kernel_rfl) (fun _ _ _ h => h) (Or.inl ⟨by rfl, ?_⟩) (by assumption) ?_
              rotate_left 1
              · (intro w hSw; (try dsimp only at hSw); have k0 := K0 w hSw; have k1 := K1 w hSw; have k2 := K2 w hSw; have k3 := K3 w hSw; have k4 := K4 w hSw; have k5 := K5 w hSw; have k6 := K6 w hSw; go_simp; all_goals with_reducible rfl)
              try simp only [Act.put, List.setIfInBounds_toArray, List.set_cons_zero, List.set_cons_succ]
              refine wpAnyH_take (i := 12) (oi := ⟨some 57, _, _, _, _, _⟩) (v := ?_) rfl (by kernel_rfl) (by kernel_rfl) (by kernel_rfl) (fun _ _ _ h => h) (Or.inl ⟨by rfl, ?_⟩) (by assumption) ?_
              rotate_left 1
              · (intro w hSw; (try dsimp only at hSw); have k0 := K0 w hSw; have k1 := K1 w hSw; have k2 := K2 w hSw; have k3 := K3 w hSw; have k4 := K4 w hSw; have k5 := K5 w hSw; have k6 := K6 w hSw; go_simp; all_goals with_reducible rfl)
              try simp only [Act.put, List.setIfInBounds_toArray, List.set_cons_zero, List.set_cons_succ]
              refine wpAnyH_take (i := 13) (oi := ⟨some 58, _, _, _, _, _⟩) (v := ?_) rfl (by kernel_rfl) (by kernel_rfl) (by kernel_rfl) (fun _ _ _ h => h) (Or.inl ⟨by rfl, ?_⟩) (by assumption) ?_
              rotate_left 1
              · (intro w hSw; (try dsimp only at hSw); have k0 := K0 w hSw; have k1 := K1 w hSw; have k2 := K2 w hSw; have k3 := K3 w hSw; have k4 := K4 w hSw; have k5 := K5 w hSw; have k6 := K6 w hSw; go_simp; all_goals with_reducible rfl)
              try simp only [Act.put, List.setIfInBounds_toArray, List.set_cons_zero, List.set_cons_succ]
              refine wpAnyH_take (i := 14) (oi := ⟨some 59, _, _, _, _, _⟩) (v := ?_) rfl (by kernel_rfl) (by kernel_rfl) (by kernel_rfl) (fun _ _ _ h => h) (Or.inl ⟨by rfl, ?_⟩) (by assumption) ?_
              rotate_left 1
              · (intro w hSw; (try dsimp only at hSw); have k0 := K0 w hSw; have k1 := K1 w hSw; have k2 := K2 w hSw; have k3 := K3 w hSw; have k4 := K4 w hSw; have k5 := K5 w hSw; have k6 := K6 w hSw; go_simp; all_goals with_reducible rfl)
              try simp only [Act.put, List.setIfInBounds_toArray, List.set_cons_zero, List.set_cons_succ]
              refine wpAnyH_take (i := 15) (oi := ⟨some 60, _, _, _, _, _⟩) (v := ?_) rfl (by kernel_rfl) (by kernel_rfl) (by kernel_rfl) (fun _ _ _ h => h) (Or.inl ⟨by rfl, ?_⟩) (by assumption) ?_
              rotate_left 1
              · (intro w hSw; (try dsimp only at hSw); have k0 := K0 w hSw; have k1 := K1 w hSw; have k2 := K2 w hSw; have k3 := K3 w hSw; have k4 := K4 w hSw; have k5 := K5 w hSw; have k6 := K6 w hSw; go_simp; all_goals with_reducible rfl)
              try simp only [Act.put, List.setIfInBounds_toArray, List.set_cons_zero, List.set_cons_succ]
              refine wpAnyH_take (i := 16) (oi := ⟨some 61, _, _, _, _, _⟩) (v := ?_) rfl (by kernel_rfl) (by kernel_rfl) (by kernel_rfl) (fun _ _ _ h => h) (Or.inl ⟨by rfl, ?_⟩) (by assumption) ?_
              rotate_left 1
              · (intro w hSw; (try dsimp only at hSw); have k0 := K0 w hSw; have k1 := K1 w hSw; have k2 := K2 w hSw; have k3 := K3 w hSw; have k4 := K4 w hSw; have k5 := K5 w hSw; have k6 := K6 w hSw; go_simp; all_goals with_reducible rfl)
              try simp only [Act.put, List.setIfInBounds_toArray, List.set_cons_zero, List.set_cons_succ]
              refine wpAnyH_take (i := 17) (oi := ⟨some 62, _, _, _, _, _⟩) (v := ?_) rfl (by kernel_rfl) (by kernel_rfl) (by kernel_rfl) (fun _ _ _ h => h) (Or.inl ⟨by rfl, ?_⟩) (by assumption) ?_
              rotate_left 1
              · (intro w hSw; (try dsimp only at hSw); have k0 := K0 w hSw; have k1 := K1 w hSw; have k2 := K2 w hSw; have k3 := K3 w hSw; have k4 := K4 w hSw; have k5 := K5 w hSw; have k6 := K6 w hSw; go_simp; all_goals with_reducible rfl)
              try simp only [Act.put, List.setIfInBounds_toArray, List.set_cons_zero, List.set_cons_succ]
              refine wpAnyH_take (i := 18) (oi := ⟨some 63, _, _, _, _, _⟩) (v := ?_) rfl (by kernel_rfl) (by kernel_rfl) (by kernel_rfl) (fun _ _ _ h => h) (Or.inl ⟨by rfl, ?_⟩) (by assumption) ?_
              rotate_left 1
              · (intro w hSw; (try dsimp only at hSw); have k0 := K0 w hSw; have k1 := K1 w hSw; have k2 := K2 w hSw; have k3 := K3 w hSw; have k4 := K4 w hSw; have k5 := K5 w hSw; have k6 := K6 w hSw; go_simp; all_goals with_reducible rfl)
              try simp only [Act.put, List.setIfInBounds_toArray, List.set_cons_zero, List.set_cons_succ]
              refine wpAnyH_take (i := 19) (oi := ⟨some 64, _, _, _, _, _⟩) (v := ?_) rfl (by kernel_rfl) (by kernel_rfl) (by kernel_rfl) (fun _ _ _ h => h) (Or.inl ⟨by rfl, ?_⟩) (by assumption) ?_
              rotate_left 1
              · (intro w hSw; (try dsimp only at hSw); have k0 := K0 w hSw; have k1 := K1 w hSw; have k2 := K2 w hSw; have k3 := K3 w hSw; have k4 := K4 w hSw; have k5 := K5 w hSw; have k6 := K6 w hSw; go_simp; all_goals with_reducible rfl)
              try simp only [Act.put, List.setIfInBounds_toArray, List.set_cons_zero, List.set_cons_succ]
              refine wpAnyH_take (i := 20) (oi := ⟨some 65, _, _, _, _, _⟩) (v := ?_) rfl (by kernel_rfl) (by kernel_rfl) (by kernel_rfl) (fun _ _ _ h => h) (Or.inl ⟨by rfl, ?_⟩) (by assumption) ?_
              rotate_left 1
              · (intro w hSw; (try dsimp only at hSw); have k0 := K0 w hSw; have k1 := K1 w hSw; have k2 := K2 w hSw; have k3 := K3 w hSw; have k4 := K4 w hSw; have k5 := K5 w hSw; have k6 := K6 w hSw; go_simp; all_goals with_reducible rfl)
              try simp only [Act.put, List.setIfInBounds_toArray, List.set_cons_zero, List.set_cons_succ]
              refine wpAnyH_take (i := 21) (oi := ⟨some 66, _, _, _, _, _⟩) (v := ?_) rfl (by kernel_rfl) (by kernel_rfl) (by kernel_rfl) (fun _ _ _ h => h) (Or.inl ⟨by rfl, ?_⟩) (by assumption) ?_
              rotate_left 1
              · (intro w hSw; (try dsimp only at hSw); have k0 := K0 w hSw; have k1 := K1 w hSw; have k2 := K2 w hSw; have k3 := K3 w hSw; have k4 := K4 w hSw; have k5 := K5 w hSw; have k6 := K6 w hSw; go_simp; all_goals with_reducible rfl)
              try simp only [Act.put, List.setIfInBounds_toArray, List.set_cons_zero, List.set_cons_succ]
              refine wpAnyH_take (i := 22) (oi := ⟨some 67, _, _, _, _, _⟩) (v := ?_) rfl (by kernel_rfl) (by kernel_rfl) (by kernel_rfl) (fun _ _ _ h => h) (Or.inl ⟨by rfl, ?_⟩) (by assumption) ?_
              rotate_left 1
              · (intro w hSw; (try dsimp only at hSw); have k0 := K0 w hSw; have k1 := K1 w hSw; have k2 := K2 w hSw; have k3 := K3 w hSw; have k4 := K4 w hSw; have k5 := K5 w hSw; have k6 := K6 w hSw; go_simp; all_goals with_reducible rfl)
              try simp only [Act.put, List.setIfInBounds_toArray, List.set_cons_zero, List.set_cons_succ]
              refine wpAnyH_take (i := 23) (oi := ⟨some 68, _, _, _, _, _⟩) (v := ?_) rfl (by kernel_rfl) (by kernel_rfl) (by kernel_rfl) (fun _ _ _ h => h) (Or.inl ⟨by rfl, ?_⟩) (by assumption) ?_
              rotate_left 1
              · (intro w hSw; (try dsimp only at hSw); have k0 := K0 w hSw; have k1 := K1 w hSw; have k2 := K2 w hSw; have k3 := K3 w hSw; have k4 := K4 w hSw; have k5 := K5 w hSw; have k6 := K6 w hSw; go_simp; all_goals with_reducible rfl)
              try simp only [Act.put, List.setIfInBounds_toArray, List.set_cons_zero, List.set_cons_succ]
              refine wpAnyH_take (i := 24) (oi := ⟨some 69, _, _, _, _, _⟩) (v := ?_) rfl (by kernel_rfl) (by kernel_rfl) (by kernel_rfl) (fun _ _ _ h => h) (Or.inl ⟨by rfl, ?_⟩) (by assumption) ?_
              rotate_left 1
              · (intro w hSw; (try dsimp only at hSw); have k0 := K0 w hSw; have k1 := K1 w hSw; have k2 := K2 w hSw; have k3 := K3 w hSw; have k4 := K4 w hSw; have k5 := K5 w hSw; have k6 := K6 w hSw; go_simp; all_goals with_reducible rfl)
              try simp only [Act.put, List.setIfInBounds_toArray, List.set_cons_zero, List.set_cons_succ]
              refine wpAnyH_take (i := 25) (oi := ⟨some 70, _, _, _, _, _⟩) (v := ?_) rfl (by kernel_rfl) (by kernel_rfl) (by kernel_rfl) (fun _ _ _ h => h) (Or.inl ⟨by rfl, ?_⟩) (by assumption) ?_
              rotate_left 1
              · (intro w hSw; (try dsimp only at hSw); have k0 := K0 w hSw; have k1 := K1 w hSw; have k2 := K2 w hSw; have k3 := K3 w hSw; have k4 := K4 w hSw; have k5 := K5 w hSw; have k6 := K6 w hSw; go_simp; all_goals with_reducible rfl)
              try simp only [Act.put, List.setIfInBounds_toArray, List.set_cons_zero, List.set_cons_succ]
              refine wpAnyH_take (i := 26) (oi := ⟨some 71, _, _, _, _, _⟩) (v := ?_) rfl (by kernel_rfl) (by kernel_rfl) (by kernel_rfl) (fun _ _ _ h => h) (Or.inl ⟨by rfl, ?_⟩) (by assumption) ?_
              rotate_left 1
              · (intro w hSw; (try dsimp only at hSw); have k0 := K0 w hSw; have k1 := K1 w hSw; have k2 := K2 w hSw; have k3 := K3 w hSw; have k4 := K4 w hSw; have k5 := K5 w hSw; have k6 := K6 w hSw; go_simp; all_goals with_reducible rfl)
              try simp only [Act.put, List.setIfInBounds_toArray, List.set_cons_zero, List.set_cons_succ]
              refine wpAnyH_take (i := 27) (oi := ⟨some 72, _, _, _, _, _⟩) (v := ?_) rfl (by kernel_rfl) (by kernel_rfl) (by kernel_rfl) (fun _ _ _ h => h) (Or.inl ⟨by rfl, ?_⟩) (by assumption) ?_
              rotate_left 1
              · (intro w hSw; (try dsimp only at hSw); have k0 := K0 w hSw; have k1 := K1 w hSw; have k2 := K2 w hSw; have k3 := K3 w hSw; have k4 := K4 w hSw; have k5 := K5 w hSw; have k6 := K6 w hSw; go_simp; all_goals with_reducible rfl)
              try simp only [Act.put, List.setIfInBounds_toArray, List.set_cons_zero, List.set_cons_succ]
              refine wpAnyH_take (i := 28) (oi := ⟨some 73, _, _, _, _, _⟩) (v := ?_) rfl (by kernel_rfl) (by kernel_rfl) (by kernel_rfl) (fun _ _ _ h => h) (Or.inl ⟨by rfl, ?_⟩) (by assumption) ?_
              rotate_left 1
              · (intro w hSw; (try dsimp only at hSw); have k0 := K0 w hSw; have k1 := K1 w hSw; have k2 := K2 w hSw; have k3 := K3 w hSw; have k4 := K4 w hSw; have k5 := K5 w hSw; have k6 := K6 w hSw; go_simp; all_goals with_reducible rfl)
              try simp only [Act.put, List.setIfInBounds_toArray, List.set_cons_zero, List.set_cons_succ]
              refine wpAnyH_take (i := 29) (oi := ⟨some 74, _, _, _, _, _⟩) (v := ?_) rfl (by kernel_rfl) (by kernel_rfl) (by kernel_rfl) (fun _ _ _ h => h) (Or.inl ⟨by rfl, ?_⟩) (by assumption) ?_
              rotate_left 1
              · (intro w hSw; (try dsimp only at hSw); have k0 := K0 w hSw; have k1 := K1 w hSw; have k2 := K2 w hSw; have k3 := K3 w hSw; have k4 := K4 w hSw; have k5 := K5 w hSw; have k6 := K6 w hSw; go_simp; all_goals with_reducible rfl)
              try simp only [Act.put, List.setIfInBounds_toArray, List.set_cons_zero, List.set_cons_succ]
              refine wpAnyH_ready (rs := [30]) (by kernel_rfl) (by simp) ?_
              refine AllReadyH.cons (o := ⟨some 75, _, _, _, _, _⟩) rfl (fun K hK => ?_) AllReadyH.nil
              go_simp
              ((with_reducible refine (HEN.out _ (by assumption)).mono ?_); rintro ex w5 ⟨rfl, hf5a⟩; have hf5 : Frm [] wr w5 := (Frm.refl [] wr).drew.trans hf5a (by simp) (by simp))
              go_wp2_with fail
              refine hK.out _ _ (by assumption) (fun hHeld => ?_)
              clear hK K
              try simp only [Act.put, List.setIfInBounds_toArray, List.set_cons_zero, List.set_cons_succ]
              refine wpAnyH_take (i := 31) (oi := ⟨some 76, _, _, _, _, _⟩) (v := ?_) rfl (by kernel_rfl) (by kernel_rfl) (by kernel_rfl) (fun _ _ _ h => h) (Or.inl ⟨by rfl, ?_⟩) (by assumption) ?_
              rotate_left 1
              · (intro w hSw; (try dsimp only at hSw); have k0 := K0 w hSw; have k1 := K1 w hSw; have k2 := K2 w hSw; have k3 := K3 w hSw; have k4 := K4 w hSw; have k5 := K5 w hSw; have k6 := K6 w hSw; go_simp; all_goals with_reducible rfl)
              try simp only [Act.put, List.setIfInBounds_toArray, List.set_cons_zero, List.set_cons_succ]
              refine wpAnyH_done (by kernel_rfl) ?_ _
              clear K0 K1 K2 K3 K4 K5 K6 HEN
              have HEND : Hid (∀ z, Frm [] w5 z → Q (.returned (.slice ax kx cx)) z) := Lib.hid fun z hz => by
                have hz' : Frm [] wr z := hf5.trans hz (by simp) (by simp)
                rw [HQ.out]
                rw [HKX.out.1]
                exact .inr ⟨by have := HN1.out; omega, by have := HN2.out; have := HCO.out; omega, HGI.out.symm, pn, rfl, hpn, s, ax, cx, X, rfl, by have := HKX.out; omega, HS2.out, HIT.out, HOKS.out, fun _ => HOK.out.symm, HIO.out.il.keep hz' (F' := []) (by simp) (by simp), (HDW.out.keep hz' (F' := F) (by simp) (fun x hx => .inl (by simp [hx]))), HFR.out.trans hz' (fun x hx => hx) (by simp)⟩
              clear hf5 hf5a
              go_wp2
              exact HEND.out _ (by first | exact Frm.refl _ _ | exact (Frm.refl _ _).drew)
            | true =>
              refine wp_region_held_drew (S := fun w' => Frm [] wr w') (by kernel_rfl) (Frm.drew (Frm.refl _ _)) (fun hHeld => ?_)
              refine wpAnyH_take (i := 0) (oi := ⟨some 45, _, _, _, _, _⟩) (v := ?_) rfl (by kernel_rfl) (by kernel_rfl) (by kernel_rfl) (fun _ _ _ h => h) (Or.inl ⟨by rfl, ?_⟩) (by assumption) ?_
              rotate_left 1
              · (intro w hSw; (try dsimp only at hSw); have k0 := K0 w hSw; have k1 := K1 w hSw; have k2 := K2 w hSw; have k3 := K3 w hSw; have k4 := K4 w hSw; have k5 := K5 w hSw; have k6 := K6 w hSw; go_simp; all_goals with_reducible rfl)
              try simp only [Act.put, List.setIfInBounds_toArray, List.set_cons_zero, List.set_cons_succ]
              refine wpAnyH_take (i := 1) (oi := ⟨some 46, _, _, _, _, _⟩) (v := ?_) rfl (by kernel_rfl) (by kernel_rfl) (by kernel_rfl) (fun _ _ _ h => h) (Or.inl ⟨by rfl, ?_⟩) (by assumption) ?_
              rotate_left 1
              · (intro w hSw; (try dsimp only at hSw); have k0 := K0 w hSw; have k1 := K1 w hSw; have k2 := K2 w hSw; have k3 := K3 w hSw; have k4 := K4 w hSw; have k5 := K5 w hSw; have k6 := K6 w hSw; go_simp; all_goals with_reducible rfl)
              try simp only [Act.put, List.setIfInBounds_toArray, List.set_cons_zero, List.set_cons_succ]
              refine wpAnyH_take (i := 2) (oi := ⟨some 47, _, _, _, _, _⟩) (v := ?_) rfl (by kernel_rfl) (by kernel_rfl) (by kernel_rfl) (fun _ _ _ h => h) (Or.inl ⟨by rfl, ?_⟩) (by assumption) ?_
              rotate_left 1
              · (intro w hSw; (try dsimp only at hSw); have k0 := K0 w hSw; have k1 := K1 w hSw; have k2 := K2 w hSw; have k3 := K3 w hSw; have k4 := K4 w hSw; have k5 := K5 w hSw; have k6 := K6 w hSw; go_simp; all_goals with_reducible rfl)
              try simp only [Act.put, List.setIfInBounds_toArray, List.set_cons_zero, List.set_cons_succ]
              refine wpAnyH_take (i := 3) (oi := ⟨some 48, _, _, _, _, _⟩) (v := ?_) rfl (by kernel_rfl) (by kernel_rfl) (by kernel_rfl) (fun _ _ _ h => h) (Or.inl ⟨by rfl, ?_⟩) (by assumption) ?_
              rotate_left 1
              · (intro w hSw; (try dsimp only at hSw); have k0 := K0 w hSw; have k1 := K1 w hSw; have k2 := K2 w hSw; have k3 := K3 w hSw; have k4 := K4 w hSw; have k5 := K5 w hSw; have k6 := K6 w hSw; go_simp; all_goals with_reducible rfl)
              try simp only [Act.put, List.setIfInBounds_toArray, List.set_cons_zero, List.set_cons_succ]
              refine wpAnyH_take (i := 4) (oi := ⟨some 49, _, _, _, _, _⟩) (v := ?_) rfl (by kernel_rfl) (by kernel_rfl) (by kernel_rfl) (fun _ _ _ h => h) (Or.inl ⟨by rfl, ?_⟩) (by assumption) ?_
              rotate_left 1
              · (intro w hSw; (try dsimp only at hSw); have k0 := K0 w hSw; have k1 := K1 w hSw; have k2 := K2 w hSw; have k3 := K3 w hSw; have k4 := K4 w hSw; have k5 := K5 w hSw; have k6 := K6 w hSw; go_simp; all_goals with_reducible rfl)
              try simp only [Act.put, List.setIfInBounds_toArray, List.set_cons_zero, List.set_cons_succ]
              refine wpAnyH_take (i := 5) (oi := ⟨some 50, _, _, _, _, _⟩) (v := ?_) rfl (by kernel_rfl) (by kernel_rfl) (by kernel_rfl) (fun _ _ _ h => h) (Or.inl ⟨by rfl, ?_⟩) (by assumption) ?_
              rotate_left 1
              · (intro w hSw; (try dsimp only at hSw); have k0 := K0 w hSw; have k1 := K1 w hSw; have k2 := K2 w hSw; have k3 := K3 w hSw; have k4 := K4 w hSw; have k5 := K5 w hSw; have k6 := K6 w hSw; go_simp; all_goals with_reducible rfl)
              try simp only [Act.put, List.setIfInBounds_toArray, List.set_cons_zero, List.set_cons_succ]
              refine wpAnyH_take (i := 6) (oi := ⟨some 51, _, _, _, _, _⟩) (v := ?_) rfl (by kernel_rfl) (by kernel_rfl) (by kernel_rfl) (fun _ _ _ h => h) (Or.inl ⟨by rfl, ?_⟩) (by assumption) ?_
              rotate_left 1
              · (intro w hSw; (try dsimp only at hSw); have k0 := K0 w hSw; have k1 := K1 w hSw; have k2 := K2 w hSw; have k3 := K3 w hSw; have k4 := K4 w hSw; have k5 := K5 w hSw; have k6 := K6 w hSw; go_simp; all_goals with_reducible rfl)
              try simp only [Act.put, List.setIfInBounds_toArray, List.set_cons_zero, List.set_cons_succ]
              refine wpAnyH_take (i := 7) (oi := ⟨some 52, _, _, _, _, _⟩) (v := ?_) rfl (by kernel_rfl) (by kernel_rfl) (by kernel_rfl) (fun _ _ _ h => h) (Or.inl ⟨by rfl, ?_⟩) (by assumption) ?_
              rotate_left 1
              · (intro w hSw; (try dsimp only at hSw); have k0 := K0 w hSw; have k1 := K1 w hSw; have k2 := K2 w hSw; have k3 := K3 w hSw; have k4 := K4 w hSw; have k5 := K5 w hSw; have k6 := K6 w hSw; go_simp; all_goals with_reducible rfl)
              try simp only [Act.put, List.setIfInBounds_toArray, List.set_cons_zero, List.set_cons_succ]
              refine wpAnyH_take (i := 8) (oi := ⟨some 53, _, _, _, _, _⟩) (v := ?_) rfl (by kernel_rfl) (by kernel_rfl) (by kernel_rfl) (fun _ _ _ h => h) (Or.inl ⟨by rfl, ?_⟩) (by assumption) ?_
              rotate_left 1
              · (intro w hSw; (try dsimp only at hSw); have k0 := K0 w hSw; have k1 := K1 w hSw; have k2 := K2 w hSw; have k3 := K3 w hSw; have k4 := K4 w hSw; have k5 := K5 w hSw; have k6 := K6 w hSw; go_simp; all_goals with_reducible rfl)
              try simp only [Act.put, List.setIfInBounds_toArray, List.set_cons_zero, List.set_cons_succ]
              refine wpAnyH_take (i := 9) (oi := ⟨some 54, _, _, _, _, _⟩) (v := ?_) rfl (by kernel_rfl) (by kernel_rfl) (by kernel_rfl) (fun _ _ _ h => h) (Or.inl ⟨by rfl, ?_⟩) (by assumption) ?_
              rotate_left 1
              · (intro w hSw; (try dsimp only at hSw); have k0 := K0 w hSw; have k1 := K1 w hSw; have k2 := K2 w hSw; have k3 := K3 w hSw; have k4 := K4 w hSw; have k5 := K5 w hSw; have k6 := K6 w hSw; go_simp; all_goals with_reducible rfl)
              try simp only [Act.put, List.setIfInBounds_toArray, List.set_cons_zero, List.set_cons_succ]
              refine wpAnyH_take (i := 10) (oi := ⟨some 55, _, _, _, _, _⟩) (v := ?_) rfl (by kernel_rfl) (by kernel_rfl) (by kernel_rfl) (fun _ _ _ h => h) (Or.inl ⟨by rfl, ?_⟩) (by assumption) ?_
              rotate_left 1
              · (intro w hSw; (try dsimp only at hSw); have k0 := K0 w hSw; have k1 := K1 w hSw; have k2 := K2 w hSw; have k3 := K3 w hSw; have k4 := K4 w hSw; have k5 := K5 w hSw; have k6 := K6 w hSw; go_simp; all_goals with_reducible rfl)
              try simp only [Act.put, List.setIfInBounds_toArray, List.set_cons_zero, List.set_cons_succ]
              refine wpAnyH_take (i := 11) (oi := ⟨some 56, _, _, _, _, _⟩) (v := ?_) rfl (by kernel_rfl) (by kernel_rfl) (by kernel_rfl) (fun _ _ _ h => h) (Or.inl ⟨by rfl, ?_⟩) (by assumption) ?_
              rotate_left 1
              · (intro w hSw; (try dsimp only at hSw); have k0 := K0 w hSw; have k1 := K1 w hSw; have k2 := K2 w hSw; have k3 := K3 w hSw; have k4 := K4 w hSw; have k5 := K5 w hSw; have k6 := K6 w hSw; go_simp; all_goals with_reducible rfl)
              try simp only [Act.put, List.setIfInBounds_toArray, List.set_cons_zero, List.set_cons_succ]
              refine wpAnyH_take (i := 12) (oi := ⟨some 57, _, _, _, _, _⟩) (v := ?_) rfl (by kernel_rfl) (by kernel_rfl) (by kernel_rfl) (fun _ _ _ h => h) (Or.inl ⟨by rfl, ?_⟩) (by assumption) ?_
              rotate_left 1
              · (intro w hSw; (try dsimp only at hSw); have k0 := K0 w hSw; have k1 := K1 w hSw; have k2 := K2 w hSw; have k3 := K3 w hSw; have k4 := K4 w hSw; have k5 := K5 w hSw; have k6 := K6 w hSw; go_simp; all_goals with_reducible rfl)
              try simp only [Act.put, List.setIfInBounds_toArray, List.set_cons_zero, List.set_cons_succ]
              refine wpAnyH_take (i := 13) (oi := ⟨some 58, _, _, _, _, _⟩) (v := ?_) rfl (by kernel_rfl) (by kernel_rfl) (by kernel_rfl) (fun _ _ _ h => h) (Or.inl ⟨by rfl, ?_⟩) (by assumption) ?_
              rotate_left 1
              · (intro w hSw; (try dsimp only at hSw); have k0 := K0 w hSw; have k1 := K1 w hSw; have k2 := K2 w hSw; have k3 := K3 w hSw; have k4 := K4 w hSw; have k5 := K5 w hSw; have k6 := K6 w hSw; go_simp; all_goals with_reducible rfl)
              try simp only [Act.put, List.setIfInBounds_toArray, List.set_cons_zero, List.set_cons_succ]
              refine wpAnyH_take (i := 14) (oi := ⟨some 59, _, _, _, _, _⟩) (v := ?_) rfl (by kernel_rfl) (by kernel_rfl) (by kernel_rfl) (fun _ _ _ h => h) (Or.inl ⟨by rfl, ?_⟩) (by assumption) ?_
              rotate_left 1
              · (intro w hSw; (try dsimp only at hSw); have k0 := K0 w hSw; have k1 := K1 w hSw; have k2 := K2 w hSw; have k3 := K3 w hSw; have k4 := K4 w hSw; have k5 := K5 w hSw; have k6 := K6 w hSw; go_simp; all_goals with_reducible rfl)
              try simp only [Act.put, List.setIfInBounds_toArray, List.set_cons_zero, List.set_cons_succ]
              refine wpAnyH_take (i := 15) (oi := ⟨some 60, _, _, _, _, _⟩) (v := ?_) rfl (by kernel_rfl) (by kernel_rfl) (by kernel_rfl) (fun _ _ _ h => h) (Or.inl ⟨by rfl, ?_⟩) (by assumption) ?_
              rotate_left 1
              · (intro w hSw; (try dsimp only at hSw); have k0 := K0 w hSw; have k1 := K1 w hSw; have k2 := K2 w hSw; have k3 := K3 w hSw; have k4 := K4 w hSw; have k5 := K5 w hSw; have k6 := K6 w hSw; go_simp; all_goals with_reducible rfl)
              try simp only [Act.put, List.setIfInBounds_toArray, List.set_cons_zero, List.set_cons_succ]
              refine wpAnyH_take (i := 16) (oi := ⟨some 61, _, _, _, _, _⟩) (v := ?_) rfl (by kernel_rfl) (by kernel_rfl) (by kernel_rfl) (fun _ _ _ h => h) (Or.inl ⟨by rfl, ?_⟩) (by assumption) ?_
              rotate_left 1
              · (intro w hSw; (try dsimp only at hSw); have k0 := K0 w hSw; have k1 := K1 w hSw; have k2 := K2 w hSw; have k3 := K3 w hSw; have k4 := K4 w hSw; have k5 := K5 w hSw; have k6 := K6 w hSw; go_simp; all_goals with_reducible rfl)
              try simp only [Act.put, List.setIfInBounds_toArray, List.set_cons_zero, List.set_cons_succ]
              refine wpAnyH_take (i := 17) (oi := ⟨some 62, _, _, _, _, _⟩) (v := ?_) rfl (by kernel_rfl) (by kernel_rfl) (by kernel_rfl) (fun _ _ _ h => h) (Or.inl ⟨by rfl, ?_⟩) (by assumption) ?_
              rotate_left 1
              · (intro w hSw; (try dsimp only at hSw); have k0 := K0 w hSw; have k1 := K1 w hSw; have k2 := K2 w hSw; have k3 := K3 w hSw; have k4 := K4 w hSw; have k5 := K5 w hSw; have k6 := K6 w hSw; go_simp; all_goals with_reducible rfl)
              try simp only [Act.put, List.setIfInBounds_toArray, List.set_cons_zero, List.set_cons_succ]
              refine wpAnyH_take (i := 18) (oi := ⟨some 63, _, _, _, _, _⟩) (v := ?_) rfl (by kernel_rfl) (by kernel_rfl) (by kernel_rfl) (fun _ _ _ h => h) (Or.inl ⟨by rfl, ?_⟩) (by assumption) ?_
              rotate_left 1
              · (intro w hSw; (try dsimp only at hSw); have k0 := K0 w hSw; have k1 := K1 w hSw; have k2 := K2 w hSw; have k3 := K3 w hSw; have k4 := K4 w hSw; have k5 := K5 w hSw; have k6 := K6 w hSw; go_simp; all_goals with_reducible rfl)
              try simp only [Act.put, List.setIfInBounds_toArray, List.set_cons_zero, List.set_cons_succ]
              refine wpAnyH_take (i := 19) (oi := ⟨some 64, _, _, _, _, _⟩) (v := ?_) rfl (by kernel_rfl) (by kernel_rfl) (by kernel_rfl) (fun _ _ _ h => h) (Or.inl ⟨by rfl, ?_⟩) (by assumption) ?_
              rotate_left 1
              · (intro w hSw; (try dsimp only at hSw); have k0 := K0 w hSw; have k1 := K1 w hSw; have k2 := K2 w hSw; have k3 := K3 w hSw; have k4 := K4 w hSw; have k5 := K5 w hSw; have k6 := K6 w hSw; go_simp; all_goals with_reducible rfl)
              try simp only [Act.put, List.setIfInBounds_toArray, List.set_cons_zero, List.set_cons_succ]
              refine wpAnyH_take (i := 20) (oi := ⟨some 65, _, _, _, _, _⟩) (v := ?_) rfl (by kernel_rfl) (by kernel_rfl) (by kernel_rfl) (fun _ _ _ h => h) (Or.inl ⟨by rfl, ?_⟩) (by assumption) ?_
              rotate_left 1
              · (intro w hSw; (try dsimp only at hSw); have k0 := K0 w hSw; have k1 := K1 w hSw; have k2 := K2 w hSw; have k3 := K3 w hSw; have k4 := K4 w hSw; have k5 := K5 w hSw; have k6 := K6 w hSw; go_simp; all_goals with_reducible rfl)
              try simp only [Act.put, List.setIfInBounds_toArray, List.set_cons_zero, List.set_cons_succ]
              refine wpAnyH_take (i := 21) (oi := ⟨some 66, _, _, _, _, _⟩) (v := ?_) rfl (by kernel_rfl) (by kernel_rfl) (by kernel_rfl) (fun _ _ _ h => h) (Or.inl ⟨by rfl, ?_⟩) (by assumption) ?_
              rotate_left 1
              · (intro w hSw; (try dsimp only at hSw); have k0 := K0 w hSw; have k1 := K1 w hSw; have k2 := K2 w hSw; have k3 := K3 w hSw; have k4 := K4 w hSw; have k5 := K5 w hSw; have k6 := K6 w hSw; go_simp; all_goals with_reducible rfl)
              try simp only [Act.put, List.setIfInBounds_toArray, List.set_cons_zero, List.set_cons_succ]
              refine wpAnyH_take (i := 22) (oi := ⟨some 67, _, _, _, _, _⟩) (v := ?_) rfl (by kernel_rfl) (by kernel_rfl) (by kernel_rfl) (fun _ _ _ h => h) (Or.inl ⟨by rfl, ?_⟩) (by assumption) ?_
              rotate_left 1
              · (intro w hSw; (try dsimp only at hSw); have k0 := K0 w hSw; have k1 := K1 w hSw; have k2 := K2 w hSw; have k3 := K3 w hSw; have k4 := K4 w hSw; have k5 := K5 w hSw; have k6 := K6 w hSw; go_simp; all_goals with_reducible rfl)
              try simp only [Act.put, List.setIfInBounds_toArray, List.set_cons_zero, List.set_cons_succ]
              refine wpAnyH_take (i := 23) (oi := ⟨some 68, _, _, _, _, _⟩) (v := ?_) rfl (by kernel_rfl) (by kernel_rfl) (by kernel_rfl) (fun _ _ _ h => h) (Or.inl ⟨by rfl, ?_⟩) (by assumption) ?_
              rotate_left 1
              · (intro w hSw; (try dsimp only at hSw); have k0 := K0 w hSw; have k1 := K1 w hSw; have k2 := K2 w hSw; have k3 := K3 w hSw; have k4 := K4 w hSw; have k5 := K5 w hSw; have k6 := K6 w hSw; go_simp; all_goals with_reducible rfl)
              try simp only [Act.put, List.setIfInBounds_toArray, List.set_cons_zero, List.set_cons_succ]
              refine wpAnyH_take (i := 24) (oi := ⟨some 69, _, _, _, _, _⟩) (v := ?_) rfl (by kernel_rfl) (by kernel_rfl) (by kernel_rfl) (fun _ _ _ h => h) (Or.inl ⟨by rfl, ?_⟩) (by assumption) ?_
              rotate_left 1
              · (intro w hSw; (try dsimp only at hSw); have k0 := K0 w hSw; have k1 := K1 w hSw; have k2 := K2 w hSw; have k3 := K3 w hSw; have k4 := K4 w hSw; have k5 := K5 w hSw; have k6 := K6 w hSw; go_simp; all_goals with_reducible rfl)
              try simp only [Act.put, List.setIfInBounds_toArray, List.set_cons_zero, List.set_cons_succ]
              refine wpAnyH_take (i := 25) (oi := ⟨some 70, _, _, _, _, _⟩) (v := ?_) rfl (by kernel_rfl) (by kernel_rfl) (by kernel_rfl) (fun _ _ _ h => h) (Or.inl ⟨by rfl, ?_⟩) (by assumption) ?_
              rotate_left 1
              · (intro w hSw; (try dsimp only at hSw); have k0 := K0 w hSw; have k1 := K1 w hSw; have k2 := K2 w hSw; have k3 := K3 w hSw; have k4 := K4 w hSw; have k5 := K5 w hSw; have k6 := K6 w hSw; go_simp; all_goals with_reducible rfl)
              try simp only [Act.put, List.setIfInBounds_toArray, List.set_cons_zero, List.set_cons_succ]
              refine wpAnyH_take (i := 26) (oi := ⟨some 71, _, _, _, _, _⟩) (v := ?_) rfl (by kernel_rfl) (by kernel_rfl) (by kernel_rfl) (fun _ _ _ h => h) (Or.inl ⟨by rfl, ?_⟩) (by assumption) ?_
              rotate_left 1
              · (intro w hSw; (try dsimp only at hSw); have k0 := K0 w hSw; have k1 := K1 w hSw; have k2 := K2 w hSw; have k3 := K3 w hSw; have k4 := K4 w hSw; have k5 := K5 w hSw; have k6 := K6 w hSw; go_simp; all_goals with_reducible rfl)
              try simp only [Act.put, List.setIfInBounds_toArray, List.set_cons_zero, List.set_cons_succ]
              refine wpAnyH_take (i := 27) (oi := ⟨some 72, _, _, _, _, _⟩) (v := ?_) rfl (by kernel_rfl) (by kernel_rfl) (by kernel_rfl) (fun _ _ _ h => h) (Or.inl ⟨by rfl, ?_⟩) (by assumption) ?_
              rotate_left 1
              · (intro w hSw; (try dsimp only at hSw); have k0 := K0 w hSw; have k1 := K1 w hSw; have k2 := K2 w hSw; have k3 := K3 w hSw; have k4 := K4 w hSw; have k5 := K5 w hSw; have k6 := K6 w hSw; go_simp; all_goals with_reducible rfl)
              try simp only [Act.put, List.setIfInBounds_toArray, List.set_cons_zero, List.set_cons_succ]
              refine wpAnyH_take (i := 28) (oi := ⟨some 73, _, _, _, _, _⟩) (v := ?_) rfl (by kernel_rfl) (by kernel_rfl) (by kernel_rfl) (fun _ _ _ h => h) (Or.inl ⟨by rfl, ?_⟩) (by assumption) ?_
              rotate_left 1
              · (intro w hSw; (try dsimp only at hSw); have k0 := K0 w hSw; have k1 := K1 w hSw; have k2 := K2 w hSw; have k3 := K3 w hSw; have k4 := K4 w hSw; have k5 := K5 w hSw; have k6 := K6 w hSw; go_simp; all_goals with_reducible rfl)
              try simp only [Act.put, List.setIfInBounds_toArray, List.set_cons_zero, List.set_cons_succ]
              refine wpAnyH_take (i := 29) (oi := ⟨some 74, _, _, _, _, _⟩) (v := ?_) rfl (by kernel_rfl) (by kernel_rfl) (by kernel_rfl) (fun _ _ _ h => h) (Or.inl ⟨by rfl, ?_⟩) (by assumption) ?_
              rotate_left 1
              · (intro w hSw; (try dsimp only at hSw); have k0 := K0 w hSw; have k1 := K1 w hSw; have k2 := K2 w hSw; have k3 := K3 w hSw; have k4 := K4 w hSw; have k5 := K5 w hSw; have k6 := K6 w hSw; go_simp; all_goals with_reducible rfl)
              try simp only [Act.put, List.setIfInBounds_toArray, List.set_cons_zero, List.set_cons_succ]
              refine wpAnyH_ready (rs := [30]) (by kernel_rfl) (by simp) ?_
              refine AllReadyH.cons (o := ⟨some 75, _, _, _, _, _⟩) rfl (fun K hK => ?_) AllReadyH.nil
              go_simp
              ((with_reducible refine (HEN.out _ (by assumption)).mono ?_); rintro ex w5 ⟨rfl, hf5a⟩; have hf5 : Frm [] wr w5 := (Frm.refl [] wr).drew.trans hf5a (by simp) (by simp))
              go_wp2_with fail
              refine hK.out _ _ (by assumption) (fun hHeld => ?_)
              clear hK K
              try simp only [Act.put, List.setIfInBounds_toArray, List.set_cons_zero, List.set_cons_succ]
              refine wpAnyH_take (i := 31) (oi := ⟨some 76, _, _, _, _, _⟩) (v := ?_) rfl (by kernel_rfl) (by kernel_rfl) (by kernel_rfl) (fun _ _ _ h => h) (Or.inl ⟨by rfl, ?_⟩) (by assumption) ?_
              rotate_left 1
              · (intro w hSw; (try dsimp only at hSw); have k0 := K0 w hSw; have k1 := K1 w hSw; have k2 := K2 w hSw; have k3 := K3 w hSw; have k4 := K4 w hSw; have k5 := K5 w hSw; have k6 := K6 w hSw; go_simp; all_goals with_reducible rfl)
              try simp only [Act.put, List.setIfInBounds_toArray, List.set_cons_zero, List.set_cons_succ]
              refine wpAnyH_done (by kernel_rfl) ?_ _
              clear K0 K1 K2 K3 K4 K5 K6 HEN
              go_wp2_with fail
              go_upto_region 6 with fail
              obtain ⟨wq, hwq⟩ : ∃ wq, wq = w5 := ⟨_, rfl⟩
              rw [← hwq]
              have hrq : Frm [] wr wq := by rw [hwq]; exact hf5
              clear hwq hf5 hf5a
              obtain ⟨dd, hdd⟩ : ∃ dd, dd = D.getD s [] := ⟨_, rfl⟩
              rw [← hdd] at HAB HAC HGA
              obtain ⟨dn, hdn⟩ : ∃ dn, dn = dd.length := ⟨_, rfl⟩
              rw [← hdn] at HAC
              have HDN := Lib.hid hdn
              have HDD := Lib.hid hdd
              have hgaq : ga < wq.heap.size := by have := HRG.out; have := hrq.size; omega
              have hplq : pm < wq.heap.size := by have := hrq.size; omega
              have hvq := hrq.whole HV'.out (by simp)
              have hv3q : wq.cell? ⟨pm, 3, none⟩ = some (.slice (some ⟨ga, oa, none⟩) co c') := by rw [HCO.out]; exact hvq.cell 3
              have hacq := HAC.out wq hrq
              have K3 : ∀ y, Frm (blk ax) wq y → y.cell? ⟨pm, 3, none⟩ = some (.slice (some ⟨ga, oa, none⟩) co c') := fun y hy => (hy.cell hplq HPA.out.1).trans hv3q
              have K5 : ∀ y, Frm (blk ax) wq y → y.cell? ⟨pm, 5, none⟩ = some (.int .i64 (s : Nat)) := fun y hy => (hy.cell hplq HPA.out.1).trans (hvq.cell 5)
              have K7 : ∀ y, Frm (blk ax) wq y → y.cell? ⟨ga, oa + s, none⟩ = some (.slice ai dn ci) := fun y hy => (hy.cell hgaq HPA.out.2).trans hacq
              have HVF : Hid (∀ y, Frm (blk ax) wq y → y.frozen? ⟨pm, 5, none⟩ = false) := Lib.hid fun y hy => (hy.whole hvq HPA.out.1).free 5
              have FN : Hid (((wq.alloc (.cells #[.int .u64 (s : Nat), .slice ai dn ci] 55)).drew).ownsRow w.heap.size 55 2 (.slice ax kx cx) kx (ic X) ∧
                  ValsAt ((wq.alloc (.cells #[.int .u64 (s : Nat), .slice ai dn ci] 55)).drew) (some ⟨wq.heap.size, 0, none⟩) (ic [⟨(s, dd), ai, ci⟩]) ∧
                  w.heap.size ≤ ((wq.alloc (.cells #[.int .u64 (s : Nat), .slice ai dn ci] 55)).drew).heap.size ∧
                  ∀ a3 c3 w3, AppS ((wq.alloc (.cells #[.int .u64 (s : Nat), .slice ai dn ci] 55)).drew) w3 w.heap.size 55 2 (.slice ax kx cx) kx 1 (ic X) (ic [⟨(s, dd), ai, ci⟩]) a3 c3 → Frm (blk ax) wq w3 ∧
                    DaRel w B pm F G P W A D (hasAdd H n pn) su cl (.slice a3 (kx + 1) c3) (w3.setCell ⟨pm, 5, none⟩ (.int .i64 ((s + 1 : Nat) : Int)))) := Lib.hid (by
                have hfl : Frm [] wq ((wq.alloc (.cells #[.int .u64 (s : Nat), .slice ai dn ci] 55)).drew) := ((Frm.refl _ _).alloc _).drew
                have hrl := hrq.trans hfl (U := []) (by simp) (by simp)
                have hIl := HIO.out.keep hrl (F' := [pm]) (by simp) (fun x hx => .inl hx)
                have hlz := hrl.size
                have hwl := HFR.out.size
                refine ⟨by have := hIl.own; rw [← HKX.out.1] at this; exact this, ?_, by omega, fun a3 c3 w3 happ => ?_⟩
                · rw [show ic [⟨(s, dd), ai, ci⟩] = [.int .u64 (s : Nat), .slice ai dn ci] from by rw [HDN.out]; rfl]
                  exact (two_vals _ _ _ _ _).keep ((Frm.refl [] _).drew) (by simp)
                · have hok : IOk ((wq.alloc (.cells #[.int .u64 (s : Nat), .slice ai dn ci] 55)).drew) (blk ax ++ [pm]) [⟨(s, dd), ai, ci⟩] := by
                    intro y hy
                    simp only [List.mem_singleton] at hy
                    subst hy
                    refine ⟨hrl.bytes' HAB.out (by simp), fun hne q hq hm => ?_, HAN.out, by show s < _; omega⟩
                    obtain ⟨h1, h2⟩ := HGA.out q hq hne
                    rcases List.mem_append.1 hm with h3 | h3
                    · exact h1 h3
                    · exact h2 (by simpa using h3)
                  obtain ⟨g1, g2, g3, g4⟩ := hIl.app HKX.out.1 hok rfl (fun x hx => by simp at hx; subst hx; omega) happ
                  have hall := hrl.trans g2 (U := blk ax) (by simp) (fun x hx => .inl hx)
                  have hD3 := HDW.out.keep hall (F' := blk a3 ++ F) (fun x hx => .inl (by simp [hx])) (fun x hx => by
                    rcases List.mem_append.1 hx with h | h
                    · rcases g3 x h with h1 | h1
                      · exact .inl (by simp [h1])
                      · exact .inr (by omega)
                    · exact .inl (by simp [h]))
                  have hsD : s < D.length := by have := HCO.out; omega
                  have hst : Frm [pm] w3 (w3.setCell ⟨pm, 5, none⟩ (.int .i64 ((s + 1 : Nat) : Int))) := (Frm.refl _ _).setCell (.inl (by simp)) _
                  refine ⟨hfl.trans g2 (by simp) (fun x hx => .inl hx), s + 1, a3, kx + 1, c3, _, rfl, g4, by have := HKX.out.2; omega, hsD, Lib.hid (g1.keep hst (F' := [pm]) (fun x hx => .inl hx) (fun x hx => .inl hx)), Lib.hid (by rw [itemsN_succ _ hsu5, ← HDD.out, ← HIT.out]; simp [its]), Lib.hid (fun i h1 h2 => ?_), Lib.hid (dw_sure hD3 hsD), Lib.hid ((HFR.out.trans hall (fun x hx => hx) (fun x hx => .inr ?_)).trans hst (fun x hx => hx) (fun x hx => .inl (by simp at hx; simp [hx])))⟩
                  · by_cases hi : i < s
                    · exact HOKS.out i h1 hi
                    · obtain rfl : i = s := by omega
                      exact HOK.out.symm
                  · exact (HIO.out.blk_lt x hx).1)
              have hwm : IntKind.i64.wrap ((s : Int) + 1) = ((s + 1 : Nat) : Int) := by rw [IntWalk.i64_in _ (by omega)]; rfl
              clear hdn hdd hrq hvq hv3q hacq HV' HAB HAN HGA
              refine wp_region_held_drew (S := fun w' => Frm (blk ax) wq w') (by kernel_rfl) (Frm.drew (Frm.refl _ _)) (fun hHeld => ?_)
              refine wpAnyH_take (i := 0) (oi := ⟨some 77, _, _, _, _, _⟩) (v := ?_) rfl (by kernel_rfl) (by kernel_rfl) (by kernel_rfl) (fun _ _ _ h => h) (Or.inl ⟨by rfl, ?_⟩) (by assumption) ?_
              rotate_left 1
              · (intro w hSw; (try dsimp only at hSw); have k3 := K3 w hSw; have k5 := K5 w hSw; have k7 := K7 w hSw; go_simp; all_goals with_reducible rfl)
              try simp only [Act.put, List.setIfInBounds_toArray, List.set_cons_zero, List.set_cons_succ]
              refine wpAnyH_take (i := 1) (oi := ⟨some 78, _, _, _, _, _⟩) (v := ?_) rfl (by kernel_rfl) (by kernel_rfl) (by kernel_rfl) (fun _ _ _ h => h) (Or.inl ⟨by rfl, ?_⟩) (by assumption) ?_
              rotate_left 1
              · (intro w hSw; (try dsimp only at hSw); have k3 := K3 w hSw; have k5 := K5 w hSw; have k7 := K7 w hSw; go_simp; all_goals with_reducible rfl)
              try simp only [Act.put, List.setIfInBounds_toArray, List.set_cons_zero, List.set_cons_succ]
              refine wpAnyH_take (i := 2) (oi := ⟨some 79, _, _, _, _, _⟩) (v := ?_) rfl (by kernel_rfl) (by kernel_rfl) (by kernel_rfl) (fun _ _ _ h => h) (Or.inl ⟨by rfl, ?_⟩) (by assumption) ?_
              rotate_left 1
              · (intro w hSw; (try dsimp only at hSw); have k3 := K3 w hSw; have k5 := K5 w hSw; have k7 := K7 w hSw; go_simp; all_goals with_reducible rfl)
              try simp only [Act.put, List.setIfInBounds_toArray, List.set_cons_zero, List.set_cons_succ]
              refine wpAnyH_take (i := 3) (oi := ⟨some 80, _, _, _, _, _⟩) (v := ?_) rfl (by kernel_rfl) (by kernel_rfl) (by kernel_rfl) (fun _ _ _ h => h) (Or.inl ⟨by rfl, ?_⟩) (by assumption) ?_
              rotate_left 1
              · (intro w hSw; (try dsimp only at hSw); have k3 := K3 w hSw; have k5 := K5 w hSw; have k7 := K7 w hSw; go_simp; all_goals with_reducible rfl)
              try simp only [Act.put, List.setIfInBounds_toArray, List.set_cons_zero, List.set_cons_succ]
              refine wpAnyH_take (i := 4) (oi := ⟨some 81, _, _, _, _, _⟩) (v := ?_) rfl (by kernel_rfl) (by kernel_rfl) (by kernel_rfl) (fun _ _ _ h => h) (Or.inl ⟨by rfl, ?_⟩) (by assumption) ?_
              rotate_left 1
              · (intro w hSw; (try dsimp only at hSw); have k3 := K3 w hSw; have k5 := K5 w hSw; have k7 := K7 w hSw; go_simp; all_goals with_reducible rfl)
              try simp only [Act.put, List.setIfInBounds_toArray, List.set_cons_zero, List.set_cons_succ]
              refine wpAnyH_take (i := 5) (oi := ⟨some 82, _, _, _, _, _⟩) (v := ?_) rfl (by kernel_rfl) (by kernel_rfl) (by kernel_rfl) (fun _ _ _ h => h) (Or.inl ⟨by rfl, ?_⟩) (by assumption) ?_
              rotate_left 1
              · (intro w hSw; (try dsimp only at hSw); have k3 := K3 w hSw; have k5 := K5 w hSw; have k7 := K7 w hSw; go_simp; all_goals with_reducible rfl)
              try simp only [Act.put, List.setIfInBounds_toArray, List.set_cons_zero, List.set_cons_succ]
              refine wpAnyH_take (i := 6) (oi := ⟨some 83, _, _, _, _, _⟩) (v := ?_) rfl (by kernel_rfl) (by kernel_rfl) (by kernel_rfl) (fun _ _ _ h => h) (Or.inl ⟨by rfl, ?_⟩) (by assumption) ?_
              rotate_left 1
              · (intro w hSw; (try dsimp only at hSw); have k3 := K3 w hSw; have k5 := K5 w hSw; have k7 := K7 w hSw; go_simp; all_goals with_reducible rfl)
              try simp only [Act.put, List.setIfInBounds_toArray, List.set_cons_zero, List.set_cons_succ]
              refine wpAnyH_take (i := 7) (oi := ⟨some 84, _, _, _, _, _⟩) (v := ?_) rfl (by kernel_rfl) (by kernel_rfl) (by kernel_rfl) (fun _ _ _ h => h) (Or.inl ⟨by rfl, ?_⟩) (by assumption) ?_
              rotate_left 1
              · (intro w hSw; (try dsimp only at hSw); have k3 := K3 w hSw; have k5 := K5 w hSw; have k7 := K7 w hSw; go_simp; all_goals with_reducible rfl)
              try simp only [Act.put, List.setIfInBounds_toArray, List.set_cons_zero, List.set_cons_succ]
              refine wpAnyH_take (i := 8) (oi := ⟨some 85, _, _, _, _, _⟩) (v := ?_) rfl (by kernel_rfl) (by kernel_rfl) (by kernel_rfl) (fun _ _ _ h => h) (Or.inl ⟨by rfl, ?_⟩) (by assumption) ?_
              rotate_left 1
              · (intro w hSw; (try dsimp only at hSw); have k3 := K3 w hSw; have k5 := K5 w hSw; have k7 := K7 w hSw; go_simp; all_goals with_reducible rfl)
              try simp only [Act.put, List.setIfInBounds_toArray, List.set_cons_zero, List.set_cons_succ]
              refine wpAnyH_take (i := 9) (oi := ⟨some 86, _, _, _, _, _⟩) (v := ?_) rfl (by kernel_rfl) (by kernel_rfl) (by kernel_rfl) (fun _ _ _ h => h) (Or.inl ⟨by rfl, ?_⟩) (by assumption) ?_
              rotate_left 1
              · (intro w hSw; (try dsimp only at hSw); have k3 := K3 w hSw; have k5 := K5 w hSw; have k7 := K7 w hSw; go_simp; all_goals with_reducible rfl)
              try simp only [Act.put, List.setIfInBounds_toArray, List.set_cons_zero, List.set_cons_succ]
              refine wpAnyH_take (i := 10) (oi := ⟨some 87, _, _, _, _, _⟩) (v := ?_) rfl (by kernel_rfl) (by kernel_rfl) (by kernel_rfl) (fun _ _ _ h => h) (Or.inl ⟨by rfl, ?_⟩) (by assumption) ?_
              rotate_left 1
              · (intro w hSw; (try dsimp only at hSw); have k3 := K3 w hSw; have k5 := K5 w hSw; have k7 := K7 w hSw; go_simp; all_goals with_reducible rfl)
              try simp only [Act.put, List.setIfInBounds_toArray, List.set_cons_zero, List.set_cons_succ]
              refine wpAnyH_take (i := 11) (oi := ⟨some 88, _, _, _, _, _⟩) (v := ?_) rfl (by kernel_rfl) (by kernel_rfl) (by kernel_rfl) (fun _ _ _ h => h) (Or.inl ⟨by rfl, ?_⟩) (by assumption) ?_
              rotate_left 1
              · (intro w hSw; (try dsimp only at hSw); have k3 := K3 w hSw; have k5 := K5 w hSw; have k7 := K7 w hSw; go_simp; all_goals with_reducible rfl)
              try simp only [Act.put, List.setIfInBounds_toArray, List.set_cons_zero, List.set_cons_succ]
              refine wpAnyH_take (i := 12) (oi := ⟨some 89, _, _, _, _, _⟩) (v := ?_) rfl (by kernel_rfl) (by kernel_rfl) (by kernel_rfl) (fun _ _ _ h => h) (Or.inl ⟨by rfl, ?_⟩) (by assumption) ?_
              rotate_left 1
              · (intro w hSw; (try dsimp only at hSw); have k3 := K3 w hSw; have k5 := K5 w hSw; have k7 := K7 w hSw; go_simp; all_goals with_reducible rfl)
              try simp only [Act.put, List.setIfInBounds_toArray, List.set_cons_zero, List.set_cons_succ]
              refine wpAnyH_take (i := 13) (oi := ⟨some 90, _, _, _, _, _⟩) (v := ?_) rfl (by kernel_rfl) (by kernel_rfl) (by kernel_rfl) (fun _ _ _ h => h) (Or.inl ⟨by rfl, ?_⟩) (by assumption) ?_
              rotate_left 1
              · (intro w hSw; (try dsimp only at hSw); have k3 := K3 w hSw; have k5 := K5 w hSw; have k7 := K7 w hSw; go_simp; all_goals with_reducible rfl)
              try simp only [Act.put, List.setIfInBounds_toArray, List.set_cons_zero, List.set_cons_succ]
              refine wpAnyH_take (i := 14) (oi := ⟨some 91, _, _, _, _, _⟩) (v := ?_) rfl (by kernel_rfl) (by kernel_rfl) (by kernel_rfl) (fun _ _ _ h => h) (Or.inl ⟨by rfl, ?_⟩) (by assumption) ?_
              rotate_left 1
              · (intro w hSw; (try dsimp only at hSw); have k3 := K3 w hSw; have k5 := K5 w hSw; have k7 := K7 w hSw; go_simp; all_goals with_reducible rfl)
              try simp only [Act.put, List.setIfInBounds_toArray, List.set_cons_zero, List.set_cons_succ]
              refine wpAnyH_take (i := 15) (oi := ⟨some 92, _, _, _, _, _⟩) (v := ?_) rfl (by kernel_rfl) (by kernel_rfl) (by kernel_rfl) (fun _ _ _ h => h) (Or.inl ⟨by rfl, ?_⟩) (by assumption) ?_
              rotate_left 1
              · (intro w hSw; (try dsimp only at hSw); have k3 := K3 w hSw; have k5 := K5 w hSw; have k7 := K7 w hSw; go_simp; all_goals with_reducible rfl)
              try simp only [Act.put, List.setIfInBounds_toArray, List.set_cons_zero, List.set_cons_succ]
              refine wpAnyH_take (i := 16) (oi := ⟨some 93, _, _, _, _, _⟩) (v := ?_) rfl (by kernel_rfl) (by kernel_rfl) (by kernel_rfl) (fun _ _ _ h => h) (Or.inl ⟨by rfl, ?_⟩) (by assumption) ?_
              rotate_left 1
              · (intro w hSw; (try dsimp only at hSw); have k3 := K3 w hSw; have k5 := K5 w hSw; have k7 := K7 w hSw; go_simp; all_goals with_reducible rfl)
              try simp only [Act.put, List.setIfInBounds_toArray, List.set_cons_zero, List.set_cons_succ]
              refine wpAnyH_ready (rs := [17]) (by kernel_rfl) (by simp) ?_
              refine AllReadyH.cons (o := ⟨some 94, _, _, _, _, _⟩) rfl (fun K hK => ?_) AllReadyH.nil
              go_simp
              refine hK.out _ _ (by repeat (first | assumption | apply Frm.alloc | apply Frm.drew | exact Frm.refl _ _)) (fun hHeld => ?_)
              clear hK K
              try simp only [Act.put, List.setIfInBounds_toArray, List.set_cons_zero, List.set_cons_succ]
              refine wpAnyH_ready (rs := [18]) (by kernel_rfl) (by simp) ?_
              refine AllReadyH.cons (o := ⟨some 95, _, _, _, _, _⟩) rfl (fun K hK => ?_) AllReadyH.nil
              (refine step_appS (by rfl) (.tmp 77) (.tmp 94) 49 rfl w.heap.size 55 i0 (.agg #[.int .u64 0, .slice none 0 0]) 2 32 Try.underlying49 HINF.out hz0 rfl (by omega) hz1 hz2 (by omega) (.slice ax kx cx) kx (ic X) rfl (FN.out.1) (some ⟨wq.heap.size, 0, none⟩) 1 1 (ic [⟨(s, dd), ai, ci⟩]) (by first | rfl | simp) (FN.out.2.1) rfl (ic_one _) (fun h => by cases h) (by omega) (FN.out.2.2.1) (kx + 1) rfl ?_; intro a3 c3 w3 happ3; have HREL := Lib.hid (FN.out.2.2.2 a3 c3 w3 happ3); have S3 : Frm (blk ax) wq w3 := HREL.out.1; clear happ3)
              refine hK.out _ _ (by repeat (first | assumption | apply Frm.alloc | apply Frm.drew | exact Frm.refl _ _)) (fun hHeld => ?_)
              clear hK K
              try simp only [Act.put, List.setIfInBounds_toArray, List.set_cons_zero, List.set_cons_succ]
              refine wpAnyH_take (i := 19) (oi := ⟨some 7, _, _, _, _, _⟩) (v := ?_) rfl (by kernel_rfl) (by kernel_rfl) (by kernel_rfl) (fun _ _ _ h => h) (Or.inl ⟨by rfl, ?_⟩) (by assumption) ?_
              rotate_left 1
              · (intro w hSw; (try dsimp only at hSw); have k3 := K3 w hSw; have k5 := K5 w hSw; have k7 := K7 w hSw; go_simp; all_goals with_reducible rfl)
              try simp only [Act.put, List.setIfInBounds_toArray, List.set_cons_zero, List.set_cons_succ]
              refine wpAnyH_done (by kernel_rfl) ?_ _
              have x5 := K5 w3 S3
              have z5 := HVF.out w3 S3
              have HRL := Lib.hid HREL.out.2
              clear K3 K5 K7 FN HREL HVF S3
              go_wp2_with fail
              go_roundw
              case rel => exact HRL.out
              case measure => simp [lenOf]; have := HKX.out.2; omega
          · have g1 : decide ((s : Int) < (co : Int)) = false := decide_eq_false (by omega)
            have g2 : decide (s < co) = false := decide_eq_false hsn
            have HEND : Hid (∀ z, Frm [] wr z → Q (.returned (.slice ax kx cx)) z) := Lib.hid fun z hz' => by
              rw [HQ.out]
              rw [HKX.out.1]
              exact .inr ⟨by have := HN1.out; omega, by have := HN2.out; have := HCO.out; omega, HGI.out.symm, pn, rfl, hpn, s, ax, cx, X, rfl, by have := HKX.out; omega, HS2.out, HIT.out, HOKS.out, fun h => by have := HCO.out; omega, HIO.out.il.keep hz' (F' := []) (by simp) (by simp), (HDW.out.keep hz' (F' := F) (by simp) (fun x hx => .inl (by simp [hx]))), HFR.out.trans hz' (fun x hx => hx) (by simp)⟩
            clear hG' hR' hL' hH' hv'
            go_upto_region 5 with fail
            refine wp_region_held_drew (S := fun w' => Frm [] wr w') (by kernel_rfl) (Frm.drew (Frm.refl _ _)) (fun hHeld => ?_)
            refine wpAnyH_take (i := 0) (oi := ⟨some 45, _, _, _, _, _⟩) (v := ?_) rfl (by kernel_rfl) (by kernel_rfl) (by kernel_rfl) (fun _ _ _ h => h) (Or.inl ⟨by rfl, ?_⟩) (by assumption) ?_
            rotate_left 1
            · (intro w hSw; (try dsimp only at hSw); have k0 := K0 w hSw; have k1 := K1 w hSw; have k2 := K2 w hSw; have k3 := K3 w hSw; have k4 := K4 w hSw; have k5 := K5 w hSw; go_simp; all_goals with_reducible rfl)
            try simp only [Act.put, List.setIfInBounds_toArray, List.set_cons_zero, List.set_cons_succ]
            refine wpAnyH_take (i := 1) (oi := ⟨some 46, _, _, _, _, _⟩) (v := ?_) rfl (by kernel_rfl) (by kernel_rfl) (by kernel_rfl) (fun _ _ _ h => h) (Or.inl ⟨by rfl, ?_⟩) (by assumption) ?_
            rotate_left 1
            · (intro w hSw; (try dsimp only at hSw); have k0 := K0 w hSw; have k1 := K1 w hSw; have k2 := K2 w hSw; have k3 := K3 w hSw; have k4 := K4 w hSw; have k5 := K5 w hSw; go_simp; all_goals with_reducible rfl)
            try simp only [Act.put, List.setIfInBounds_toArray, List.set_cons_zero, List.set_cons_succ]
            refine wpAnyH_take (i := 2) (oi := ⟨some 47, _, _, _, _, _⟩) (v := ?_) rfl (by kernel_rfl) (by kernel_rfl) (by kernel_rfl) (fun _ _ _ h => h) (Or.inl ⟨by rfl, ?_⟩) (by assumption) ?_
            rotate_left 1
            · (intro w hSw; (try dsimp only at hSw); have k0 := K0 w hSw; have k1 := K1 w hSw; have k2 := K2 w hSw; have k3 := K3 w hSw; have k4 := K4 w hSw; have k5 := K5 w hSw; go_simp; all_goals with_reducible rfl)
            try simp only [Act.put, List.setIfInBounds_toArray, List.set_cons_zero, List.set_cons_succ]
            refine wpAnyH_take (i := 3) (oi := ⟨some 48, _, _, _, _, _⟩) (v := ?_) rfl (by kernel_rfl) (by kernel_rfl) (by kernel_rfl) (fun _ _ _ h => h) (Or.inl ⟨by rfl, ?_⟩) (by assumption) ?_
            rotate_left 1
            · (intro w hSw; (try dsimp only at hSw); have k0 := K0 w hSw; have k1 := K1 w hSw; have k2 := K2 w hSw; have k3 := K3 w hSw; have k4 := K4 w hSw; have k5 := K5 w hSw; go_simp; all_goals with_reducible rfl)
            try simp only [Act.put, List.setIfInBounds_toArray, List.set_cons_zero, List.set_cons_succ]
            refine wpAnyH_take (i := 4) (oi := ⟨some 49, _, _, _, _, _⟩) (v := ?_) rfl (by kernel_rfl) (by kernel_rfl) (by kernel_rfl) (fun _ _ _ h => h) (Or.inl ⟨by rfl, ?_⟩) (by assumption) ?_
            rotate_left 1
            · (intro w hSw; (try dsimp only at hSw); have k0 := K0 w hSw; have k1 := K1 w hSw; have k2 := K2 w hSw; have k3 := K3 w hSw; have k4 := K4 w hSw; have k5 := K5 w hSw; go_simp; all_goals with_reducible rfl)
            try simp only [Act.put, List.setIfInBounds_toArray, List.set_cons_zero, List.set_cons_succ]
            refine wpAnyH_take (i := 5) (oi := ⟨some 50, _, _, _, _, _⟩) (v := ?_) rfl (by kernel_rfl) (by kernel_rfl) (by kernel_rfl) (fun _ _ _ h => h) (Or.inl ⟨by rfl, ?_⟩) (by assumption) ?_
            rotate_left 1
            · (intro w hSw; (try dsimp only at hSw); have k0 := K0 w hSw; have k1 := K1 w hSw; have k2 := K2 w hSw; have k3 := K3 w hSw; have k4 := K4 w hSw; have k5 := K5 w hSw; go_simp; all_goals with_reducible rfl)
            try simp only [Act.put, List.setIfInBounds_toArray, List.set_cons_zero, List.set_cons_succ]
            refine wpAnyH_take (i := 6) (oi := ⟨some 51, _, _, _, _, _⟩) (v := ?_) rfl (by kernel_rfl) (by kernel_rfl) (by kernel_rfl) (fun _ _ _ h => h) (Or.inl ⟨by rfl, ?_⟩) (by assumption) ?_
            rotate_left 1
            · (intro w hSw; (try dsimp only at hSw); have k0 := K0 w hSw; have k1 := K1 w hSw; have k2 := K2 w hSw; have k3 := K3 w hSw; have k4 := K4 w hSw; have k5 := K5 w hSw; go_simp; all_goals with_reducible rfl)
            try simp only [Act.put, List.setIfInBounds_toArray, List.set_cons_zero, List.set_cons_succ]
            refine wpAnyH_take (i := 7) (oi := ⟨some 52, _, _, _, _, _⟩) (v := ?_) rfl (by kernel_rfl) (by kernel_rfl) (by kernel_rfl) (fun _ _ _ h => h) (Or.inl ⟨by rfl, ?_⟩) (by assumption) ?_
            rotate_left 1
            · (intro w hSw; (try dsimp only at hSw); have k0 := K0 w hSw; have k1 := K1 w hSw; have k2 := K2 w hSw; have k3 := K3 w hSw; have k4 := K4 w hSw; have k5 := K5 w hSw; go_simp; all_goals with_reducible rfl)
            try simp only [Act.put, List.setIfInBounds_toArray, List.set_cons_zero, List.set_cons_succ]
            refine wpAnyH_take (i := 8) (oi := ⟨some 53, _, _, _, _, _⟩) (v := ?_) rfl (by kernel_rfl) (by kernel_rfl) (by kernel_rfl) (fun _ _ _ h => h) (Or.inl ⟨by rfl, ?_⟩) (by assumption) ?_
            rotate_left 1
            · (intro w hSw; (try dsimp only at hSw); have k0 := K0 w hSw; have k1 := K1 w hSw; have k2 := K2 w hSw; have k3 := K3 w hSw; have k4 := K4 w hSw; have k5 := K5 w hSw; go_simp; all_goals with_reducible rfl)
            try simp only [Act.put, List.setIfInBounds_toArray, List.set_cons_zero, List.set_cons_succ]
            refine wpAnyH_take (i := 9) (oi := ⟨some 54, _, _, _, _, _⟩) (v := ?_) rfl (by kernel_rfl) (by kernel_rfl) (by kernel_rfl) (fun _ _ _ h => h) (Or.inl ⟨by rfl, ?_⟩) (by assumption) ?_
            rotate_left 1
            · (intro w hSw; (try dsimp only at hSw); have k0 := K0 w hSw; have k1 := K1 w hSw; have k2 := K2 w hSw; have k3 := K3 w hSw; have k4 := K4 w hSw; have k5 := K5 w hSw; go_simp; all_goals with_reducible rfl)
            try simp only [Act.put, List.setIfInBounds_toArray, List.set_cons_zero, List.set_cons_succ]
            refine wpAnyH_take (i := 10) (oi := ⟨some 55, _, _, _, _, _⟩) (v := ?_) rfl (by kernel_rfl) (by kernel_rfl) (by kernel_rfl) (fun _ _ _ h => h) (Or.inl ⟨by rfl, ?_⟩) (by assumption) ?_
            rotate_left 1
            · (intro w hSw; (try dsimp only at hSw); have k0 := K0 w hSw; have k1 := K1 w hSw; have k2 := K2 w hSw; have k3 := K3 w hSw; have k4 := K4 w hSw; have k5 := K5 w hSw; go_simp; all_goals with_reducible rfl)
            try simp only [Act.put, List.setIfInBounds_toArray, List.set_cons_zero, List.set_cons_succ]
            refine wpAnyH_take (i := 11) (oi := ⟨some 56, _, _, _, _, _⟩) (v := undef) rfl (by kernel_rfl) (by kernel_rfl) (by kernel_rfl) (fun _ _ _ h => h) (Or.inr ⟨by rfl, rfl⟩) (by assumption) ?_
            try simp only [Act.put, List.setIfInBounds_toArray, List.set_cons_zero, List.set_cons_succ]
            refine wpAnyH_take (i := 12) (oi := ⟨some 57, _, _, _, _, _⟩) (v := undef) rfl (by kernel_rfl) (by kernel_rfl) (by kernel_rfl) (fun _ _ _ h => h) (Or.inr ⟨by rfl, rfl⟩) (by assumption) ?_
            try simp only [Act.put, List.setIfInBounds_toArray, List.set_cons_zero, List.set_cons_succ]
            refine wpAnyH_take (i := 13) (oi := ⟨some 58, _, _, _, _, _⟩) (v := undef) rfl (by kernel_rfl) (by kernel_rfl) (by kernel_rfl) (fun _ _ _ h => h) (Or.inr ⟨by rfl, rfl⟩) (by assumption) ?_
            try simp only [Act.put, List.setIfInBounds_toArray, List.set_cons_zero, List.set_cons_succ]
            refine wpAnyH_take (i := 14) (oi := ⟨some 59, _, _, _, _, _⟩) (v := undef) rfl (by kernel_rfl) (by kernel_rfl) (by kernel_rfl) (fun _ _ _ h => h) (Or.inr ⟨by rfl, rfl⟩) (by assumption) ?_
            try simp only [Act.put, List.setIfInBounds_toArray, List.set_cons_zero, List.set_cons_succ]
            refine wpAnyH_take (i := 15) (oi := ⟨some 60, _, _, _, _, _⟩) (v := undef) rfl (by kernel_rfl) (by kernel_rfl) (by kernel_rfl) (fun _ _ _ h => h) (Or.inr ⟨by rfl, rfl⟩) (by assumption) ?_
            try simp only [Act.put, List.setIfInBounds_toArray, List.set_cons_zero, List.set_cons_succ]
            refine wpAnyH_take (i := 16) (oi := ⟨some 61, _, _, _, _, _⟩) (v := undef) rfl (by kernel_rfl) (by kernel_rfl) (by kernel_rfl) (fun _ _ _ h => h) (Or.inr ⟨by rfl, rfl⟩) (by assumption) ?_
            try simp only [Act.put, List.setIfInBounds_toArray, List.set_cons_zero, List.set_cons_succ]
            refine wpAnyH_take (i := 17) (oi := ⟨some 62, _, _, _, _, _⟩) (v := undef) rfl (by kernel_rfl) (by kernel_rfl) (by kernel_rfl) (fun _ _ _ h => h) (Or.inr ⟨by rfl, rfl⟩) (by assumption) ?_
            try simp only [Act.put, List.setIfInBounds_toArray, List.set_cons_zero, List.set_cons_succ]
            refine wpAnyH_take (i := 18) (oi := ⟨some 63, _, _, _, _, _⟩) (v := undef) rfl (by kernel_rfl) (by kernel_rfl) (by kernel_rfl) (fun _ _ _ h => h) (Or.inr ⟨by rfl, rfl⟩) (by assumption) ?_
            try simp only [Act.put, List.setIfInBounds_toArray, List.set_cons_zero, List.set_cons_succ]
            refine wpAnyH_take (i := 19) (oi := ⟨some 64, _, _, _, _, _⟩) (v := undef) rfl (by kernel_rfl) (by kernel_rfl) (by kernel_rfl) (fun _ _ _ h => h) (Or.inr ⟨by rfl, rfl⟩) (by assumption) ?_
            try simp only [Act.put, List.setIfInBounds_toArray, List.set_cons_zero, List.set_cons_succ]
            refine wpAnyH_take (i := 20) (oi := ⟨some 65, _, _, _, _, _⟩) (v := undef) rfl (by kernel_rfl) (by kernel_rfl) (by kernel_rfl) (fun _ _ _ h => h) (Or.inr ⟨by rfl, rfl⟩) (by assumption) ?_
            try simp only [Act.put, List.setIfInBounds_toArray, List.set_cons_zero, List.set_cons_succ]
            refine wpAnyH_take (i := 21) (oi := ⟨some 66, _, _, _, _, _⟩) (v := undef) rfl (by kernel_rfl) (by kernel_rfl) (by kernel_rfl) (fun _ _ _ h => h) (Or.inr ⟨by rfl, rfl⟩) (by assumption) ?_
            try simp only [Act.put, List.setIfInBounds_toArray, List.set_cons_zero, List.set_cons_succ]
            refine wpAnyH_take (i := 22) (oi := ⟨some 67, _, _, _, _, _⟩) (v := undef) rfl (by kernel_rfl) (by kernel_rfl) (by kernel_rfl) (fun _ _ _ h => h) (Or.inr ⟨by rfl, rfl⟩) (by assumption) ?_
            try simp only [Act.put, List.setIfInBounds_toArray, List.set_cons_zero, List.set_cons_succ]
            refine wpAnyH_take (i := 23) (oi := ⟨some 68, _, _, _, _, _⟩) (v := undef) rfl (by kernel_rfl) (by kernel_rfl) (by kernel_rfl) (fun _ _ _ h => h) (Or.inr ⟨by rfl, rfl⟩) (by assumption) ?_
            try simp only [Act.put, List.setIfInBounds_toArray, List.set_cons_zero, List.set_cons_succ]
            refine wpAnyH_take (i := 24) (oi := ⟨some 69, _, _, _, _, _⟩) (v := undef) rfl (by kernel_rfl) (by kernel_rfl) (by kernel_rfl) (fun _ _ _ h => h) (Or.inr ⟨by rfl, rfl⟩) (by assumption) ?_
            try simp only [Act.put, List.setIfInBounds_toArray, List.set_cons_zero, List.set_cons_succ]
            refine wpAnyH_take (i := 25) (oi := ⟨some 70, _, _, _, _, _⟩) (v := undef) rfl (by kernel_rfl) (by kernel_rfl) (by kernel_rfl) (fun _ _ _ h => h) (Or.inr ⟨by rfl, rfl⟩) (by assumption) ?_
            try simp only [Act.put, List.setIfInBounds_toArray, List.set_cons_zero, List.set_cons_succ]
            refine wpAnyH_take (i := 26) (oi := ⟨some 71, _, _, _, _, _⟩) (v := undef) rfl (by kernel_rfl) (by kernel_rfl) (by kernel_rfl) (fun _ _ _ h => h) (Or.inr ⟨by rfl, rfl⟩) (by assumption) ?_
            try simp only [Act.put, List.setIfInBounds_toArray, List.set_cons_zero, List.set_cons_succ]
            refine wpAnyH_take (i := 27) (oi := ⟨some 72, _, _, _, _, _⟩) (v := undef) rfl (by kernel_rfl) (by kernel_rfl) (by kernel_rfl) (fun _ _ _ h => h) (Or.inr ⟨by rfl, rfl⟩) (by assumption) ?_
            try simp only [Act.put, List.setIfInBounds_toArray, List.set_cons_zero, List.set_cons_succ]
            refine wpAnyH_take (i := 28) (oi := ⟨some 73, _, _, _, _, _⟩) (v := undef) rfl (by kernel_rfl) (by kernel_rfl) (by kernel_rfl) (fun _ _ _ h => h) (Or.inr ⟨by rfl, rfl⟩) (by assumption) ?_
            try simp only [Act.put, List.setIfInBounds_toArray, List.set_cons_zero, List.set_cons_succ]
            refine wpAnyH_take (i := 29) (oi := ⟨some 74, _, _, _, _, _⟩) (v := undef) rfl (by kernel_rfl) (by kernel_rfl) (by kernel_rfl) (fun _ _ _ h => h) (Or.inr ⟨by rfl, rfl⟩) (by assumption) ?_
            try simp only [Act.put, List.setIfInBounds_toArray, List.set_cons_zero, List.set_cons_succ]
            refine wpAnyH_take (i := 30) (oi := ⟨some 75, _, _, _, _, _⟩) (v := undef) rfl (by kernel_rfl) (by kernel_rfl) (by kernel_rfl) (fun _ _ _ h => h) (Or.inr ⟨by rfl, rfl⟩) (by assumption) ?_
            try simp only [Act.put, List.setIfInBounds_toArray, List.set_cons_zero, List.set_cons_succ]
            refine wpAnyH_take (i := 31) (oi := ⟨some 76, _, _, _, _, _⟩) (v := ?_) rfl (by kernel_rfl) (by kernel_rfl) (by kernel_rfl) (fun _ _ _ h => h) (Or.inl ⟨by rfl, ?_⟩) (by assumption) ?_
            rotate_left 1
            · (intro w hSw; (try dsimp only at hSw); have k0 := K0 w hSw; have k1 := K1 w hSw; have k2 := K2 w hSw; have k3 := K3 w hSw; have k4 := K4 w hSw; have k5 := K5 w hSw; go_simp; all_goals with_reducible rfl)
            try simp only [Act.put, List.setIfInBounds_toArray, List.set_cons_zero, List.set_cons_succ]
            refine wpAnyH_done (by kernel_rfl) ?_ _
            clear K0 K1 K2 K3 K4 K5
            go_wp2
            exact HEND.out _ (by first | exact Frm.refl _ _ | exact (Frm.refl _ _).drew)
end Go.Proofs.Ytecfoomjpjcldaa
