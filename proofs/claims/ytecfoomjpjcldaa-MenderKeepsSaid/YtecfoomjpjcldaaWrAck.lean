/- Contract of the writer's Ack. -/
import Derived.Test.YtecfoomjpjcldaaWrAdd
import Derived.Test.YtecfoomjpjcldaaIt
import Derived.Deep.RegionHeld3
import Derived.Deep.LoopGhost
namespace Go.Proofs.Ytecfoomjpjcldaa
open Go.RowKit
set_option maxRecDepth 100000
theorem infoItW : (Try.prog.info? 55).map (fun i => (i.zero, i.size, i.bytes)) = some (some (.agg #[.int .u64 0, .slice none 0 0]), 2, 32) := by kernel_rfl
/-- Who has it, as a list. -/
def hasL (h : Nat → Bool) : List Bool := (List.range 7).map h
theorem hasL_len (h : Nat → Bool) : (hasL h).length = 7 := by simp [hasL]
theorem hasL_at (h : Nat → Bool) (j : Nat) (hj : j < 7) : (hasL h).getD j false = h j := by simp [hasL, List.getD, hj]
/-- Is it confirmed? -/
def okN (P W A : Nat) (H : Nat → Nat → Bool) (i : Nat) : Bool := enN P W A i (hasL (H i))
/-- A place more has an entry. -/
def hasAdd (H : Nat → Nat → Bool) (n pn : Nat) : Nat → Nat → Bool := fun i j => if i = n ∧ j = pn then true else H i j
/-- The entries from su on below s, as they are answered. -/
def itemsN (D : List (List Nat)) (su s : Nat) : List (Nat × List Nat) := (List.range (s - su)).map fun i => (su + i, D.getD (su + i) [])
theorem itemsN_self (D : List (List Nat)) (su : Nat) : itemsN D su su = [] := by simp [itemsN]
theorem itemsN_succ (D : List (List Nat)) {su s : Nat} (h : su ≤ s) : itemsN D su (s + 1) = itemsN D su s ++ [(s, D.getD s [])] := by
  unfold itemsN
  rw [show s + 1 - su = (s - su) + 1 by omega, List.range_succ, List.map_append]
  simp
  exact ⟨by omega, by rw [show su + (s - su) = s by omega]⟩
theorem WrE.flag {w : World} {F : List Nat} {Y : List Value} {k pn : Nat} {d : List Nat} {h : Nat → Bool} {b : Bool} (he : WrE w F Y k d h) (hY : Y.length = 512) (hk : k < 64) (hp : pn < 7) : WrE w F (Y.set (k * 8 + 1 + pn) (.bool b)) k d (fun j => if j = pn then b else h j) := by
  obtain ⟨a, c, h1, h2, h3, h4⟩ := he.data
  refine ⟨⟨a, c, ?_, h2, h3, h4⟩, fun j hj => ?_⟩
  · rw [List.getElem?_set_ne (by omega)]; exact h1
  · by_cases hjp : j = pn
    · subst hjp; rw [List.getElem?_set_self (by omega), if_pos rfl]
    · rw [List.getElem?_set_ne (by omega), if_neg hjp]; exact he.has j hj
theorem WrE.flag' {w : World} {F : List Nat} {Y : List Value} {k k' pn : Nat} {d : List Nat} {h : Nat → Bool} {b : Bool} (he : WrE w F Y k' d h) (hp : pn < 7) (hne : k' ≠ k) : WrE w F (Y.set (k * 8 + 1 + pn) (.bool b)) k' d h := by
  obtain ⟨a, c, h1, h2, h3, h4⟩ := he.data
  refine ⟨⟨a, c, ?_, h2, h3, h4⟩, fun j hj => ?_⟩
  · rw [List.getElem?_set_ne (by omega)]; exact h1
  · rw [List.getElem?_set_ne (by omega)]; exact he.has j hj
/-- A place has it, or hasn't: the cell is turned. -/
theorem Wq.flag {w : World} {B p : Nat} {F : List Nat} {P W A : Nat} {D : List (List Nat)} {H : Nat → Nat → Bool} {su : Nat} {cl : Bool} {n pn : Nat} {b : Bool} (h : Wq w B p F P W A D H su cl) (h1 : su ≤ n) (h2 : n < D.length) (hp : pn < 7) :
    Wq (w.setCell ⟨p, 6 + n % 64 * 8 + 1 + pn, none⟩ (.bool b)) B p F P W A D (fun i j => if i = n ∧ j = pn then b else H i j) su cl := by
  obtain ⟨Y, hY, hl, he⟩ := h.box
  have hf : Frm [p] w (w.setCell ⟨p, 6 + n % 64 * 8 + 1 + pn, none⟩ (.bool b)) := (Frm.refl _ _).setCell (.inl (by simp)) _
  have hY2 := hY.put (6 + n % 64 * 8 + 1 + pn) (.bool b)
  rw [show 6 + n % 64 * 8 + 1 + pn = 6 + (n % 64 * 8 + 1 + pn) by omega, wrC_set] at hY2
  rw [show 6 + n % 64 * 8 + 1 + pn = 6 + (n % 64 * 8 + 1 + pn) by omega] at hf ⊢
  have hw := h.wait
  refine ⟨⟨_, hY2, by simpa using hl, fun i hi1 hi2 => ?_⟩, h.quo, h.wait, h.small, h.hp, h.out⟩
  have hk := (he i hi1 hi2).keep (F' := p :: F) hf (fun x hx => .inl (by simp at hx; simp [hx])) (fun x hx => .inl hx)
  by_cases hin : i = n
  · subst hin
    have := hk.flag (pn := pn) (b := b) hl (Nat.mod_lt _ (by omega)) hp
    simpa using this
  · have hne : i % 64 ≠ n % 64 := by omega
    have h3 := hk.flag' (k := n % 64) (pn := pn) (b := b) hp hne
    have e : (fun j => if i = n ∧ j = pn then b else H i j) = H i := by funext j; rw [if_neg (fun h => hin h.1)]
    rw [e]; exact h3
/-- The first of those that wait is confirmed. -/
theorem Wq.next {w : World} {B p : Nat} {F : List Nat} {P W A : Nat} {D : List (List Nat)} {H : Nat → Nat → Bool} {su : Nat} {cl : Bool} {k : Nat} {Y : List Value} {v : Value} (h : Wq w B p F P W A D H su cl) (h2 : su < D.length) (hk : k = su % 64) (hl : Y.length = 512) (he : ∀ n, su ≤ n → n < D.length → WrE w (p :: F) Y (n % 64) (D.getD n []) (H n)) {w' : World} (hY' : Whole w' p 98 (wrC P W A su D.length cl (setE Y k v))) (hf : Frm [p] w w') :
    Wq (w'.setCell ⟨p, 3, none⟩ (.int .u64 ((su + 1 : Nat) : Nat))) B p F P W A D H (su + 1) cl := by
  have hY3 := hY'.put 3 (.int .u64 ((su + 1 : Nat) : Nat))
  rw [wrC_su] at hY3
  have hf3 : Frm [p] w (w'.setCell ⟨p, 3, none⟩ (.int .u64 ((su + 1 : Nat) : Nat))) := hf.setCell (.inl (by simp)) _
  have hw := h.wait
  refine ⟨⟨_, hY3, by rw [setE_len]; exact hl, fun i hi1 hi2 => ?_⟩, h.quo, ⟨by omega, by omega, hw.2.2⟩, h.small, h.hp, h.out⟩
  exact ((he i (by omega) hi2).keep (F' := p :: F) hf3 (fun x hx => .inl (by simp at hx; simp [hx])) (fun x hx => .inl hx)).other hl (Nat.mod_lt _ (by omega)) (by omega)
def lenOf (v : Value) : Nat := match v with | .slice _ n _ => n | _ => 0
theorem two_vals (w : World) (u v : Value) (t : TypeId) (m : Nat × Nat) : ValsAt (w.alloc (.cells #[u, v] t m)) (some ⟨w.heap.size, 0, none⟩) [u, v] := by
  refine .inr ⟨_, _, rfl, fun i x hx => ?_⟩
  rw [cell_of_row _ w.heap.size _ #[u, v] t m (heap_alloc_new w _)]
  match i, hx with
  | 0, hx => simpa using hx
  | 1, hx => simpa using hx
  | i + 2, hx => simp at hx
/-- At the head of Ack's loop. -/
def AckRel (w0 w : World) (B p : Nat) (F : List Nat) (P W A : Nat) (D : List (List Nat)) (H : Nat → Nat → Bool) (su : Nat) (cl : Bool) (s7 : Value) (wr : World) : Prop :=
  ∃ (s : Nat) (a : Option Addr) (k c : Nat) (X : List Ix), s7 = .slice a k c ∧ k = X.length ∧ k + su = s ∧ s ≤ D.length ∧ Hid (IOwn wr w0.heap.size 55 (List.range w0.heap.size) a c X) ∧ Hid (its X = itemsN D su s) ∧ Hid (∀ i, su ≤ i → i < s → okN P W A H i = true) ∧ Hid (Wq wr B p (blk a ++ F) P W A D H s cl) ∧ Hid (Frm [p] w wr)
/-- What Ack answers and leaves, where it does something. -/
def WrAckGoN (w : World) (B p : Nat) (F : List Nat) (P W A : Nat) (D : List (List Nat)) (H : Nat → Nat → Bool) (su : Nat) (cl : Bool) (e : Ending) (w' : World) : Prop :=
  ∃ (s : Nat) (a : Option Addr) (c : Nat) (X : List Ix), e = .returned (.slice a X.length c) ∧ su ≤ s ∧ s ≤ D.length ∧ its X = itemsN D su s ∧ (∀ i, su ≤ i → i < s → okN P W A H i = true) ∧ (s < D.length → okN P W A H s = false) ∧ IL w' (List.range w.heap.size) a X ∧ Wq w' B p F P W A D H s cl ∧ Frm [p] w w'
def WrAckEndN (w : World) (B p : Nat) (F : List Nat) (P W A : Nat) (D : List (List Nat)) (H : Nat → Nat → Bool) (su : Nat) (cl : Bool) (pl : Int) (n : Nat) (e : Ending) (w' : World) : Prop :=
  ((n < su ∨ D.length ≤ n ∨ hasI (setN P W n) pl = false) ∧ e = .returned (.slice none 0 0) ∧ Frm [] w w' ∧ Wq w' B p F P W A D H su cl) ∨
  (su ≤ n ∧ n < D.length ∧ hasI (setN P W n) pl = true ∧ ∃ pn : Nat, pl = (pn : Int) ∧ pn < P ∧ WrAckGoN w B p F P W A D (hasAdd H n pn) su cl e w')
set_option maxHeartbeats 16000000 in
theorem wrack_new {w : World} {B p : Nat} {F : List Nat} {P W A : Nat} {D : List (List Nat)} {H : Nat → Nat → Bool} {su : Nat} {cl : Bool} (pl : Int) (n : Nat) (h : Wq w B p F P W A D H su cl) (hn : n < 18446744073709551616) :
    Calls Try.prog 17 #[.pointer (some ⟨p, 0, none⟩), .int .i64 pl, .int .u64 (n : Nat)] w (WrAckEndN w B p F P W A D H su cl pl n) := by
  obtain ⟨i0, hinf, hz0, hz1, hz2⟩ := info_parts infoItW
  obtain ⟨Q, hQ⟩ : ∃ Q, Q = WrAckEndN w B p F P W A D H su cl pl n := ⟨_, rfl⟩
  rw [← hQ]
  have BAD : Hid ((n < su ∨ D.length ≤ n ∨ hasI (setN P W n) pl = false) → ∀ z, Frm [] w z → Q (.returned (.slice none 0 0)) z) := Lib.hid fun hb z hz => by
    rw [hQ]
    exact .inl ⟨hb, rfl, hz, h.here hz⟩
  obtain ⟨Y, hY, _⟩ := h.box
  obtain ⟨q0, q1, q2, q3, q4, q5⟩ := wrC_head P W A su D.length cl Y
  have c3 := (hY.cell 3).trans q3
  have c4 := (hY.cell 4).trans q4
  have hw := h.wait
  obtain ⟨co, hco⟩ : ∃ co, co = D.length := ⟨_, rfl⟩
  rw [← hco] at c4 BAD
  have HGO := Lib.hid (fun (z : World) (hz : Frm [] w z) => wrgoes_any n pl (h.here hz) hn)
  have H0 := Lib.hid h
  have HCO := Lib.hid hco
  have HQ := Lib.hid hQ
  have hco20 : co ≤ 1048576 := by omega
  clear h hY q0 q1 q2 q3 q4 q5 hQ
  by_cases hn1 : n < su
  · have HX := Lib.hid (BAD.out (.inl hn1))
    have e1 : decide ((n : Int) < (su : Int)) = true := decide_eq_true (by omega)
    have e2 : decide (n < su) = true := decide_eq_true hn1
    clear BAD hw hco hn1
    go_enter Try.func17, Try.ntmps17
    go_wp2
    exact HX.out _ (Frm.refl _ _)
  · by_cases hn2 : co ≤ n
    · have HX := Lib.hid (BAD.out (.inr (.inl hn2)))
      have e1 : decide ((n : Int) < (su : Int)) = false := decide_eq_false (by omega)
      have e2 : decide (n < su) = false := decide_eq_false hn1
      have e3 : decide ((co : Int) ≤ (n : Int)) = true := decide_eq_true (by omega)
      have e4 : decide (co ≤ n) = true := decide_eq_true hn2
      clear BAD hw hco hn1 hn2
      go_enter Try.func17, Try.ntmps17
      go_wp2
      exact HX.out _ (Frm.refl _ _)
    · have e1 : decide ((n : Int) < (su : Int)) = false := decide_eq_false (by omega)
      have e2 : decide (n < su) = false := decide_eq_false hn1
      have e3 : decide ((co : Int) ≤ (n : Int)) = false := decide_eq_false (by omega)
      have e4 : decide (co ≤ n) = false := decide_eq_false hn2
      have HN1 := Lib.hid hn1
      have HN2 := Lib.hid hn2
      obtain ⟨g, hg⟩ : ∃ g, g = hasI (setN P W n) pl := ⟨_, rfl⟩
      rw [← hg] at HGO
      have HG := Lib.hid hg
      clear hn1 hn2 hw hco hg
      cases g with
      | false =>
        have HX := Lib.hid (BAD.out (.inr (.inr HG.out.symm)))
        clear BAD
        go_enter Try.func17, Try.ntmps17
        go_wp2_with fail
        (refine (HGO.out _ (by first | exact Frm.refl _ _ | exact (Frm.refl _ _).drew | exact (Frm.refl _ _).drewN _)).mono ?_)
        rintro e w1 ⟨rfl, hf1⟩
        have HF1 := Lib.hid hf1
        clear hf1
        go_wp2
        exact HX.out _ HF1.out
      | true =>
        clear BAD
        obtain ⟨pn, hpl, hpn⟩ : ∃ pn : Nat, pl = (pn : Int) ∧ pn < P := by
          have hh := HG.out.symm
          unfold hasI at hh
          rw [List.any_eq_true] at hh
          obtain ⟨x, hx, he⟩ := hh
          rw [beq_iff_eq] at he
          refine ⟨x, he.symm, ?_⟩
          unfold setN at hx
          obtain ⟨i, hi, rfl⟩ := List.mem_map.1 hx
          exact plN_lt (by have := H0.out.quo; omega) _ _
        subst hpl
        have hpn7 : pn < 7 := by have := H0.out.quo; omega
        have hpi : (pn : Int) < 7 := by omega
        obtain ⟨k, hk⟩ : ∃ k, k = n % 64 := ⟨_, rfl⟩
        have HAT := Lib.hid (fun (z : World) => wrat_any p n z hn)
        rw [← hk] at HAT
        have HK := Lib.hid hk
        have HPN := Lib.hid hpn
        have HINF := Lib.hid hinf
        clear hk hpn hinf
        go_enter Try.func17, Try.ntmps17
        go_wp2_with fail
        (refine (HGO.out _ (by first | exact Frm.refl _ _ | exact (Frm.refl _ _).drew | exact (Frm.refl _ _).drewN _)).mono ?_)
        rintro e w1 ⟨rfl, hf1⟩
        have hq1 := H0.out.here hf1
        obtain ⟨Y1, hY1, hl1, he1⟩ := hq1.box
        have hfl := hq1.flag (n := n) (pn := pn) (b := true) (by have := HN1.out; omega) (by have := HN2.out; have := HCO.out; omega) hpn7
        rw [← HK.out] at hfl
        obtain ⟨v, hv⟩ : ∃ v, Y1[k * 8 + 1 + pn]? = some v := ⟨Y1[k * 8 + 1 + pn]'(by have := HK.out; omega), List.getElem?_eq_getElem (by have := HK.out; omega)⟩
        have y0 : w1.cell? ⟨p, 6 + k * 8 + 1 + pn, none⟩ = some v := by rw [show 6 + k * 8 + 1 + pn = 6 + (k * 8 + 1 + pn) by omega, hY1.cell, wrC_at]; exact hv
        have z0 := hY1.free (6 + k * 8 + 1 + pn)
        have hrel : AckRel w w B p F P W A D (hasAdd H n pn) su cl (.slice none 0 0) (w1.setCell ⟨p, 6 + k * 8 + 1 + pn, none⟩ (.bool true)) := ⟨su, none, 0, 0, [], rfl, rfl, Nat.zero_add _, H0.out.wait.1, Lib.hid (IOwn.nil _ _ _ _), Lib.hid (by rw [itemsN_self]; rfl), Lib.hid (fun i h1 h2 => by omega), Lib.hid hfl, Lib.hid ((hf1.trans ((Frm.refl _ _).setCell (.inl (by simp)) _) (U := [p]) (by simp) (fun x hx => .inl hx)))⟩
        have HR0 := Lib.hid hrel
        clear hf1 hq1 hY1 hl1 he1 hfl hv hrel HGO
        go_wp2_with ((with_reducible refine (HAT.out _).mono ?_); rintro e w' ⟨rfl, rfl⟩)
        clear y0 z0 v hpi HAT
        go_loopw [7] (fun s7 wr => AckRel w w B p F P W A D (hasAdd H n pn) su cl s7 wr) (fun s7 _ => co - lenOf s7)
        case atStart => exact HR0.out
        case round =>
          clear HR0
          obtain ⟨s, a, kx, cx, X, rfl, hkx, hks, hs2, HIO, HIT, HOKS, HWQ, HFR⟩ := hrel
          have hs1 : su ≤ s := by omega
          obtain ⟨Y, hY, hl, he⟩ := HWQ.out.box
          obtain ⟨q0, q1, q2, q3, q4, q5⟩ := wrC_head P W A s D.length cl Y
          rw [← HCO.out] at q0 q1 q2 q3 q4 q5
          rw [← HCO.out] at hY
          have HYY := Lib.hid hY
          have K3 : ∀ y, Frm [] wr y → y.cell? ⟨p, 3, none⟩ = some (.int .u64 (s : Nat)) := fun y hy => ((hy.whole HYY.out (by simp)).cell 3).trans q3
          have K4 : ∀ y, Frm [] wr y → y.cell? ⟨p, 4, none⟩ = some (.int .u64 (co : Nat)) := fun y hy => ((hy.whole HYY.out (by simp)).cell 4).trans q4
          have K0 : ∀ y, Frm [] wr y → y.cell? ⟨p, 0, none⟩ = some (.int .i64 (P : Nat)) := fun y hy => ((hy.whole HYY.out (by simp)).cell 0).trans q0
          have K1 : ∀ y, Frm [] wr y → y.cell? ⟨p, 1, none⟩ = some (.int .i64 (W : Nat)) := fun y hy => ((hy.whole HYY.out (by simp)).cell 1).trans q1
          have K2 : ∀ y, Frm [] wr y → y.cell? ⟨p, 2, none⟩ = some (.int .i64 (A : Nat)) := fun y hy => ((hy.whole HYY.out (by simp)).cell 2).trans q2
          have k3 := K3 _ (Frm.refl _ _)
          have k4 := K4 _ (Frm.refl _ _)
          rw [← HCO.out] at hs2
          have hsn : s < 18446744073709551616 := by omega
          have END : Hid ((s < co → okN P W A (hasAdd H n pn) s = false) → ∀ z, Frm [] wr z → Q (.returned (.slice a kx cx)) z) := Lib.hid fun hno z hz => by
            rw [HQ.out]
            refine .inr ⟨by have := HN1.out; omega, by have := HN2.out; have := HCO.out; omega, HG.out.symm, pn, rfl, HPN.out, s, a, cx, X, by rw [hkx], hs1, by rw [← HCO.out]; exact hs2, HIT.out, HOKS.out, by rw [← HCO.out]; exact hno, ?_, HWQ.out.keep hz (by simp) (fun x hx => .inl (List.mem_append_right _ hx)), HFR.out.trans hz (fun x hx => hx) (by simp)⟩
            exact (HIO.out.il.keep (F' := List.range w.heap.size) hz (by simp) (fun x hx => .inl hx))
          have HKS := Lib.hid hks
          have HKX := Lib.hid hkx
          clear hks hkx
          by_cases hlt : s < co
          · have d1 : decide ((s : Int) < (co : Int)) = true := decide_eq_true (by omega)
            have d2 : decide (s < co) = true := decide_eq_true hlt
            have hwe := he s (Nat.le_refl _) (by rw [← HCO.out]; exact hlt)
            obtain ⟨k, hk⟩ : ∃ k, k = s % 64 := ⟨_, rfl⟩
            rw [← hk] at hwe
            have hk64 : k < 64 := by omega
            have HATS := Lib.hid (fun (z : World) => wrat_any p s z hsn)
            rw [← hk] at HATS
            obtain ⟨r1, r2, r3, r4⟩ := HWQ.out.quo
            obtain ⟨ok, hok⟩ : ∃ ok, ok = okN P W A (hasAdd H n pn) s := ⟨_, rfl⟩
            have HEN := Lib.hid (fun (z : World) (hz : Frm [] wr z) => enough_any P W A s (some ⟨p, 6 + k * 8 + 1, none⟩) 7 7 (hasL ((hasAdd H n pn) s)) z r1 r2 r4 r3 hsn (fun j hj => by
              rw [hasL_len] at hj
              refine ⟨p, 6 + k * 8 + 1, rfl, ?_⟩
              rw [hasL_at _ _ hj]
              have h1 := (hz.whole HYY.out (by simp)).cell (6 + k * 8 + 1 + j)
              rw [show 6 + k * 8 + 1 + j = 6 + (k * 8 + 1 + j) by omega, wrC_at] at h1
              rw [show 6 + k * 8 + 1 + j = 6 + (k * 8 + 1 + j) by omega]
              exact h1.trans (hwe.has j hj)) (hasL_len _).symm)
            have hok2 : enN P W A s (hasL ((hasAdd H n pn) s)) = ok := by rw [hok]; rfl
            rw [hok2] at HEN
            rw [← hok] at END
            have HOK := Lib.hid hok
            have HK2 := Lib.hid hk
            have HLT := Lib.hid hlt
            have HEE := Lib.hid he
            have HL := Lib.hid hl
            clear hok hok2 hwe hY he hk r1 r2 r3 r4 q0 q1 q2 q3 q4 q5 hlt
            go_wp2
            refine wp_region_held_drew (S := fun w' => Frm [] wr w') (by kernel_rfl) (Frm.drew (Frm.refl _ _)) (fun hHeld => ?_)
            refine wpAnyH_take (i := 0) (oi := ⟨some 40, _, _, _, _, _⟩) (v := ?_) rfl (by kernel_rfl) (by kernel_rfl) (by kernel_rfl) (fun _ _ _ h => h) (Or.inl ⟨by rfl, ?_⟩) (by assumption) ?_
            rotate_left 1
            · (intro w hSw; (try dsimp only at hSw); go_simp; all_goals with_reducible rfl)
            try simp only [Act.put, List.setIfInBounds_toArray, List.set_cons_zero, List.set_cons_succ]
            refine wpAnyH_take (i := 1) (oi := ⟨some 41, _, _, _, _, _⟩) (v := ?_) rfl (by kernel_rfl) (by kernel_rfl) (by kernel_rfl) (fun _ _ _ h => h) (Or.inl ⟨by rfl, ?_⟩) (by assumption) ?_
            rotate_left 1
            · (intro w hSw; (try dsimp only at hSw); go_simp; all_goals with_reducible rfl)
            try simp only [Act.put, List.setIfInBounds_toArray, List.set_cons_zero, List.set_cons_succ]
            refine wpAnyH_take (i := 2) (oi := ⟨some 42, _, _, _, _, _⟩) (v := ?_) rfl (by kernel_rfl) (by kernel_rfl) (by kernel_rfl) (fun _ _ _ h => h) (Or.inl ⟨by rfl, ?_⟩) (by assumption) ?_
            rotate_left 1
            · (intro w hSw; (try dsimp only at hSw); go_simp; all_goals with_reducible rfl)
            try simp only [Act.put, List.setIfInBounds_toArray, List.set_cons_zero, List.set_cons_succ]
            refine wpAnyH_take (i := 3) (oi := ⟨some 43, _, _, _, _, _⟩) (v := ?_) rfl (by kernel_rfl) (by kernel_rfl) (by kernel_rfl) (fun _ _ _ h => h) (Or.inl ⟨by rfl, ?_⟩) (by assumption) ?_
            rotate_left 1
            · (intro w hSw; (try dsimp only at hSw); go_simp; all_goals with_reducible rfl)
            try simp only [Act.put, List.setIfInBounds_toArray, List.set_cons_zero, List.set_cons_succ]
            refine wpAnyH_take (i := 4) (oi := ⟨some 44, _, _, _, _, _⟩) (v := ?_) rfl (by kernel_rfl) (by kernel_rfl) (by kernel_rfl) (fun _ _ _ h => h) (Or.inl ⟨by rfl, ?_⟩) (by assumption) ?_
            rotate_left 1
            · (intro w hSw; (try dsimp only at hSw); go_simp; all_goals with_reducible rfl)
            try simp only [Act.put, List.setIfInBounds_toArray, List.set_cons_zero, List.set_cons_succ]
            refine wpAnyH_take (i := 5) (oi := ⟨some 45, _, _, _, _, _⟩) (v := ?_) rfl (by kernel_rfl) (by kernel_rfl) (by kernel_rfl) (fun _ _ _ h => h) (Or.inl ⟨by rfl, ?_⟩) (by assumption) ?_
            rotate_left 1
            · (intro w hSw; (try dsimp only at hSw); go_simp; all_goals with_reducible rfl)
            try simp only [Act.put, List.setIfInBounds_toArray, List.set_cons_zero, List.set_cons_succ]
            refine wpAnyH_take (i := 6) (oi := ⟨some 46, _, _, _, _, _⟩) (v := ?_) rfl (by kernel_rfl) (by kernel_rfl) (by kernel_rfl) (fun _ _ _ h => h) (Or.inl ⟨by rfl, ?_⟩) (by assumption) ?_
            rotate_left 1
            · (intro w hSw; (try dsimp only at hSw); go_simp; all_goals with_reducible rfl)
            try simp only [Act.put, List.setIfInBounds_toArray, List.set_cons_zero, List.set_cons_succ]
            refine wpAnyH_take (i := 7) (oi := ⟨some 47, _, _, _, _, _⟩) (v := ?_) rfl (by kernel_rfl) (by kernel_rfl) (by kernel_rfl) (fun _ _ _ h => h) (Or.inl ⟨by rfl, ?_⟩) (by assumption) ?_
            rotate_left 1
            · (intro w hSw; (try dsimp only at hSw); go_simp; all_goals with_reducible rfl)
            try simp only [Act.put, List.setIfInBounds_toArray, List.set_cons_zero, List.set_cons_succ]
            refine wpAnyH_take (i := 8) (oi := ⟨some 48, _, _, _, _, _⟩) (v := ?_) rfl (by kernel_rfl) (by kernel_rfl) (by kernel_rfl) (fun _ _ _ h => h) (Or.inl ⟨by rfl, ?_⟩) (by assumption) ?_
            rotate_left 1
            · (intro w hSw; (try dsimp only at hSw); go_simp; all_goals with_reducible rfl)
            try simp only [Act.put, List.setIfInBounds_toArray, List.set_cons_zero, List.set_cons_succ]
            refine wpAnyH_take (i := 9) (oi := ⟨some 49, _, _, _, _, _⟩) (v := ?_) rfl (by kernel_rfl) (by kernel_rfl) (by kernel_rfl) (fun _ _ _ h => h) (Or.inl ⟨by rfl, ?_⟩) (by assumption) ?_
            rotate_left 1
            · (intro w hSw; (try dsimp only at hSw); go_simp; all_goals with_reducible rfl)
            try simp only [Act.put, List.setIfInBounds_toArray, List.set_cons_zero, List.set_cons_succ]
            refine wpAnyH_take (i := 10) (oi := ⟨some 50, _, _, _, _, _⟩) (v := ?_) rfl (by kernel_rfl) (by kernel_rfl) (by kernel_rfl) (fun _ _ _ h => h) (Or.inl ⟨by rfl, ?_⟩) (by assumption) ?_
            rotate_left 1
            · (intro w hSw; (try dsimp only at hSw); go_simp; all_goals with_reducible rfl)
            try simp only [Act.put, List.setIfInBounds_toArray, List.set_cons_zero, List.set_cons_succ]
            refine wpAnyH_take (i := 11) (oi := ⟨some 51, _, _, _, _, _⟩) (v := ?_) rfl (by kernel_rfl) (by kernel_rfl) (by kernel_rfl) (fun _ _ _ h => h) (Or.inl ⟨by rfl, ?_⟩) (by assumption) ?_
            rotate_left 1
            · (intro w hSw; (try dsimp only at hSw); go_simp; all_goals with_reducible rfl)
            try simp only [Act.put, List.setIfInBounds_toArray, List.set_cons_zero, List.set_cons_succ]
            refine wpAnyH_take (i := 12) (oi := ⟨some 52, _, _, _, _, _⟩) (v := ?_) rfl (by kernel_rfl) (by kernel_rfl) (by kernel_rfl) (fun _ _ _ h => h) (Or.inl ⟨by rfl, ?_⟩) (by assumption) ?_
            rotate_left 1
            · (intro w hSw; (try dsimp only at hSw); go_simp; all_goals with_reducible rfl)
            try simp only [Act.put, List.setIfInBounds_toArray, List.set_cons_zero, List.set_cons_succ]
            refine wpAnyH_take (i := 13) (oi := ⟨some 53, _, _, _, _, _⟩) (v := ?_) rfl (by kernel_rfl) (by kernel_rfl) (by kernel_rfl) (fun _ _ _ h => h) (Or.inl ⟨by rfl, ?_⟩) (by assumption) ?_
            rotate_left 1
            · (intro w hSw; (try dsimp only at hSw); go_simp; all_goals with_reducible rfl)
            try simp only [Act.put, List.setIfInBounds_toArray, List.set_cons_zero, List.set_cons_succ]
            refine wpAnyH_take (i := 14) (oi := ⟨some 54, _, _, _, _, _⟩) (v := ?_) rfl (by kernel_rfl) (by kernel_rfl) (by kernel_rfl) (fun _ _ _ h => h) (Or.inl ⟨by rfl, ?_⟩) (by assumption) ?_
            rotate_left 1
            · (intro w hSw; (try dsimp only at hSw); go_simp; all_goals with_reducible rfl)
            try simp only [Act.put, List.setIfInBounds_toArray, List.set_cons_zero, List.set_cons_succ]
            refine wpAnyH_take (i := 15) (oi := ⟨some 55, _, _, _, _, _⟩) (v := ?_) rfl (by kernel_rfl) (by kernel_rfl) (by kernel_rfl) (fun _ _ _ h => h) (Or.inl ⟨by rfl, ?_⟩) (by assumption) ?_
            rotate_left 1
            · (intro w hSw; (try dsimp only at hSw); go_simp; all_goals with_reducible rfl)
            try simp only [Act.put, List.setIfInBounds_toArray, List.set_cons_zero, List.set_cons_succ]
            refine wpAnyH_take (i := 16) (oi := ⟨some 56, _, _, _, _, _⟩) (v := ?_) rfl (by kernel_rfl) (by kernel_rfl) (by kernel_rfl) (fun _ _ _ h => h) (Or.inl ⟨by rfl, ?_⟩) (by assumption) ?_
            rotate_left 1
            · (intro w hSw; (try dsimp only at hSw); go_simp; all_goals with_reducible rfl)
            try simp only [Act.put, List.setIfInBounds_toArray, List.set_cons_zero, List.set_cons_succ]
            refine wpAnyH_take (i := 17) (oi := ⟨some 57, _, _, _, _, _⟩) (v := ?_) rfl (by kernel_rfl) (by kernel_rfl) (by kernel_rfl) (fun _ _ _ h => h) (Or.inl ⟨by rfl, ?_⟩) (by assumption) ?_
            rotate_left 1
            · (intro w hSw; (try dsimp only at hSw); go_simp; all_goals with_reducible rfl)
            try simp only [Act.put, List.setIfInBounds_toArray, List.set_cons_zero, List.set_cons_succ]
            refine wpAnyH_take (i := 18) (oi := ⟨some 58, _, _, _, _, _⟩) (v := ?_) rfl (by kernel_rfl) (by kernel_rfl) (by kernel_rfl) (fun _ _ _ h => h) (Or.inl ⟨by rfl, ?_⟩) (by assumption) ?_
            rotate_left 1
            · (intro w hSw; (try dsimp only at hSw); go_simp; all_goals with_reducible rfl)
            try simp only [Act.put, List.setIfInBounds_toArray, List.set_cons_zero, List.set_cons_succ]
            refine wpAnyH_take (i := 19) (oi := ⟨some 59, _, _, _, _, _⟩) (v := ?_) rfl (by kernel_rfl) (by kernel_rfl) (by kernel_rfl) (fun _ _ _ h => h) (Or.inl ⟨by rfl, ?_⟩) (by assumption) ?_
            rotate_left 1
            · (intro w hSw; (try dsimp only at hSw); go_simp; all_goals with_reducible rfl)
            try simp only [Act.put, List.setIfInBounds_toArray, List.set_cons_zero, List.set_cons_succ]
            refine wpAnyH_take (i := 20) (oi := ⟨some 60, _, _, _, _, _⟩) (v := ?_) rfl (by kernel_rfl) (by kernel_rfl) (by kernel_rfl) (fun _ _ _ h => h) (Or.inl ⟨by rfl, ?_⟩) (by assumption) ?_
            rotate_left 1
            · (intro w hSw; (try dsimp only at hSw); go_simp; all_goals with_reducible rfl)
            try simp only [Act.put, List.setIfInBounds_toArray, List.set_cons_zero, List.set_cons_succ]
            refine wpAnyH_take (i := 21) (oi := ⟨some 61, _, _, _, _, _⟩) (v := ?_) rfl (by kernel_rfl) (by kernel_rfl) (by kernel_rfl) (fun _ _ _ h => h) (Or.inl ⟨by rfl, ?_⟩) (by assumption) ?_
            rotate_left 1
            · (intro w hSw; (try dsimp only at hSw); go_simp; all_goals with_reducible rfl)
            try simp only [Act.put, List.setIfInBounds_toArray, List.set_cons_zero, List.set_cons_succ]
            refine wpAnyH_take (i := 22) (oi := ⟨some 62, _, _, _, _, _⟩) (v := ?_) rfl (by kernel_rfl) (by kernel_rfl) (by kernel_rfl) (fun _ _ _ h => h) (Or.inl ⟨by rfl, ?_⟩) (by assumption) ?_
            rotate_left 1
            · (intro w hSw; (try dsimp only at hSw); go_simp; all_goals with_reducible rfl)
            try simp only [Act.put, List.setIfInBounds_toArray, List.set_cons_zero, List.set_cons_succ]
            refine wpAnyH_ready (rs := [23]) (by kernel_rfl) (by simp) ?_
            refine AllReadyH.cons (o := ⟨some 63, _, _, _, _, _⟩) rfl (fun K hK => ?_) AllReadyH.nil
            go_simp
            (go_at_call 44; (refine (HATS.out _).mono ?_); rintro e w' ⟨rfl, rfl⟩)
            go_wp2_with fail
            refine hK.out _ _ (by assumption) (fun hHeld => ?_)
            clear hK K
            try simp only [Act.put, List.setIfInBounds_toArray, List.set_cons_zero, List.set_cons_succ]
            refine wpAnyH_take (i := 24) (oi := ⟨some 64, _, _, _, _, _⟩) (v := ?_) rfl (by kernel_rfl) (by kernel_rfl) (by kernel_rfl) (fun _ _ _ h => h) (Or.inl ⟨by rfl, ?_⟩) (by assumption) ?_
            rotate_left 1
            · (intro w hSw; (try dsimp only at hSw); go_simp; all_goals with_reducible rfl)
            try simp only [Act.put, List.setIfInBounds_toArray, List.set_cons_zero, List.set_cons_succ]
            refine wpAnyH_take (i := 25) (oi := ⟨some 65, _, _, _, _, _⟩) (v := ?_) rfl (by kernel_rfl) (by kernel_rfl) (by kernel_rfl) (fun _ _ _ h => h) (Or.inl ⟨by rfl, ?_⟩) (by assumption) ?_
            rotate_left 1
            · (intro w hSw; (try dsimp only at hSw); go_simp; all_goals with_reducible rfl)
            try simp only [Act.put, List.setIfInBounds_toArray, List.set_cons_zero, List.set_cons_succ]
            refine wpAnyH_take (i := 26) (oi := ⟨some 66, _, _, _, _, _⟩) (v := ?_) rfl (by kernel_rfl) (by kernel_rfl) (by kernel_rfl) (fun _ _ _ h => h) (Or.inl ⟨by rfl, ?_⟩) (by assumption) ?_
            rotate_left 1
            · (intro w hSw; (try dsimp only at hSw); go_simp; all_goals with_reducible rfl)
            try simp only [Act.put, List.setIfInBounds_toArray, List.set_cons_zero, List.set_cons_succ]
            refine wpAnyH_ready (rs := [27]) (by kernel_rfl) (by simp) ?_
            refine AllReadyH.cons (o := ⟨some 67, _, _, _, _, _⟩) rfl (fun K hK => ?_) AllReadyH.nil
            go_simp
            (go_at_call 46; (refine (HEN.out _ (by first | exact Frm.refl _ _ | exact (Frm.refl _ _).drew | exact (Frm.refl _ _).drewN _)).mono ?_); rintro e w2 ⟨rfl, hf2⟩; have S2 : Frm [] wr w2 := Frm.trans (U := []) ((by first | exact Frm.refl _ _ | exact (Frm.refl _ _).drew | exact (Frm.refl _ _).drewN _) : Frm [] wr _) hf2 (by simp) (by simp))
            go_wp2_with fail
            refine hK.out _ _ (by assumption) (fun hHeld => ?_)
            clear hK K
            try simp only [Act.put, List.setIfInBounds_toArray, List.set_cons_zero, List.set_cons_succ]
            refine wpAnyH_take (i := 28) (oi := ⟨some 68, _, _, _, _, _⟩) (v := ?_) rfl (by kernel_rfl) (by kernel_rfl) (by kernel_rfl) (fun _ _ _ h => h) (Or.inl ⟨by rfl, ?_⟩) (by assumption) ?_
            rotate_left 1
            · (intro w hSw; (try dsimp only at hSw); go_simp; all_goals with_reducible rfl)
            try simp only [Act.put, List.setIfInBounds_toArray, List.set_cons_zero, List.set_cons_succ]
            refine wpAnyH_done (by kernel_rfl) ?_ _
            clear K0 K1 K2
            have HS2 := Lib.hid S2
            clear S2 hf2
            cases ok with
            | false =>
              have HX := Lib.hid (END.out (fun _ => rfl))
              clear END
              go_wp2
              exact HX.out _ HS2.out
            | true =>
              clear END
              have hq2 := HWQ.out.here HS2.out
              have HITM := writem_any s hq2 (Nat.le_refl _) (by rw [← HCO.out]; exact HLT.out)
              have hdsm : (D.getD s []).length ≤ 256 := HWQ.out.small _ (by have := HLT.out; have := HCO.out; simp [show s < D.length by omega])
              obtain ⟨d, hd⟩ : ∃ d, d = D.getD s [] := ⟨_, rfl⟩
              rw [← hd] at HITM hdsm
              obtain ⟨dn, hdn⟩ : ∃ dn, dn = d.length := ⟨_, rfl⟩
              rw [← hdn] at HITM
              have HITM := Lib.hid HITM
              have HD := Lib.hid hd
              have HDN := Lib.hid hdn
              have HDS := Lib.hid hdsm
              have j3 := K3 _ HS2.out
              clear hq2 hd hdn hdsm
              go_wp2_with fail
              (with_reducible refine HITM.out.mono ?_)
              rintro e w3 ⟨ia, ic', rfl, ho3, hf3⟩
              obtain ⟨wA, hwA⟩ : ∃ wA, wA = w3.alloc (.cells #[.int .u64 (s : Nat), .slice ia dn ic'] 55) := ⟨_, rfl⟩
              have hfA : Frm [] w3 wA := by rw [hwA]; exact (Frm.refl _ _).alloc _
              have hrA : Frm [] wr wA := (HS2.out.trans hf3 (U := []) (by simp) (by simp)).trans hfA (U := []) (by simp) (by simp)
              have hrl := hrA.size
              have hwr := HFR.out.size
              have hioA := HIO.out.keep (F' := List.range w.heap.size) hrA (by simp) (fun x hx => .inl hx)
              have HOWA : Hid (wA.ownsRow w.heap.size 55 2 (.slice a kx cx) kx (ic X)) := Lib.hid (by have := hioA.own; rw [← HKX.out] at this; exact this)
              have HBA : Hid (w.heap.size ≤ wA.heap.size) := Lib.hid (by omega)
              have HVA : Hid (ValsAt wA (some ⟨w3.heap.size, 0, none⟩) (ic [⟨(s, d), ia, ic'⟩])) := Lib.hid (by
                rw [hwA, show ic [⟨(s, d), ia, ic'⟩] = [.int .u64 (s : Nat), .slice ia dn ic'] from by rw [HDN.out]; rfl]
                exact two_vals _ _ _ _ _)
              have HQA : Hid (∀ (a' : Option Addr) (c' : Nat) (w4 : World), AppS wA w4 w.heap.size 55 2 (.slice a kx cx) kx 1 (ic X) (ic [⟨(s, d), ia, ic'⟩]) a' c' → IOwn w4 w.heap.size 55 (List.range w.heap.size) a' c' (X ++ [⟨(s, d), ia, ic'⟩]) ∧ Frm (blk a) wr w4 ∧ Whole w4 p 98 (wrC P W A s co cl Y) ∧ Wq w4 B p (blk a' ++ F) P W A D (hasAdd H n pn) s cl ∧ kx + 1 = (X ++ [(⟨(s, d), ia, ic'⟩ : Ix)]).length ∧ Frm [p] w w4) := Lib.hid fun a' c' w4 happ => by
                have h8 : ∀ c ∈ d, c < 256 := by
                  have h9 := (HEE.out s (Nat.le_refl _) (by rw [← HCO.out]; exact HLT.out)).data
                  obtain ⟨_, _, _, hb, _⟩ := h9
                  rw [HD.out]; exact hb.1
                have hob := bytes_of_own (by have := ho3; rw [HDN.out] at this; exact this) h8
                have hia : ∀ x, ia = some x → w2.heap.size ≤ x.block := fun x hx => (ho3.lt x.block (by rw [hx]; rfl)).1
                have hw2 := HS2.out.size
                have hpl := HWQ.out.lt
                have hok : IOk wA (blk a ++ List.range w.heap.size) [⟨(s, d), ia, ic'⟩] := by
                  intro y hy
                  simp at hy
                  subst hy
                  refine ⟨hfA.bytes' hob.2.1 (by simp), fun _ x hx hm => ?_, hob.2.2, hsn⟩
                  have h1 := hia x hx
                  rcases List.mem_append.1 hm with h2 | h2
                  · have := (HIO.out.blk_lt _ h2).2; omega
                  · have := List.mem_range.1 h2; omega
                obtain ⟨g1, g2, g3, g4⟩ := hioA.app HKX.out hok rfl (fun y hy => by have := List.mem_range.1 hy; have := hrA.size; omega) happ
                have hpa : p ∉ blk a := fun hm => HIO.out.away p hm (List.mem_range.2 H0.out.lt)
                have hr4 : Frm (blk a) wr w4 := hrA.trans g2 (by simp) (fun x hx => .inl hx)
                refine ⟨g1, hr4, hr4.whole HYY.out hpa, HWQ.out.keep hr4 (fun x hx => .inl (List.mem_append_left _ hx)) (fun x hx => ?_), g4, HFR.out.trans hr4 (fun x hx => hx) (fun x hx => .inr (HIO.out.blk_lt x hx).1)⟩
                rcases List.mem_append.1 hx with h1 | h1
                · rcases g3 x h1 with h2 | h2
                  · exact .inl (List.mem_append_left _ h2)
                  · exact .inr (by omega)
                · exact .inl (List.mem_append_right _ h1)
              have HWAE := Lib.hid hwA
              clear ho3 hf3 hfA hrA hrl hwr hioA hwA HITM j3
              have hkfit : kx ≤ 1048576 := by have := HKS.out; have := HLT.out; omega
              go_wp2_with (at_builtin; rw [← HWAE.out]; refine wpList_appS rfl (.tmp 69) (.tmp 76) 49 rfl w.heap.size 55 i0 (.agg #[.int .u64 0, .slice none 0 0]) 2 32 Try.underlying49 HINF.out hz0 rfl (by omega) hz1 hz2 (by omega) (.slice a kx cx) kx (ic X) rfl HOWA.out (some ⟨w3.heap.size, 0, none⟩) 1 1 (ic [⟨(s, d), ia, ic'⟩]) rfl HVA.out rfl (ic_one _) (fun h => by cases h) (by omega) HBA.out ?_)
              intro a' c' w4 happ
              obtain ⟨g1, g2, hY4, g4, g5, g6⟩ := HQA.out a' c' w4 happ
              have HG1 := Lib.hid g1
              have HG4 := Lib.hid g4
              have HG5 := Lib.hid g5
              have HG6 := Lib.hid g6
              have hl512 := HL.out
              clear happ g1 g2 g4 g5 g6 HOWA HVA HBA HQA
              obtain ⟨v0, hv0⟩ : ∃ v, Y[k * 8]? = some v := ⟨Y[k * 8]'(by omega), List.getElem?_eq_getElem (by omega)⟩
              have y0 : w4.cell? ⟨p, 6 + k * 8, none⟩ = some v0 := by rw [hY4.cell, wrC_at]; exact hv0
              have z0 := hY4.free (6 + k * 8)
              obtain ⟨v1, hv1⟩ : ∃ v, Y[k * 8 + 1]? = some v := ⟨Y[k * 8 + 1]'(by omega), List.getElem?_eq_getElem (by omega)⟩
              have y1 : w4.cell? ⟨p, 6 + k * 8 + 1, none⟩ = some v1 := by rw [show 6 + k * 8 + 1 = 6 + (k * 8 + 1) from Nat.add_assoc _ _ _, hY4.cell, wrC_at]; exact hv1
              have z1 := hY4.free (6 + k * 8 + 1)
              obtain ⟨v2, hv2⟩ : ∃ v, Y[k * 8 + 2]? = some v := ⟨Y[k * 8 + 2]'(by omega), List.getElem?_eq_getElem (by omega)⟩
              have y2 : w4.cell? ⟨p, 6 + k * 8 + 2, none⟩ = some v2 := by rw [show 6 + k * 8 + 2 = 6 + (k * 8 + 2) from Nat.add_assoc _ _ _, hY4.cell, wrC_at]; exact hv2
              have z2 := hY4.free (6 + k * 8 + 2)
              obtain ⟨v3, hv3⟩ : ∃ v, Y[k * 8 + 3]? = some v := ⟨Y[k * 8 + 3]'(by omega), List.getElem?_eq_getElem (by omega)⟩
              have y3 : w4.cell? ⟨p, 6 + k * 8 + 3, none⟩ = some v3 := by rw [show 6 + k * 8 + 3 = 6 + (k * 8 + 3) from Nat.add_assoc _ _ _, hY4.cell, wrC_at]; exact hv3
              have z3 := hY4.free (6 + k * 8 + 3)
              obtain ⟨v4, hv4⟩ : ∃ v, Y[k * 8 + 4]? = some v := ⟨Y[k * 8 + 4]'(by omega), List.getElem?_eq_getElem (by omega)⟩
              have y4 : w4.cell? ⟨p, 6 + k * 8 + 4, none⟩ = some v4 := by rw [show 6 + k * 8 + 4 = 6 + (k * 8 + 4) from Nat.add_assoc _ _ _, hY4.cell, wrC_at]; exact hv4
              have z4 := hY4.free (6 + k * 8 + 4)
              obtain ⟨v5, hv5⟩ : ∃ v, Y[k * 8 + 5]? = some v := ⟨Y[k * 8 + 5]'(by omega), List.getElem?_eq_getElem (by omega)⟩
              have y5 : w4.cell? ⟨p, 6 + k * 8 + 5, none⟩ = some v5 := by rw [show 6 + k * 8 + 5 = 6 + (k * 8 + 5) from Nat.add_assoc _ _ _, hY4.cell, wrC_at]; exact hv5
              have z5 := hY4.free (6 + k * 8 + 5)
              obtain ⟨v6, hv6⟩ : ∃ v, Y[k * 8 + 6]? = some v := ⟨Y[k * 8 + 6]'(by omega), List.getElem?_eq_getElem (by omega)⟩
              have y6 : w4.cell? ⟨p, 6 + k * 8 + 6, none⟩ = some v6 := by rw [show 6 + k * 8 + 6 = 6 + (k * 8 + 6) from Nat.add_assoc _ _ _, hY4.cell, wrC_at]; exact hv6
              have z6 := hY4.free (6 + k * 8 + 6)
              obtain ⟨v7, hv7⟩ : ∃ v, Y[k * 8 + 7]? = some v := ⟨Y[k * 8 + 7]'(by omega), List.getElem?_eq_getElem (by omega)⟩
              have y7 : w4.cell? ⟨p, 6 + k * 8 + 7, none⟩ = some v7 := by rw [show 6 + k * 8 + 7 = 6 + (k * 8 + 7) from Nat.add_assoc _ _ _, hY4.cell, wrC_at]; exact hv7
              have z7 := hY4.free (6 + k * 8 + 7)
              have u3 := (hY4.cell 3).trans (wrC_head _ _ _ _ _ _ _).2.2.2.1
              have HY4 := Lib.hid hY4
              clear hY4 hl512 hv0 hv1 hv2 hv3 hv4 hv5 hv6 hv7
              go_upto_region 8 with ((with_reducible refine (HATS.out _).mono ?_); rintro e w' ⟨rfl, rfl⟩)
              obtain ⟨w5, hw5⟩ : ∃ w5, w5 = (((((((w4.setCell ⟨p, 6 + k * 8, none⟩ (.slice none 0 0)).setCell ⟨p, 6 + k * 8 + 1, none⟩ (.bool false)).setCell ⟨p, 6 + k * 8 + 2, none⟩ (.bool false)).setCell ⟨p, 6 + k * 8 + 3, none⟩ (.bool false)).setCell ⟨p, 6 + k * 8 + 4, none⟩ (.bool false)).setCell ⟨p, 6 + k * 8 + 5, none⟩ (.bool false)).setCell ⟨p, 6 + k * 8 + 6, none⟩ (.bool false)).setCell ⟨p, 6 + k * 8 + 7, none⟩ (.bool false) := ⟨_, rfl⟩
              rw [← hw5]
              have hY5 := HY4.out.setE (k := k) (v := .slice none 0 0)
              rw [← hw5] at hY5
              have hf5 : Frm [p] w4 w5 := by
                rw [hw5]
                exact ((((((((Frm.refl _ _).setCell (.inl (by simp)) _).setCell (.inl (by simp)) _).setCell (.inl (by simp)) _).setCell (.inl (by simp)) _).setCell (.inl (by simp)) _).setCell (.inl (by simp)) _).setCell (.inl (by simp)) _).setCell (.inl (by simp)) _
              have x3 := (hY5.cell 3).trans (wrC_head _ _ _ _ _ _ _).2.2.2.1
              have f3 := hY5.free 3
              obtain ⟨m, hm⟩ : ∃ m, m = s + 1 := ⟨_, rfl⟩
              have hwm : IntKind.u64.wrap ((s : Int) + 1) = (m : Int) := by simp [IntKind.wrap, IntKind.bits, IntKind.signed]; omega
              have HREL : Hid (AckRel w w B p F P W A D (hasAdd H n pn) su cl (.slice a' (kx + 1) c') (w5.setCell ⟨p, 3, none⟩ (.int .u64 (m : Nat)))) := Lib.hid (by
                have hlt := HLT.out
                have hco := HCO.out
                have hf6 : Frm [p] w4 (w5.setCell ⟨p, 3, none⟩ (.int .u64 (m : Nat))) := hf5.setCell (.inl (by simp)) _
                have hnx := HG4.out.next (k := k) (Y := Y) (v := .slice none 0 0) (by omega) HK2.out HL.out (fun i h1 h2 => ?_) (by rw [← hco]; exact hY5) hf5
                · rw [← hm] at hnx
                  refine ⟨m, a', kx + 1, c', _, rfl, HG5.out, by have := HKS.out; omega, by omega, Lib.hid (HG1.out.keep (F' := List.range w.heap.size) hf6 (fun x hx => .inl (by simp at hx; subst hx; exact List.mem_range.2 H0.out.lt)) (fun x hx => .inl hx)), Lib.hid ?_, Lib.hid (fun i h1 h2 => ?_), Lib.hid hnx, Lib.hid (HG6.out.trans hf6 (fun x hx => hx) (fun x hx => .inl hx))⟩
                  · rw [hm, itemsN_succ D (by omega), ← HIT.out, ← HD.out]; simp [its]
                  · by_cases his : i = s
                    · rw [his]; exact HOK.out.symm
                    · exact HOKS.out i h1 (by omega)
                · obtain ⟨Y9, hY9, hl9, he9⟩ := HG4.out.box
                  have e : Y9 = Y := by
                    have h1 : wrC P W A s D.length cl Y9 = wrC P W A s D.length cl Y := by
                      have h2 := HY4.out
                      rw [hco] at h2
                      have h3 := hY9.symm.trans h2
                      simp at h3
                      exact h3
                    unfold wrC at h1
                    simpa using h1
                  rw [← e]; exact he9 i h1 h2)
              have HMK : Hid (kx < co) := Lib.hid (by have := HKS.out; have := HLT.out; omega)
              clear hw5 hY5 hf5 hm u3 y0 y1 y2 y3 y4 y5 y6 y7 z0 z1 z2 z3 z4 z5 z6 z7
              go_wp2
              go_roundw
              case rel => exact HREL.out
              case measure => have := HMK.out; simp [lenOf]; omega
          · have d1 : decide ((s : Int) < (co : Int)) = false := decide_eq_false (by omega)
            have d2 : decide (s < co) = false := decide_eq_false hlt
            have HX := Lib.hid (END.out (fun h => absurd h hlt))
            clear END hlt hY he q0 q1 q2 q3 q4 q5 K0 K1 K2 K3 K4
            go_wp2
            go_quiet (fail)
            go_wp2
            exact HX.out _ ((Frm.refl _ _).drewN _)
/-- What Ack answers and leaves, where it does something. -/
def WrAckGo (w : World) (B p : Nat) (F : List Nat) (P W A : Nat) (D : List (List Nat)) (H : Nat → Nat → Bool) (su : Nat) (cl : Bool) (e : Ending) (w' : World) : Prop :=
  ∃ (s : Nat) (a : Option Addr) (c : Nat) (X : List Ix), e = .returned (.slice a X.length c) ∧ su ≤ s ∧ s ≤ D.length ∧ its X = itemsN D su s ∧ (∀ i, su ≤ i → i < s → okN P W A H i = true) ∧ (s < D.length → okN P W A H s = false) ∧ IL w' [] a X ∧ Wq w' B p F P W A D H s cl ∧ Frm [p] w w'
def WrAckEnd (w : World) (B p : Nat) (F : List Nat) (P W A : Nat) (D : List (List Nat)) (H : Nat → Nat → Bool) (su : Nat) (cl : Bool) (pl : Int) (n : Nat) (e : Ending) (w' : World) : Prop :=
  ((n < su ∨ D.length ≤ n ∨ hasI (setN P W n) pl = false) ∧ e = .returned (.slice none 0 0) ∧ Frm [] w w' ∧ Wq w' B p F P W A D H su cl) ∨
  (su ≤ n ∧ n < D.length ∧ hasI (setN P W n) pl = true ∧ ∃ pn : Nat, pl = (pn : Int) ∧ pn < P ∧ WrAckGo w B p F P W A D (hasAdd H n pn) su cl e w')
theorem wrack_any {w : World} {B p : Nat} {F : List Nat} {P W A : Nat} {D : List (List Nat)} {H : Nat → Nat → Bool} {su : Nat} {cl : Bool} (pl : Int) (n : Nat) (h : Wq w B p F P W A D H su cl) (hn : n < 18446744073709551616) :
    Calls Try.prog 17 #[.pointer (some ⟨p, 0, none⟩), .int .i64 pl, .int .u64 (n : Nat)] w (WrAckEnd w B p F P W A D H su cl pl n) := by
  refine (wrack_new pl n h hn).mono ?_
  rintro e w' (h1 | ⟨h1, h2, h3, pn, h4, h5, s, a, c, X, g1, g2, g3, g4, g5, g6, g7, g8, g9⟩)
  · exact .inl h1
  · exact .inr ⟨h1, h2, h3, pn, h4, h5, s, a, c, X, g1, g2, g3, g4, g5, g6, g7.keep (Frm.refl [] _) (F' := []) (by simp) (by simp), g8, g9⟩
end Go.Proofs.Ytecfoomjpjcldaa
