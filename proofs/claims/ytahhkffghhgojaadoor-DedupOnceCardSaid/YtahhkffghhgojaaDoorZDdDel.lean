/- Contracts of slices.IndexFunc, slices.DeleteFunc over lines, as Write calls them. -/
import Derived.Test.YtahhkffghhgojaaDoorZDdAll
import Derived.Lib.SliceRun
namespace Go.Proofs.YtahhkffghhgojaaDoor
open Go.RowKit
set_option maxRecDepth 100000

theorem sizeDd : ∀ w, (Go.sizeOf 56).run Tryd.prog w = .ok 5 w := Tryd.sizeOf56
theorem delfn_any (x : Ln) (w : World) : Calls Tryd.prog 43 #[x.val] w fun e w' => e = .returned (.bool (decide (x.done = 0))) ∧ Frm [] w w' := by
  obtain ⟨xn, xt, xd, xl, xe⟩ := x
  simp only [Ln.val]
  by_cases h : xd = 0
  · subst h
    go_enter Tryd.func43, Tryd.ntmps43
    go_wp2
    go_ret
    exact ⟨rfl, (Frm.refl _ _).alloc _⟩
  · have h1 : ((xd : Int) == 0) = false := by rw [beq_eq_false_iff_ne]; omega
    rw [decide_eq_false h]
    go_enter Tryd.func43, Tryd.ntmps43
    go_wp2
    go_ret
    exact ⟨rfl, (Frm.refl _ _).alloc _⟩

/-- The first line that isn't done. -/
def FirstD (X : List Ln) (r : Int) : Prop := (r = -1 ∧ ∀ j, j < X.length → (X.getD j default).done ≠ 0) ∨ ∃ k : Nat, r = (k : Nat) ∧ k < X.length ∧ (X.getD k default).done = 0 ∧ ∀ j, j < k → (X.getD j default).done ≠ 0

set_option maxHeartbeats 2000000 in
theorem indexD_any (a : Option Addr) (n cap : Nat) (F : List Nat) (X : List Ln) (w : World) (hl : LnL w F a X) (hn : n = X.length) (hfit : n ≤ 1000000) :
    Calls Tryd.prog 59 #[.slice a n cap, .func (.func 43) #[] #[]] w fun e w' => ∃ r : Int, e = .returned (.int .i64 r) ∧ FirstD X r ∧ Frm [] w w' := by
  have HL := Lib.hid hl; clear hl
  have HN := Lib.hid hn; clear hn
  have HP := Lib.hid delfn_any
  go_enter Tryd.func59, Tryd.ntmps59
  go_wp2
  go_loopw [8] (fun u8 wr => ∃ k : Nat, k ≤ n ∧ u8 = .int .i64 (k : Nat) ∧ Hid (∀ j, j < k → (X.getD j default).done ≠ 0) ∧ Hid (Frm [] w wr)) (fun u8 _ => n - (intOf u8).toNat)
  case atStart => exact ⟨0, Nat.zero_le _, rfl, Lib.hid (fun j hj => absurd hj (Nat.not_lt_zero _)), Lib.hid (Frm.refl _ _)⟩
  case round =>
    obtain ⟨k, hk, rfl, HJ, HF⟩ := hrel
    by_cases hlt : k < n
    · obtain ⟨b, off, rfl, d0, d1, d2, d3, d4, _⟩ := (HL.out.sub HF.out).at (i := k) (by have := HN.out; omega)
      obtain ⟨x, hx⟩ : ∃ x, x = X.getD k default := ⟨_, rfl⟩
      rw [← hx] at d0 d1 d2 d3 d4
      have HX := Lib.hid hx
      obtain ⟨xn, xt, xd, xl, xe⟩ := x
      simp only at d0 d1 d2 d3 d4
      have hc := fun w => delfn_any ⟨xn, xt, xd, xl, xe⟩ w
      simp only [Ln.val] at hc
      clear hx
      by_cases hd : xd = 0
      · rw [decide_eq_true hd] at hc
        have HC := Lib.hid hc
        have HD := Lib.hid hd
        clear hc hd
        go_wp2_with ((with_reducible refine (HC.out _).mono ?_); rintro e w' ⟨rfl, hf1⟩; have HF1 := Lib.hid (HF.out.trans hf1 (U := []) (by simp) (by simp)); clear hf1)
        go_ret
        exact ⟨_, rfl, .inr ⟨k, rfl, by have := HN.out; omega, by rw [← HX.out]; exact HD.out, HJ.out⟩, HF1.out⟩
      · rw [decide_eq_false hd] at hc
        have HC := Lib.hid hc
        have HJ2 : Hid (∀ j, j < k + 1 → (X.getD j default).done ≠ 0) := Lib.hid fun j hj => by
          rcases Nat.lt_or_ge j k with h | h
          · exact HJ.out j h
          · have : j = k := by omega
            subst this; rw [← HX.out]; exact hd
        clear hc hd
        go_wp2_with ((with_reducible refine (HC.out _).mono ?_); rintro e w' ⟨rfl, hf1⟩; have HF1 := Lib.hid (HF.out.trans hf1 (U := []) (by simp) (by simp)); clear hf1)
        go_roundw
        case rel => exact ⟨k + 1, by omega, by go_num, HJ2, HF1⟩
        case measure => simp [intOf]; omega
    · obtain rfl : k = n := by omega
      go_wp2
      go_ret
      exact ⟨_, rfl, .inl ⟨rfl, by rw [← HN.out]; exact HJ.out⟩, HF.out⟩

def zLn : Ln := ⟨⟨#[]⟩, 0, 0, 0, 0⟩
theorem zero_lnc (n : Nat) : (Builtin.zeroCells (Value.agg #[.string ⟨#[]⟩, .int .u64 0, .int .u64 0, .int .u64 0, .int .u64 0]).cells n).toList = lnc (List.replicate n zLn) := by
  have hc : (Value.agg #[.string ⟨#[]⟩, .int .u64 0, .int .u64 0, .int .u64 0, .int .u64 0]).cells = #[.string ⟨#[]⟩, .int .u64 0, .int .u64 0, .int .u64 0, .int .u64 0] := by simp [Value.cells]; try rfl
  rw [hc]
  apply List.ext_getElem?
  intro i
  by_cases hi : i < n * 5
  · have hq : i / 5 < (List.replicate n zLn).length := by simp; omega
    obtain ⟨c0, c1, c2, c3, c4⟩ := lnc_at (List.replicate n zLn) (i / 5) hq
    have e3 : (List.replicate n zLn).getD (i / 5) default = zLn := by
      rw [ln_get hq]; simp
    rw [e3] at c0 c1 c2 c3 c4
    have hm : i = i / 5 * 5 + i % 5 := by omega
    have hr : i % 5 < 5 := Nat.mod_lt _ (by decide)
    have e1 : (Builtin.zeroCells #[.string ⟨#[]⟩, .int .u64 0, .int .u64 0, .int .u64 0, .int .u64 0] n).toList[i]? = some (#[Value.string ⟨#[]⟩, .int .u64 0, .int .u64 0, .int .u64 0, .int .u64 0][i % 5]!) := by
      unfold Builtin.zeroCells
      simp [hi]
    rw [e1]
    generalize i / 5 = a at *
    generalize i % 5 = b at *
    subst hm
    rcases b with _ | _ | _ | _ | _ | b
    · exact c0.symm
    · exact c1.symm
    · exact c2.symm
    · exact c3.symm
    · exact c4.symm
    · omega
  · rw [List.getElem?_eq_none (by simp [Builtin.zeroCells]; omega), List.getElem?_eq_none (by rw [lnc_length]; simp; omega)]
theorem run_clearD (w : World) (g o n c ty : Nat) (hn : 0 < n) (hc : ∀ j, j < n * 5 → (w.cell? ⟨g, o + j, none⟩).isSome = true) (hf : ∀ j, j < n * 5 → w.frozen? ⟨g, o + j, none⟩ = false) :
    (Builtin.clear_ #[39] ty #[.slice (some ⟨g, o, none⟩) n c]).run Tryd.prog w = .ok (.tuple #[]) (w.setCells g o (lnc (List.replicate n zLn))) := by
  have hl : (lnc (List.replicate n zLn)).length = n * 5 := by rw [lnc_length]; simp
  have hst := run_storeCells_cells (P := Tryd.prog) g o (lnc (List.replicate n zLn)) 0 w (by simpa [hl] using hc) (by simpa [hl] using hf) (lnc_one _)
  simp only [Nat.add_zero] at hst
  have hz := zeroDd w
  have hzc := zero_lnc n
  obtain ⟨m, rfl⟩ : ∃ m, n = m + 1 := ⟨n - 1, by omega⟩
  simp [Builtin.clear_, run_underlying Tryd.underlying39, hz, hzc, hst]

section
variable {w : World} {base g cap n : Nat} {e : TypeId}
theorem ownD_head {R : List Value} (h : w.ownsRow base e 5 (.slice (some ⟨g, 0, none⟩) n cap) n R) {m : Nat} (hm : m ≤ n) : w.ownsRow base e 5 (.slice (some ⟨g, 0, none⟩) m cap) m (R.take (m * 5)) := by
  refine ⟨by rw [List.length_take, h.1]; exact Nat.min_eq_left (Nat.mul_le_mul_right 5 hm), ?_⟩
  rcases h.2 with ⟨h', _⟩ | ⟨g', cap', cur, hv, hb, hg, hnc, hcm, hcs, ht⟩
  · simp at h'
  · simp only [Value.slice.injEq, Option.some.injEq, Addr.mk.injEq, and_true, true_and] at hv
    obtain ⟨rfl, rfl⟩ := hv
    have := Nat.mul_le_mul_right 5 hm
    exact .inr ⟨g, cap, cur, rfl, hb, hg, by omega, hcm, hcs, by rw [← ht, List.take_take]; congr 1; omega⟩
theorem ownD_setCells : ∀ (vs : List Value) (o : Nat) {w : World} {R : List Value}, w.ownsRow base e 5 (.slice (some ⟨g, 0, none⟩) n cap) n R →
    ∃ R', (w.setCells g o vs).ownsRow base e 5 (.slice (some ⟨g, 0, none⟩) n cap) n R' ∧ (∀ m, m ≤ o → R'.take m = R.take m) ∧ Frm [g] w (w.setCells g o vs)
  | [], o, w, R, h => ⟨R, h, fun _ _ => rfl, Frm.refl _ _⟩
  | v :: vs, o, w, R, h => by
    obtain ⟨R', h1, h2, h3⟩ := ownD_setCells vs (o + 1) (h.stored o v).1
    refine ⟨R', h1, fun m hm => ?_, ((Frm.refl [g] w).setCell (.inl (by simp)) v).trans h3 (by simp) (by simp)⟩
    rw [h2 m (by omega), List.take_set_of_le (by omega)]
end
theorem take_set1 {R : List Value} {k : Nat} (h : k < R.length) (u : Value) : (R.set k u).take (k + 1) = R.take k ++ [u] := by
  rw [List.take_succ_eq_append_getElem (by simpa using h), List.take_set_of_le (Nat.le_refl _)]
  simp
/-- Five cells are laid anew. -/
theorem take_set5 {R : List Value} {k : Nat} (h : k + 5 ≤ R.length) (a b c d e : Value) : (((((R.set k a).set (k + 1) b).set (k + 2) c).set (k + 3) d).set (k + 4) e).take (k + 5) = R.take k ++ [a, b, c, d, e] := by
  rw [take_set1 (k := k + 4) (by simp; omega), take_set1 (k := k + 3) (by simp; omega), take_set1 (k := k + 2) (by simp; omega), take_set1 (k := k + 1) (by simp; omega), take_set1 (k := k) (by omega)]
  simp
theorem drop_set5 {R : List Value} {k m : Nat} (h : k + 5 ≤ m) (a b c d e : Value) : (((((R.set k a).set (k + 1) b).set (k + 2) c).set (k + 3) d).set (k + 4) e).drop m = R.drop m := by
  rw [List.drop_set_of_lt (by omega), List.drop_set_of_lt (by omega), List.drop_set_of_lt (by omega), List.drop_set_of_lt (by omega), List.drop_set_of_lt (by omega)]

/-- What is kept: what is done. -/
def keepD (X : List Ln) : List Ln := X.filter fun x => decide (0 < x.done)
theorem keepD_step {X : List Ln} {j : Nat} (h : j < X.length) : keepD (X.take (j + 1)) = if (X.getD j default).done = 0 then keepD (X.take j) else keepD (X.take j) ++ [X.getD j default] := by
  rw [ln_get h]
  unfold keepD
  rw [List.take_succ_eq_append_getElem h, List.filter_append]
  by_cases hp : X[j].done = 0
  · rw [if_pos hp]; simp [hp]
  · rw [if_neg hp]; simp [Nat.pos_of_ne_zero hp]
theorem keepD_all {X : List Ln} {k : Nat} (h : ∀ j, j < k → (X.getD j default).done ≠ 0) : k ≤ X.length → keepD (X.take k) = X.take k := by
  intro hk
  unfold keepD
  rw [List.filter_eq_self]
  intro q hq
  obtain ⟨i, hi, rfl⟩ := List.getElem_of_mem hq
  rw [List.length_take] at hi
  have := h i (by omega)
  rw [ln_get (by omega)] at this
  rw [List.getElem_take]
  simp; omega
def DFRelD (w : World) (base g cap n : Nat) (X : List Ln) (u5 u6 : Value) (wr : World) : Prop :=
  ∃ (i j : Nat) (R : List Value), u5 = .int .i64 (i : Nat) ∧ u6 = .int .i64 (j : Nat) ∧ i < j ∧ j ≤ n ∧ Hid (wr.ownsRow base 56 5 (.slice (some ⟨g, 0, none⟩) n cap) n R) ∧ Hid (R.take (i * 5) = lnc (keepD (X.take j))) ∧ Hid ((keepD (X.take j)).length = i) ∧ Hid (R.drop (j * 5) = lnc (X.drop j)) ∧ Hid (Frm [g] w wr)

set_option maxHeartbeats 8000000 in
theorem deleteD_any (a : Option Addr) (n cap base : Nat) (F : List Nat) (X : List Ln) (w : World) (hl : LnOwn w base 56 F a cap X) (hn : n = X.length) (hfit : n ≤ 1000000) :
    Calls Tryd.prog 42 #[.slice a n cap, .func (.func 43) #[] #[]] w fun e w' => ∃ m, e = .returned (.slice a m cap) ∧ m = (keepD X).length ∧ LnOwn w' base 56 F a cap (keepD X) ∧ Frm (blk a) w w' := by
  have hidx := indexD_any a n cap F X w hl.sl hn hfit
  have HIX := Lib.hid hidx; clear hidx
  have HL := Lib.hid hl; clear hl
  have HN := Lib.hid hn; clear hn
  have HP := Lib.hid delfn_any
  have HKF : Hid (∀ x ∈ keepD X, x.fits) := Lib.hid (fun x hx => HL.out.fits x (List.mem_filter.1 hx).1)
  go_enter Tryd.func42, Tryd.ntmps42
  go_wp2_with fail
  (with_reducible refine HIX.out.mono ?_)
  rintro e w1 ⟨r, rfl, hfirst, hf1⟩
  have HF1 := Lib.hid hf1; clear hf1
  rcases hfirst with ⟨rfl, hall⟩ | ⟨k, rfl, hkn, hk, hlo⟩
  · have hkq : keepD X = X := by
      have := keepD_all (k := X.length) (X := X) (fun j hj => hall j hj) (Nat.le_refl _)
      rwa [List.take_of_length_le (Nat.le_refl _)] at this
    have HE : Hid (∃ m, Ending.returned (.slice a n cap) = .returned (.slice a m cap) ∧ m = (keepD X).length ∧ LnOwn w1 base 56 F a cap (keepD X) ∧ Frm (blk a) w w1) := Lib.hid ⟨n, rfl, by rw [hkq]; exact HN.out, by rw [hkq]; exact HL.out.keep HF1.out (by simp) (fun x hx => .inl hx), HF1.out.weak (by simp)⟩
    clear hall hkq
    go_wp2
    go_ret
    exact HE.out
  · obtain ⟨g, rfl⟩ : ∃ g, a = some ⟨g, 0, none⟩ := by
      rcases HL.out.own.2 with ⟨_, h2⟩ | ⟨g, c, cur, hv, _⟩
      · omega
      · simp only [Value.slice.injEq] at hv; exact ⟨g, hv.1⟩
    rw [← HN.out] at hkn
    have hne1 : ((k : Int) == -1) = false := beq_eq_false_iff_ne.2 (by omega)
    have hcap : n ≤ cap := by have := HL.out.caps.1; rwa [← HN.out] at this
    have hcap2 : cap ≤ 9223372036854775807 := by have := HL.out.caps.2.1; unfold maxLen at this; omega
    have HST : Hid (DFRelD w base g cap n X (.int .i64 (k : Nat)) (.int .i64 ((k + 1 : Nat) : Int)) w1) := by
      have hkl : k < X.length := by have := HN.out; omega
      have hka := keepD_all (k := k) (X := X) hlo (by omega)
      have hstep := keepD_step (X := X) hkl
      rw [if_pos hk, hka] at hstep
      have ho := (HL.out.keep (F' := F) HF1.out (by simp) (fun x hx => .inl hx)).own
      rw [← HN.out] at ho
      exact Lib.hid ⟨k, k + 1, _, rfl, rfl, by omega, by omega, Lib.hid ho, Lib.hid (by rw [hstep, lnc_take]), Lib.hid (by rw [hstep, List.length_take]; omega), Lib.hid (by rw [lnc_drop]), Lib.hid (HF1.out.weak (by simp))⟩
    clear hlo hk HF1
    have hsk : IntKind.i64.wrap ((k : Int) + 1) = (k : Int) + 1 := IntWalk.i64_in _ (by omega)
    go_wp2
    go_loopw [5, 6] (fun u5 u6 wr => DFRelD w base g cap n X u5 u6 wr) (fun _ u6 _ => n - (intOf u6).toNat)
    case atStart => exact HST.out
    case round =>
      clear HST hsk hne1 hkn
      obtain ⟨i, j, R, rfl, rfl, hij, hjn, HO, HT, HK, HD, HF⟩ := hrel
      by_cases hlt : j < n
      · have hjq : j < X.length := by have := HN.out; omega
        have hRl : R.length = n * 5 := HO.out.1
        have hstep := keepD_step (X := X) hjq
        have hcj : ∀ c u, (lnc (X.drop j))[c]? = some u → wr.cell? ⟨g, j * 5 + c, none⟩ = some u := by
          intro c u hu
          rw [← HD.out, List.getElem?_drop] at hu
          have hlt2 : j * 5 + c < n * 5 := by
            rw [← hRl]
            exact (List.getElem?_eq_some_iff.1 hu).1
          rw [HO.out.cellAt (j * 5 + c) hlt2]
          exact hu
        obtain ⟨p0, p1, p2, p3, p4⟩ := lnc_at (X.drop j) 0 (by simp; omega)
        have hx0 : (X.drop j).getD 0 default = X.getD j default := by rw [ln_get (by simp; omega), ln_get hjq]; simp
        rw [hx0] at p0 p1 p2 p3 p4
        have d0 := hcj 0 _ p0
        have d1 := hcj 1 _ p1
        have d2 := hcj 2 _ p2
        have d3 := hcj 3 _ p3
        have d4 := hcj 4 _ p4
        have hdj : R.drop ((j + 1) * 5) = lnc (X.drop (j + 1)) := by
          have h1 := congrArg (List.drop 5) HD.out
          rw [List.drop_drop] at h1
          rw [show (j + 1) * 5 = j * 5 + 5 by omega, h1, show 5 = 1 * 5 from rfl, ← lnc_drop, List.drop_drop]
        obtain ⟨x, hx⟩ : ∃ x, x = X.getD j default := ⟨_, rfl⟩
        rw [← hx] at d0 d1 d2 d3 d4 hstep
        obtain ⟨xn, xt, xd, xl, xe⟩ := x
        simp only at d0 d1 d2 d3 d4 hstep
        rw [Nat.add_zero] at d0
        have hc := fun w => delfn_any ⟨xn, xt, xd, xl, xe⟩ w
        simp only [Ln.val] at hc
        have HDJ := Lib.hid hdj; clear hdj
        have HRL := Lib.hid hRl; clear hRl
        clear hx hjq hcj p0 p1 p2 p3 p4 hx0
        by_cases hd : xd = 0
        · rw [decide_eq_true hd] at hc
          have HC := Lib.hid hc
          rw [if_pos hd] at hstep
          have HSTEP := Lib.hid hstep
          have HREL : Hid (∀ z, Frm [] wr z → DFRelD w base g cap n X (.int .i64 (i : Nat)) (.int .i64 ((j + 1 : Nat) : Int)) z) := Lib.hid fun z hz => by
            refine ⟨i, j + 1, R, rfl, rfl, by omega, by omega, Lib.hid (hz.own HO.out (by simp)), Lib.hid (by rw [HSTEP.out]; exact HT.out), Lib.hid (by rw [HSTEP.out]; exact HK.out), Lib.hid HDJ.out, Lib.hid ((HF.out.trans hz (U := [g]) (by simp) (by simp)))⟩
          clear hc hd hstep
          go_wp2_with ((with_reducible refine (HC.out _).mono ?_); rintro e w' ⟨rfl, hf2⟩; have HR2 := Lib.hid (HREL.out _ (Frm.trans (S := []) ((Frm.refl [] wr).alloc _) hf2 (by simp) (by simp))); clear hf2)
          go_roundw
          case rel => exact HR2.out
          case measure => simp [intOf]; omega
        · rw [decide_eq_false hd] at hc
          have HC := Lib.hid hc
          rw [if_neg hd] at hstep
          have HSTEP := Lib.hid hstep
          have HREL : Hid (∀ z, Frm [] wr z → DFRelD w base g cap n X (.int .i64 ((i + 1 : Nat) : Int)) (.int .i64 ((j + 1 : Nat) : Int)) (((((z.setCell ⟨g, i * 5, none⟩ (.string xn)).setCell ⟨g, i * 5 + 1, none⟩ (.int .u64 (xt : Nat))).setCell ⟨g, i * 5 + 2, none⟩ (.int .u64 (xd : Nat))).setCell ⟨g, i * 5 + 3, none⟩ (.int .u64 (xl : Nat))).setCell ⟨g, i * 5 + 4, none⟩ (.int .u64 (xe : Nat)))) := Lib.hid fun z hz => by
            have ho := (hz.own HO.out (by simp))
            have hs := (((((ho.stored (i * 5) (.string xn)).1.stored (i * 5 + 1) (.int .u64 (xt : Nat))).1.stored (i * 5 + 2) (.int .u64 (xd : Nat))).1.stored (i * 5 + 3) (.int .u64 (xl : Nat))).1.stored (i * 5 + 4) (.int .u64 (xe : Nat))).1
            have hil : i * 5 + 5 ≤ R.length := by have := HRL.out; omega
            refine ⟨i + 1, j + 1, _, rfl, rfl, by omega, by omega, Lib.hid hs, Lib.hid ?_, Lib.hid ?_, Lib.hid ?_, Lib.hid ?_⟩
            · rw [show (i + 1) * 5 = i * 5 + 5 by omega, take_set5 hil, HSTEP.out, lnc_append, HT.out]
              rfl
            · rw [HSTEP.out, List.length_append, HK.out]; rfl
            · rw [drop_set5 (by omega)]; exact HDJ.out
            · exact (((((HF.out.trans hz (U := [g]) (by simp) (by simp)).setCell (.inl (by simp)) _).setCell (.inl (by simp)) _).setCell (.inl (by simp)) _).setCell (.inl (by simp)) _).setCell (.inl (by simp)) _
          have HCI : Hid (∀ z, Frm [] wr z → ∀ c, c < 5 → z.cell? ⟨g, i * 5 + c, none⟩ = some (R.getD (i * 5 + c) default) ∧ z.frozen? ⟨g, i * 5 + c, none⟩ = false) := Lib.hid fun z hz c hc => by
            have ho := hz.own HO.out (by simp)
            have h5 : i * 5 + c < R.length := by have := HRL.out; omega
            refine ⟨?_, ho.frozenAt _⟩
            rw [ho.cellAt (i * 5 + c) (by have := HRL.out; omega)]
            simp [h5]
          have HWY : Hid (∀ z, Frm [] (wr.alloc (.cells #[.string xn, .int .u64 (xt : Nat), .int .u64 (xd : Nat), .int .u64 (xl : Nat), .int .u64 (xe : Nat)] 56)) z → Whole z wr.heap.size 56 #[.string xn, .int .u64 (xt : Nat), .int .u64 (xd : Nat), .int .u64 (xl : Nat), .int .u64 (xe : Nat)] ∧ Frm [] wr z) := Lib.hid fun z hz => ⟨hz.whole (Whole.made _ _ _) (by simp), Frm.trans (S := []) ((Frm.refl [] wr).alloc _) hz (by simp) (by simp)⟩
          have hgy : Hid (g < wr.heap.size) := Lib.hid (by
            have := World.ownsRow.lt HO.out g rfl
            exact this.2)
          clear hc hd hstep
          obtain ⟨o0, ho0⟩ : ∃ o, o = R.getD (i * 5 + 0) default := ⟨_, rfl⟩
          obtain ⟨o1, ho1⟩ : ∃ o, o = R.getD (i * 5 + 1) default := ⟨_, rfl⟩
          obtain ⟨o2, ho2⟩ : ∃ o, o = R.getD (i * 5 + 2) default := ⟨_, rfl⟩
          obtain ⟨o3, ho3⟩ : ∃ o, o = R.getD (i * 5 + 3) default := ⟨_, rfl⟩
          obtain ⟨o4, ho4⟩ : ∃ o, o = R.getD (i * 5 + 4) default := ⟨_, rfl⟩
          have OO : Hid (o0 = R.getD (i * 5 + 0) default ∧ o1 = R.getD (i * 5 + 1) default ∧ o2 = R.getD (i * 5 + 2) default ∧ o3 = R.getD (i * 5 + 3) default ∧ o4 = R.getD (i * 5 + 4) default) := Lib.hid ⟨ho0, ho1, ho2, ho3, ho4⟩
          clear ho0 ho1 ho2 ho3 ho4
          go_wp2_with (with_reducible refine (HC.out _).mono ?_)
          rintro e z ⟨rfl, hf2⟩
          obtain ⟨hy, hz⟩ := HWY.out z hf2
          have HZ := Lib.hid hz
          have y0 := hy.cell 0
          have y1 := hy.cell 1
          have y2 := hy.cell 2
          have y3 := hy.cell 3
          have y4 := hy.cell 4
          simp at y0 y1 y2 y3 y4
          have q0 := HCI.out z hz 0 (by omega)
          have q1 := HCI.out z hz 1 (by omega)
          have q2 := HCI.out z hz 2 (by omega)
          have q3 := HCI.out z hz 3 (by omega)
          have q4 := HCI.out z hz 4 (by omega)
          rw [← OO.out.1] at q0
          rw [← OO.out.2.1] at q1
          rw [← OO.out.2.2.1] at q2
          rw [← OO.out.2.2.2.1] at q3
          rw [← OO.out.2.2.2.2] at q4
          obtain ⟨r0, s0⟩ := q0
          obtain ⟨r1, s1⟩ := q1
          obtain ⟨r2, s2⟩ := q2
          obtain ⟨r3, s3⟩ := q3
          obtain ⟨r4, s4⟩ := q4
          rw [Nat.add_zero] at r0 s0
          have HR2 := Lib.hid (HREL.out z hz)
          clear hf2 hy hz
          go_wp2
          go_roundw
          case rel => exact HR2.out
          case measure => simp [intOf]; omega
      · obtain rfl : j = n := by omega
        have hqt : X.take j = X := List.take_of_length_le (by have := HN.out; omega)
        have hRl : R.length = j * 5 := HO.out.1
        have hcl : ∀ ty, (Builtin.clear_ #[39] ty #[.slice (some ⟨g, i * 5, none⟩) (j - i) (cap - i)]).run Tryd.prog wr = .ok (.tuple #[]) (wr.setCells g (i * 5) (lnc (List.replicate (j - i) zLn))) :=
          fun ty => run_clearD wr g (i * 5) (j - i) (cap - i) ty (by omega) (fun t ht => by rw [HO.out.cellAt (i * 5 + t) (by omega), List.getElem?_eq_getElem (by omega)]; rfl) (fun t ht => HO.out.frozenAt (i * 5 + t))
        obtain ⟨R', h1, h2, h3⟩ := ownD_setCells (lnc (List.replicate (j - i) zLn)) (i * 5) HO.out
        have hrun2 := fun w => run_cut5 (P := Tryd.prog) Tryd.underlying39 sizeDd w (some ⟨g, 0, none⟩) j cap i (i : Int) rfl (by omega)
        have hcutv : cut5 (some ⟨g, 0, none⟩) cap i = some ⟨g, i * 5, none⟩ := by
          unfold cut5
          rw [if_neg (by omega)]
          simp [addr_add]
        rw [hcutv] at hrun2
        have hhead := fun w => run_head5 (P := Tryd.prog) Tryd.underlying39 sizeDd w (some ⟨g, 0, none⟩) j cap i (by omega)
        obtain ⟨wz, hwz⟩ : ∃ wz, wz = wr.setCells g (i * 5) (lnc (List.replicate (j - i) zLn)) := ⟨_, rfl⟩
        rw [← hwz] at h1 h3 hcl
        have HE : Hid (∃ m, Ending.returned (.slice (some ⟨g, 0, none⟩) i cap) = .returned (.slice (some ⟨g, 0, none⟩) m cap) ∧ m = (keepD X).length ∧ LnOwn wz base 56 F (some ⟨g, 0, none⟩) cap (keepD X) ∧ Frm (blk (some ⟨g, 0, none⟩)) w wz) := Lib.hid (by
          have hk2 := HK.out
          have ht2 := HT.out
          rw [hqt] at hk2 ht2
          refine ⟨i, rfl, hk2.symm, ⟨?_, HKF.out, HL.out.away⟩, (HF.out.trans h3 (U := [g]) (by simp) (by simp)).weak (by simp)⟩
          rw [hk2, ← ht2, ← h2 (i * 5) (Nat.le_refl _)]
          exact ownD_head h1 (by omega))
        clear hqt hRl h1 h2 h3 hcutv hwz HP HIX
        go_wp2
        go_ret
        exact HE.out
end Go.Proofs.YtahhkffghhgojaaDoor
