/- Contracts of slices.IndexFunc, slices.DeleteFunc over numbers, with Waiting's function. Written by wip/mk-wrdel.py. -/
import Derived.Test.YtecfoomjpjcldaaWrRest
import Derived.Lib.SliceRun
import Derived.Deep.LoopGhost
namespace Go.Proofs.Ytecfoomjpjcldaa
open Go.RowKit
set_option maxRecDepth 100000
def ivl (q : Nat) : Value := .int .i64 (q : Nat)
def OwnI (w : World) (base : Nat) (a : Option Addr) (cap : Nat) (l : List Value) : Prop := w.ownsRow base 3 1 (.slice a l.length cap) l.length l
theorem OwnI.nil (w : World) (base : Nat) : OwnI w base none 0 [] := World.ownsRow_nil _ _ _ _
theorem OwnI.lt {w : World} {base : Nat} {a : Option Addr} {cap : Nat} {l : List Value} (h : OwnI w base a cap l) : ∀ x, a = some x → base ≤ x.block ∧ x.block < w.heap.size := fun x hx => World.ownsRow.lt h x.block (by rw [hx]; rfl)
theorem OwnI.caps {w : World} {base : Nat} {a : Option Addr} {cap : Nat} {l : List Value} (h : OwnI w base a cap l) : l.length ≤ cap ∧ cap ≤ maxLen ∧ (a = none → cap = 0) := by
  rcases h.2 with ⟨hv, hl⟩ | ⟨g, c, cur, hv, _, _, h1, h2, _⟩
  · simp only [Value.slice.injEq] at hv
    rw [hl, hv.2.2]; exact ⟨Nat.le_refl _, Nat.zero_le _, fun _ => rfl⟩
  · simp only [Value.slice.injEq] at hv
    obtain ⟨rfl, _, rfl⟩ := hv
    exact ⟨h1, h2, fun h => by cases h⟩
theorem OwnI.vals {w : World} {base : Nat} {a : Option Addr} {cap : Nat} {l : List Value} (h : OwnI w base a cap l) : ValsAt w a l := by
  have hh : w.ownsRow base 3 1 (.slice a l.length cap) l.length l := h
  rcases hh.2 with ⟨_, hl⟩ | ⟨g, c, cur, hv, _⟩
  · exact .inl (List.eq_nil_of_length_eq_zero hl)
  · simp only [Value.slice.injEq] at hv
    obtain ⟨rfl, _, rfl⟩ := hv
    refine .inr ⟨g, 0, rfl, fun i u hu => ?_⟩
    have hi : i < l.length := by
      rcases Nat.lt_or_ge i l.length with h' | h'
      · exact h'
      · rw [List.getElem?_eq_none h'] at hu; cases hu
    rw [Nat.zero_add, hh.cellAt i (by omega)]
    exact hu
theorem OwnI.keep {w w' : World} {base : Nat} {a : Option Addr} {cap : Nat} {l : List Value} {S : List Nat} (h : OwnI w base a cap l) (hf : Frm S w w') (hn : ∀ x, a = some x → x.block ∉ S) : OwnI w' base a cap l :=
  hf.own h (fun g hg => by
    cases a with
    | none => simp [Value.ownBlock] at hg
    | some x => simp only [Value.ownBlock, Option.some.injEq] at hg; subst hg; exact hn x rfl)

def cutI (a : Option Addr) (cap lo : Nat) : Option Addr := if cap = lo then a else a.map (·.add lo)
theorem ValsAt.drop {w : World} {a : Option Addr} {us : List Value} {cap : Nat} (h : ValsAt w a us) (hc : us.length ≤ cap) (lo : Nat) : ValsAt w (cutI a cap lo) (us.drop lo) := by
  unfold cutI
  by_cases hlo : cap = lo
  · rw [if_pos hlo, List.drop_eq_nil_of_le (by omega)]; exact .inl rfl
  · rw [if_neg hlo]
    rcases h with h' | ⟨b, off, rfl, hcc⟩
    · exact .inl (by rw [h']; simp)
    · refine .inr ⟨b, off + lo, by simp [addr_add], fun i u hu => ?_⟩
      rw [List.getElem?_drop] at hu
      rw [Nat.add_assoc]
      exact hcc _ _ hu
theorem cutI_none {a : Option Addr} {cap lo : Nat} (h : a = none → cap = 0) (hc : cutI a cap lo = none) : cap - lo = 0 := by
  unfold cutI at hc
  by_cases hlo : cap = lo
  · omega
  · rw [if_neg hlo] at hc
    have := h (by simpa using hc)
    omega
section
variable {P : Program} {t e : TypeId}
theorem run_cutI (ht : P.underlying t = some (.slice e)) (hz : ∀ w, (Go.sizeOf e).run P w = .ok 1 w) (w : World) (a : Option Addr) (n cap lo : Nat) (l : Int) (hl : l = (lo : Nat)) (h1 : lo ≤ n) :
    (Instr.slice t (.slice a n cap) (some (.int .i64 l)) none none).run P w = .ok (.slice (cutI a cap lo) (n - lo) (cap - lo)) w := by
  subst hl
  have ht' : P.underlying t = some (.slice (P.elem t)) := by simp [Program.elem, ht]
  have he : P.elem t = e := by simp [Program.elem, ht]
  rw [run_slice_l w t _ _ _ ht' .i64 _ (by omega) (by omega), he, hz]
  simp [Result.andThen, sliced, cutI]
end
theorem sizeI : ∀ w, (Go.sizeOf 3).run Try.prog w = .ok 1 w := fun _ => by kernel_rfl
theorem ptr_one (qs : List Nat) : ∀ u ∈ qs.map ivl, u.oneCell' = true := by
  intro u hu
  obtain ⟨q, _, rfl⟩ := List.mem_map.1 hu
  rfl

/-- The first place where it holds. -/
def FirstAtI (p : Nat → Bool) (n : Nat) (r : Int) : Prop := (r = -1 ∧ ∀ j, j < n → p j = false) ∨ ∃ k : Nat, r = (k : Nat) ∧ k < n ∧ p k = true ∧ ∀ j, j < k → p j = false

set_option maxRecDepth 100000 in
set_option maxHeartbeats 1000000 in
theorem indexI_any (a : Option Addr) (n cap : Nat) (qs : List Nat) (fv : Array Value) (p : Nat → Bool) (w : World) (S : List Nat) (hS : S = []) (hl : ValsAt w a (qs.map ivl)) (hn : n = qs.length) (hfit : n ≤ 100000)
    (hp : ∀ wr, Frm [] w wr → ∀ i, i < n → Calls Try.prog 55 (#[.int .i64 (qs.getD i 0 : Nat)] ++ fv) wr fun e w' => e = .returned (.bool (p i)) ∧ Frm [] wr w') :
    Calls Try.prog 61 #[.slice a n cap, .func (.func 55) #[] fv] w fun e w' => ∃ r : Int, e = .returned (.int .i64 r) ∧ FirstAtI p n r ∧ Frm S w w' := by
  subst hS
  have HL := Lib.hid hl; clear hl
  have HN := Lib.hid hn; clear hn
  have HP := Lib.hid hp; clear hp
  go_enter Try.func61, Try.ntmps61
  go_wp2
  go_loopw [8] (fun u8 wr => ∃ k : Nat, k ≤ n ∧ u8 = .int .i64 (k : Nat) ∧ Hid (∀ j, j < k → p j = false) ∧ Frm [] w wr) (fun u8 _ => n - (intOf u8).toNat)
  case atStart => exact ⟨0, Nat.zero_le _, rfl, Lib.hid (fun j hj => absurd hj (Nat.not_lt_zero _)), Frm.refl _ _⟩
  case round =>
    obtain ⟨k, hk, rfl, HJ, hf⟩ := hrel
    have HF := Lib.hid hf; clear hf
    by_cases hlt : k < n
    · have hu : (qs.map ivl)[k]? = some (ivl (qs.getD k 0)) := by
        have : k < qs.length := by have := HN.out; omega
        simp [this]
      have hc := HP.out wr HF.out k hlt
      obtain ⟨q, hq⟩ : ∃ q, q = qs.getD k 0 := ⟨_, rfl⟩
      rw [← hq] at hu hc
      have HC := Lib.hid hc
      clear hc hq
      rcases HL.out with h0 | ⟨b, off, rfl, hcell⟩
      · rw [h0] at hu; simp at hu
      have c0 := (HF.out.cell (block_lt_of_cell (hcell k _ hu)) (by simp)).trans (hcell k _ hu)
      unfold ivl at c0
      have HPK : Hid (p k = p k) := Lib.hid rfl
      clear hcell hu
      cases hpk : p k
      · rw [hpk] at HC
        have HJ2 : Hid (∀ j, j < k + 1 → p j = false) := Lib.hid fun j hj => by
          rcases Nat.lt_or_ge j k with h | h
          · exact HJ.out j h
          · have : j = k := by omega
            subst this; exact hpk
        clear hpk HPK
        go_wp2_with ((with_reducible refine HC.out.mono ?_); rintro e w' ⟨rfl, hf1⟩; have HF1 := Lib.hid (HF.out.trans hf1 (U := []) (by simp) (by simp)); clear hf1)
        go_roundw
        case rel => exact ⟨k + 1, by omega, by go_num, HJ2, HF1.out⟩
        case measure => simp [intOf]; omega
      · rw [hpk] at HC
        have HK := Lib.hid hpk
        clear hpk HPK
        go_wp2_with ((with_reducible refine HC.out.mono ?_); rintro e w' ⟨rfl, hf1⟩; have HF1 := Lib.hid (HF.out.trans hf1 (U := []) (by simp) (by simp)); clear hf1)
        go_ret
        exact ⟨_, rfl, .inr ⟨k, rfl, hlt, HK.out, HJ.out⟩, HF1.out⟩
    · obtain rfl : k = n := by omega
      go_wp2
      go_ret
      exact ⟨_, rfl, .inl ⟨rfl, HJ.out⟩, HF.out⟩

/-- The head of a row of the call's own; what is stored behind it. -/
theorem OwnI.head {w : World} {base g cap n : Nat} {R : List Value} (h : w.ownsRow base 3 1 (.slice (some ⟨g, 0, none⟩) n cap) n R) {m : Nat} (hm : m ≤ n) : OwnI w base (some ⟨g, 0, none⟩) cap (R.take m) := by
  have hR : (R.take m).length = m := by rw [List.length_take, h.1]; omega
  refine ⟨by omega, ?_⟩
  rw [hR]
  rcases h.2 with ⟨h', _⟩ | ⟨g', cap', cur, hv, hb, hg, hnc, hcm, hcs, ht⟩
  · simp at h'
  · simp only [Value.slice.injEq, Option.some.injEq, Addr.mk.injEq, and_true, true_and] at hv
    obtain ⟨rfl, rfl⟩ := hv
    exact .inr ⟨g, cap, cur, rfl, hb, hg, by omega, hcm, hcs, by rw [← ht, List.take_take]; congr 1; omega⟩
theorem own_setCellsI {base g cap n : Nat} : ∀ (vs : List Value) (o : Nat) {w : World} {R : List Value}, w.ownsRow base 3 1 (.slice (some ⟨g, 0, none⟩) n cap) n R →
    ∃ R', (w.setCells g o vs).ownsRow base 3 1 (.slice (some ⟨g, 0, none⟩) n cap) n R' ∧ (∀ m, m ≤ o → R'.take m = R.take m) ∧ Frm [g] w (w.setCells g o vs)
  | [], o, w, R, h => ⟨R, h, fun _ _ => rfl, Frm.refl _ _⟩
  | v :: vs, o, w, R, h => by
    obtain ⟨R', h1, h2, h3⟩ := own_setCellsI vs (o + 1) (h.stored o v).1
    refine ⟨R', h1, fun m hm => ?_, ((Frm.refl [g] w).setCell (.inl (by simp)) v).trans h3 (by simp) (by simp)⟩
    rw [h2 m (by omega), List.take_set_of_le (by omega)]

/-- What is kept. -/
def keepI (p : Nat → Bool) (qs : List Nat) : List Nat := qs.filter (fun q => !p q)
def DFRelI (w : World) (base g cap n : Nat) (qs : List Nat) (p : Nat → Bool) (u5 u6 : Value) (wr : World) : Prop :=
  ∃ (i j : Nat) (R : List Value), u5 = .int .i64 (i : Nat) ∧ u6 = .int .i64 (j : Nat) ∧ i < j ∧ j ≤ n ∧ Hid (wr.ownsRow base 3 1 (.slice (some ⟨g, 0, none⟩) n cap) n R) ∧ Hid (R.take i = (keepI p (qs.take j)).map ivl) ∧ Hid ((keepI p (qs.take j)).length = i) ∧ Hid (R.drop j = (qs.drop j).map ivl) ∧ Hid (Frm [g] w wr)
theorem keepI_step {p : Nat → Bool} {qs : List Nat} {j : Nat} (h : j < qs.length) : keepI p (qs.take (j + 1)) = if p (qs.getD j 0) = true then keepI p (qs.take j) else keepI p (qs.take j) ++ [qs.getD j 0] := by
  have e : qs.getD j 0 = qs[j] := by simp [h]
  rw [e]
  unfold keepI
  rw [List.take_succ_eq_append_getElem h, List.filter_append]
  cases hp : p qs[j] <;> simp [hp]
theorem keepI_all {p : Nat → Bool} {qs : List Nat} {k : Nat} (h : ∀ j, j < k → p (qs.getD j 0) = false) : k ≤ qs.length → keepI p (qs.take k) = qs.take k := by
  intro hk
  unfold keepI
  rw [List.filter_eq_self]
  intro q hq
  obtain ⟨i, hi, rfl⟩ := List.getElem_of_mem hq
  rw [List.length_take] at hi
  have := h i (by omega)
  have e : qs.getD i 0 = qs[i]'(by omega) := by simp [show i < qs.length by omega]
  rw [e] at this
  rw [List.getElem_take, this]; rfl

set_option maxRecDepth 100000 in
set_option maxHeartbeats 4000000 in
theorem deleteI_any (a : Option Addr) (n cap base : Nat) (qs : List Nat) (fv : Array Value) (p : Nat → Bool) (w : World) (hl : OwnI w base a cap (qs.map ivl)) (hn : n = qs.length) (hfit : n ≤ 100000)
    (hp : ∀ wr, Frm (blk a) w wr → ∀ q ∈ qs, Calls Try.prog 55 (#[.int .i64 (q : Nat)] ++ fv) wr fun e w' => e = .returned (.bool (p q)) ∧ Frm [] wr w') :
    Calls Try.prog 53 #[.slice a n cap, .func (.func 55) #[] fv] w fun e w' => ∃ m, e = .returned (.slice a m cap) ∧ m = (keepI p qs).length ∧ OwnI w' base a cap ((keepI p qs).map ivl) ∧ Frm (blk a) w w' := by
  have hidx := indexI_any a n cap qs fv (fun i => p (qs.getD i 0)) w [] rfl hl.vals hn hfit (fun wr hf i hi => hp wr (hf.weak (by simp)) _ (by simp [show i < qs.length by omega]))
  have HIX := Lib.hid hidx; clear hidx
  have HL := Lib.hid hl; clear hl
  have HN := Lib.hid hn; clear hn
  have HP := Lib.hid hp; clear hp
  go_enter Try.func53, Try.ntmps53
  go_wp2_with fail
  (with_reducible refine HIX.out.mono ?_)
  rintro e w1 ⟨r, rfl, hfirst, hf1⟩
  have HF1 := Lib.hid hf1; clear hf1
  rcases hfirst with ⟨rfl, hall⟩ | ⟨k, rfl, hkn, hk, hlo⟩
  · have hkq : keepI p qs = qs := by
      have := keepI_all (k := qs.length) (p := p) (qs := qs) (fun j hj => hall j (by have := HN.out; omega)) (Nat.le_refl _)
      rwa [List.take_of_length_le (Nat.le_refl _)] at this
    have HE : Hid (∃ m, Ending.returned (.slice a n cap) = .returned (.slice a m cap) ∧ m = (keepI p qs).length ∧ OwnI w1 base a cap ((keepI p qs).map ivl) ∧ Frm (blk a) w w1) := Lib.hid ⟨n, rfl, by rw [hkq]; exact HN.out, by rw [hkq]; exact HL.out.keep HF1.out (by simp), HF1.out.weak (by simp)⟩
    clear hall hkq
    go_wp2
    go_ret
    exact HE.out
  · obtain ⟨g, rfl⟩ : ∃ g, a = some ⟨g, 0, none⟩ := by
      have h1 := HL.out.2
      rcases h1 with ⟨_, h2⟩ | ⟨g, c, cur, hv, _⟩
      · rw [List.length_map, ← HN.out] at h2; omega
      · simp only [Value.slice.injEq] at hv; exact ⟨g, hv.1⟩
    have hne1 : ((k : Int) == -1) = false := beq_eq_false_iff_ne.2 (by omega)
    have hcap : n ≤ cap := by have := HL.out.caps.1; rwa [List.length_map, ← HN.out] at this
    have hcap2 : cap ≤ 9223372036854775807 := by have := HL.out.caps.2.1; unfold maxLen at this; omega
    have HST : Hid (DFRelI w base g cap n qs p (.int .i64 (k : Nat)) (.int .i64 ((k + 1 : Nat) : Int)) w1) := by
      have hkl : k < qs.length := by have := HN.out; omega
      have hka := keepI_all (k := k) (p := p) (qs := qs) hlo (by omega)
      have hstep := keepI_step (p := p) (qs := qs) hkl
      rw [if_pos hk, hka] at hstep
      have ho := HL.out.keep HF1.out (by simp)
      unfold OwnI at ho
      rw [List.length_map, ← HN.out] at ho
      exact Lib.hid ⟨k, k + 1, _, rfl, rfl, by omega, by omega, Lib.hid ho, Lib.hid (by rw [hstep, List.map_take]), Lib.hid (by rw [hstep, List.length_take]; omega), Lib.hid (by rw [List.map_drop]), Lib.hid (HF1.out.weak (by simp))⟩
    clear hlo hk HF1
    have hsk : IntKind.i64.wrap ((k : Int) + 1) = (k : Int) + 1 := IntWalk.i64_in _ (by omega)
    go_wp2
    go_loopw [5, 6] (fun u5 u6 wr => DFRelI w base g cap n qs p u5 u6 wr) (fun _ u6 _ => n - (intOf u6).toNat)
    case atStart => exact HST.out
    case round =>
      clear HST hsk hne1 hkn
      obtain ⟨i, j, R, rfl, rfl, hij, hjn, HO, HT, HK, HD, HF⟩ := hrel
      by_cases hlt : j < n
      · have hjq : j < qs.length := by have := HN.out; omega
        have hRl : R.length = n := by have := HO.out.1; omega
        have hcj : wr.cell? ⟨g, j, none⟩ = some (.int .i64 (qs.getD j 0 : Nat)) := by
          rw [HO.out.cellAt j (by omega)]
          have h1 : (R.drop j)[0]? = ((qs.drop j).map ivl)[0]? := by rw [HD.out]
          rw [List.getElem?_drop] at h1
          rw [show j + 0 = j from rfl] at h1
          rw [h1]
          simp [hjq, ivl]
        have hci : wr.cell? ⟨g, i, none⟩ = some (R.getD i default) := by
          rw [HO.out.cellAt i (by omega)]
          simp [show i < R.length by omega]
        have hfi := HO.out.frozenAt i
        have hstep := keepI_step (p := p) (qs := qs) hjq
        have hqm : qs.getD j 0 ∈ qs := by simp [hjq]
        have hc := HP.out wr HF.out _ hqm
        have hdj : R.drop (j + 1) = (qs.drop (j + 1)).map ivl := by
          have h1 := congrArg (List.drop 1) HD.out
          rw [List.drop_drop] at h1
          rw [show j + 1 = j + 1 from rfl, h1, ← List.map_drop, List.drop_drop]
        obtain ⟨q, hq⟩ : ∃ q, q = qs.getD j 0 := ⟨_, rfl⟩
        rw [← hq] at hcj hstep hc
        generalize R.getD i default = old at hci
        have HDJ := Lib.hid hdj; clear hdj
        have HC := Lib.hid hc; clear hc
        have HRL := Lib.hid hRl; clear hRl
        clear hq hqm hjq
        cases hpq : p q
        · rw [hpq] at HC
          rw [hpq, if_neg (by simp)] at hstep
          have HSTEP := Lib.hid hstep; clear hstep hpq
          have HREL : Hid (∀ z, Frm [] wr z → DFRelI w base g cap n qs p (.int .i64 ((i + 1 : Nat) : Int)) (.int .i64 ((j + 1 : Nat) : Int)) (z.setCell ⟨g, i, none⟩ (ivl q))) := Lib.hid fun z hz => by
            have ho := (hz.own HO.out (by simp))
            have hs := (ho.stored i (ivl q)).1
            have hil : i < R.length := by have := HRL.out; omega
            refine ⟨i + 1, j + 1, _, rfl, rfl, by omega, by omega, Lib.hid hs, Lib.hid ?_, Lib.hid ?_, Lib.hid ?_, Lib.hid ?_⟩
            · rw [HSTEP.out, List.map_append, ← HT.out, List.take_succ_eq_append_getElem (by simpa using hil), List.take_set_of_le (Nat.le_refl _)]
              simp
            · rw [HSTEP.out, List.length_append, HK.out]; rfl
            · rw [List.drop_set_of_lt (by omega)]; exact HDJ.out
            · exact ((HF.out.trans hz (U := [g]) (by simp) (by simp))).setCell (.inl (by simp)) _
          have HFZ : Hid (∀ z, Frm [] wr z → z.cell? ⟨g, i, none⟩ = some old ∧ z.frozen? ⟨g, i, none⟩ = false) := Lib.hid fun z hz => ⟨(hz.cell (block_lt_of_cell hci) (by simp)).trans hci, (hz.own HO.out (by simp)).frozenAt i⟩
          clear hci hfi
          go_wp2_with ((with_reducible refine HC.out.mono ?_); rintro e w' ⟨rfl, hf2⟩; obtain ⟨z1, z2⟩ := HFZ.out _ hf2; have HR2 := Lib.hid (HREL.out _ hf2); clear hf2)
          go_roundw
          case rel => exact HR2.out
          case measure => simp [intOf]; omega
        · rw [hpq] at HC
          rw [hpq, if_pos rfl] at hstep
          have HSTEP := Lib.hid hstep; clear hstep hpq
          have HREL : Hid (∀ z, Frm [] wr z → DFRelI w base g cap n qs p (.int .i64 (i : Nat)) (.int .i64 ((j + 1 : Nat) : Int)) z) := Lib.hid fun z hz => by
            refine ⟨i, j + 1, R, rfl, rfl, by omega, by omega, Lib.hid (hz.own HO.out (by simp)), Lib.hid (by rw [HSTEP.out]; exact HT.out), Lib.hid (by rw [HSTEP.out]; exact HK.out), Lib.hid HDJ.out, Lib.hid ((HF.out.trans hz (U := [g]) (by simp) (by simp)))⟩
          clear hci hfi
          go_wp2_with ((with_reducible refine HC.out.mono ?_); rintro e w' ⟨rfl, hf2⟩; have HR2 := Lib.hid (HREL.out _ hf2); clear hf2)
          go_roundw
          case rel => exact HR2.out
          case measure => simp [intOf]; omega
      · obtain rfl : j = n := by omega
        have hqt : qs.take j = qs := List.take_of_length_le (by have := HN.out; omega)
        have hRl : R.length = j := by have := HO.out.1; omega
        have hcl : ∀ ty, (Builtin.clear_ #[52] ty #[.slice (some ⟨g, i, none⟩) (j - i) (cap - i)]).run Try.prog wr = .ok (.tuple #[]) (wr.setCells g i (List.replicate (j - i) (.int .i64 0))) :=
          fun ty => Lib.run_clear_slice wr _ _ ty _ Try.underlying52 (fun _ => by kernel_rfl) rfl rfl g i _ _ (by omega) (fun t ht => by rw [HO.out.cellAt (i + t) (by omega), List.getElem?_eq_getElem (by omega)]; rfl) (fun t ht => HO.out.frozenAt (i + t))
        obtain ⟨R', h1, h2, h3⟩ := own_setCellsI (List.replicate (j - i) (.int .i64 0)) i HO.out
        have hrun2 := fun w => run_cutI (P := Try.prog) Try.underlying52 sizeI w (some ⟨g, 0, none⟩) j cap i (i : Int) rfl (by omega)
        have hcutv : cutI (some ⟨g, 0, none⟩) cap i = some ⟨g, i, none⟩ := by
          unfold cutI
          rw [if_neg (by omega)]
          simp [addr_add]
        rw [hcutv] at hrun2
        have hhead := fun w => run_head_h (P := Try.prog) Try.underlying52 sizeI w (some ⟨g, 0, none⟩) j cap i (by omega)
        obtain ⟨wz, hwz⟩ : ∃ wz, wz = wr.setCells g i (List.replicate (j - i) (.int .i64 0)) := ⟨_, rfl⟩
        rw [← hwz] at h1 h3 hcl
        have HE : Hid (∃ m, Ending.returned (.slice (some ⟨g, 0, none⟩) i cap) = .returned (.slice (some ⟨g, 0, none⟩) m cap) ∧ m = (keepI p qs).length ∧ OwnI wz base (some ⟨g, 0, none⟩) cap ((keepI p qs).map ivl) ∧ Frm (blk (some ⟨g, 0, none⟩)) w wz) := Lib.hid (by
          have hk2 := HK.out
          have ht2 := HT.out
          rw [hqt] at hk2 ht2
          refine ⟨i, rfl, hk2.symm, ?_, (HF.out.trans h3 (U := [g]) (by simp) (by simp)).weak (by simp)⟩
          rw [← ht2, ← h2 i (Nat.le_refl _)]
          exact OwnI.head h1 (by omega))
        clear hqt hRl h1 h2 h3 hcutv hwz HP HIX
        go_wp2
        go_ret
        exact HE.out
end Go.Proofs.Ytecfoomjpjcldaa
