/- The walk of MenderKeeps. Written by wip/mk-mkkeeps.py. -/
import Derived.Test.YtecfoomjpjcldaaMkMem
import Derived.Test.YtecfoomjpjcldaaMkHeld
import Derived.Test.YtecfoomjpjcldaaMkRange
import Derived.Test.YtecfoomjpjcldaaWrRest
import Derived.Test.YtecfoomjpjcldaaWrQuo
import Derived.Test.YtecfoomjpjcldaaQuRef
import Derived.Test.YtecfoomjpjcldaaMkSet
import Derived.Test.YtecfoomjpjcldaaTail
import Derived.Test.YtecfoomjpjcldaaWrRows
import Derived.Test.YtecfoomjpjcldaaInKa
import Derived.RegionTactic
import Derived.BigRegion
import Derived.Deep.Cut
import Derived.Deep.CutRange
import Derived.Deep.CutBlock
namespace Go.Proofs.Ytecfoomjpjcldaa
open Go.RowKit
set_option maxRecDepth 100000
theorem infoBytesK : (Try.prog.info? 38).map (fun i => (i.zero, i.size, i.bytes)) = some (some (.slice none 0 0), 1, 24) := by kernel_rfl
theorem valsThree (w : World) (u v x : Value) (t : TypeId) (m : Nat × Nat) : ValsAt (w.alloc (.cells #[u, v, x] t m)) (some ⟨w.heap.size, 0, none⟩) [u, v, x] := by
  refine .inr ⟨_, _, rfl, fun i y hy => ?_⟩
  rw [cell_of_row _ w.heap.size _ #[u, v, x] t m (heap_alloc_new w _)]
  match i, hy with
  | 0, hy => simpa using hy
  | 1, hy => simpa using hy
  | 2, hy => simpa using hy
  | i + 3, hy => simp at hy
theorem infoMaps : (Try.prog.info? 80).map (fun i => (i.zero, i.size, i.bytes)) = some (some (.map none), 1, 8) := by kernel_rfl
theorem mk_maps (n : Nat) (h : n ≤ 1000) (w : World) : (Instr.makeSlice 79 (.int .i64 (n : Int)) (.int .i64 (n : Int))).run Try.prog w = .ok (.slice (some ⟨w.heap.size, 0, none⟩) n n) (w.alloc (.cells (Array.replicate n (.map none)) 80)) := by
  obtain ⟨i0, hi0, hz0, hz1, hz2⟩ := info_parts infoMaps
  have hr := run_make (P := Try.prog) w 79 80 i0 (.map none) Try.underlying79 hi0 hz0 .i64 .i64 (n : Int) (n : Int) (by omega) (by omega) (by rw [hz2]; omega) (by omega)
  have he : Array.replicate n (.map none) = madeCells (Value.map none).cells (n * i0.size) := by
    rw [hz1, show (Value.map none).cells = #[Value.map none] from rfl, made_eq]
    simp
  rw [he]
  simpa only [Int.toNat_natCast] using hr
/-- The first i maps made. -/
structure Tm (w z : World) (hb P i : Nat) (mb : Nat → Nat) : Prop where
  pl : ∃ C, Whole z hb 80 C ∧ C.size = P ∧ ∀ j, j < i → C[j]? = some (.map (some (mb j)))
  mp : ∀ j, j < i → MapV Try.prog 39 z (mb j) 0 (fun _ => none)
  ne : ∀ j k, j < i → k < i → mb j = mb k → j = k
  lo : ∀ j, j < i → hb < mb j
  frm : Frm [] w z
theorem Tm.more {w z : World} {hb P i : Nat} {mb : Nat → Nat} (h : Tm w z hb P i mb) (hi : i < P) (hw : w.heap.size ≤ hb) :
    Tm w ((z.setCell ⟨hb, i, none⟩ (.map (some z.heap.size))).alloc (.map #[] 0)) hb P (i + 1) (fun j => if j = i then z.heap.size else mb j) := by
  obtain ⟨C, hC, hn, hc⟩ := h.pl
  have hlt := hC.lt
  have hf : Frm [hb] z ((z.setCell ⟨hb, i, none⟩ (.map (some z.heap.size))).alloc (.map #[] 0)) := ((Frm.refl _ _).setCell (.inl (by simp)) _).alloc _
  have hml : ∀ j, j < i → mb j < z.heap.size := fun j hj => (h.mp j hj).lt
  have hn0 : MapV Try.prog 39 ((z.setCell ⟨hb, i, none⟩ (.map (some z.heap.size))).alloc (.map #[] 0)) z.heap.size 0 (fun _ => none) := by
    have h0 := MapV.new (P := Try.prog) (k := 39) (z.setCell ⟨hb, i, none⟩ (.map (some z.heap.size))) (by kernel_rfl)
    rwa [show (z.setCell ⟨hb, i, none⟩ (.map (some z.heap.size))).heap.size = z.heap.size by simp] at h0
  refine ⟨⟨_, (hC.put i _).alloc _, by simpa using hn, fun j hj => ?_⟩, fun j hj => ?_, fun j k hj hk he => ?_, fun j hj => ?_, h.frm.trans hf (by simp) (fun x hx => .inr (by simp at hx; omega))⟩
  · by_cases hji : j = i
    · subst hji; simp [hn, hi]
    · rw [if_neg hji, Array.getElem?_setIfInBounds_ne (Ne.symm hji)]
      exact hc j (by omega)
  · by_cases hji : j = i
    · simp only [if_pos hji]; exact hn0
    · simp only [if_neg hji]
      exact (h.mp j (by omega)).keep hf (by have := h.lo j (by omega); simp; omega)
  · by_cases hji : j = i
    · by_cases hki : k = i
      · omega
      · simp only [if_pos hji, if_neg hki] at he; have := hml k (by omega); omega
    · by_cases hki : k = i
      · simp only [if_neg hji, if_pos hki] at he; have := hml j (by omega); omega
      · simp only [if_neg hji, if_neg hki] at he; exact h.ne j k (by omega) (by omega) he
  · by_cases hji : j = i
    · simp only [if_pos hji]; exact hlt
    · simp only [if_neg hji]; exact h.lo j (by omega)
theorem Tm.done {w z : World} {hb P : Nat} {mb : Nat → Nat} (h : Tm w z hb P P mb) : Whole z hb 80 (mvC P mb) := by
  obtain ⟨C, hC, hn, hc⟩ := h.pl
  have : C = mvC P mb := by
    apply Array.ext_getElem?
    intro j
    by_cases hj : j < P
    · rw [hc j hj, mvC_at hj]
    · rw [Array.getElem?_eq_none (by omega), Array.getElem?_eq_none (by unfold mvC; simp; omega)]
  rw [← this]; exact hC
def TmRel (w : World) (hb P : Nat) (s52 : Value) (z : World) : Prop := ∃ (i : Nat) (mb : Nat → Nat), s52 = .int .i64 (i : Nat) ∧ i ≤ P ∧ Hid (Tm w z hb P i mb)
def Kr (w : World) (B px pm hb fb : Nat) (mb : Nat → Nat) (P W A n : Nat) (s65 s13 s14 s15 : Value) (z : World) : Prop :=
  ∃ (i : Nat) (wa : Option Addr) (wn wc : Nat) (ra : Option Addr) (rn rc : Nat) (db : Nat → Nat) (D : List (List Nat)) (H : Nat → Nat → Bool) (su : Nat) (L : Nat → Nat → Option (List Nat)) (fe : Nat → Bool) (t : Tn) (Y : List (Nat × Nat)), s65 = .int .i64 (i : Nat) ∧ s13 = .slice wa wn wc ∧ s14 = .slice ra rn rc ∧ s15 = .int .i64 (su : Nat) ∧ i ≤ n ∧ i ≤ 201 ∧ Hid (rn = D.length) ∧
    Hid (Kz w z B px pm hb fb mb wa wn wc ra rc db P W A D H su L fe fe t Y i) ∧ Hid (Mk P W A D H su L fe (atT t))
def Kq (w : World) (B px pm hb fb : Nat) (mb : Nat → Nat) (P W A : Nat) (s13 s14 s15 : Value) (z : World) : Prop :=
  ∃ (i : Nat) (wa : Option Addr) (wn wc : Nat) (ra : Option Addr) (rn rc : Nat) (db : Nat → Nat) (D : List (List Nat)) (H : Nat → Nat → Bool) (su : Nat) (L : Nat → Nat → Option (List Nat)) (fe : Nat → Bool) (t : Tn) (Y : List (Nat × Nat)), s13 = .slice wa wn wc ∧ s14 = .slice ra rn rc ∧ s15 = .int .i64 (su : Nat) ∧ i ≤ 201 ∧ Hid (rn = D.length) ∧
    Hid (Kz w z B px pm hb fb mb wa wn wc ra rc db P W A D H su L fe fe t Y i) ∧ Hid (Mk P W A D H su L fe (atT t))
/-- 'm[k] = v' where the order is drawn. -/
theorem step_putK {P : Program} {k : TypeId} {ops : Array Oper} {o : Oper} {a : Act} {w : World} {K : Act → World → Prop} {Q : Exit → Act → World → Prop} {E : Prop} (hw : Region.wanted o (yielded ops a.tmps) = true) (m x v : Operand) (t e : TypeId) (hop : o.op = Op.mapUpdate t m x v) (ht : P.underlying t = some (.map k e))
    (b n : Nat) (f : Nat → Option Value) (hm : a.eval m = .map (some b)) (h : MapV P k w b n f) (hn : n < maxLen) (i : Nat) (hi : i < M64) (hx : a.eval x = .int .u64 (i : Int)) (u : Value) (hu : a.eval v = u)
    (hK : ∀ w', MapV P k w' b (n + 1) (updV f i u) → Frm [b] w w' → K (a.put o.dst undef) w') :
    if Region.wanted o (yielded ops a.tmps) = true then Oper.wp P o a w K Q else E := by
  rw [if_pos hw]
  obtain ⟨w', hr, h1, h2⟩ := h.put ht hn hi u
  unfold Oper.wp
  simp [execOp, hop, hm, hx, hu, hr, Result.andThen]
  exact hK w' h1 h2
theorem setN_len' (P W e : Nat) : (setN P W e).length = W := by simp [setN]
def KaRel (w w13 : World) (aS : Option Addr) (qs : List Nat) (B px pm hb fb : Nat) (mb : Nat → Nat) (ra : Option Addr) (rc : Nat) (db : Nat → Nat) (P W A : Nat) (D : List (List Nat)) (H : Nat → Nat → Bool) (su : Nat) (L : Nat → Nat → Option (List Nat)) (fe : Nat → Bool) (t : Tn) (j : Nat) (s108 s13 : Value) (z : World) : Prop :=
  ∃ (q : Nat) (wa : Option Addr) (wn wc : Nat) (Y : List (Nat × Nat)), s108 = .int .i64 (q : Nat) ∧ s13 = .slice wa wn wc ∧ q ≤ W ∧ Hid (Y.length ≤ j * 7 + q) ∧ Hid (Kz w z B px pm hb fb mb wa wn wc ra rc db P W A D H su L fe fe t Y (j + 1)) ∧ Hid (w13.heap.size ≤ z.heap.size) ∧ Hid (IIn z aS qs) ∧ Hid (∀ x, aS = some x → x.block ∉ blk wa)
theorem nodup_le : ∀ (n : Nat) (S : List Nat), S.Nodup → (∀ x ∈ S, x < n) → S.length ≤ n
  | 0, S, _, h => by
    cases S with
    | nil => simp
    | cons x S => have := h x (by simp); omega
  | n + 1, S, hn, h => by
    by_cases hm : n ∈ S
    · have h1 := nodup_le n (S.erase n) (hn.erase n) (fun x hx => by
        have h2 := (hn.mem_erase_iff).1 hx
        have h3 := h x h2.2
        have h4 := h2.1
        omega)
      rw [List.length_erase_of_mem hm] at h1
      omega
    · have h1 := nodup_le n S hn (fun x hx => by
        have h2 := h x hx
        rcases Nat.lt_or_ge x n with h3 | h3
        · exact h3
        · exact absurd (show n ∈ S by rw [show n = x by omega]; exact hx) hm)
      omega
def KfRel (w10 w11 : World) (bp rr p j : Nat) (L : Nat → Nat → Option (List Nat)) (db : Nat → Nat) (D : List (List Nat)) (s26 : Value) (z : World) : Prop :=
  ∃ (a : Option Addr) (xn cap : Nat) (X : List Ix) (S : List Nat) (cnt : Nat), s26 = .slice a xn cap ∧ Hid (xn = X.length) ∧ Hid (IOwn z w11.heap.size 55 [rr] a cap X) ∧ Hid (RgV Try.prog 39 z bp rr j (fvM L db p) S cnt) ∧ Hid (its X = S.map (fun e => (e, D.getD e []))) ∧ Hid (∀ e ∈ S, L p e = some (D.getD e []) ∧ e < D.length) ∧ Hid (Frm [] w10 z) ∧ Hid (w11.heap.size ≤ z.heap.size)
def KnRel (w13 : World) (W : Nat) (v : Value) (s108 s13 : Value) (z : World) : Prop := ∃ q : Nat, s108 = .int .i64 (q : Nat) ∧ s13 = v ∧ q ≤ W ∧ Hid (z = w13)
def Kt (w : World) (B px pm hb fb : Nat) (mb : Nat → Nat) (wa : Option Addr) (wn wc : Nat) (ra : Option Addr) (rc : Nat) (db : Nat → Nat) (P W A : Nat) (D : List (List Nat)) (L : Nat → Nat → Option (List Nat)) (fe : Nat → Bool) (t : Tn) (Y : List (Nat × Nat)) (i : Nat) (s226 s15 : Value) (z : World) : Prop :=
  ∃ (j su : Nat) (H : Nat → Nat → Bool), s226 = .int .i64 (j : Nat) ∧ s15 = .int .i64 (su : Nat) ∧ j ≤ wn ∧ Hid (Kz w z B px pm hb fb mb wa wn wc ra rc db P W A D H su L fe fe t Y i) ∧ Hid (Ml P W A D H su fe (atT t))
/-- What is written, as slices of bytes. -/
theorem Kz.ll {w z : World} {B px pm hb fb : Nat} {mb : Nat → Nat} {wa : Option Addr} {wn wc : Nat} {ra : Option Addr} {rc : Nat} {db : Nat → Nat} {P W A : Nat} {D : List (List Nat)} {H : Nat → Nat → Bool} {su : Nat} {L : Nat → Nat → Option (List Nat)} {fe fh : Nat → Bool} {t : Tn} {Y : List (Nat × Nat)} {i : Nat} (m : Kz w z B px pm hb fb mb wa wn wc ra rc db P W A D H su L fe fh t Y i) : LL z [] ra D := by
  refine ⟨dvR db D.length, own_vals m.row, ⟨by simp [dvR], fun e he => ?_⟩, fun _ _ _ => by simp⟩
  obtain ⟨h1, h2, h3, _⟩ := m.dat e he
  have hby : Bytes z (some ⟨db e, 0, none⟩) (D.getD e []) := by
    refine ⟨h3, by rw [h2]; decide, .inr ⟨_, 0, rfl, fun j hj => ?_⟩⟩
    rw [Nat.zero_add, h1.cell j]
    generalize D.getD e [] = d at hj ⊢
    simp [hj, u8v, List.getD]
  refine ⟨some ⟨db e, 0, none⟩, 2, ?_, hby, fun _ x hx => by simp, fun h => by cases h⟩
  rw [h2]
  simp [dvR, he, dvV]
set_option maxHeartbeats 16000000 in
theorem menderKeeps_walk (n : Nat) (a : Option Addr) (len cap : Nat) (ts : List Ka) (w : World) (hn : n < 65536) (hts : Kas w a ts) (hlen : len = ts.length) (_hl63 : len ≤ 9223372036854775807) :
    Calls Try.prog 6 #[.int .u16 (n : Nat), .slice a len cap] w fun e w' => e = .returned (.bool true) ∧ Below w.heap.size w w' := by
  obtain ⟨Q, hQ⟩ : ∃ Q : Ending → World → Prop, Q = fun e w' => e = .returned (.bool true) ∧ Below w.heap.size w w' := ⟨_, rfl⟩
  rw [← hQ]
  have FIN : Hid (∀ z, Frm [] w z → Q (.returned (.bool true)) z) := Lib.hid fun z hz => by rw [hQ]; exact ⟨rfl, hz.below (by simp) (Nat.le_refl _)⟩
  have HQN := Lib.hid (fun z => quorum_any n z hn)
  have HTS := Lib.hid hts
  have HLEN := Lib.hid hlen
  have hmk : ∀ w : World, (Instr.makeMap 80 none).run Try.prog w = .ok (.map (some w.heap.size)) (w.alloc (.map #[] 0)) := by intro w; kernel_rfl
  clear hQ hts hlen
  go_enter Try.func6, Try.ntmps6
  go_wp2_with fail
  (with_reducible refine (awake12_any _).mono ?_)
  rintro e w1 ⟨rfl, hf1⟩
  have HF1 := Lib.hid hf1
  clear hf1
  go_wp2_with fail
  (with_reducible refine (HQN.out _).mono ?_)
  rintro e w2 ⟨P, W, A, r1, r2, r3, r4, rfl, hf2⟩
  unfold quV
  have HF2 := Lib.hid (HF1.out.trans hf2 (U := []) (by simp) (by simp))
  have hok : okQ (P : Int) (W : Int) (A : Int) = true := by rw [okQ_iff]; omega
  clear hf2 HQN
  obtain ⟨w3, hw3⟩ : ∃ w3, w3 = w2.alloc (.cells #[.int .i64 P, .int .i64 W, .int .i64 A] 23) := ⟨_, rfl⟩
  have HNW := Lib.hid (wrnew_ok P W A w3 hok)
  have HNA := Lib.hid (fun z F hF => mdnew_ok P W A z hok F hF)
  unfold quV at HNA HNW
  go_wp2_with fail
  rw [← hw3]
  obtain ⟨g, hg⟩ : ∃ g, g = w2.heap.size := ⟨_, rfl⟩
  have HQ3 : Hid (Whole w3 g 23 (quC P W A)) := Lib.hid (by rw [hw3, hg]; exact Whole.made _ _ _)
  have hf3 : Frm [] w2 w3 := by rw [hw3]; exact (Frm.refl _ _).alloc _
  have HF3 := Lib.hid (HF2.out.trans hf3 (U := []) (by simp) (by simp))
  rw [← hg]
  clear hw3 hf3 hg
  (with_reducible refine HNW.out.mono ?_)
  rintro e w4 ⟨px, rfl, hf4, hpx, hmx⟩
  have HMX := Lib.hid (Wq.made (F := []) hf4 hpx hmx ⟨r1, r2, r3, r4⟩ (by simp))
  have HF4 := Lib.hid hf4
  have HPX : Hid (w3.heap.size ≤ px ∧ px < w4.heap.size) := Lib.hid ⟨hpx, hmx.lt⟩
  have hQ4 := hf4.whole HQ3.out (by simp)
  have x0 : w4.cell? ⟨g, 0, none⟩ = some (.int .i64 (P : Nat)) := hQ4.cell 0
  have x1 : w4.cell? ⟨g, 1, none⟩ = some (.int .i64 (W : Nat)) := hQ4.cell 1
  have x2 : w4.cell? ⟨g, 2, none⟩ = some (.int .i64 (A : Nat)) := hQ4.cell 2
  clear hf4 hpx hmx hQ4 HNW
  go_wp2_with fail
  (with_reducible refine (HNA.out _ [px] (fun x hx => by have := HPX.out; simp at hx; omega)).mono ?_)
  rintro e w5 ⟨pm, rfl, hf5, hpm, hmm⟩
  have HF5 := Lib.hid (HF4.out.trans hf5 (U := []) (by simp) (by simp))
  have HMX5 := Lib.hid (HMX.out.keep hf5 (F' := [pm]) (by simp) (fun x hx => .inr (by simp at hx; omega)))
  have HMM := Lib.hid hmm
  have HPM : Hid (w4.heap.size ≤ pm ∧ pm < w5.heap.size) := Lib.hid ⟨hpm, hmm.lt⟩
  have hQ5 := HF5.out.whole HQ3.out (by simp)
  have x0 : w5.cell? ⟨g, 0, none⟩ = some (.int .i64 (P : Nat)) := hQ5.cell 0
  have hmkm := mk_maps P (by omega)
  obtain ⟨hb, hhb⟩ : ∃ hb, hb = w5.heap.size := ⟨_, rfl⟩
  obtain ⟨w6, hw6⟩ : ∃ w6, w6 = w5.alloc (.cells (Array.replicate P (.map none)) 80) := ⟨_, rfl⟩
  have hf6 : Frm [] w5 w6 := by rw [hw6]; exact (Frm.refl _ _).alloc _
  have HT0 : Hid (TmRel w5 hb P (.int .i64 0) w6) := Lib.hid ⟨0, fun _ => 0, rfl, Nat.zero_le _, Lib.hid ⟨⟨Array.replicate P (.map none), by rw [hw6, hhb]; exact Whole.made _ _ _, by simp, fun j hj => by omega⟩, fun j hj => by omega, fun j k hj => by omega, fun j hj => by omega, hf6⟩⟩
  have HB5 : Hid (w5.heap.size ≤ hb) := Lib.hid (by omega)
  have HW6 := Lib.hid hw6
  have HH6 := Lib.hid hhb
  clear hf5 hpm hmm hQ5 hf6 hw6 hhb HMX HNA x1 x2
  go_wp2_with fail
  rw [← HW6.out, ← HH6.out]
  clear hmkm x0
  go_loopw [52] (fun s52 z => TmRel w5 hb P s52 z) (fun s52 _ => P - (intOf s52).toNat)
  case atStart => exact HT0.out
  case round =>
    clear HT0
    obtain ⟨i, mb, rfl, hi, HTM⟩ := hrel
    by_cases hlt : i < P
    · obtain ⟨C, hC, hCn, hCc⟩ := HTM.out.pl
      obtain ⟨v, hv⟩ : ∃ v, C[i]? = some v := ⟨C[i]'(by omega), Array.getElem?_eq_getElem (by omega)⟩
      have x4 : wr.cell? ⟨hb, i, none⟩ = some v := (hC.cell i).trans hv
      have z4 := hC.free i
      have hblt := hC.lt
      have hbne : hb ≠ wr.heap.size := by omega
      have d1 : decide ((i : Int) < (P : Int)) = true := decide_eq_true (by omega)
      have d2 : decide (i < P) = true := decide_eq_true hlt
      have hip : (i : Int) < (P : Int) := by omega
      have hwm : IntKind.i64.wrap ((i : Int) + 1) = ((i + 1 : Nat) : Int) := by rw [IntWalk.i64_in _ (by omega)]; rfl
      have HREL : Hid (TmRel w5 hb P (.int .i64 ((i + 1 : Nat) : Nat)) ((wr.setCell ⟨hb, i, none⟩ (.map (some wr.heap.size))).alloc (.map #[] 0))) := Lib.hid ⟨i + 1, _, rfl, hlt, Lib.hid (HTM.out.more hlt HB5.out)⟩
      obtain ⟨m, hm⟩ : ∃ m, m = i + 1 := ⟨_, rfl⟩
      rw [← hm] at hwm HREL
      have HMM2 : Hid (P - m < P - i) := Lib.hid (by omega)
      have xa : (wr.alloc (.map #[] 0)).cell? ⟨hb, i, none⟩ = some v := (((Frm.refl [] wr).alloc _).cell hblt (by simp)).trans x4
      have za : (wr.alloc (.map #[] 0)).frozen? ⟨hb, i, none⟩ = false := (((Frm.refl [] wr).alloc (.map #[] 0)).whole hC (by simp)).free i
      clear hC hCn hCc hv hm
      go_wp2
      go_roundw
      case rel => exact HREL.out
      case measure => have := HMM2.out; simpa [intOf] using this
    · obtain rfl : i = P := by omega
      obtain ⟨fb, hfb⟩ : ∃ fb, fb = wr.heap.size := ⟨_, rfl⟩
      obtain ⟨w7, hw7⟩ : ∃ w7, w7 = wr.alloc (.cells (rowB (List.replicate i false)) 4) := ⟨_, rfl⟩
      have hf7 : Frm [] wr w7 := by rw [hw7]; exact (Frm.refl _ _).alloc _
      have hf57 := HTM.out.frm.trans hf7 (U := []) (by simp) (by simp)
      have hmbs : ∀ x, x ∈ (List.range i).map mb → hb < x ∧ x < wr.heap.size := fun x hx => by
        obtain ⟨k, hk, rfl⟩ := List.mem_map.1 hx
        exact ⟨HTM.out.lo k (List.mem_range.1 hk), (HTM.out.mp k (List.mem_range.1 hk)).lt⟩
      have hfb7 : Whole w7 fb 4 (browK i (fun _ => false)) := by
        have h1 : rowB (List.replicate i false) = browK i (fun _ => false) := by
          unfold browK
          congr 1
          apply List.ext_getElem?
          intro q
          by_cases hq : q < i
          · simp [hq]
          · simp [hq]
        rw [hw7, hfb, ← h1]; exact Whole.made _ _ _
      have hbl := HTM.out.done.lt
      have hKZ : Kz w3 w7 w3.heap.size px pm hb fb mb none 0 0 none 0 (fun _ => 0) i W A [] (fun _ _ => false) 0 (fun _ _ => none) (fun _ => false) (fun _ => false) .nil [] 0 := by
        have o1 := HPX.out
        have o2 := HPM.out
        have o3 := HB5.out
        have o4 := HF4.out.size
        have o5 := HF5.out.size
        have o6 := HTM.out.frm.size
        refine ⟨HMX5.out.keep hf57 (by simp) (fun x hx => ?_), HMM.out.keep hf57 (by simp) (fun x hx => ?_), hf7.whole HTM.out.done (by simp), fun k hk => ?_, HTM.out.ne, hfb7, WayAt.nil _ _ _, World.ownsRow_nil _ _ _ _, fun e he => by simp at he, ⟨⟨by omega, by omega, by omega, fun h => by have := hmbs _ h; omega, by simp, by simp⟩, ⟨by omega, by omega, fun h => by have := hmbs _ h; omega, by simp, by simp⟩, ⟨by omega, fun h => by have := hmbs _ h; omega, by simp, by simp⟩, ⟨fun h => by have := hmbs _ h; omega, by simp, by simp⟩, fun g hg => ⟨by simp, by simp⟩, by simp⟩, ⟨by simp, by simp [keysT], by simp⟩, by simp, ⟨by have := hf7.size; omega, fun y hy => ?_⟩, HF5.out.trans hf57 (by simp) (by simp)⟩
        · simp only [List.mem_cons, mem_zz, blk_none, List.not_mem_nil, or_false] at hx
          rcases hx with rfl | rfl | rfl | h
          · exact .inl (by simp)
          · exact .inr o3
          · exact .inr (by omega)
          · exact .inr (by have := hmbs x h; omega)
        · simp only [List.mem_cons, mem_zz, blk_none, List.not_mem_nil, or_false] at hx
          rcases hx with rfl | rfl | rfl | h
          · exact .inl (by simp)
          · exact .inr o3
          · exact .inr (by omega)
          · exact .inr (by have := hmbs x h; omega)
        · exact (HTM.out.mp k hk).keep hf7 (by simp)
        · simp only [List.mem_cons, mem_zz, blk_none, List.not_mem_nil, or_false] at hy
          rcases hy with rfl | rfl | rfl | rfl | h
          · omega
          · omega
          · omega
          · omega
          · have := hmbs y h; omega
      have HR0 : Hid (Kr w3 w3.heap.size px pm hb fb mb i W A len (.int .i64 0) (.slice none 0 0) (.slice none 0 0) (.int .i64 0) w7) := Lib.hid ⟨0, none, 0, 0, none, 0, 0, _, _, _, 0, _, _, _, _, rfl, rfl, rfl, rfl, Nat.zero_le _, by omega, Lib.hid rfl, Lib.hid hKZ, Lib.hid (Mk.start i W A)⟩
      obtain ⟨B, hB⟩ : ∃ B, B = w3.heap.size := ⟨_, rfl⟩
      rw [← hB] at HR0
      have hmkb := mk_bools i (by omega)
      have x0 : wr.cell? ⟨g, 0, none⟩ = some (.int .i64 (i : Nat)) := ((HF5.out.trans HTM.out.frm (U := []) (by simp) (by simp)).whole HQ3.out (by simp)).cell 0
      have HW7 := Lib.hid hw7
      have HB7 := Lib.hid hfb
      have HBE := Lib.hid hB
      have d1 : decide ((i : Int) < (i : Int)) = false := by simp
      have d2 : decide (i < i) = false := by simp
      clear hKZ hw7 hfb hf7 hf57 hmbs hfb7 hbl hB HTM HMX5 HMM HPX HPM HB5 HF4 HF5 HW6 HH6
      go_upto_block 2 with fail
      rw [← HW7.out, ← HB7.out]
      clear hmkb x0 HW7 HB7 d1 d2
      go_cut [13, 14, 15] from 16 to 224 (fun v13 v14 v15 wx => Kq w3 B px pm hb fb mb i W A v13 v14 v15 wx)
      case first =>
        go_wp2_with fail
        go_loopw [65, 13, 14, 15] (fun s65 s13 s14 s15 z => Kr w3 B px pm hb fb mb i W A len s65 s13 s14 s15 z) (fun s65 _ _ _ _ => len - (intOf s65).toNat)
        case atStart => exact HR0.out
        case round =>
          clear HR0
          obtain ⟨j, wa, wn, wk, ra, rn, rc, db, D, H, su, L, fe, t, Y, rfl, rfl, rfl, rfl, hj, hj201, HRN, HKZ, HMK⟩ := hrel
          have HJ := Lib.hid (show j ≤ 201 by omega)
          by_cases hlt : j < len
          · have hjL : j < ts.length := by rw [← HLEN.out]; exact hlt
            obtain ⟨b, off, ha, hat⟩ := (HTS.out.keep (HF3.out.trans HKZ.out.frm (U := []) (by simp) (by simp))) (by omega)
            subst ha
            obtain ⟨c0, c1, c2, c3, okx⟩ := hat j hjL
            obtain ⟨x, hx⟩ : ∃ x, x = ts.getD j default := ⟨_, rfl⟩
            rw [← hx] at c0 c1 c2 c3 okx
            obtain ⟨kd, pk, xw, lost⟩ := x
            have hkd : kd < 256 := okx.k_lt
            have hpk : pk < 256 := okx.p_lt
            have hxw : xw < 256 := okx.x_lt
            simp only at c0 c1 c2 c3
            have g1 : decide ((j : Int) < (len : Int)) = true := decide_eq_true (by omega)
            have g2 : decide (j < len) = true := decide_eq_true hlt
            have hji : (j : Int) < (len : Int) := by omega
            obtain ⟨ga, hga⟩ : ∃ ga, ga = wr.heap.size := ⟨_, rfl⟩
            obtain ⟨w8, hw8⟩ : ∃ w8, w8 = wr.alloc (.cells #[.int .u8 (kd : Nat), .int .u8 (pk : Nat), .int .u8 (xw : Nat), .bool lost] 83) := ⟨_, rfl⟩
            have hf8 : Frm [] wr w8 := by rw [hw8]; exact (Frm.refl _ _).alloc _
            have hWa : Whole w8 ga 83 #[.int .u8 (kd : Nat), .int .u8 (pk : Nat), .int .u8 (xw : Nat), .bool lost] := by rw [hw8, hga]; exact Whole.made _ _ _
            have HWA := Lib.hid hWa
            have HK8 := Lib.hid (HKZ.out.here hf8)
            have HRDY := Lib.hid (ready_any HK8.out.md)
            have HW8 := Lib.hid hw8
            have HGA := Lib.hid hga
            clear hat hx okx hjL hf8 hWa hw8 hga
            by_cases hb0 : 200 < j
            · have d1 : decide ((200 : Int) < (j : Int)) = true := decide_eq_true (by omega)
              have d2 : decide (200 < j) = true := decide_eq_true hb0
              go_wp2_with fail
              rw [← HW8.out]
              go_meet
              case rel => exact ⟨j, wa, wn, wk, ra, rn, rc, db, D, H, su, L, fe, t, Y, rfl, rfl, rfl, HJ.out, HRN, HK8, HMK⟩
            have d1 : decide ((200 : Int) < (j : Int)) = false := decide_eq_false (by omega)
            have d2 : decide (200 < j) = false := decide_eq_false hb0
            obtain ⟨rd, hrd⟩ : ∃ rd, rd = covN i W A (hrdL fe) := ⟨_, rfl⟩
            rw [← hrd] at HRDY
            go_wp2_with fail
            rw [← HW8.out, ← HGA.out]
            (with_reducible refine HRDY.out.mono ?_)
            rintro e w9 ⟨rfl, hf9⟩
            have HK9 := Lib.hid (HK8.out.here hf9)
            have HWA9 := Lib.hid (hf9.whole HWA.out (by simp))
            clear hf9 HRDY HW8 HGA HWA HK8 HKZ hrd c0 c1 c2 c3 g1 g2 hji d1 d2
            cases rd with
            | true =>
              go_wp2_with fail
              go_meet
              case rel => exact ⟨j, wa, wn, wk, ra, rn, rc, db, D, H, su, L, fe, t, Y, rfl, rfl, rfl, HJ.out, HRN, HK9, HMK⟩
            | false =>
              obtain ⟨r, hr⟩ : ∃ r, r = kd % 6 := ⟨_, rfl⟩
              have m1 : (kd : Int) % 6 = (r : Int) := by rw [hr]; rfl
              have hr6 : r < 6 := by rw [hr]; exact Nat.mod_lt _ (by decide)
              obtain ⟨p, hp⟩ : ∃ p, p = pk % i := ⟨_, rfl⟩
              have hpi : p < i := by rw [hp]; exact Nat.mod_lt _ (by omega)
              have hm1 : ((pk : Nat) : Int).tmod (i : Int) = (p : Int) := by rw [hp]; exact modI pk i
              have hm2 : ((pk : Nat) : Int) % (i : Int) = (p : Int) := by rw [hp]; exact (Int.natCast_emod pk i).symm
              have hwp : IntKind.i64.wrap (pk : Int) = (pk : Int) := IntWalk.i64_in _ (by omega)
              have hwp2 : IntKind.i64.wrap (p : Int) = (p : Int) := IntWalk.i64_in _ (by omega)
              have hi0 : (i : Int) ≠ 0 := by omega
              have x0 : w9.cell? ⟨g, 0, none⟩ = some (.int .i64 (i : Nat)) := (HK9.out.frm.whole HQ3.out (by simp)).cell 0
              have x1 : w9.cell? ⟨g, 1, none⟩ = some (.int .i64 (W : Nat)) := (HK9.out.frm.whole HQ3.out (by simp)).cell 1
              have x2 : w9.cell? ⟨g, 2, none⟩ = some (.int .i64 (A : Nat)) := (HK9.out.frm.whole HQ3.out (by simp)).cell 2
              have y0 : w9.cell? ⟨ga, 0, none⟩ = some (.int .u8 (kd : Nat)) := HWA9.out.cell 0
              have y1 : w9.cell? ⟨ga, 1, none⟩ = some (.int .u8 (pk : Nat)) := HWA9.out.cell 1
              have y2 : w9.cell? ⟨ga, 2, none⟩ = some (.int .u8 (xw : Nat)) := HWA9.out.cell 2
              have y3 : w9.cell? ⟨ga, 3, none⟩ = some (.bool lost) := HWA9.out.cell 3
              have hwj : IntKind.i64.wrap ((j : Int) + 1) = ((j + 1 : Nat) : Int) := by rw [IntWalk.i64_in _ (by omega)]; rfl
              obtain ⟨m, hm⟩ : ∃ m, m = j + 1 := ⟨_, rfl⟩
              have HM := Lib.hid hm
              rw [← hm] at hwj
              have HMM2 : Hid (m ≤ len ∧ m ≤ 201 ∧ len - m < len - j) := Lib.hid (by omega)
              have HPI := Lib.hid hpi
              clear hp hr hm hkd hpk
              by_cases hA : r < 2
              · have n2 : decide ((kd : Int) % 6 < 2) = true := decide_eq_true (by omega)
                as_aux_lemma =>
                  clear m1 hA hr6 y3
                  obtain ⟨gl, hgl⟩ : ∃ gl, gl = w9.heap.size := ⟨_, rfl⟩
                  obtain ⟨wl, hwl⟩ : ∃ wl, wl = w9.alloc (.cells #[.int .u8 (j : Nat), .int .u8 (xw : Nat)] 5) := ⟨_, rfl⟩
                  have hfl : Frm [] w9 wl := by rw [hwl]; exact (Frm.refl _ _).alloc _
                  obtain ⟨d, hd⟩ : ∃ d : List Nat, d = [j, xw] := ⟨_, rfl⟩
                  have hGl : Whole wl gl 5 (d.map u8v).toArray := by rw [hwl, hgl, hd]; exact Whole.made _ _ _
                  have hd2 : d.length = 2 := by rw [hd]; rfl
                  have hd8 : ∀ c ∈ d, c < 256 := by rw [hd]; intro c hc; simp at hc; omega
                  have hby : Bytes wl (some ⟨gl, 0, none⟩) d := by
                    refine ⟨hd8, by rw [hd2]; decide, .inr ⟨_, 0, rfl, fun q hq => ?_⟩⟩
                    rw [Nat.zero_add, hGl.cell q]
                    simp [hq, u8v, List.getD]
                  have HKL := Lib.hid (HK9.out.here hfl)
                  obtain ⟨E, hE⟩ : ∃ E, E = wrAddE D su false 2 := ⟨_, rfl⟩
                  obtain ⟨N, hN⟩ : ∃ N, N = adN D E := ⟨_, rfl⟩
                  have HAD := Lib.hid (wradd_u (some ⟨gl, 0, none⟩) 2 2 d HKL.out.wr (fun x hx => HKL.out.lt x (List.mem_cons_of_mem _ hx)) hby hd2.symm (fun h => by cases h))
                  rw [← hE, ← hN] at HAD
                  have HGL := Lib.hid hGl
                  have HGN : Hid (w9.heap.size ≤ gl) := Lib.hid (by omega)
                  have HD2 := Lib.hid hd2
                  have HD8 := Lib.hid hd8
                  have HFL := Lib.hid hfl
                  have HN := Lib.hid hN
                  have HWL := Lib.hid hwl
                  have HGE := Lib.hid hgl
                  have hwj8 : IntKind.u8.wrap (j : Int) = (j : Int) := by simp [IntKind.wrap, IntKind.bits, IntKind.signed]; omega
                  have HD201 : Hid (D.length ≤ 201) := Lib.hid (by have := HKL.out.few; omega)
                  clear hgl hwl hfl hd hGl hd2 hd8 hby hE hN
                  go_wp2_with fail
                  rw [← HWL.out, ← HGE.out]
                  (with_reducible refine HAD.out.mono ?_)
                  rintro e w11 ⟨rfl, hf11, hq11⟩
                  have hfg : Frm [px] w9 w11 := HFL.out.trans hf11 (by simp) (fun x hx => .inl hx)
                  have hgpx : g ∉ [px] := by have h1 := HKL.out.low.2 px (by simp); have h2 := HQ3.out.lt; simp; omega
                  have u0 : w11.cell? ⟨g, 0, none⟩ = some (.int .i64 (i : Nat)) := (hfg.cell (block_lt_of_cell x0) hgpx).trans x0
                  have u1 : w11.cell? ⟨g, 1, none⟩ = some (.int .i64 (W : Nat)) := (hfg.cell (block_lt_of_cell x1) hgpx).trans x1
                  have u2 : w11.cell? ⟨g, 2, none⟩ = some (.int .i64 (A : Nat)) := (hfg.cell (block_lt_of_cell x2) hgpx).trans x2
                  have HNB : Hid (N ≤ 201) := Lib.hid (by rw [HN.out]; unfold adN; have := HD201.out; split <;> omega)
                  have HSET := Lib.hid (fun z => rset_new i W A N z r1 r2 r4 r3 (by have := HNB.out; omega))
                  unfold quV at HSET
                  clear x0 x1 x2 y2 y0 y1 hm1 hm2 hwp hwp2 HAD hwj8 hfg
                  by_cases hE0 : E = 0
                  · have b0 : ((E : Int) == 0) = true := by rw [hE0]; rfl
                    have hND : N = D.length := by rw [HN.out]; unfold adN; rw [if_pos hE0]
                    have hq12 : Wq w11 B px (pm :: zz hb fb ((List.range i).map mb) (blk wa) (blk ra)) i W A (D ++ [d]) (hasNew H D.length) su false := by
                      unfold adD adH at hq11
                      rw [if_pos hE0, if_pos hE0] at hq11
                      exact hq11
                    obtain ⟨v0, hvf, vz0, vz1, vz2⟩ := info_parts infoBytesK
                    have HVF := Lib.hid hvf
                    obtain ⟨wb, hwb⟩ : ∃ wb, wb = w11.alloc (.cells #[.slice (some ⟨gl, 0, none⟩) 2 2] 38) := ⟨_, rfl⟩
                    have hfb : Frm [] w11 wb := by rw [hwb]; exact (Frm.refl _ _).alloc _
                    have hpr : px ∉ blk ra := HKL.out.ap.p1.2.2.2.2.2
                    have hrow : wb.ownsRow B 38 1 (.slice ra rn rc) rn (dvR db rn) := by
                      have h1 := hf11.own HKL.out.row (fun y hy hm => hpr (by simp at hm; subst hm; exact ownBlk.1 hy))
                      rw [HRN.out]
                      exact hfb.own h1 (by simp)
                    have HROW := Lib.hid hrow
                    have HVB : Hid (ValsAt wb (some ⟨w11.heap.size, 0, none⟩) [dvV gl]) := Lib.hid (by rw [hwb]; exact ValsAt.one _ _ _)
                    have HSB : Hid (B ≤ wb.heap.size) := Lib.hid (by have h1 := HKL.out.low.1; have h2 := hf11.size; have h3 := hfb.size; omega)
                    have hpg : gl ∉ [px] := by have h1 := HK9.out.lt px (by simp); have h2 := HGN.out; simp; omega
                    have hg11 := hf11.whole HGL.out hpg
                    have HMORE : Hid (∀ ra' rc' w4, AppV wb w4 B 38 (.slice ra rn rc) rn 1 (dvR db rn) [dvV gl] ra' rc' → Kz w3 w4 B px pm hb fb mb wa wn wk ra' rc' (fun e => if e = D.length then gl else db e) i W A (D ++ [d]) (hasNew H D.length) su L fe fe t Y (j + 1)) := Lib.hid fun ra' rc' w4 ha => by
                      rw [HRN.out] at ha
                      refine HK9.out.more (HFL.out.trans hf11 (by simp) (fun x hx => .inl hx)) hg11 HGN.out HD2.out HD8.out hq12 hfb ha (fun k => ?_)
                      cases hL : L k D.length with
                      | none => rfl
                      | some y => have := (HMK.out.has k _ _ hL).1; omega
                    have HMK2 := Lib.hid (HMK.out.add d)
                    have HWB := Lib.hid hwb
                    have hrn1 : rn + 1 ≤ 1000000000 := by have := HRN.out; have := HD201.out; omega
                    have HNDD := Lib.hid hND
                    have HFB : Hid (Frm [px] w9 wb) := Lib.hid ((HFL.out.trans hf11 (U := [px]) (by simp) (fun x hx => .inl hx)).trans hfb (fun x hx => hx) (by simp))
                    clear hq11 hq12 hvf hwb hfb hpr hrow hpg hg11 hf11 hND hE0
                    go_wp2_with (at_builtin; rw [← HWB.out]; refine wpList_appV rfl (.tmp 100) (.tmp 102) 34 rfl B 38 v0 (.slice none 0 0) 24 Try.underlying34 HVF.out vz0 rfl vz1 vz2 (by decide) (.slice ra rn rc) rn (dvR db rn) rfl HROW.out (some ⟨w11.heap.size, 0, none⟩) 1 1 [dvV gl] rfl HVB.out rfl (by simp [Value.oneCell', dvV]) (fun h => by cases h) hrn1 HSB.out ?_)
                    intro ra' rc' w12 happ
                    have HK12 := Lib.hid (HMORE.out ra' rc' w12 happ)
                    have hfbw : Frm (px :: blk ra) w9 w12 := HFB.out.trans ((Frm.refl (blk ra) wb).grown happ.grown (fun y hy => .inl (ownBlk.1 hy))) (fun x hx => by simp at hx; simp [hx]) (fun x hx => .inl (List.mem_cons_of_mem _ hx))
                    have hq12 := (HK12.out.frm.whole HQ3.out (by simp))
                    have v0' : w12.cell? ⟨g, 0, none⟩ = some (.int .i64 (i : Nat)) := hq12.cell 0
                    have v1' : w12.cell? ⟨g, 1, none⟩ = some (.int .i64 (W : Nat)) := hq12.cell 1
                    have v2' : w12.cell? ⟨g, 2, none⟩ = some (.int .i64 (A : Nat)) := hq12.cell 2
                    clear happ HMORE HROW HVB hfbw hq12 u0 u1 u2
                    go_wp2_with fail
                    (with_reducible refine (HSET.out _).mono ?_)
                    rintro ex w13 ⟨aS, cS, rfl, his, hnw, hf13⟩
                    have HIS := Lib.hid his
                    obtain ⟨qs, hqs⟩ : ∃ qs, qs = setN i W N := ⟨_, rfl⟩
                    have hqW : qs.length = W := by rw [hqs]; exact setN_len' i W N
                    have HQP : Hid (∀ q ∈ qs, q < i) := Lib.hid fun q hqm => by
                      rw [hqs] at hqm
                      unfold setN at hqm
                      obtain ⟨k, hk, rfl⟩ := List.mem_map.1 hqm
                      exact plN_lt (by omega) _ _
                    rw [← hqs] at HIS
                    have HQW := Lib.hid hqW
                    have HK13 := Lib.hid (HK12.out.here hf13)
                    have hwl : wn = Y.length := HK13.out.way.len
                    have HL0 : Hid (KaRel w3 w13 aS qs B px pm hb fb mb ra' rc' (fun e => if e = D.length then gl else db e) i W A (D ++ [d]) (hasNew H D.length) su L fe t j (.int .i64 0) (.slice wa wn wk) w13) := Lib.hid ⟨0, wa, wn, wk, Y, rfl, rfl, Nat.zero_le _, Lib.hid (by have := HK9.out.few; omega), HK13, Lib.hid (Nat.le_refl _), HIS, Lib.hid (fun x hx hm => by have h1 := hnw x hx; have h2 := (HK12.out.way.lt _ hm).2; omega)⟩
                    clear his hnw hqs hqW hwl HSET v0' v1' v2' HK12 hf13
                    go_wp2
                    go_loopw [108, 13] (fun s108 s13 z => KaRel w3 w13 aS qs B px pm hb fb mb ra' rc' (fun e => if e = D.length then gl else db e) i W A (D ++ [d]) (hasNew H D.length) su L fe t j s108 s13 z) (fun s108 _ _ => W - (intOf s108).toNat)
                    case atStart => exact HL0.out
                    case round =>
                      clear HL0
                      obtain ⟨q, wa2, wn2, wk2, Y2, rfl, rfl, hqw, HYL, HKQ, HFQ, HIQ, HNQ⟩ := hrel
                      by_cases hq : q < W
                      · have hqL : q < qs.length := by rw [HQW.out]; exact hq
                        obtain ⟨bS, oS, rfl, hsc⟩ := HIQ.out q hqL
                        have hlS := block_lt_of_cell hsc
                        obtain ⟨kq, hkq⟩ : ∃ kq, kq = qs.getD q 0 := ⟨_, rfl⟩
                        rw [← hkq] at hsc
                        have HKQP : Hid (kq < i) := Lib.hid (HQP.out _ (by rw [hkq, List.getD_eq_getElem?_getD, List.getElem?_eq_getElem hqL]; exact List.getElem_mem _))
                        have q1 : decide ((q : Int) < (W : Int)) = true := decide_eq_true (by omega)
                        have q2 : decide (q < W) = true := decide_eq_true hq
                        have hwq : IntKind.i64.wrap ((q : Int) + 1) = ((q + 1 : Nat) : Int) := by rw [IntWalk.i64_in _ (by omega)]; rfl
                        obtain ⟨m2, hm2'⟩ : ∃ m2, m2 = q + 1 := ⟨_, rfl⟩
                        rw [← hm2'] at hwq
                        have HM2 := Lib.hid hm2'
                        have HQM : Hid (m2 ≤ W ∧ W - m2 < W - q) := Lib.hid (by omega)
                        obtain ⟨ws, hws⟩ : ∃ ws, ws = wr.alloc (.cells #[.int .i64 (kq : Nat), .int .u64 (N : Nat), .slice (some ⟨gl, 0, none⟩) 2 2] 85) := ⟨_, rfl⟩
                        have hfs : Frm [] wr ws := by rw [hws]; exact (Frm.refl _ _).alloc _
                        have hKS := HKQ.out.here hfs
                        have hVS : ValsAt ws (some ⟨wr.heap.size, 0, none⟩) (sc (fun e => if e = D.length then gl else db e) [(kq, N)]) := by
                          have h1 : sc (fun e => if e = D.length then gl else db e) [(kq, N)] = [.int .i64 (kq : Nat), .int .u64 (N : Nat), .slice (some ⟨gl, 0, none⟩) 2 2] := by
                            simp [sc, dvV, HNDD.out]
                          rw [h1, hws]
                          exact valsThree _ _ _ _ _ _
                        obtain ⟨wa3, wk3, w14, hrun, hway, hfw, hpw⟩ := way_more (ty := 81) (cc := 1) hKS.way hVS (fun h => by cases h) (by have h1 := hKS.way.len; have h2 := HYL.out; have h3 := HJ.out; omega) hKS.low.1
                        have HK14 := Lib.hid (hKS.ways hfw hway hpw (fun x hx => by
                          rcases List.mem_append.1 hx with hx | hx
                          · exact hKS.yok x hx
                          · rw [List.mem_singleton.1 hx]
                            exact ⟨HKQP.out, by rw [List.length_append, List.length_singleton, HNDD.out]; omega⟩) (Nat.le_refl (j + 1)) (by rw [List.length_append, List.length_singleton]; have h2 := HYL.out; omega))
                        have hf14 : Frm (blk wa2) wr w14 := hfs.trans hfw (by simp) (fun x hx => .inl hx)
                        have HI14 := Lib.hid (HIQ.out.away hf14 (fun _ x hx => HNQ.out x hx))
                        have HN14 : Hid (∀ x, some (⟨bS, oS, none⟩ : Addr) = some x → x.block ∉ blk wa3) := Lib.hid (fun x hx hm => by
                          rcases hpw _ hm with h | h
                          · exact HNQ.out x hx h
                          · have h1 := hfs.size
                            have h3 : bS < wr.heap.size := hlS
                            cases hx
                            have h4 : ws.heap.size ≤ bS := h
                            omega)
                        have HREL : Hid (KaRel w3 w13 (some ⟨bS, oS, none⟩) qs B px pm hb fb mb ra' rc' (fun e => if e = D.length then gl else db e) i W A (D ++ [d]) (hasNew H D.length) su L fe t j (.int .i64 (m2 : Nat)) (.slice wa3 (wn2 + 1) wk3) w14) := Lib.hid ⟨m2, wa3, wn2 + 1, wk3, Y2 ++ [(kq, N)], rfl, rfl, HQM.out.1, Lib.hid (by rw [List.length_append, List.length_singleton]; have h2 := HYL.out; have h3 := HM2.out; omega), HK14, Lib.hid (Nat.le_trans HFQ.out hf14.size), HI14, HN14⟩
                        have HRUN := Lib.hid hrun
                        have HWS := Lib.hid hws
                        clear hqL hkq hm2' hlS hws hfs hKS hVS hrun hway hfw hpw HK14 hf14 HI14 HN14
                        go_wp2_with (at_builtin; rw [← HWS.out]; refine wpList_appRun rfl (.tmp 114) (.tmp 120) 81 rfl _ _ rfl rfl HRUN.out ?_)
                        go_roundw
                        case rel => exact HREL.out
                        case measure => have := HQM.out; simpa [intOf] using this.2
                      · obtain rfl : q = W := by omega
                        have HRK : Hid (Kr w3 B px pm hb fb mb i q A len (.int .i64 (m : Nat)) (.slice wa2 wn2 wk2) (.slice ra' (rn + 1) rc') (.int .i64 (su : Nat)) wr) := Lib.hid ⟨m, wa2, wn2, wk2, ra', rn + 1, rc', _, D ++ [d], _, su, L, fe, t, Y2, rfl, rfl, rfl, rfl, HMM2.out.1, HMM2.out.2.1, Lib.hid (by rw [List.length_append, List.length_singleton, HRN.out]), Lib.hid (HKQ.out.up (by have := HM.out; omega)), HMK2⟩
                        have q1 : decide ((q : Int) < (q : Int)) = false := by simp
                        have q2 : decide (q < q) = false := by simp
                        go_wp2
                        go_roundw
                        case rel => exact HRK.out
                        case measure => have := HMM2.out; simpa [intOf] using this.2.2
                  · have b0 : ((E : Int) == 0) = false := by rw [beq_eq_false_iff_ne]; omega
                    have hK11 : Kz w3 w11 B px pm hb fb mb wa wn wk ra rc db i W A D H su L fe fe t Y j := by
                      unfold adD adH at hq11
                      rw [if_neg hE0, if_neg hE0] at hq11
                      exact HKL.out.wrote hf11 hq11
                    have HK11 := Lib.hid hK11
                    clear hq11 hf11 hK11 hE0
                    go_wp2_with fail
                    (with_reducible refine (HSET.out _).mono ?_)
                    rintro ex w13 ⟨aS, cS, rfl, his, hnw, hf13⟩
                    have HK13 := Lib.hid ((HK11.out.here hf13).up (show j ≤ m by have := HM.out; omega))
                    obtain ⟨qs, hqs⟩ : ∃ qs, qs = setN i W N := ⟨_, rfl⟩
                    have hqW : qs.length = W := by rw [hqs]; exact setN_len' i W N
                    rw [← hqs] at his
                    have HIS := Lib.hid his
                    have HQW := Lib.hid hqW
                    have HRK : Hid (Kr w3 B px pm hb fb mb i W A len (.int .i64 (m : Nat)) (.slice wa wn wk) (.slice ra rn rc) (.int .i64 (su : Nat)) w13) := Lib.hid ⟨m, wa, wn, wk, ra, rn, rc, db, D, H, su, L, fe, t, Y, rfl, rfl, rfl, rfl, HMM2.out.1, HMM2.out.2.1, HRN, HK13, HMK⟩
                    have HL0 : Hid (KnRel w13 W (.slice wa wn wk) (.int .i64 0) (.slice wa wn wk) w13) := Lib.hid ⟨0, rfl, rfl, Nat.zero_le _, Lib.hid rfl⟩
                    clear his hnw hqs hqW HSET u0 u1 u2 hf13 HK11
                    go_wp2
                    go_loopw [108, 13] (fun s108 s13 z => KnRel w13 W (.slice wa wn wk) s108 s13 z) (fun s108 _ _ => W - (intOf s108).toNat)
                    case atStart => exact HL0.out
                    case round =>
                      clear HL0
                      obtain ⟨q, rfl, rfl, hqw, HZ⟩ := hrel
                      obtain rfl := HZ.out
                      by_cases hq : q < W
                      · have hqL : q < qs.length := by rw [HQW.out]; exact hq
                        obtain ⟨bS, oS, rfl, hsc⟩ := HIS.out q hqL
                        obtain ⟨kq, hkq⟩ : ∃ kq, kq = qs.getD q 0 := ⟨_, rfl⟩
                        rw [← hkq] at hsc
                        have q1 : decide ((q : Int) < (W : Int)) = true := decide_eq_true (by omega)
                        have q2 : decide (q < W) = true := decide_eq_true hq
                        have hwq : IntKind.i64.wrap ((q : Int) + 1) = ((q + 1 : Nat) : Int) := by rw [IntWalk.i64_in _ (by omega)]; rfl
                        obtain ⟨m2, hm2'⟩ : ∃ m2, m2 = q + 1 := ⟨_, rfl⟩
                        rw [← hm2'] at hwq
                        have HQM : Hid (m2 ≤ W ∧ W - m2 < W - q) := Lib.hid (by omega)
                        clear hqL hkq hm2'
                        go_wp2
                        go_roundw
                        case rel => exact ⟨m2, rfl, rfl, HQM.out.1, Lib.hid rfl⟩
                        case measure => have := HQM.out; simpa [intOf] using this.2
                      · obtain rfl : q = W := by omega
                        have q1 : decide ((q : Int) < (q : Int)) = false := by simp
                        have q2 : decide (q < q) = false := by simp
                        go_wp2
                        go_roundw
                        case rel => exact HRK.out
                        case measure => have := HMM2.out; simpa [intOf] using this.2.2
              have n2 : decide ((kd : Int) % 6 < 2) = false := decide_eq_false (by omega)
              by_cases hB : r < 5 ∧ 0 < wn
              · have n5 : decide ((kd : Int) % 6 < 5) = true := decide_eq_true (by omega)
                have n6 : decide ((0 : Int) < (wn : Int)) = true := decide_eq_true (by omega)
                have n7 : decide (0 < wn) = true := decide_eq_true hB.2
                as_aux_lemma =>
                  obtain ⟨kk, hkk⟩ : ∃ kk, kk = xw % wn := ⟨_, rfl⟩
                  have hkn : kk < wn := by rw [hkk]; exact Nat.mod_lt _ hB.2
                  have hkY : kk < Y.length := by rw [← HK9.out.way.len]; exact hkn
                  have hk1 : ((xw : Nat) : Int).tmod (wn : Int) = (kk : Int) := by rw [hkk]; exact modI xw wn
                  have hk2 : ((xw : Nat) : Int) % (wn : Int) = (kk : Int) := by rw [hkk]; exact (Int.natCast_emod xw wn).symm
                  have hwx8 : IntKind.i64.wrap (xw : Int) = (xw : Int) := IntWalk.i64_in _ (by omega)
                  have hwn0 : (wn : Int) ≠ 0 := by omega
                  have hwn7 : wn ≤ 2000 := by have h1 := HK9.out.few; have h2 := HK9.out.way.len; omega
                  have hwkk : IntKind.i64.wrap (kk : Int) = (kk : Int) := IntWalk.i64_in _ (by omega)
                  have hkni : (kk : Int) < (wn : Int) := by omega
                  obtain ⟨bw, ow, hwa, c0, c1, c2⟩ := HK9.out.way.at hkY
                  have hyk := HK9.out.yok (Y.getD kk (0, 0)) (by simp [hkY])
                  obtain ⟨x, hx⟩ : ∃ x, x = Y.getD kk (0, 0) := ⟨_, rfl⟩
                  rw [← hx] at c0 c1 c2 hyk
                  obtain ⟨pl, e⟩ := x
                  simp only at c0 c1 c2 hyk
                  unfold dvV at c2
                  obtain ⟨hpl, he⟩ := hyk
                  obtain ⟨gx, hgx⟩ : ∃ gx, gx = w9.heap.size := ⟨_, rfl⟩
                  obtain ⟨wx, hwx⟩ : ∃ wx, wx = w9.alloc (.cells #[.int .i64 (pl : Nat), .int .u64 (e : Nat), .slice (some ⟨db e, 0, none⟩) 2 2] 85) := ⟨_, rfl⟩
                  have hfx : Frm [] w9 wx := by rw [hwx]; exact (Frm.refl _ _).alloc _
                  have hWx : Whole wx gx 85 #[.int .i64 (pl : Nat), .int .u64 (e : Nat), .slice (some ⟨db e, 0, none⟩) 2 2] := by rw [hwx, hgx]; exact Whole.made _ _ _
                  have hKD := (HK9.out.here hfx).here (Frm.drew (Frm.refl [] wx))
                  obtain ⟨wa', c', w15, hrun, hway, hfl, hpw⟩ := way_less (ty := 81) hKD.way hkn (by omega) hKD.low.1
                  have hfl2 : Frm [] wx w15 := (Frm.drew (Frm.refl [] wx)).trans hfl (by simp) (by simp)
                  have hf915 : Frm [] w9 w15 := hfx.trans hfl2 (by simp) (by simp)
                  have HK15 := Lib.hid (hKD.ways (hfl.weak (by simp)) hway hpw (fun x hx => hKD.yok x (List.mem_of_mem_eraseIdx hx)) (Nat.le_refl j) (by have h1 := hKD.few.2.2; have h2 := List.length_eraseIdx_le Y kk; omega))
                  have HW15 := Lib.hid (hfl2.whole hWx (by simp))
                  have HGA15 := Lib.hid (hf915.whole HWA9.out (by simp))
                  obtain ⟨k1, hk1'⟩ : ∃ k1, k1 = kk + 1 := ⟨_, rfl⟩
                  have hwk1 : IntKind.i64.wrap ((kk : Int) + 1) = (k1 : Int) := by rw [IntWalk.i64_in _ (by omega)]; omega
                  have hle := hKD.way.le
                  have hHD : ∀ z : World, (Instr.slice 81 (.slice wa wn wk) none (some (.int .i64 (kk : Nat))) (some (.int .i64 (kk : Nat)))).run Try.prog z = .ok (.slice wa kk kk) z := fun z => run_head3 z wa wn wk kk (by omega)
                  have hCT : ∀ z : World, (Instr.slice 81 (.slice wa wn wk) (some (.int .i64 (k1 : Nat))) none none).run Try.prog z = .ok (.slice (cut3 wa wk k1) (wn - k1) (wk - k1)) z := fun z => run_cut3 z wa wn wk k1 (by omega)
                  rw [← hk1'] at hrun
                  obtain ⟨wn', hwn'⟩ : ∃ wn', wn' = wn - 1 := ⟨_, rfl⟩
                  rw [← hwn'] at hrun HK15
                  have HRUN := Lib.hid hrun
                  have HFL2 := Lib.hid hfl2
                  have HWX := Lib.hid hwx
                  have HGX := Lib.hid hgx
                  have HPL := Lib.hid (show pl < i ∧ e < D.length from ⟨hpl, he⟩)
                  have HFPL : Hid (w15.cell? ⟨fb, pl, none⟩ = some (.bool (fe pl))) := Lib.hid ((HK15.out.fn.cell pl).trans (browK_at hpl))
                  have HGXM : Hid (gx ≠ mb pl) := Lib.hid (by
                    have h1 := HK9.out.lt (mb pl) (by simp only [List.mem_cons, mem_zz]; exact .inr (.inr (.inr (.inr (.inl (List.mem_map.2 ⟨pl, List.mem_range.2 hpl, rfl⟩))))))
                    omega)
                  have HSU : Hid (su ≤ D.length ∧ D.length ≤ 201) := Lib.hid ⟨HMK.out.su_le, by have := HK9.out.few; omega⟩
                  have HWAE : Hid (wa = some ⟨bw, ow, none⟩) := Lib.hid hwa
                  subst hwa
                  clear hkk hkY hx hpl he hgx hwx hfx hWx hKD hrun hway hfl hpw hfl2 hf915 hk1' hle hwn' hkn m1 hA hB hr6 x1 x2 y3
                  go_upto_region 35 with fail
                  rw [← HWX.out, ← HGX.out]
                  clear x0 y0 y1 y2 hm1 hm2 hwp hwp2 n2 n5 n6 n7 c0 c1 c2 hk1 hk2 hwx8 hwkk
                  refine wp_region_held_drew (S := fun w' => Frm [] wx w') (by kernel_rfl) (Frm.drew (Frm.refl _ _)) (fun hHeld => ?_)
                  refine wpAnyH_take (i := 0) (oi := ⟨some 143, _, _, _, _, _⟩) (v := ?_) rfl (by kernel_rfl) (by kernel_rfl) (by kernel_rfl) (fun _ _ _ h => h) (Or.inl ⟨by rfl, ?_⟩) (by assumption) ?_
                  rotate_left 1
                  · (intro w hSw; (try dsimp only at hSw); go_simp; all_goals with_reducible rfl)
                  try simp only [Act.put, List.setIfInBounds_toArray, List.set_cons_zero, List.set_cons_succ]
                  refine wpAnyH_take (i := 1) (oi := ⟨some 144, _, _, _, _, _⟩) (v := ?_) rfl (by kernel_rfl) (by kernel_rfl) (by kernel_rfl) (fun _ _ _ h => h) (Or.inl ⟨by rfl, ?_⟩) (by assumption) ?_
                  rotate_left 1
                  · (intro w hSw; (try dsimp only at hSw); go_simp; all_goals with_reducible rfl)
                  try simp only [Act.put, List.setIfInBounds_toArray, List.set_cons_zero, List.set_cons_succ]
                  refine wpAnyH_take (i := 2) (oi := ⟨some 145, _, _, _, _, _⟩) (v := ?_) rfl (by kernel_rfl) (by kernel_rfl) (by kernel_rfl) (fun _ _ _ h => h) (Or.inl ⟨by rfl, ?_⟩) (by assumption) ?_
                  rotate_left 1
                  · (intro w hSw; (try dsimp only at hSw); go_simp; all_goals with_reducible rfl)
                  try simp only [Act.put, List.setIfInBounds_toArray, List.set_cons_zero, List.set_cons_succ]
                  refine wpAnyH_take (i := 3) (oi := ⟨some 146, _, _, _, _, _⟩) (v := ?_) rfl (by kernel_rfl) (by kernel_rfl) (by kernel_rfl) (fun _ _ _ h => h) (Or.inl ⟨by rfl, ?_⟩) (by assumption) ?_
                  rotate_left 1
                  · (intro w hSw; (try dsimp only at hSw); go_simp; all_goals with_reducible rfl)
                  try simp only [Act.put, List.setIfInBounds_toArray, List.set_cons_zero, List.set_cons_succ]
                  refine wpAnyH_take (i := 4) (oi := ⟨some 147, _, _, _, _, _⟩) (v := ?_) rfl (by kernel_rfl) (by kernel_rfl) (by kernel_rfl) (fun _ _ _ h => h) (Or.inl ⟨by rfl, ?_⟩) (by assumption) ?_
                  rotate_left 1
                  · (intro w hSw; (try dsimp only at hSw); go_simp; all_goals with_reducible rfl)
                  try simp only [Act.put, List.setIfInBounds_toArray, List.set_cons_zero, List.set_cons_succ]
                  refine wpAnyH_take (i := 5) (oi := ⟨some 148, _, _, _, _, _⟩) (v := ?_) rfl (by kernel_rfl) (by kernel_rfl) (by kernel_rfl) (fun _ _ _ h => h) (Or.inl ⟨by rfl, ?_⟩) (by assumption) ?_
                  rotate_left 1
                  · (intro w hSw; (try dsimp only at hSw); go_simp; all_goals with_reducible rfl)
                  try simp only [Act.put, List.setIfInBounds_toArray, List.set_cons_zero, List.set_cons_succ]
                  refine wpAnyH_take (i := 6) (oi := ⟨some 149, _, _, _, _, _⟩) (v := ?_) rfl (by kernel_rfl) (by kernel_rfl) (by kernel_rfl) (fun _ _ _ h => h) (Or.inl ⟨by rfl, ?_⟩) (by assumption) ?_
                  rotate_left 1
                  · (intro w hSw; (try dsimp only at hSw); go_simp; all_goals with_reducible rfl)
                  try simp only [Act.put, List.setIfInBounds_toArray, List.set_cons_zero, List.set_cons_succ]
                  refine wpAnyH_take (i := 7) (oi := ⟨some 150, _, _, _, _, _⟩) (v := ?_) rfl (by kernel_rfl) (by kernel_rfl) (by kernel_rfl) (fun _ _ _ h => h) (Or.inl ⟨by rfl, ?_⟩) (by assumption) ?_
                  rotate_left 1
                  · (intro w hSw; (try dsimp only at hSw); go_simp; all_goals with_reducible rfl)
                  try simp only [Act.put, List.setIfInBounds_toArray, List.set_cons_zero, List.set_cons_succ]
                  refine wpAnyH_ready (rs := [8]) (by kernel_rfl) (by simp) ?_
                  refine AllReadyH.cons (o := ⟨some 151, _, _, _, _, _⟩) rfl (fun K hK => ?_) AllReadyH.nil
                  refine step_appRun (by rfl) (.tmp 146) (.tmp 150) 81 rfl _ _ rfl rfl HRUN.out ?_; have hfl2 := HFL2.out
                  refine hK.out _ _ (by repeat (first | assumption | apply Frm.alloc | apply Frm.drew | exact Frm.refl _ _)) (fun hHeld => ?_)
                  clear hK K
                  try simp only [Act.put, List.setIfInBounds_toArray, List.set_cons_zero, List.set_cons_succ]
                  refine wpAnyH_take (i := 9) (oi := ⟨some 13, _, _, _, _, _⟩) (v := ?_) rfl (by kernel_rfl) (by kernel_rfl) (by kernel_rfl) (fun _ _ _ h => h) (Or.inl ⟨by rfl, ?_⟩) (by assumption) ?_
                  rotate_left 1
                  · (intro w hSw; (try dsimp only at hSw); go_simp; all_goals with_reducible rfl)
                  try simp only [Act.put, List.setIfInBounds_toArray, List.set_cons_zero, List.set_cons_succ]
                  refine wpAnyH_done (by kernel_rfl) ?_ _
                  clear hHD hCT hwk1 hkni hwn0 hwn7 HRUN HFL2 hHeld hfl2
                  have k0 : w15.cell? ⟨gx, 0, none⟩ = some (.int .i64 (pl : Nat)) := HW15.out.cell 0
                  have y3 : w15.cell? ⟨ga, 3, none⟩ = some (.bool lost) := HGA15.out.cell 3
                  have hpli : (pl : Int) < (i : Int) := by have := HPL.out; omega
                  obtain ⟨bf, hbf⟩ : ∃ bf, bf = fe pl := ⟨_, rfl⟩
                  have hf0 := HFPL.out
                  rw [← hbf] at hf0
                  have HBF := Lib.hid hbf
                  have HREL : Hid (Kr w3 B px pm hb fb mb i W A len (.int .i64 (m : Nat)) (.slice wa' wn' c') (.slice ra rn rc) (.int .i64 (su : Nat)) w15) := Lib.hid ⟨m, wa', wn', c', ra, rn, rc, db, D, H, su, L, fe, t, Y.eraseIdx kk, rfl, rfl, rfl, rfl, HMM2.out.1, HMM2.out.2.1, HRN, Lib.hid (HK15.out.up (by have := HM.out; omega)), HMK⟩
                  clear hbf
                  cases bf with
                  | true =>
                    go_wp2
                    go_roundw
                    case rel => exact HREL.out
                    case measure => have := HMM2.out; simpa [intOf] using this.2.2
                  | false =>
                    cases lost with
                    | true =>
                      go_wp2
                      go_roundw
                      case rel => exact HREL.out
                      case measure => have := HMM2.out; simpa [intOf] using this.2.2
                    | false =>
                      clear HREL
                      go_upto_region 37 with fail
                      clear y3 hf0 k0
                      have K0 : ∀ z, Frm [] w15 z → z.cell? ⟨gx, 0, none⟩ = some (.int .i64 (pl : Nat)) := fun z hz => (hz.whole HW15.out (by simp)).cell 0
                      have K1 : ∀ z, Frm [] w15 z → z.cell? ⟨gx, 1, none⟩ = some (.int .u64 (e : Nat)) := fun z hz => (hz.whole HW15.out (by simp)).cell 1
                      have K2 : ∀ z, Frm [] w15 z → z.cell? ⟨gx, 2, none⟩ = some (.slice (some ⟨db e, 0, none⟩) 2 2) := fun z hz => (hz.whole HW15.out (by simp)).cell 2
                      have K3 : ∀ z, Frm [] w15 z → z.cell? ⟨hb, pl, none⟩ = some (.map (some (mb pl))) := fun z hz => ((hz.whole HK15.out.pl (by simp)).cell pl).trans (mvC_at HPL.out.1)
                      have HKD := Lib.hid (HK15.out.here (Frm.drew (Frm.refl [] w15)))
                      have HMV := Lib.hid (HKD.out.mp pl HPL.out.1)
                      have HE64 : Hid (e < M64) := Lib.hid (by have h1 := HPL.out.2; have h2 := HSU.out.2; unfold M64; omega)
                      refine wp_region_tail (S := fun w' => Frm [] w15 w') (tl := (fun j => j == 11)) (by kernel_rfl) (Frm.drew (Frm.refl _ _)) (fun hHeld => ?_)
                      refine tail_take (i := 0) (oi := ⟨some 163, _, _, _, _, _⟩) (v := ?_) rfl (by kernel_rfl) (by kernel_rfl) (by kernel_rfl) (by kernel_rfl) (by kernel_rfl) (fun _ _ _ h => h) (Or.inl ⟨by rfl, ?_⟩) (by assumption) ?_
                      rotate_left 1
                      · (intro w hSw; (try dsimp only at hSw); go_simp; all_goals with_reducible rfl)
                      try simp only [Act.put, List.setIfInBounds_toArray, List.set_cons_zero, List.set_cons_succ]
                      refine tail_take (i := 1) (oi := ⟨some 164, _, _, _, _, _⟩) (v := ?_) rfl (by kernel_rfl) (by kernel_rfl) (by kernel_rfl) (by kernel_rfl) (by kernel_rfl) (fun _ _ _ h => h) (Or.inl ⟨by rfl, ?_⟩) (by assumption) ?_
                      rotate_left 1
                      · (intro w hSw; (try dsimp only at hSw); go_simp; all_goals with_reducible rfl)
                      try simp only [Act.put, List.setIfInBounds_toArray, List.set_cons_zero, List.set_cons_succ]
                      refine tail_take (i := 2) (oi := ⟨some 165, _, _, _, _, _⟩) (v := ?_) rfl (by kernel_rfl) (by kernel_rfl) (by kernel_rfl) (by kernel_rfl) (by kernel_rfl) (fun _ _ _ h => h) (Or.inl ⟨by rfl, ?_⟩) (by assumption) ?_
                      rotate_left 1
                      · (intro w hSw; (try dsimp only at hSw); go_simp; all_goals with_reducible rfl)
                      try simp only [Act.put, List.setIfInBounds_toArray, List.set_cons_zero, List.set_cons_succ]
                      refine tail_take (i := 3) (oi := ⟨some 166, _, _, _, _, _⟩) (v := ?_) rfl (by kernel_rfl) (by kernel_rfl) (by kernel_rfl) (by kernel_rfl) (by kernel_rfl) (fun _ _ _ h => h) (Or.inl ⟨by rfl, ?_⟩) (by assumption) ?_
                      rotate_left 1
                      · (intro w hSw; (try dsimp only at hSw); go_simp; all_goals with_reducible rfl)
                      try simp only [Act.put, List.setIfInBounds_toArray, List.set_cons_zero, List.set_cons_succ]
                      refine tail_take (i := 4) (oi := ⟨some 167, _, _, _, _, _⟩) (v := ?_) rfl (by kernel_rfl) (by kernel_rfl) (by kernel_rfl) (by kernel_rfl) (by kernel_rfl) (fun _ _ _ h => h) (Or.inl ⟨by rfl, ?_⟩) (by assumption) ?_
                      rotate_left 1
                      · (intro w hSw; (try dsimp only at hSw); go_simp; all_goals with_reducible rfl)
                      try simp only [Act.put, List.setIfInBounds_toArray, List.set_cons_zero, List.set_cons_succ]
                      refine tail_take (i := 5) (oi := ⟨some 168, _, _, _, _, _⟩) (v := ?_) rfl (by kernel_rfl) (by kernel_rfl) (by kernel_rfl) (by kernel_rfl) (by kernel_rfl) (fun _ _ _ h => h) (Or.inl ⟨by rfl, ?_⟩) (by assumption) ?_
                      rotate_left 1
                      · (intro w hSw; (try dsimp only at hSw); go_simp; all_goals with_reducible rfl)
                      try simp only [Act.put, List.setIfInBounds_toArray, List.set_cons_zero, List.set_cons_succ]
                      refine tail_take (i := 6) (oi := ⟨some 169, _, _, _, _, _⟩) (v := ?_) rfl (by kernel_rfl) (by kernel_rfl) (by kernel_rfl) (by kernel_rfl) (by kernel_rfl) (fun _ _ _ h => h) (Or.inl ⟨by rfl, ?_⟩) (by assumption) ?_
                      rotate_left 1
                      · (intro w hSw; (try dsimp only at hSw); go_simp; all_goals with_reducible rfl)
                      try simp only [Act.put, List.setIfInBounds_toArray, List.set_cons_zero, List.set_cons_succ]
                      refine tail_take (i := 7) (oi := ⟨some 170, _, _, _, _, _⟩) (v := ?_) rfl (by kernel_rfl) (by kernel_rfl) (by kernel_rfl) (by kernel_rfl) (by kernel_rfl) (fun _ _ _ h => h) (Or.inl ⟨by rfl, ?_⟩) (by assumption) ?_
                      rotate_left 1
                      · (intro w hSw; (try dsimp only at hSw); go_simp; all_goals with_reducible rfl)
                      try simp only [Act.put, List.setIfInBounds_toArray, List.set_cons_zero, List.set_cons_succ]
                      refine tail_take (i := 8) (oi := ⟨some 171, _, _, _, _, _⟩) (v := ?_) rfl (by kernel_rfl) (by kernel_rfl) (by kernel_rfl) (by kernel_rfl) (by kernel_rfl) (fun _ _ _ h => h) (Or.inl ⟨by rfl, ?_⟩) (by assumption) ?_
                      rotate_left 1
                      · (intro w hSw; (try dsimp only at hSw); go_simp; all_goals with_reducible rfl)
                      try simp only [Act.put, List.setIfInBounds_toArray, List.set_cons_zero, List.set_cons_succ]
                      refine tail_take (i := 9) (oi := ⟨some 172, _, _, _, _, _⟩) (v := ?_) rfl (by kernel_rfl) (by kernel_rfl) (by kernel_rfl) (by kernel_rfl) (by kernel_rfl) (fun _ _ _ h => h) (Or.inl ⟨by rfl, ?_⟩) (by assumption) ?_
                      rotate_left 1
                      · (intro w hSw; (try dsimp only at hSw); go_simp; all_goals with_reducible rfl)
                      try simp only [Act.put, List.setIfInBounds_toArray, List.set_cons_zero, List.set_cons_succ]
                      refine tail_take (i := 10) (oi := ⟨some 173, _, _, _, _, _⟩) (v := ?_) rfl (by kernel_rfl) (by kernel_rfl) (by kernel_rfl) (by kernel_rfl) (by kernel_rfl) (fun _ _ _ h => h) (Or.inl ⟨by rfl, ?_⟩) (by assumption) ?_
                      rotate_left 1
                      · (intro w hSw; (try dsimp only at hSw); go_simp; all_goals with_reducible rfl)
                      try simp only [Act.put, List.setIfInBounds_toArray, List.set_cons_zero, List.set_cons_succ]
                      refine tail_one (i := 11) (o := ⟨none, _, _, _, _, _⟩) (by kernel_rfl) rfl (fun K hK => ?_)
                      refine step_putK (by rfl) (.tmp 167) (.tmp 170) (.tmp 173) 80 38 rfl Try.underlying80 (mb pl) j (fvM L db pl) rfl HMV.out (by unfold maxLen; have := HJ.out; omega) e HE64.out rfl (dvV (db e)) rfl ?_
                      intro w17 hmv hf17
                      have HK17 := Lib.hid (HKD.out.put (d := D.getD e []) HPL.out.1 hf17 hmv)
                      have HMK17 := Lib.hid (HMK.out.put HPL.out.2 HBF.out.symm)
                      have HW17 := Lib.hid (hf17.whole ((Frm.drew (Frm.refl [] w15)).whole HW15.out (by simp)) (by simp; exact HGXM.out))
                      refine hK.out _ _ (fun h => absurd h (by decide)) (fun _ => ?_)
                      clear hK K hmv hf17 K0 K1 K2 K3 HMV HKD hHeld
                      try simp only [Act.put]
                      refine tail_done (by kernel_rfl) ?_ _
                      have k0 : w17.cell? ⟨gx, 0, none⟩ = some (.int .i64 (pl : Nat)) := HW17.out.cell 0
                      have k1 : w17.cell? ⟨gx, 1, none⟩ = some (.int .u64 (e : Nat)) := HW17.out.cell 1
                      have HACK := Lib.hid (wrack_u (pl : Int) e HK17.out.wr (by have := HPL.out.2; have := HSU.out.2; omega))
                      go_wp2_with fail
                      (with_reducible refine HACK.out.mono ?_)
                      rintro ex w18 ⟨s', H3, a9, c9, X9, rfl, hto, hi9, _, hq9, hf9⟩
                      obtain ⟨hml, hss⟩ := HMK17.out.ack (by omega) r4 (by unfold putL; simp) hto
                      have hx9 : X9.length + su = s' := by
                        have h1 := its_length X9
                        rw [hi9, itemsN_len] at h1
                        omega
                      have hs9 : s' ≤ 201 := by have := hml.su_le; have := HSU.out.2; omega
                      have hkz9 := HK17.out.wrote hf9 hq9
                      obtain ⟨xn, hxn⟩ : ∃ xn, xn = X9.length := ⟨_, rfl⟩
                      rw [← hxn] at hx9 ⊢
                      have hws : IntKind.i64.wrap ((su : Int) + (xn : Int)) = (s' : Int) := by rw [IntWalk.i64_in _ (by omega)]; omega
                      have HREL : Hid (Kr w3 B px pm hb fb mb i W A len (.int .i64 (m : Nat)) (.slice wa' wn' c') (.slice ra rn rc) (.int .i64 (s' : Nat)) w18) := Lib.hid ⟨m, wa', wn', c', ra, rn, rc, db, D, H3, s', putL L pl e (D.getD e []), fe, t, Y.eraseIdx kk, rfl, rfl, rfl, rfl, HMM2.out.1, HMM2.out.2.1, HRN, Lib.hid (by rw [HM.out]; exact hkz9), Lib.hid hml⟩
                      clear hto hi9 hq9 hf9 hml hss hx9 hs9 hkz9 hxn k0 k1 HACK HK17 HMK17
                      go_wp2
                      go_roundw
                      case rel => exact HREL.out
                      case measure => have := HMM2.out; simpa [intOf] using this.2.2
              obtain ⟨fp, hfp⟩ : ∃ fp, fp = fe p := ⟨_, rfl⟩
              have hf0 : w9.cell? ⟨fb, p, none⟩ = some (.bool fp) := by rw [hfp]; exact (HK9.out.fn.cell p).trans (browK_at hpi)
              have hpii : (p : Int) < (i : Int) := by omega
              have HFP := Lib.hid hfp
              clear hfp
              by_cases hC : r = 5 ∧ fp = false
              · obtain ⟨hC5, rfl⟩ := hC
                have n5 : decide ((kd : Int) % 6 < 5) = false := decide_eq_false (by omega)
                have n8 : ((kd : Int) % 6 == 5) = true := by rw [m1, hC5]; rfl
                as_aux_lemma =>
                  have z0 := HK9.out.fn.free p
                  obtain ⟨w10, hw10⟩ : ∃ w10, w10 = w9.setCell ⟨fb, p, none⟩ (.bool true) := ⟨_, rfl⟩
                  have hK10 := HK9.out.fenced p
                  rw [← hw10] at hK10
                  have x4 : w10.cell? ⟨hb, p, none⟩ = some (.map (some (mb p))) := (hK10.pl.cell p).trans (mvC_at hpi)
                  have HK10 := Lib.hid hK10
                  have HMV := Lib.hid (hK10.mp p hpi)
                  have HW10 := Lib.hid hw10
                  have HD201 : Hid (D.length ≤ 201) := Lib.hid (by have := HK9.out.few; omega)
                  clear hK10 hw10 m1 hA hB hr6 x2 x1 y3 y2
                  go_upto_region 42 with fail
                  rw [← HW10.out]
                  clear z0 x0 y0 y1 hm1 hm2 hwp hwp2 n2 n5 n8 hf0
                  go_wp2_with (at_range; refine wpList_rangeV _ rfl (.tmp 202) 80 38 rfl Try.underlying80 (mb p) j (fvM L db p) rfl HMV.out ?_)
                  intro w11 cnt hrg hf11
                  obtain ⟨rr, hrr⟩ : ∃ rr, rr = w10.heap.size := ⟨_, rfl⟩
                  rw [← hrr] at hrg ⊢
                  have HRR : Hid (rr = w10.heap.size ∧ rr < w11.heap.size) := Lib.hid ⟨hrr, hrg.lt.2⟩
                  have HF0 : Hid (KfRel w10 w11 (mb p) rr p j L db D (.slice none 0 0) w11) := Lib.hid ⟨none, 0, 0, [], [], cnt, rfl, Lib.hid rfl, Lib.hid (IOwn.nil _ _ _ _), Lib.hid hrg, Lib.hid rfl, Lib.hid (by simp), Lib.hid hf11, Lib.hid (Nat.le_refl _)⟩
                  clear hrg hf11 hrr x4 HMV
                  go_wp2_with fail
                  go_loopw [26] (fun s26 z => KfRel w10 w11 (mb p) rr p j L db D s26 z) (fun _ z => z.rangeLeft (mb p) rr)
                  case atStart => exact HF0.out
                  case round =>
                    clear HF0
                    obtain ⟨a, xn, cap, X, S, cnt, rfl, HXN, HIO, HRG, HIT, HSD, HFZ, HSZ⟩ := hrel
                    have HLE : Hid (wr.rangeLeft (mb p) rr = cnt) := Lib.hid HRG.out.left_eq
                    have HXS : Hid (X.length = S.length ∧ S.length ≤ D.length) := Lib.hid ⟨by have := congrArg List.length HIT.out; simpa [its] using this, nodup_le _ _ HRG.out.once (fun x hx => (HSD.out x hx).2)⟩
                    go_wp2_with (at_next; refine wpList_nextV _ rfl (.tmp 203) rfl (mb p) rr j (fvM L db p) S cnt rfl HRG.out ?_ ?_)
                    · intro hdone
                      have HKZ := Lib.hid (HK10.out.here HFZ.out)
                      have hl : ∀ e d, (e, d) ∈ its X ↔ L p e = some d := by
                        intro e d
                        rw [HIT.out, List.mem_map]
                        constructor
                        · rintro ⟨e', he', h⟩
                          simp only [Prod.mk.injEq] at h
                          obtain ⟨rfl, rfl⟩ := h
                          exact (HSD.out e' he').1
                        · intro h
                          have he : e ∈ S := (hdone e).2 (by unfold fvM; rw [h]; simp)
                          refine ⟨e, he, ?_⟩
                          have h2 := (HSD.out e he).1
                          rw [h] at h2
                          injection h2 with h2
                          rw [← h2]
                      obtain ⟨f', hf'⟩ := HMK.out.joins hl
                      have hmf := HMK.out.fence hpi hl hf'
                      have hjm := join_map (t := t) (l := its X)
                      rw [hf'] at hjm
                      obtain ⟨t', hjt, rfl⟩ : ∃ t', joinT t (its X) = some t' ∧ atT t' = f' := by
                        cases hjt : joinT t (its X) with
                        | none => rw [hjt] at hjm; cases hjm
                        | some t' => rw [hjt] at hjm; simp only [Option.map_some, Option.some.injEq] at hjm; exact ⟨t', rfl, hjm⟩
                      have HMF := Lib.hid hmf
                      have HJT := Lib.hid hjt
                      have HH0 := (hear_any (p : Int) 0 a xn cap X HKZ.out.md (by decide) HIO.out.il HXN.out (fun x hx => by
                        have h1 : x.t ∈ its X := List.mem_map.2 ⟨x, hx, rfl⟩
                        rw [HIT.out, List.mem_map] at h1
                        obtain ⟨e, he, h1⟩ := h1
                        rw [← h1]
                        have h2 := (HKZ.out.dat e (HSD.out e he).2).2.1
                        simp only
                        omega) (by have h1 := HXN.out; have h2 := HXS.out; have h3 := HD201.out; omega) (fun x hx => HKZ.out.lt x (by rcases List.mem_cons.1 hx with h | h; simp [h]; exact List.mem_cons_of_mem _ (List.mem_cons_of_mem _ h))))
                      rw [show ((0 : Nat) : Int) = 0 from rfl] at HH0
                      have HH := Lib.hid HH0
                      clear HH0
                      have HPP : Hid (p < i ∧ 0 ≤ (p : Int) ∧ (p : Int) < (i : Int)) := Lib.hid ⟨hpi, by omega, by omega⟩
                      have HKEY : Hid ((keysT t').length ≤ m * 256) := Lib.hid (by
                        have h1 := keys_join hjt
                        rw [its_length] at h1
                        have h2 := HXS.out
                        have h3 := HD201.out
                        have h4 := HKZ.out.few.2.1
                        have h5 := HM.out
                        omega)
                      clear hdone hl hf' hmf hjm hjt
                      go_wp2_with fail
                      (with_reducible refine HH.out.mono ?_)
                      rintro ex z2 hend
                      have hres : ex = .returned (.int .i64 0) ∧ Frm [pm] wr z2 ∧ Md z2 pm (px :: zz hb fb ((List.range i).map mb) (blk wa) (blk ra)) i W A (hrd fe p) 0 t' := by
                        rcases hend with ⟨h, _⟩ | ⟨pn, h1, h2, h3, ⟨h4, _⟩ | ⟨t2, h4, h5, h6, h7⟩⟩
                        · have := HPP.out; omega
                        · rw [HJT.out] at h4; cases h4
                        · obtain rfl : p = pn := by omega
                          rw [HJT.out] at h4
                          injection h4 with h4
                          subst h4
                          exact ⟨h5, h6, by simpa using h7⟩
                      obtain ⟨rfl, hfz2, hmd2⟩ := hres
                      have HREL : Hid (Kr w3 B px pm hb fb mb i W A len (.int .i64 (m : Nat)) (.slice wa wn wk) (.slice ra rn rc) (.int .i64 (su : Nat)) z2) := Lib.hid ⟨m, wa, wn, wk, ra, rn, rc, db, D, H, su, L, hrd fe p, t', Y, rfl, rfl, rfl, rfl, HMM2.out.1, HMM2.out.2.1, HRN, Lib.hid (HKZ.out.heard hfz2 hmd2 (by have := HM.out; omega) HKEY.out), HMF⟩
                      clear hend hfz2 hmd2 HH HKZ
                      go_wp2
                      go_roundw
                      case rel => exact HREL.out
                      case measure => have := HMM2.out; simpa [intOf] using this.2.2
                    · intro x v z1 cnt' hx64 hxS hfx hrg1 hlt2 hfz1 hen
                      obtain ⟨i0, hinf, hz0, hz1, hz2⟩ := info_parts infoItW
                      have HINF := Lib.hid hinf
                      obtain ⟨d, hLd, hvd⟩ : ∃ d, L p x = some d ∧ v = .slice (some ⟨db x, 0, none⟩) 2 2 := by
                        unfold fvM at hfx
                        cases hL : L p x with
                        | none => rw [hL] at hfx; cases hfx
                        | some d => rw [hL] at hfx; simp only [Option.map_some, Option.some.injEq] at hfx; exact ⟨d, rfl, hfx.symm⟩
                      subst hvd
                      obtain ⟨hxD, rfl⟩ := HMK.out.has p x d hLd
                      obtain ⟨wA, hwA⟩ : ∃ wA, wA = z1.alloc (.cells #[.int .u64 (x : Nat), .slice (some ⟨db x, 0, none⟩) 2 2] 55) := ⟨_, rfl⟩
                      have hfA : Frm [] z1 wA := by rw [hwA]; exact (Frm.refl _ _).alloc _
                      have hzA : Frm [rr] wr wA := hfz1.trans hfA (fun y hy => hy) (by simp)
                      have hwzA : Frm [] w10 wA := HFZ.out.trans hzA (by simp) (fun y hy => .inr (by simp at hy; have := HRR.out; omega))
                      have hioA := HIO.out.keep (F' := [rr]) hzA (fun y hy => .inl hy) (fun y hy => .inl hy)
                      have HOWA : Hid (wA.ownsRow w11.heap.size 55 2 (.slice a xn cap) xn (ic X)) := Lib.hid (by have := hioA.own; rw [← HXN.out] at this; exact this)
                      have HBA : Hid (w11.heap.size ≤ wA.heap.size) := Lib.hid (Nat.le_trans HSZ.out hzA.size)
                      obtain ⟨q1, q2, q3, q4⟩ := (HK10.out.here hwzA).dat x hxD
                      have hdl := (HK10.out.dat x hxD).1.lt
                      have hby : Bytes wA (some ⟨db x, 0, none⟩) (D.getD x []) := by
                        refine ⟨q3, by rw [q2]; decide, .inr ⟨_, 0, rfl, fun j hj => ?_⟩⟩
                        rw [Nat.zero_add, q1.cell j]
                        generalize D.getD x [] = d at hj ⊢
                        simp [hj, u8v, List.getD]
                      have hic : ic [⟨(x, D.getD x []), some ⟨db x, 0, none⟩, 2⟩] = [Value.int .u64 (x : Nat), .slice (some ⟨db x, 0, none⟩) 2 2] := by
                        show [Value.int .u64 (x : Nat), .slice (some ⟨db x, 0, none⟩) (D.getD x []).length 2] = _
                        rw [q2]
                      have HVA : Hid (ValsAt wA (some ⟨z1.heap.size, 0, none⟩) (ic [⟨(x, D.getD x []), some ⟨db x, 0, none⟩, 2⟩])) := Lib.hid (by rw [hic, hwA]; exact two_vals _ _ _ _ _)
                      have hmpl := (HK10.out.mp p hpi).lt
                      have hf11s : w10.heap.size ≤ w11.heap.size := by have := HRR.out; omega
                      have hrgA := hrg1.keep hfA (by simp) (by simp)
                      have HQA : Hid (∀ (a' : Option Addr) (c' : Nat) (w4 : World), AppS wA w4 w11.heap.size 55 2 (.slice a xn cap) xn 1 (ic X) (ic [⟨(x, D.getD x []), some ⟨db x, 0, none⟩, 2⟩]) a' c' → KfRel w10 w11 (mb p) rr p j L db D (.slice a' (xn + 1) c') w4 ∧ w4.rangeLeft (mb p) rr < wr.rangeLeft (mb p) rr) := Lib.hid fun a' c' w4 happ => by
                        have hbl : ∀ y ∈ blk a, w11.heap.size ≤ y := fun y hy => (HIO.out.blk_lt y hy).1
                        have hok : IOk wA (blk a ++ [rr]) [⟨(x, D.getD x []), some ⟨db x, 0, none⟩, 2⟩] := by
                          intro y hy
                          rw [List.mem_singleton] at hy
                          subst hy
                          refine ⟨hby, fun _ q hq hm => ?_, (fun h => by cases h), hx64⟩
                          cases hq
                          rcases List.mem_append.1 hm with h2 | h2
                          · have h3 := hbl _ h2
                            have h4 : w11.heap.size ≤ db x := h3
                            omega
                          · simp at h2
                            have := HRR.out; omega
                        obtain ⟨g1, g2, g3, g4⟩ := hioA.app HXN.out hok rfl (fun y hy => by simp at hy; have := HRR.out; have := HBA.out; omega) happ
                        have hrg4 := hrgA.keep g2 (fun hm => by have := hbl _ hm; omega) (fun hm => by have := hbl _ hm; have := HRR.out; omega)
                        refine ⟨⟨a', xn + 1, c', X ++ [⟨(x, D.getD x []), some ⟨db x, 0, none⟩, 2⟩], S ++ [x], cnt', rfl, Lib.hid g4, Lib.hid g1, Lib.hid hrg4, Lib.hid ?_, Lib.hid ?_, Lib.hid (hwzA.trans g2 (by simp) (fun y hy => .inr (by have := hbl y hy; omega))), Lib.hid (by have := g2.size; have := HBA.out; omega)⟩, by rw [hrg4.left_eq, HLE.out]; exact hlt2⟩
                        · have h1 := HIT.out
                          unfold its at h1 ⊢
                          rw [List.map_append, h1, List.map_append]
                          rfl
                        · intro e he
                          rcases List.mem_append.1 he with he | he
                          · exact HSD.out e he
                          · rw [List.mem_singleton.1 he]
                            exact ⟨hLd, hxD⟩
                      have HWA2 := Lib.hid hwA
                      have hkfit : xn + 1 ≤ 1000000000 := by have h1 := HXN.out; have h2 := HXS.out; have h3 := HD201.out; omega
                      clear hx64 hxS hfx hrg1 hlt2 hfz1 hwA hfA hzA hwzA hioA q1 q2 q3 q4 hdl hby hic hmpl hf11s hrgA
                      go_wp2_with (at_builtin; rw [← HWA2.out]; refine wpList_appS rfl (.tmp 209) (.tmp 213) 49 rfl w11.heap.size 55 i0 (.agg #[.int .u64 0, .slice none 0 0]) 2 32 Try.underlying49 HINF.out hz0 rfl (by omega) hz1 hz2 (by omega) (.slice a xn cap) xn (ic X) rfl HOWA.out (some ⟨z1.heap.size, 0, none⟩) 1 1 (ic [⟨(x, D.getD x []), some ⟨db x, 0, none⟩, 2⟩]) rfl HVA.out rfl (ic_one _) (fun h => by cases h) hkfit HBA.out ?_; intro a' c' w4 happ; have HREL := Lib.hid (HQA.out a' c' w4 happ); clear happ)
                      go_roundw
                      case rel => exact HREL.out.1
                      case measure => exact HREL.out.2
              have HREL : Hid (Kr w3 B px pm hb fb mb i W A len (.int .i64 (m : Nat)) (.slice wa wn wk) (.slice ra rn rc) (.int .i64 (su : Nat)) w9) := Lib.hid ⟨m, wa, wn, wk, ra, rn, rc, db, D, H, su, L, fe, t, Y, rfl, rfl, rfl, rfl, HMM2.out.1, HMM2.out.2.1, HRN, Lib.hid (HK9.out.up (by have := HM.out; omega)), HMK⟩
              by_cases h5 : r < 5
              · have hwn0 : wn = 0 := by omega
                have n5 : decide ((kd : Int) % 6 < 5) = true := decide_eq_true (by omega)
                have n6 : decide ((0 : Int) < (wn : Int)) = false := decide_eq_false (by omega)
                have n7 : decide (0 < wn) = false := decide_eq_false (by omega)
                have n8 : ((kd : Int) % 6 == 5) = false := by rw [m1, beq_eq_false_iff_ne]; omega
                clear hwn0 m1 hA hB hC h5 hr6
                go_wp2
                go_roundw
                case rel => exact HREL.out
                case measure => have := HMM2.out; simpa [intOf] using this.2.2
              · have n5 : decide ((kd : Int) % 6 < 5) = false := decide_eq_false (by omega)
                have n8 : ((kd : Int) % 6 == 5) = true := by rw [m1, show r = 5 by omega]; rfl
                cases fp with
                | false => exact absurd ⟨by omega, rfl⟩ hC
                | true =>
                  clear m1 hA hB hC h5 hr6
                  go_wp2
                  go_roundw
                  case rel => exact HREL.out
                  case measure => have := HMM2.out; simpa [intOf] using this.2.2
          · have g1 : decide ((j : Int) < (len : Int)) = false := decide_eq_false (by omega)
            have g2 : decide (j < len) = false := decide_eq_false hlt
            go_wp2_with fail
            go_meet
            case rel => exact ⟨j, wa, wn, wk, ra, rn, rc, db, D, H, su, L, fe, t, Y, rfl, rfl, rfl, HJ.out, HRN, HKZ, HMK⟩
      case rest =>
        as_aux_lemma =>
          obtain ⟨i2, wa, wn, wk, ra, rn, rc, db, D, H, su, L, fe, t, Y, rfl, rfl, rfl, hi2, HRN, HKZ, HMK⟩ := hcut
          have HRDY := Lib.hid (ready_any HKZ.out.md)
          obtain ⟨rd, hrd⟩ : ∃ rd, rd = covN i W A (hrdL fe) := ⟨_, rfl⟩
          rw [← hrd] at HRDY
          have HRD := Lib.hid hrd
          clear hrd
          go_wp2_with fail
          (with_reducible refine HRDY.out.mono ?_)
          rintro e z1 ⟨rfl, hf1⟩
          have HKZ1 := Lib.hid (HKZ.out.here hf1)
          clear hf1 HRDY
          cases rd with
          | false =>
            have HE := Lib.hid (FIN.out z1 (HF3.out.trans HKZ1.out.frm (by simp) (by simp)))
            go_wp2
            exact HE.out
          | true =>
            have HT0 : Hid (Kt w3 B px pm hb fb mb wa wn wk ra rc db i W A D L fe t Y i2 (.int .i64 0) (.int .i64 (su : Nat)) z1) := Lib.hid ⟨0, su, H, rfl, rfl, Nat.zero_le _, HKZ1.out, HMK.out.late⟩
            have hwn7 : wn ≤ 2000 := by have h1 := HKZ.out.few; have h2 := HKZ.out.way.len; omega
            have hD1 : Hid (D.length ≤ 201) := Lib.hid (by have h1 := HKZ.out.few; omega)
            clear HKZ HMK
            go_wp2_with fail
            go_loopw [226, 15] (fun s226 s15 z => Kt w3 B px pm hb fb mb wa wn wk ra rc db i W A D L fe t Y i2 s226 s15 z) (fun s226 _ _ => wn - (intOf s226).toNat)
            case atStart => exact HT0.out
            case round =>
              clear HT0
              obtain ⟨j, s, H2, rfl, rfl, hj, HK2, HML⟩ := hrel
              by_cases hlt : j < wn
              · have hjY : j < Y.length := by rw [← HK2.out.way.len]; exact hlt
                obtain ⟨b, off, ha, c0, c1, c2⟩ := HK2.out.way.at hjY
                have hyk := HK2.out.yok (Y.getD j (0, 0)) (by simp [hjY])
                obtain ⟨x, hx⟩ : ∃ x, x = Y.getD j (0, 0) := ⟨_, rfl⟩
                rw [← hx] at c0 c1 c2 hyk
                obtain ⟨k, e⟩ := x
                simp only at c0 c1 c2 hyk
                unfold dvV at c2
                obtain ⟨hk, he⟩ := hyk
                have hf0 : wr.cell? ⟨fb, k, none⟩ = some (.bool (fe k)) := (HK2.out.fn.cell k).trans (browK_at hk)
                have hfl := block_lt_of_cell hf0
                have hfe : fb ≠ wr.heap.size := fun h => by simp only at hfl; omega
                obtain ⟨gx, hgx⟩ : ∃ gx, gx = wr.heap.size := ⟨_, rfl⟩
                obtain ⟨wx, hwx⟩ : ∃ wx, wx = wr.alloc (.cells #[.int .i64 (k : Nat), .int .u64 (e : Nat), .slice (some ⟨db e, 0, none⟩) 2 2] 85) := ⟨_, rfl⟩
                have hfx : Frm [] wr wx := by rw [hwx]; exact (Frm.refl _ _).alloc _
                have hWx : Whole wx gx 85 #[.int .i64 (k : Nat), .int .u64 (e : Nat), .slice (some ⟨db e, 0, none⟩) 2 2] := by rw [hwx, hgx]; exact Whole.made _ _ _
                have k0 : wx.cell? ⟨gx, 0, none⟩ = some (.int .i64 (k : Nat)) := hWx.cell 0
                have k1 : wx.cell? ⟨gx, 1, none⟩ = some (.int .u64 (e : Nat)) := hWx.cell 1
                have hf1 : wx.cell? ⟨fb, k, none⟩ = some (.bool (fe k)) := (hfx.cell hfl (by simp)).trans hf0
                have HKX := Lib.hid (HK2.out.here hfx)
                have d1 : decide ((j : Int) < (wn : Int)) = true := decide_eq_true (by omega)
                have d2 : decide (j < wn) = true := decide_eq_true hlt
                have hji : (j : Int) < (wn : Int) := by omega
                have hki : (k : Int) < (i : Int) := by omega
                have hwm : IntKind.i64.wrap ((j : Int) + 1) = ((j + 1 : Nat) : Int) := by rw [IntWalk.i64_in _ (by omega)]; rfl
                obtain ⟨m, hm⟩ : ∃ m, m = j + 1 := ⟨_, rfl⟩
                rw [← hm] at hwm
                have HMM2 : Hid (m ≤ wn ∧ wn - m < wn - j) := Lib.hid (by omega)
                obtain ⟨bf, hbf⟩ : ∃ bf, bf = fe k := ⟨_, rfl⟩
                rw [← hbf] at hf0 hf1
                have HBF := Lib.hid hbf
                have HE2 := Lib.hid he
                have HK0 := Lib.hid hk
                have HWX := Lib.hid hwx
                have HGX := Lib.hid hgx
                have HACK := Lib.hid (wrack_u (k : Int) e HKX.out.wr (by have := hD1.out; omega))
                clear hx hjY hbf he hk hfx hWx hm hwx hgx hf0 HK2 hfl hfe
                subst ha
                cases bf with
                | true =>
                  have HREL : Hid (Kt w3 B px pm hb fb mb (some ⟨b, off, none⟩) wn wk ra rc db i W A D L fe t Y i2 (.int .i64 (m : Nat)) (.int .i64 (s : Nat)) wx) := Lib.hid ⟨m, s, H2, rfl, rfl, HMM2.out.1, HKX.out, HML.out⟩
                  go_upto_region 54 with fail
                  rw [← HWX.out, ← HGX.out]
                  go_wp2
                  go_roundw
                  case rel => exact HREL.out
                  case measure => have := HMM2.out; simpa [intOf] using this.2
                | false =>
                  go_upto_region 54 with fail
                  rw [← HWX.out, ← HGX.out]
                  go_wp2_with fail
                  (with_reducible refine HACK.out.mono ?_)
                  rintro ex w9 ⟨s', H3, a9, c9, X9, rfl, hto, hi9, _, hq9, hf9⟩
                  obtain ⟨hml, hss⟩ := HML.out.ack (by omega) r4 HBF.out.symm hto
                  have hx9 : X9.length + s = s' := by
                    have h1 := its_length X9
                    rw [hi9, itemsN_len] at h1
                    omega
                  have hs9 : s' ≤ 201 := by have := hml.su_le; have := hD1.out; omega
                  have hkz9 := HKX.out.wrote hf9 hq9
                  obtain ⟨xn, hxn⟩ : ∃ xn, xn = X9.length := ⟨_, rfl⟩
                  rw [← hxn] at hx9 ⊢
                  have hws : IntKind.i64.wrap ((s : Int) + (xn : Int)) = (s' : Int) := by rw [IntWalk.i64_in _ (by omega)]; omega
                  have HREL : Hid (Kt w3 B px pm hb fb mb (some ⟨b, off, none⟩) wn wk ra rc db i W A D L fe t Y i2 (.int .i64 (m : Nat)) (.int .i64 (s' : Nat)) w9) := Lib.hid ⟨m, s', H3, rfl, rfl, HMM2.out.1, hkz9, hml⟩
                  clear hto hi9 hq9 hf9 hml hss hx9 hs9 hkz9 hxn k0 k1 hf1 HACK
                  go_wp2
                  go_roundw
                  case rel => exact HREL.out
                  case measure => have := HMM2.out; simpa [intOf] using this.2
              · have d1 : decide ((j : Int) < (wn : Int)) = false := decide_eq_false (by omega)
                have d2 : decide (j < wn) = false := decide_eq_false hlt
                have HRES := Lib.hid (result_u HK2.out.md (by have := HK2.out.few; omega) (fun x hx => HK2.out.lt x (by rcases List.mem_cons.1 hx with h | h; simp [h]; exact List.mem_cons_of_mem _ (List.mem_cons_of_mem _ h))))
                clear hlt hj
                go_wp2_with fail
                (with_reducible refine HRES.out.mono ?_)
                rintro e z3 ⟨code, a3, c3, X, rfl, hrv, hX16, hil, hcap, hf3⟩
                obtain ⟨hc0, hl1, hl2, hl3⟩ := HML.out.res (by omega) r4 r2 HRD.out.symm hrv
                subst hc0
                rw [its_length] at hl1 hl2 hl3
                have HKZ3 := Lib.hid (HK2.out.here hf3)
                obtain ⟨xn, hxn⟩ : ∃ xn, xn = X.length := ⟨_, rfl⟩
                rw [← hxn] at hl1 hl2 ⊢
                have g1 : decide ((s : Int) ≤ (xn : Int)) = true := decide_eq_true (by omega)
                have g2 : decide (s ≤ xn) = true := decide_eq_true hl1
                have hs201 : s ≤ 201 := by have := HML.out.su_le; have := hD1.out; omega
                have hwu : IntKind.u64.wrap (s : Int) = (s : Int) := by rw [IntWalk.u64_in _ (by omega)]
                have hbs : ((s : Int) == (s : Int)) = true := by simp
                have HSU := Lib.hid (wrsure_any HKZ3.out.wr)
                have HHD := Lib.hid (fun z (hz : Frm [] z3 z) => held_true a3 xn c3 X ra rn rc D z (pm :: px :: zz hb fb ((List.range i).map mb) (blk wa) (blk ra)) (hil.keep hz (by simp) (fun x hx => .inl hx)) hxn ((HKZ3.out.here hz).ll) HRN.out (by rw [HRN.out]; exact hl2) (by have := hD1.out; have := HRN.out; omega) (fun q hq => by
                  have h1 := hl3 q (by rw [← hxn] at hq ⊢; exact hq)
                  unfold its at h1
                  rw [List.getElem?_map, List.getElem?_eq_getElem hq] at h1
                  simp only [Option.map_some, Option.some.injEq] at h1
                  rw [List.getD_eq_getElem?_getD, List.getElem?_eq_getElem hq]
                  exact h1))
                have HFZ := Lib.hid (HF3.out.trans HKZ3.out.frm (U := []) (by simp) (by simp))
                clear hrv hX16 hil hcap hf3 hl1 hl2 hl3 hxn HRES hs201
                go_wp2_with fail
                (with_reducible refine HSU.out.mono ?_)
                rintro e z4 ⟨rfl, hz4⟩
                rw [← hz4]
                clear hz4 z4
                go_wp2_with fail
                (with_reducible refine (HHD.out _ (Frm.refl _ _)).mono ?_)
                rintro e z5 ⟨rfl, hf5⟩
                have HE := Lib.hid (FIN.out z5 (HFZ.out.trans hf5 (by simp) (by simp)))
                clear hf5
                go_wp2
                exact HE.out
end Go.Proofs.Ytecfoomjpjcldaa
