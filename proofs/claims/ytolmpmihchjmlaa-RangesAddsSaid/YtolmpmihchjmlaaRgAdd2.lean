/- Contract of Add, of a range that has a number. -/
import Derived.Test.YtolmpmihchjmlaaRgAdd
import Derived.Deep.RegionHeld3
namespace Go.Proofs.Ytolmpmihchjmlaa
open Go.RowKit

/-- A range that stands in a block of its own. -/
theorem Whole.made2 {w : World} (o : Obj) (t : TypeId) (cs : Array Value) {g : Nat} (hg : g = w.heap.size + 1) : Whole ((w.alloc o).alloc (.cells cs t)) g t cs := by
  subst hg
  have := Whole.made (w.alloc o) t cs
  simpa using this

theorem Frm.drew1 (w : World) : Frm [] w w.drew := (Frm.refl _ _).drew
/-- Concat of three slices that were just laid side by side. -/
theorem cat_lit {W : World} {sA sK sB : Sl} (hA : SlIn W sA) (hK : SlIn W sK) (hB : SlIn W sB) (hfit : sA.l.length + sK.l.length + sB.l.length ≤ 100000) :
    Calls Try.prog 57 #[.slice (some ⟨W.heap.size, 0, none⟩) 3 3] (W.alloc (.cells #[.slice sA.a sA.l.length sA.cap, .slice sK.a sK.l.length sK.cap, .slice sB.a sB.l.length sB.cap] 44)).drew (RetR W (sA.l ++ (sK.l ++ sB.l))) := by
  have hf : Frm [] W (W.alloc (.cells #[.slice sA.a sA.l.length sA.cap, .slice sK.a sK.l.length sK.cap, .slice sB.a sB.l.length sB.cap] 44)).drew := ((Frm.refl _ _).alloc _).drew
  have hw : Whole (W.alloc (.cells #[.slice sA.a sA.l.length sA.cap, .slice sK.a sK.l.length sK.cap, .slice sB.a sB.l.length sB.cap] 44)).drew W.heap.size 44 #[.slice sA.a sA.l.length sA.cap, .slice sK.a sK.l.length sK.cap, .slice sB.a sB.l.length sB.cap] := (Whole.made W _ _).drew
  have hin : SlsIn (W.alloc (.cells #[.slice sA.a sA.l.length sA.cap, .slice sK.a sK.l.length sK.cap, .slice sB.a sB.l.length sB.cap] 44)).drew W.heap.size [sA, sK, sB] := by
    intro k hk
    simp at hk
    have hc := hw.cell k
    rcases k with _ | _ | _ | k
    · exact ⟨hc, hA.keep hf⟩
    · exact ⟨hc, hK.keep hf⟩
    · exact ⟨hc, hB.keep hf⟩
    · omega
  have e : all [sA, sK, sB] = sA.l ++ (sK.l ++ sB.l) := by simp [all]
  refine (concatR_any (n := 3) hin rfl (by decide) (by rw [e]; simp; omega)).mono fun x w' h => ?_
  rw [e] at h
  exact retR_from hf h
theorem cat_one {W : World} {sA sB : Sl} {s : Rg} (hA : SlIn W sA) (hB : SlIn W sB) (hs : s.1 < 18446744073709551616 ∧ s.2 < 18446744073709551616) {nA nB : Nat} (hnA : nA = sA.l.length) (hnB : nB = sB.l.length) (hfit : sA.l.length + 1 + sB.l.length ≤ 100000) :
    Calls Try.prog 57 #[.slice (some ⟨W.heap.size + 1, 0, none⟩) 3 3] ((W.alloc (.cells #[.int .u64 (s.1 : Nat), .int .u64 (s.2 : Nat)] 51)).alloc (.cells #[.slice sA.a nA sA.cap, .slice (some ⟨W.heap.size, 0, none⟩) 1 1, .slice sB.a nB sB.cap] 44)).drew (RetR W (sA.l ++ ([s] ++ sB.l))) := by
  subst hnA hnB
  have hf : Frm [] W (W.alloc (.cells #[.int .u64 (s.1 : Nat), .int .u64 (s.2 : Nat)] 51)) := (Frm.refl _ _).alloc _
  have hw := Whole.made W 51 #[.int .u64 (s.1 : Nat), .int .u64 (s.2 : Nat)]
  have hr : Rr (W.alloc (.cells #[.int .u64 (s.1 : Nat), .int .u64 (s.2 : Nat)] 51)) (some ⟨W.heap.size, 0, none⟩) [s] := by
    refine ⟨by simp; exact hs, fun _ => ⟨W.heap.size, 0, rfl, fun i hi => ?_⟩⟩
    simp at hi
    subst hi
    exact ⟨hw.cell 0, hw.cell 1⟩
  have h := cat_lit (sK := ⟨some ⟨W.heap.size, 0, none⟩, 1, [s]⟩) (hA.keep hf) ⟨hr, fun h => by simp at h, by simp, by simp⟩ (hB.keep hf) (by simpa using hfit)
  have e : (W.alloc (.cells #[.int .u64 (s.1 : Nat), .int .u64 (s.2 : Nat)] 51)).heap.size = W.heap.size + 1 := by simp
  rw [e] at h
  exact h.mono fun x w' h => retR_from hf h

/-- The same as RetR, its length by a name. -/
def RetN (w : World) (l : List Rg) (e : Ending) (w' : World) : Prop := ∃ a' m cap', e = .returned (.slice a' m cap') ∧ Hid (m = l.length) ∧ Hid (OwnR w' w.heap.size a' cap' l) ∧ Frm [] w w'
theorem RetR.n {w w' : World} {l : List Rg} {e : Ending} (h : RetR w l e w') : RetN w l e w' := by
  obtain ⟨a, c, rfl, ho, hf⟩ := h
  exact ⟨a, _, c, rfl, rfl, ho, hf⟩
theorem RetR.of {w w' : World} {l : List Rg} {a : Option Addr} {m c : Nat} (hm : m = l.length) (ho : OwnR w' w.heap.size a c l) (hf : Frm [] w w') : RetR w l (.returned (.slice a m c)) w' := by subst hm; exact ⟨a, c, rfl, ho, hf⟩

set_option maxRecDepth 100000 in
set_option maxHeartbeats 4000000 in
theorem add_some {w : World} {a : Option Addr} {l : List Rg} (h : Rr w a l) (hr : Rt l) {n cap : Nat} (hn : n = l.length) (hnc : n ≤ cap) (hcm : cap ≤ 9223372036854775807) (hnil : a = none → cap = 0) (hsz : n ≤ 1000) {r1 r2 : Nat} (he : r1 < r2) (hb2 : r2 < 18446744073709551616) :
    Calls Try.prog 31 #[.slice a n cap, .agg #[.int .u64 r1, .int .u64 r2]] w (Got w (fun x => Mem l x ∨ (r1 ≤ x ∧ x < r2)) (n + 1)) := by
  have hmf : ∀ (fn : Fn) (first cap : Array Value) (w : World), (Instr.makeFunc fn first cap).run Try.prog w = .ok (.func fn first cap) w := fun _ _ _ _ => rfl
  obtain ⟨W0, hW0⟩ : ∃ W0, W0 = (w.alloc (.cells #[.slice a n cap] 44)).alloc (.cells #[.int .u64 r1, .int .u64 r2] 51) := ⟨_, rfl⟩
  obtain ⟨g2, hg2⟩ : ∃ g2, g2 = w.heap.size := ⟨_, rfl⟩
  obtain ⟨g3, hg3⟩ : ∃ g3, g3 = w.heap.size + 1 := ⟨_, rfl⟩
  have h2 : Whole W0 g2 44 #[.slice a n cap] := by rw [hW0, hg2]; exact (Whole.made w _ _).alloc _
  have h3 : Whole W0 g3 51 #[.int .u64 r1, .int .u64 r2] := by rw [hW0]; exact Whole.made2 _ _ _ hg3
  have hF : Frm [] w W0 := by rw [hW0]; exact ((Frm.refl _ _).alloc _).alloc _
  have hg23 : g2 < g3 := by omega
  have hgw : w.heap.size ≤ g2 := by omega
  have HF := Lib.hid hF; clear hF
  have H := Lib.hid h; clear h
  have HR := Lib.hid hr; clear hr
  have HN := Lib.hid hn; clear hn
  have HNIL := Lib.hid hnil; clear hnil
  have HW0 := Lib.hid hW0; clear hW0
  have HG2 := Lib.hid hg2; clear hg2
  have HG3 := Lib.hid hg3; clear hg3
  have H2 := Lib.hid h2
  have H3 := Lib.hid h3
  have c0 := h3.cell 0
  have c1 := h3.cell 1
  simp only [List.getElem?_toArray] at c0 c1
  clear h2 h3
  go_enter Try.func31, Try.ntmps31
  go_wp2_with fail
  rw [← HW0.out, ← HG3.out, ← HG2.out]
  refine (empty_any r1 r2 _).mono ?_
  rintro e w1 hbo
  obtain ⟨rfl, hf⟩ := hbo.no (by omega)
  have k2 := (hf.whole H2.out (by simp)).cell 0
  simp only [List.getElem?_toArray] at k2
  have HF1 := Lib.hid hf
  clear hf hbo c0 c1
  go_wp2_with fail
  have hrr1 := H.out.keep0 (HF.out.trans HF1.out (U := []) (by simp) (by simp))
  have HH2 := Lib.hid (HF1.out.whole H2.out (by simp))
  have HH3 := Lib.hid (HF1.out.whole H3.out (by simp))
  refine (search_any 55 #[.pointer (some ⟨g2, 0, none⟩), .pointer (some ⟨g3, 0, none⟩)] n (fun i => decide (r1 ≤ (l.getD i (0, 0)).2)) w1 enters_add1 (by omega)
    (fun wr i hf hi => add1_any (r := (r1, r2)) (hrr1.keep0 hf) (by have := HN.out; omega) HN.out ((hf.whole HH2.out (by simp)).cell 0) ((hf.whole HH3.out (by simp)).cell 0) ((hf.whole HH3.out (by simp)).cell 1))
    (fun i j hij hj hd => by
      have h1 := rt_le HR.out hij (by have := HN.out; omega)
      have h2 : r1 ≤ (l.getD i (0, 0)).2 := of_decide_eq_true hd
      exact decide_eq_true (show r1 ≤ (l.getD j (0, 0)).2 by omega))).mono ?_
  rintro e w2 ⟨fr, rfl, hfr, f1, f2, hf⟩
  have F1 := Lib.hid f1; clear f1
  have F2 := Lib.hid f2; clear f2
  have HF2 := Lib.hid (HF1.out.trans hf (U := []) (by simp) (by simp))
  clear hf k2 hrr1 HH2 HH3
  have k2 := (HF2.out.whole H2.out (by simp)).cell 0
  simp only [List.getElem?_toArray] at k2
  go_wp2_with fail
  have hrr2 := H.out.keep0 (HF.out.trans HF2.out (U := []) (by simp) (by simp))
  have HH2 := Lib.hid (HF2.out.whole H2.out (by simp))
  have HH3 := Lib.hid (HF2.out.whole H3.out (by simp))
  refine (search_any 56 #[.pointer (some ⟨g2, 0, none⟩), .pointer (some ⟨g3, 0, none⟩)] n (fun i => decide (r2 < (l.getD i (0, 0)).1)) w2 enters_add2 (by omega)
    (fun wr i hf hi => add2_any (r := (r1, r2)) (hrr2.keep0 hf) (by have := HN.out; omega) HN.out ((hf.whole HH2.out (by simp)).cell 0) ((hf.whole HH3.out (by simp)).cell 0) ((hf.whole HH3.out (by simp)).cell 1))
    (fun i j hij hj hd => by
      have h1 := rt_le HR.out hij (by have := HN.out; omega)
      have h2 : r2 < (l.getD i (0, 0)).1 := of_decide_eq_true hd
      exact decide_eq_true (show r2 < (l.getD j (0, 0)).1 by omega))).mono ?_
  rintro e w3 ⟨tt, rfl, hto, t1, t2, hf⟩
  have HF3 := Lib.hid (HF2.out.trans hf (U := []) (by simp) (by simp))
  clear hf k2 hrr2 HH2 HH3
  -- what the two places mean
  have hft : fr ≤ tt := by
    rcases Nat.lt_or_ge tt fr with hlt | hge
    · have e1 : ¬ r1 ≤ (l.getD tt (0, 0)).2 := of_decide_eq_false (F1.out tt hlt)
      have e2 : r2 < (l.getD tt (0, 0)).1 := of_decide_eq_true (t2 tt (Nat.le_refl _) (by omega))
      have e3 := rt_lt HR.out (i := tt) (by have := HN.out; omega)
      omega
    · exact hge
  obtain ⟨s, hs⟩ : ∃ s : Rg, s = if fr < tt then (min r1 (l.getD fr (0, 0)).1, max r2 (l.getD (tt - 1) (0, 0)).2) else (r1, r2) := ⟨_, rfl⟩
  have SPEC := Lib.hid (add_spec HR.out (r := (r1, r2)) he hft (by have := HN.out; omega)
    (fun i hi => by have e1 : ¬ r1 ≤ (l.getD i (0, 0)).2 := of_decide_eq_false (F1.out i hi); omega)
    (fun i hi hil => of_decide_eq_true (F2.out i hi (by have := HN.out; omega)))
    (fun i hi => by have e1 : ¬ r2 < (l.getD i (0, 0)).1 := of_decide_eq_false (t1 i hi); omega)
    (fun i hi hil => of_decide_eq_true (t2 i hi (by have := HN.out; omega))) hs)
  have bfr := getD_bd H.out.1 fr
  have bto := getD_bd H.out.1 (tt - 1)
  have hsb : s.1 < 18446744073709551616 ∧ s.2 < 18446744073709551616 := by
    rw [hs]; split <;> simp only <;> omega
  have BOUT : Hid (Bd (l.take fr ++ ([s] ++ l.drop tt))) := by
    intro p hp
    rcases List.mem_append.1 hp with hp | hp
    · exact H.out.1 p (List.mem_of_mem_take hp)
    · rcases List.mem_append.1 hp with hp | hp
      · simp only [List.mem_singleton] at hp; subst hp; exact hsb
      · exact H.out.1 p (List.mem_of_mem_drop hp)
  have LOUT : Hid ((l.take fr ++ ([s] ++ l.drop tt)).length ≤ n + 1) := by
    have := HN.out
    show (l.take fr ++ ([s] ++ l.drop tt)).length ≤ n + 1
    simp only [List.length_append, List.length_take, List.length_drop, List.length_cons, List.length_nil]; omega
  clear t1 t2 F1 F2
  have cA := fun w => run_cutR_h w a n cap fr (fr : Int) rfl (by omega)
  have cB := fun w => run_cutR_l w a n cap tt (tt : Int) rfl (by omega)
  obtain ⟨aA, haA⟩ : ∃ aA, aA = cutR a cap 0 := ⟨_, rfl⟩
  obtain ⟨aB, haB⟩ : ∃ aB, aB = cutR a cap tt := ⟨_, rfl⟩
  obtain ⟨nB, hnB⟩ : ∃ nB, nB = n - tt := ⟨_, rfl⟩
  obtain ⟨cB', hcB'⟩ : ∃ cB', cB' = cap - tt := ⟨_, rfl⟩
  rw [← haA] at cA
  rw [← haB, ← hnB, ← hcB'] at cB
  have SA : Hid (∀ w', Frm [] w w' → SlIn w' ⟨aA, cap, l.take fr⟩) := fun w' hf => by
    have hk := H.out.keep0 hf
    refine ⟨?_, fun h => ?_, ?_, hcm⟩
    · show Rr w' aA (l.take fr)
      rw [haA]
      have := (hk.cut (cap := cap) (by have := HN.out; omega) 0).take fr
      rwa [List.drop_zero] at this
    · have h' : cutR a cap 0 = none := by rw [← haA]; exact h
      have := cutR_none HNIL.out h'; show cap = 0; omega
    · show (l.take fr).length ≤ cap
      rw [List.length_take]; omega
  have SB : Hid (∀ w', Frm [] w w' → SlIn w' ⟨aB, cB', l.drop tt⟩) := fun w' hf => by
    have hk := H.out.keep0 hf
    refine ⟨?_, fun h => ?_, ?_, by show cB' ≤ _; omega⟩
    · show Rr w' aB (l.drop tt)
      rw [haB]
      exact hk.cut (cap := cap) (by have := HN.out; omega) tt
    · have h' : cutR a cap tt = none := by rw [← haB]; exact h
      have := cutR_none HNIL.out h'; show cB' = 0; omega
    · show (l.drop tt).length ≤ cB'
      rw [List.length_drop]; have := HN.out; omega
  have NA : Hid (fr = (l.take fr).length) := by show fr = _; rw [List.length_take]; have := HN.out; omega
  have NB : Hid (nB = (l.drop tt).length) := by show nB = _; rw [List.length_drop]; have := HN.out; omega
  have HS := Lib.hid hs
  clear haA haB hnB hcB' hs
  have k2 := (HF3.out.whole H2.out (by simp)).cell 0
  have k30 := (HF3.out.whole H3.out (by simp)).cell 0
  have k31 := (HF3.out.whole H3.out (by simp)).cell 1
  have f30 := (HF3.out.whole H3.out (by simp)).free 0
  have f31 := (HF3.out.whole H3.out (by simp)).free 1
  simp only [List.getElem?_toArray] at k2 k30 k31
  -- what stands in r behind the test
  have TAIL : ∀ (W : World), Frm [] w W → W.cell? ⟨g2, 0, none⟩ = some (.slice a n cap) → Whole W g3 51 #[.int .u64 s.1, .int .u64 s.2] → True := fun _ _ _ _ => trivial
  by_cases hlt : fr < tt
  · have hlt' : (fr : Int) < (tt : Int) := by omega
    have hs1 : s = (min r1 (l.getD fr (0, 0)).1, max r2 (l.getD (tt - 1) (0, 0)).2) := by rw [HS.out, if_pos hlt]
    obtain ⟨b, off, rfl, hc⟩ := (H.out.keep0 (HF.out.trans HF3.out (U := []) (by simp) (by simp))).2 (by have := HN.out; omega)
    obtain ⟨d0, _⟩ := hc fr (by have := HN.out; omega)
    obtain ⟨j, hj⟩ : ∃ j, j = tt - 1 := ⟨_, rfl⟩
    obtain ⟨_, d1⟩ := hc j (by have := HN.out; omega)
    rw [← hj] at hs1
    obtain ⟨x, hx⟩ : ∃ y, y = (l.getD fr (0, 0)).1 := ⟨_, rfl⟩
    obtain ⟨y, hy⟩ : ∃ y, y = (l.getD j (0, 0)).2 := ⟨_, rfl⟩
    rw [← hx] at d0 hs1
    rw [← hy] at d1 hs1
    have HS1 := Lib.hid hs1
    clear hc hx hy hs1 TAIL
    have hfn : (fr : Int) < (n : Int) := by omega
    have hjn : (j : Int) < (n : Int) := by omega
    obtain ⟨m1, hm1⟩ : ∃ m1, m1 = min r1 x := ⟨_, rfl⟩
    obtain ⟨m2, hm2⟩ : ∃ m2, m2 = max r2 y := ⟨_, rfl⟩
    have i1 : min (r1 : Int) (x : Int) = (m1 : Int) := by omega
    have i2 : max (r2 : Int) (y : Int) = (m2 : Int) := by omega
    have hwj : IntKind.i64.wrap ((tt : Int) - 1) = (j : Int) := by rw [IntWalk.i64_in _ (by omega)]; omega
    have HJ := Lib.hid hj; clear hj
    rw [← hm1, ← hm2] at HS1
    clear hm1 hm2
    go_wp2
    trace "A"
    go_still_tail 18, (by kernel_rfl)
    change wpList _ _ _ _ _ w3.drew
    trace "B"
    go_wp2
    have hf4 : Frm [] w ((w3.setCell ⟨g3, 0, none⟩ (.int .u64 (m1 : Int))).setCell ⟨g3, 1, none⟩ (.int .u64 (m2 : Int))).drew := (((HF.out.trans HF3.out (U := []) (by simp) (by simp)).setCell (.inr (by show _ ≤ g3; omega)) _).setCell (.inr (by show _ ≤ g3; omega)) _).drew
    have hw4 : Whole ((w3.setCell ⟨g3, 0, none⟩ (.int .u64 (m1 : Int))).setCell ⟨g3, 1, none⟩ (.int .u64 (m2 : Int))).drew g3 51 #[.int .u64 (m1 : Int), .int .u64 (m2 : Int)] := by
      have := ((HF3.out.whole H3.out (by simp)).put 0 (.int .u64 (m1 : Int))).put 1 (.int .u64 (m2 : Int))
      exact Whole.drew (by simpa using this)
    have hw2 : Whole ((w3.setCell ⟨g3, 0, none⟩ (.int .u64 (m1 : Int))).setCell ⟨g3, 1, none⟩ (.int .u64 (m2 : Int))).drew g2 44 #[.slice (some ⟨b, off, none⟩) n cap] := ((HF3.out.whole H2.out (by simp)).other (p := ⟨g3, 0, none⟩) (by show g2 ≠ g3; omega) _).other (p := ⟨g3, 1, none⟩) (by show g2 ≠ g3; omega) _
    obtain ⟨W4, hW4⟩ : ∃ W4, W4 = ((w3.setCell ⟨g3, 0, none⟩ (.int .u64 (m1 : Int))).setCell ⟨g3, 1, none⟩ (.int .u64 (m2 : Int))).drew := ⟨_, rfl⟩
    rw [← hW4] at hf4 hw4 hw2 ⊢
    clear hW4 k30 k31 f30 f31 k2 d0 d1 i1 i2 hwj
    have k2 := hw2.cell 0
    have k30 := hw4.cell 0
    have k31 := hw4.cell 1
    simp only [List.getElem?_toArray] at k2 k30 k31
    have hg2l := hw2.lt
    have hg3l := hw4.lt
    have HF4 := Lib.hid hf4
    clear hf4 hw4 hw2
    have hfw : Frm [] w W4 := HF4.out
    have CAT := Lib.hid ((cat_one (W := W4) (s := (m1, m2)) (SA.out W4 hfw) (SB.out W4 hfw) (by rw [← HS1.out]; exact hsb) NA.out NB.out (by show (l.take fr).length + 1 + (l.drop tt).length ≤ _; rw [List.length_take, List.length_drop]; have := HN.out; omega)).mono fun _ _ h => h.n)
    clear hfw
    go_region_held3 (fun w' => w'.cell? ⟨g2, 0, none⟩ = some (.slice (some ⟨b, off, none⟩) n cap) ∧ w'.cell? ⟨g3, 0, none⟩ = some (.int .u64 (m1 : Int)) ∧ w'.cell? ⟨g3, 1, none⟩ = some (.int .u64 (m2 : Int))) (first | go_keep | (refine ⟨?_, ?_, ?_⟩ <;> (rw [hf5.cell (by simpa using ‹_›) (by simp)]; assumption))) ((go_at_call 57; refine CAT.out.mono ?_; rintro e w5 ⟨a5, m5, c5, rfl, hm5, ho5, hf5⟩))
    have hs1 := HS1.out
    have FIN : Hid (Got w (fun x => Mem l x ∨ (r1 ≤ x ∧ x < r2)) (n + 1) (.returned (.slice a5 m5 c5)) w5) := ⟨l.take fr ++ ([s] ++ l.drop tt), by rw [hs1]; exact retR_from HF4.out (RetR.of hm5.out ho5.out hf5), SPEC.out.1, BOUT.out, SPEC.out.2, LOUT.out⟩
    clear hs1 hm5 ho5 hf5 CAT k2 k30 k31 HS HS1 SPEC BOUT LOUT
    go_wp2
    go_ret
    exact FIN.out
  · have hlt' : ¬ (fr : Int) < (tt : Int) := by omega
    have hs1 : s = (r1, r2) := by rw [HS.out, if_neg hlt]
    have HS1 := Lib.hid hs1
    clear hs1 TAIL
    go_wp2
    have hg2l := (HF3.out.whole H2.out (by simp)).lt
    have hg3l := (HF3.out.whole H3.out (by simp)).lt
    have HF4 := Lib.hid (HF.out.trans HF3.out (U := []) (by simp) (by simp))
    obtain ⟨W4, rfl⟩ : ∃ W4, W4 = w3 := ⟨_, rfl⟩
    have hfw : Frm [] w W4 := HF4.out
    have CAT := Lib.hid ((cat_one (W := W4) (s := (r1, r2)) (SA.out W4 hfw) (SB.out W4 hfw) (by rw [← HS1.out]; exact hsb) NA.out NB.out (by show (l.take fr).length + 1 + (l.drop tt).length ≤ _; rw [List.length_take, List.length_drop]; have := HN.out; omega)).mono fun _ _ h => h.n)
    clear hfw
    go_region_held3 (fun w' => w'.cell? ⟨g2, 0, none⟩ = some (.slice a n cap) ∧ w'.cell? ⟨g3, 0, none⟩ = some (.int .u64 (r1 : Int)) ∧ w'.cell? ⟨g3, 1, none⟩ = some (.int .u64 (r2 : Int))) (first | go_keep | (refine ⟨?_, ?_, ?_⟩ <;> (rw [hf5.cell (by simpa using ‹_›) (by simp)]; assumption))) ((go_at_call 57; refine CAT.out.mono ?_; rintro e w5 ⟨a5, m5, c5, rfl, hm5, ho5, hf5⟩))
    have hs1 := HS1.out
    have FIN : Hid (Got w (fun x => Mem l x ∨ (r1 ≤ x ∧ x < r2)) (n + 1) (.returned (.slice a5 m5 c5)) w5) := ⟨l.take fr ++ ([s] ++ l.drop tt), by rw [hs1]; exact retR_from HF4.out (RetR.of hm5.out ho5.out hf5), SPEC.out.1, BOUT.out, SPEC.out.2, LOUT.out⟩
    clear hs1 hm5 ho5 hf5 CAT k2 k30 k31 HS HS1 SPEC BOUT LOUT
    go_wp2
    go_ret
    exact FIN.out
end Go.Proofs.Ytolmpmihchjmlaa
