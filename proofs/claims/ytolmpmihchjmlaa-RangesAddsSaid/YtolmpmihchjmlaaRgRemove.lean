/- Contract of Remove. -/
import Derived.Test.YtolmpmihchjmlaaRgEnds
namespace Go.Proofs.Ytolmpmihchjmlaa
open Go.RowKit

set_option maxHeartbeats 2000000 in
theorem remove_empty {w : World} {a : Option Addr} {l : List Rg} (h : Rr w a l) (hr : Rt l) {n cap : Nat} (hn : n = l.length) (hnil : a = none → cap = 0) (hsz : n ≤ 1000) {r1 r2 : Nat} (he : r2 ≤ r1) :
    Calls Try.prog 32 #[.slice a n cap, .agg #[.int .u64 r1, .int .u64 r2]] w (Got w (fun x => Mem l x ∧ ¬ (r1 ≤ x ∧ x < r2)) (n + 1)) := by
  obtain ⟨W0, hW0⟩ : ∃ W0, W0 = (w.alloc (.cells #[.slice a n cap] 44)).alloc (.cells #[.int .u64 r1, .int .u64 r2] 51) := ⟨_, rfl⟩
  obtain ⟨g2, hg2⟩ : ∃ g2, g2 = w.heap.size := ⟨_, rfl⟩
  obtain ⟨g3, hg3⟩ : ∃ g3, g3 = w.heap.size + 1 := ⟨_, rfl⟩
  have h2 : Whole W0 g2 44 #[.slice a n cap] := by rw [hW0, hg2]; exact (Whole.made w _ _).alloc _
  have h3 : Whole W0 g3 51 #[.int .u64 r1, .int .u64 r2] := by
    rw [hW0, hg3]
    have := Whole.made (w.alloc (.cells #[.slice a n cap] 44)) 51 #[.int .u64 r1, .int .u64 r2]
    simpa using this
  have hF : Frm [] w W0 := by rw [hW0]; exact ((Frm.refl _ _).alloc _).alloc _
  have HF := Lib.hid hF; clear hF
  have H := Lib.hid h; clear h
  have HR := Lib.hid hr; clear hr
  have HN := Lib.hid hn; clear hn
  have HNIL := Lib.hid hnil; clear hnil
  have HW0 := Lib.hid hW0; clear hW0
  have HG2 := Lib.hid hg2; clear hg2
  have HG3 := Lib.hid hg3; clear hg3
  have H2 := Lib.hid h2
  have c0 := h3.cell 0
  have c1 := h3.cell 1
  simp only [List.getElem?_toArray] at c0 c1
  clear h2 h3
  go_enter Try.func32, Try.ntmps32
  go_wp2_with fail
  refine (empty_any r1 r2 _).mono ?_
  rintro e w1 hbo
  obtain ⟨rfl, hf⟩ := hbo.yes he
  rw [← HW0.out] at hf
  have k2 := (hf.whole H2.out (by simp)).cell 0
  simp only [List.getElem?_toArray] at k2
  rw [HG2.out] at k2
  have HF1 := Lib.hid (HF.out.trans hf (U := []) (by simp) (by simp))
  clear hf hbo c0 c1
  go_wp2_with fail
  refine (cloneR_any (H.out.keep0 HF1.out) HN.out HNIL.out (by omega)).mono ?_
  rintro e w2 hret
  have hret2 := retR_from HF1.out hret
  obtain ⟨a2, c2, rfl, ho, hf2⟩ := hret2
  have FIN : Hid (Got w (fun x => Mem l x ∧ ¬ (r1 ≤ x ∧ x < r2)) (n + 1) (.returned (.slice a2 l.length c2)) w2) := ⟨l, ⟨a2, c2, rfl, ho, hf2⟩, HR.out, H.out.1, fun x => ⟨fun hx => ⟨hx, by omega⟩, fun hx => hx.1⟩, by have := HN.out; omega⟩
  clear hret ho hf2 k2
  go_wp2
  go_ret
  exact FIN.out
set_option maxRecDepth 100000 in
set_option maxHeartbeats 4000000 in
theorem remove_some {w : World} {a : Option Addr} {l : List Rg} (h : Rr w a l) (hr : Rt l) {n cap : Nat} (hn : n = l.length) (hnc : n ≤ cap) (hcm : cap ≤ 9223372036854775807) (hnil : a = none → cap = 0) (hsz : n ≤ 1000) {r1 r2 : Nat} (he : r1 < r2) (hb2 : r2 < 18446744073709551616) :
    Calls Try.prog 32 #[.slice a n cap, .agg #[.int .u64 r1, .int .u64 r2]] w (Got w (fun x => Mem l x ∧ ¬ (r1 ≤ x ∧ x < r2)) (n + 1)) := by
  have hmf : ∀ (fn : Fn) (first cap : Array Value) (w : World), (Instr.makeFunc fn first cap).run Try.prog w = .ok (.func fn first cap) w := fun _ _ _ _ => rfl
  obtain ⟨W0, hW0⟩ : ∃ W0, W0 = (w.alloc (.cells #[.slice a n cap] 44)).alloc (.cells #[.int .u64 r1, .int .u64 r2] 51) := ⟨_, rfl⟩
  obtain ⟨g2, hg2⟩ : ∃ g2, g2 = w.heap.size := ⟨_, rfl⟩
  obtain ⟨g3, hg3⟩ : ∃ g3, g3 = w.heap.size + 1 := ⟨_, rfl⟩
  have h2 : Whole W0 g2 44 #[.slice a n cap] := by rw [hW0, hg2]; exact (Whole.made w _ _).alloc _
  have h3 : Whole W0 g3 51 #[.int .u64 r1, .int .u64 r2] := by rw [hW0]; exact Whole.made2 _ _ _ hg3
  have hF : Frm [] w W0 := by rw [hW0]; exact ((Frm.refl _ _).alloc _).alloc _
  have hg23 : g2 < g3 := by omega
  have hgw : w.heap.size ≤ g2 := by omega
  have HF := Lib.hid hF; clear hF
  have H := Lib.hid h; clear h
  have HR := Lib.hid hr; clear hr
  have HN := Lib.hid hn; clear hn
  have HNIL := Lib.hid hnil; clear hnil
  have HW0 := Lib.hid hW0; clear hW0
  have HG2 := Lib.hid hg2; clear hg2
  have HG3 := Lib.hid hg3; clear hg3
  have H2 := Lib.hid h2
  have H3 := Lib.hid h3
  have c0 := h3.cell 0
  have c1 := h3.cell 1
  simp only [List.getElem?_toArray] at c0 c1
  clear h2 h3
  go_enter Try.func32, Try.ntmps32
  go_wp2_with fail
  rw [← HW0.out, ← HG3.out, ← HG2.out]
  refine (empty_any r1 r2 _).mono ?_
  rintro e w1 hbo
  obtain ⟨rfl, hf⟩ := hbo.no (by omega)
  have k2 := (hf.whole H2.out (by simp)).cell 0
  have k30 := (hf.whole H3.out (by simp)).cell 0
  simp only [List.getElem?_toArray] at k2 k30
  have HF1 := Lib.hid hf
  clear hf hbo c0 c1
  go_wp2_with fail
  have hrr1 := H.out.keep0 (HF.out.trans HF1.out (U := []) (by simp) (by simp))
  refine (behind_any hrr1 HR.out (cap := cap) (x := r1) HN.out (by omega)).mono ?_
  rintro e w2 ⟨fr, rfl, hfr, f1, f2, hf⟩
  have F1 := Lib.hid f1; clear f1
  have F2 := Lib.hid f2; clear f2
  have HF2 := Lib.hid (HF1.out.trans hf (U := []) (by simp) (by simp))
  clear hf k2 hrr1 k30
  have k2 := (HF2.out.whole H2.out (by simp)).cell 0
  simp only [List.getElem?_toArray] at k2
  go_wp2_with fail
  have hrr2 := H.out.keep0 (HF.out.trans HF2.out (U := []) (by simp) (by simp))
  have HH2 := Lib.hid (HF2.out.whole H2.out (by simp))
  have HH3 := Lib.hid (HF2.out.whole H3.out (by simp))
  refine (search_any 58 #[.pointer (some ⟨g2, 0, none⟩), .pointer (some ⟨g3, 0, none⟩)] n (fun i => decide (r2 ≤ (l.getD i (0, 0)).1)) w2 enters_rem1 (by omega)
    (fun wr i hf hi => rem1_any (r := (r1, r2)) (hrr2.keep0 hf) (by have := HN.out; omega) HN.out ((hf.whole HH2.out (by simp)).cell 0) ((hf.whole HH3.out (by simp)).cell 0) ((hf.whole HH3.out (by simp)).cell 1))
    (fun i j hij hj hd => by
      have h1 := rt_le HR.out hij (by have := HN.out; omega)
      have h2 : r2 ≤ (l.getD i (0, 0)).1 := of_decide_eq_true hd
      exact decide_eq_true (show r2 ≤ (l.getD j (0, 0)).1 by omega))).mono ?_
  rintro e w3 ⟨tt, rfl, hto, t1, t2, hf⟩
  have HF3 := Lib.hid (HF2.out.trans hf (U := []) (by simp) (by simp))
  clear hf k2 hrr2 HH2 HH3
  -- what the two places mean
  have hft : fr ≤ tt := by
    rcases Nat.lt_or_ge tt fr with hlt | hge
    · have e1 := F1.out tt hlt
      have e2 : r2 ≤ (l.getD tt (0, 0)).1 := of_decide_eq_true (t2 tt (Nat.le_refl _) (by have := HN.out; omega))
      have e3 := rt_lt HR.out (i := tt) (by have := HN.out; omega)
      omega
    · exact hge
  obtain ⟨kp, hkp⟩ : ∃ kp : List Rg, kp = if fr < tt then endsL (l.getD fr (0, 0)).1 (l.getD (tt - 1) (0, 0)).2 (r1, r2) else [] := ⟨_, rfl⟩
  have SPEC := Lib.hid (remove_spec HR.out (r := (r1, r2)) he hft (by have := HN.out; omega)
    (fun i hi => F1.out i hi)
    (fun i hi hil => F2.out i hi hil)
    (fun i hi => by have e1 : ¬ r2 ≤ (l.getD i (0, 0)).1 := of_decide_eq_false (t1 i hi); omega)
    (fun i hi hil => of_decide_eq_true (t2 i hi (by have := HN.out; omega))) hkp)
  have bfr := getD_bd H.out.1 fr
  have bto := getD_bd H.out.1 (tt - 1)
  have hkb : Bd kp ∧ kp.length ≤ 2 ∧ (kp ≠ [] → fr < tt) := by
    rw [hkp]
    split
    · refine ⟨fun p hp => ?_, ?_, fun _ => by assumption⟩
      · unfold endsL at hp
        rcases List.mem_append.1 hp with hp | hp
        · split at hp
          · simp only [List.mem_singleton] at hp
            subst hp; exact ⟨bfr.1, by show r1 < _; omega⟩
          · simp at hp
        · split at hp
          · simp only [List.mem_singleton] at hp
            subst hp; exact ⟨hb2, bto.2⟩
          · simp at hp
      · unfold endsL
        rw [List.length_append]
        split <;> split <;> simp
    · exact ⟨by intro p hp; simp at hp, by simp, fun h => absurd rfl h⟩
  have BOUT : Hid (Bd (l.take fr ++ (kp ++ l.drop tt))) := by
    intro p hp
    rcases List.mem_append.1 hp with hp | hp
    · exact H.out.1 p (List.mem_of_mem_take hp)
    · rcases List.mem_append.1 hp with hp | hp
      · exact hkb.1 p hp
      · exact H.out.1 p (List.mem_of_mem_drop hp)
  have LOUT : Hid ((l.take fr ++ (kp ++ l.drop tt)).length ≤ n + 1) := by
    have := HN.out
    show (l.take fr ++ (kp ++ l.drop tt)).length ≤ n + 1
    rcases Nat.eq_zero_or_pos kp.length with h0 | h0
    · simp only [List.length_append, List.length_take, List.length_drop]; omega
    · have := hkb.2.2 (fun h => by rw [h] at h0; simp at h0)
      simp only [List.length_append, List.length_take, List.length_drop]; omega
  clear t1 t2 F1 F2
  have cA := fun w => run_cutR_h w a n cap fr (fr : Int) rfl (by omega)
  have cB := fun w => run_cutR_l w a n cap tt (tt : Int) rfl (by omega)
  obtain ⟨aA, haA⟩ : ∃ aA, aA = cutR a cap 0 := ⟨_, rfl⟩
  obtain ⟨aB, haB⟩ : ∃ aB, aB = cutR a cap tt := ⟨_, rfl⟩
  obtain ⟨nB, hnB⟩ : ∃ nB, nB = n - tt := ⟨_, rfl⟩
  obtain ⟨cB', hcB'⟩ : ∃ cB', cB' = cap - tt := ⟨_, rfl⟩
  rw [← haA] at cA
  rw [← haB, ← hnB, ← hcB'] at cB
  have SA : Hid (∀ w', Frm [] w w' → SlIn w' ⟨aA, cap, l.take fr⟩) := fun w' hf => by
    have hk := H.out.keep0 hf
    refine ⟨?_, fun h => ?_, ?_, hcm⟩
    · show Rr w' aA (l.take fr)
      rw [haA]
      have := (hk.cut (cap := cap) (by have := HN.out; omega) 0).take fr
      rwa [List.drop_zero] at this
    · have h' : cutR a cap 0 = none := by rw [← haA]; exact h
      have := cutR_none HNIL.out h'; show cap = 0; omega
    · show (l.take fr).length ≤ cap
      rw [List.length_take]; omega
  have SB : Hid (∀ w', Frm [] w w' → SlIn w' ⟨aB, cB', l.drop tt⟩) := fun w' hf => by
    have hk := H.out.keep0 hf
    refine ⟨?_, fun h => ?_, ?_, by show cB' ≤ _; omega⟩
    · show Rr w' aB (l.drop tt)
      rw [haB]
      exact hk.cut (cap := cap) (by have := HN.out; omega) tt
    · have h' : cutR a cap tt = none := by rw [← haB]; exact h
      have := cutR_none HNIL.out h'; show cB' = 0; omega
    · show (l.drop tt).length ≤ cB'
      rw [List.length_drop]; have := HN.out; omega
  have NA : Hid (fr = (l.take fr).length) := by show fr = _; rw [List.length_take]; have := HN.out; omega
  have NB : Hid (nB = (l.drop tt).length) := by show nB = _; rw [List.length_drop]; have := HN.out; omega
  have HKP := Lib.hid hkp
  have HKB := Lib.hid hkb
  clear haA haB hnB hcB' hkp hkb
  have k2 := (HF3.out.whole H2.out (by simp)).cell 0
  have k30 := (HF3.out.whole H3.out (by simp)).cell 0
  have k31 := (HF3.out.whole H3.out (by simp)).cell 1
  simp only [List.getElem?_toArray] at k2 k30 k31
  by_cases hlt : fr < tt
  · have hlt' : (fr : Int) < (tt : Int) := by omega
    obtain ⟨b, off, rfl, hc⟩ := (H.out.keep0 (HF.out.trans HF3.out (U := []) (by simp) (by simp))).2 (by have := HN.out; omega)
    obtain ⟨d0, _⟩ := hc fr (by have := HN.out; omega)
    obtain ⟨j, hj⟩ : ∃ j, j = tt - 1 := ⟨_, rfl⟩
    obtain ⟨_, d1⟩ := hc j (by have := HN.out; omega)
    have hk1 : kp = endsL (l.getD fr (0, 0)).1 (l.getD j (0, 0)).2 (r1, r2) := by rw [HKP.out, if_pos hlt, hj]
    rw [← hj] at bto
    obtain ⟨x, hx⟩ : ∃ y, y = (l.getD fr (0, 0)).1 := ⟨_, rfl⟩
    obtain ⟨y, hy⟩ : ∃ y, y = (l.getD j (0, 0)).2 := ⟨_, rfl⟩
    rw [← hx] at d0 hk1 bfr
    rw [← hy] at d1 hk1 bto
    have HK1 := Lib.hid hk1
    clear hc hx hy hk1
    have hfn : (fr : Int) < (n : Int) := by omega
    have hjn : (j : Int) < (n : Int) := by omega
    have hwj : IntKind.i64.wrap ((tt : Int) - 1) = (j : Int) := by rw [IntWalk.i64_in _ (by omega)]; omega
    have HJ := Lib.hid hj; clear hj
    have EN := Lib.hid (ends_any (lo := x) (hi := y) (r1 := r1) (r2 := r2) bfr.1 bto.2 (by omega) hb2)
    clear bfr bto
    go_wp2
    go_still_tail 12, (by kernel_rfl)
    change wpList _ _ _ _ _ w3.drew
    go_wp2_with fail
    refine (EN.out w3.drew).mono ?_
    rintro e w4 hret
    have hret2 := hret.n
    obtain ⟨ak, mk, ck, rfl, hmk, hok, hf4⟩ := hret2
    have hf34 : Frm [] w3 w4 := (Frm.drew1 w3).trans hf4 (by simp) (by simp)
    have HF34 := Lib.hid hf34
    have SK : Hid (SlIn w4 ⟨ak, ck, kp⟩) := by
      have h := hok.out
      rw [← HK1.out] at h
      have h2 := h.rr HKB.out.1
      exact ⟨h2.1, h2.2.1, h2.2.2.1, by have := h2.2.2.2; unfold maxLen at this; show ck ≤ _; omega⟩
    have MK : Hid (mk = kp.length) := by rw [HK1.out]; exact hmk.out
    clear hret hf4 hf34 hmk hok EN k30 k31 k2 hwj
    have hw2 := HF34.out.whole (HF3.out.whole H2.out (by simp)) (by simp)
    have k2 := hw2.cell 0
    have hg2l := hw2.lt
    simp only [List.getElem?_toArray] at k2
    have HF4 := Lib.hid ((HF.out.trans HF3.out (U := []) (by simp) (by simp)).trans HF34.out (U := []) (by simp) (by simp))
    have hfw : Frm [] w w4 := HF4.out
    have CAT0 := (cat_lit (W := w4) (SA.out w4 hfw) SK.out (SB.out w4 hfw) (by show (l.take fr).length + kp.length + (l.drop tt).length ≤ _; rw [List.length_take, List.length_drop]; have := HN.out; have := HKB.out.2.1; omega)).mono fun _ _ h => h.n
    simp only at CAT0
    rw [← NA.out, ← NB.out, ← MK.out] at CAT0
    have CAT := Lib.hid CAT0
    clear hfw hw2 CAT0
    go_wp2
    go_region_held3 (fun w' => w'.cell? ⟨g2, 0, none⟩ = some (.slice (some ⟨b, off, none⟩) n cap)) (first | go_keep | (rw [hf5.cell (by simpa using ‹_›) (by simp)]; assumption)) ((go_at_call 57; refine CAT.out.mono ?_; rintro e w5 ⟨a5, m5, c5, rfl, hm5, ho5, hf5⟩))
    have FIN : Hid (Got w (fun x => Mem l x ∧ ¬ (r1 ≤ x ∧ x < r2)) (n + 1) (.returned (.slice a5 m5 c5)) w5) := ⟨l.take fr ++ (kp ++ l.drop tt), retR_from HF4.out (RetR.of hm5.out ho5.out hf5), SPEC.out.1, BOUT.out, SPEC.out.2, LOUT.out⟩
    clear hm5 ho5 hf5 CAT k2 HKP HK1 SPEC BOUT LOUT
    go_wp2
    go_ret
    exact FIN.out
  · have hlt' : ¬ (fr : Int) < (tt : Int) := by omega
    have hk1 : kp = [] := by rw [HKP.out, if_neg hlt]
    have HK1 := Lib.hid hk1
    clear hk1 bfr bto k30 k31
    have hg2l := (HF3.out.whole H2.out (by simp)).lt
    have HF4 := Lib.hid (HF.out.trans HF3.out (U := []) (by simp) (by simp))
    have hfw : Frm [] w w3 := HF4.out
    have CAT0 := (cat_lit (W := w3) (sK := ⟨none, 0, []⟩) (SA.out w3 hfw) ⟨Rr.nil _ _, fun _ => rfl, by simp, by simp⟩ (SB.out w3 hfw) (by show (l.take fr).length + 0 + (l.drop tt).length ≤ _; rw [List.length_take, List.length_drop]; have := HN.out; omega)).mono fun _ _ h => h.n
    simp only at CAT0
    rw [← NA.out, ← NB.out] at CAT0
    have CAT := Lib.hid CAT0
    clear hfw CAT0
    go_wp2
    go_region_held3 (fun w' => w'.cell? ⟨g2, 0, none⟩ = some (.slice a n cap)) (first | go_keep | (rw [hf5.cell (by simpa using ‹_›) (by simp)]; assumption)) ((go_at_call 57; refine CAT.out.mono ?_; rintro e w5 ⟨a5, m5, c5, rfl, hm5, ho5, hf5⟩))
    have hk1 := HK1.out
    have FIN : Hid (Got w (fun x => Mem l x ∧ ¬ (r1 ≤ x ∧ x < r2)) (n + 1) (.returned (.slice a5 m5 c5)) w5) := ⟨l.take fr ++ (kp ++ l.drop tt), by rw [hk1]; exact retR_from HF4.out (RetR.of hm5.out ho5.out hf5), SPEC.out.1, BOUT.out, SPEC.out.2, LOUT.out⟩
    clear hk1 hm5 ho5 hf5 CAT k2 HKP HK1 SPEC BOUT LOUT
    go_wp2
    go_ret
    exact FIN.out
end Go.Proofs.Ytolmpmihchjmlaa
