/- Contract of the document's Done. -/
import Derived.Test.YtahhkffghhgojaaCA
import Derived.Deep.DeepCutAuto
import Derived.Deep.CutBlock
import Derived.RegionTactic
import Derived.BigRegion
namespace Go.Proofs.Ytahhkffghhgojaa
open Go.RowKit
set_option maxRecDepth 100000

set_option maxRecDepth 100000 in
set_option maxHeartbeats 4000000 in
theorem rdon_any {w : World} {B p : Nat} {F : List Nat} {a : Option Addr} {cap : Nat} {X : List Ln} (s : ByteArray) (q l e : Nat) (h : Tb w B p F a cap X) (hq : q < 18446744073709551616) (hl : l < 18446744073709551616) (he : e < 18446744073709551616) :
    Calls Try.prog 12 #[.pointer (some ⟨p, 0, none⟩), .string s, .int .u64 (q : Nat), .agg #[.int .u64 (l : Nat), .int .u64 (e : Nat)]] w (fun r w' => r = .returned (.int .i64 (donC X s q : Nat)) ∧ TbTo w w' B p F a (donX X s q l e)) := by
  obtain ⟨w1, hw1⟩ : ∃ w1, w1 = w.alloc (.cells #[.int .u64 (l : Nat), .int .u64 (e : Nat)] 32) := ⟨_, rfl⟩
  obtain ⟨y, hy⟩ : ∃ y, y = w.heap.size := ⟨_, rfl⟩
  have F1 : Hid (Frm [] w w1) := Lib.hid (by rw [hw1]; exact (Frm.refl _ _).alloc _)
  have BY : Hid (Whole w1 y 32 #[.int .u64 (l : Nat), .int .u64 (e : Nat)]) := Lib.hid (by rw [hw1, hy]; exact Whole.made _ _ _)
  have HH : Hid (Tb w1 B p F a cap X) := Lib.hid (h.keep F1.out (by simp) (by simp) (fun x hx => .inl hx))
  have HY : Hid (∀ g ∈ p :: blk a, g < y) := Lib.hid (fun g hg => by
    rw [hy]
    rcases List.mem_cons.1 hg with rfl | h1
    · exact h.tab.lt
    · exact (h.row.blk_lt g h1).2)
  have hr := rtbat_any s HH.out
  obtain ⟨z, hz⟩ : ∃ z, z = atLI X s := ⟨_, rfl⟩
  rw [← hz] at hr
  have HR := Lib.hid hr; clear hr
  have HZ := Lib.hid hz; clear hz
  have c0 := HH.out.tab.cell 0
  obtain ⟨n, hnn⟩ : ∃ n, n = X.length := ⟨_, rfl⟩
  rw [← hnn] at c0
  simp at c0
  have HN := Lib.hid hnn
  have HQ := Lib.hid (And.intro hq (And.intro hl he))
  obtain ⟨Q, hQ⟩ : ∃ Q : Ending → World → Prop, Q = (fun r w' => r = .returned (.int .i64 (donC X s q : Nat)) ∧ TbTo w w' B p F a (donX X s q l e)) := ⟨_, rfl⟩
  rw [← hQ]
  have SAME : Hid (∀ c : Nat, donC X s q = c → c ≠ 0 → Q (.returned (.int .i64 (c : Nat))) w1) := Lib.hid (fun c hc h0 => by
    rw [hQ]
    refine ⟨by rw [hc], ?_⟩
    have : donX X s q l e = X := by unfold donX; rw [if_neg (by rw [hc]; exact h0)]
    rw [this]; exact ⟨a, cap, HH.out, F1.out.weak (by simp), fun k hk => .inl hk⟩)
  have HQQ := Lib.hid hQ
  have HW1 := Lib.hid hw1
  have HYY := Lib.hid hy
  clear hQ h hq hl he hnn hw1 hy
  go_enter Try.func12, Try.ntmps12
  go_upto_region 1 with (fail)
  rw [← HW1.out, ← HYY.out]
  go_wp2_with fail
  (with_reducible refine HR.out.mono ?_)
  rintro e w' ⟨rfl, rfl⟩
  by_cases hin : atL X s < X.length
  · obtain ⟨g, rfl⟩ := blk_none_caps HH.out.row (by omega)
    obtain ⟨b, off, hab, _, c1, c2, c3, c4, _⟩ := HH.out.row.sl.at hin
    obtain ⟨i, hi⟩ : ∃ i, i = atL X s := ⟨_, rfl⟩
    obtain rfl : z = (i : Int) := by rw [HZ.out]; unfold atLI; rw [if_pos hin, hi]
    rw [← hi] at hin c1 c2 c3 c4
    have hin2 : i < n := by rw [HN.out]; exact hin
    have BC : Hid (donC X s q = if (X.getD i default).top < q then 11 else if q ≤ (X.getD i default).done then 40 else 0) := Lib.hid (by
      unfold donC
      rw [← hi, if_pos hin])
    have BX : Hid (donC X s q = 0 → donX X s q l e = X.set i ((X.getD i default).wdone q l e)) := Lib.hid (fun h0 => by
      unfold donX
      rw [if_pos h0, ← hi])
    have FIT : Hid ((X.getD i default).fits) := Lib.hid (HH.out.row.fits _ (by simp [hin]))
    have SET := Lib.hid (lnc_set2 X i q l e hin)
    have FR2 := World.ownsRow.frozenAt HH.out.row.own (i * 5 + 2)
    have FR3 := World.ownsRow.frozenAt HH.out.row.own (i * 5 + 3)
    have FR4 := World.ownsRow.frozenAt HH.out.row.own (i * 5 + 4)
    obtain ⟨x, hx⟩ : ∃ x, x = X.getD i default := ⟨_, rfl⟩
    rw [← hx] at c1 c2 c3 c4 BC BX FIT SET
    obtain ⟨xn, xt, xd, xl, xe⟩ := x
    simp only at c1 c2 c3 c4
    simp only [Option.some.injEq, Addr.mk.injEq, and_true] at hab
    obtain ⟨rfl, rfl⟩ := hab
    simp only [Nat.zero_add] at c1 c2 c3 c4
    rw [show i * 5 + 4 = i * 5 + 3 + 1 by omega] at c4
    have HIN := Lib.hid hin
    clear hi hx hin
    have d5 : ¬ (i : Int) < 0 := by omega
    by_cases e1 : xt < q
    · have e1' : (xt : Int) < (q : Int) := by omega
      have EH := Lib.hid (SAME.out 11 (by rw [BC.out, if_pos e1]) (by decide))
      go_wp2
      exact EH.out
    · have e1' : ¬ (xt : Int) < (q : Int) := by omega
      by_cases e2 : q ≤ xd
      · have e2' : (q : Int) ≤ (xd : Int) := by omega
        have EH := Lib.hid (SAME.out 40 (by rw [BC.out]; simp only; rw [if_neg e1, if_pos e2]) (by decide))
        go_wp2
        exact EH.out
      · have e2' : ¬ (q : Int) ≤ (xd : Int) := by omega
        have B0 : donC X s q = 0 := by rw [BC.out]; simp only; rw [if_neg e1, if_neg e2]
        have B0 := Lib.hid B0
        have NG : g ≠ p := fun hm => HH.out.row.away g (by simp) (by simp [hm])
        have NY : g ≠ y := fun hm => by have := HY.out g (by simp); omega
        obtain ⟨w2, hw2⟩ : ∃ w2, w2 = w1.setCell ⟨g, i * 5 + 2, none⟩ (.int .u64 (q : Nat)) := ⟨_, rfl⟩
        have F2 : Hid (Frm [g] w1 w2) := Lib.hid (by rw [hw2]; exact (Frm.refl _ _).setCell (.inl (by simp)) _)
        have c0' := (F2.out.whole HH.out.tab (by simp; exact fun e => NG e.symm)).cell 0
        rw [← HN.out] at c0'
        simp at c0'
        have BY2 := F2.out.whole BY.out (by simp; exact fun e => NY e.symm)
        have y0' := BY2.cell 0
        have y1' := BY2.cell 1
        simp at y0' y1'
        have c3' : w2.cell? ⟨g, i * 5 + 3, none⟩ = some (.int .u64 (xl : Nat)) := by rw [hw2, World.cell?_setCell_other _ _ _ _ (by simp)]; exact c3
        have c4' : w2.cell? ⟨g, i * 5 + 3 + 1, none⟩ = some (.int .u64 (xe : Nat)) := by rw [hw2, World.cell?_setCell_other _ _ _ _ (by simp)]; exact c4
        have FR3' : w2.frozen? ⟨g, i * 5 + 3, none⟩ = false := by rw [hw2]; simpa using FR3
        have FR4' : w2.frozen? ⟨g, i * 5 + 3 + 1, none⟩ = false := by rw [hw2]; simpa using FR4
        have EH : Hid (Q (.returned (.int .i64 0)) ((w2.setCell ⟨g, i * 5 + 3, none⟩ (.int .u64 (l : Nat))).setCell ⟨g, i * 5 + 3 + 1, none⟩ (.int .u64 (e : Nat))).drew) := Lib.hid (by
          rw [HQQ.out, hw2]
          refine ⟨by rw [B0.out]; rfl, ?_⟩
          rw [BX.out B0.out]
          have r0 := World.ownsRow.stored HH.out.row.own (i * 5 + 2) (.int .u64 (q : Nat))
          have r1 := World.ownsRow.stored r0.1 (i * 5 + 3) (.int .u64 (l : Nat))
          have r2 := World.ownsRow.stored r1.1 (i * 5 + 3 + 1) (.int .u64 (e : Nat))
          have hfr : Frm [g] w1 (((w1.setCell ⟨g, i * 5 + 2, none⟩ (.int .u64 (q : Nat))).setCell ⟨g, i * 5 + 3, none⟩ (.int .u64 (l : Nat))).setCell ⟨g, i * 5 + 3 + 1, none⟩ (.int .u64 (e : Nat))) := (((Frm.refl _ _).setCell (.inl (by simp)) _).setCell (.inl (by simp)) _).setCell (.inl (by simp)) _
          refine TbTo.drew ?_
          refine ⟨some ⟨g, 0, none⟩, cap, ⟨?_, ⟨?_, fun y hy => ?_, HH.out.row.away⟩, HH.out.hp, HH.out.out, by rw [List.length_set]; exact HH.out.few⟩, F1.out.trans hfr (by simp) (fun x hx => .inl (by simp at hx; simp [hx])), fun k hk => .inl hk⟩
          · rw [List.length_set]; exact hfr.whole HH.out.tab (by simp; exact fun e => NG e.symm)
          · rw [List.length_set, SET.out]; exact r2.1
          · rcases List.mem_or_eq_of_mem_set hy with h1 | h1
            · exact HH.out.row.fits y h1
            · rw [h1]; exact ⟨FIT.out.1, HQ.out.1, HQ.out.2.1, HQ.out.2.2⟩)
        clear BY2 FR3 FR4
        go_wp2
        rw [← hw2]
        have HW2 := Lib.hid hw2; clear hw2
        go_region
        all_goals
          go_wp2
          exact EH.out
  · obtain rfl : z = -1 := by rw [HZ.out]; unfold atLI; rw [if_neg hin]
    have EH := Lib.hid (SAME.out 11 (by unfold donC; rw [if_neg hin]) (by decide))
    go_wp2
    exact EH.out
end Go.Proofs.Ytahhkffghhgojaa
