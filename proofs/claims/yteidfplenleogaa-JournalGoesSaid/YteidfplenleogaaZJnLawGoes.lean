/- JournalGoes: the walk. -/
import Derived.Test.YteidfplenleogaaZJnLawCrash
import Derived.Test.YteidfplenleogaaZInBp
namespace Go.Proofs.Yteidfplenleogaa
open Go.RowKit

theorem Dk.notin {w : World} {B p g : Nat} {F l : List Nat} {s room : Nat} {t : TypeId} {cs : Array Value} (hd : Dk w B p F l s room) (h : Whole w g t cs) (h1 : t ≠ 51) (h2 : t ≠ 66) (h3 : 5 ≠ t) : g ∉ F := by
  intro hm
  obtain ⟨_, ⟨_, rfl, hp⟩ | ⟨r, a, cap, hon, rfl⟩⟩ := hd
  · simp at hm
    subst hm
    exact Whole.ne h hp h1 rfl
  · simp only [List.mem_cons] at hm
    rcases hm with rfl | rfl | hm
    · exact Whole.ne h hon.disk h1 rfl
    · exact Whole.ne h hon.row h2 rfl
    · exact hd_ne hon.head h h3 hm

/-- At the head of the loop: what was opened last, with what was written behind it, and perhaps what was laid. -/
structure GoIn (w wr : World) (p k : Nat) (ts : List Bp) (F : List Nat) (a : Option Addr) (c : Nat) (vs : List Value) (V : List (List Nat)) (C : List Nat) : Prop where
  dk : Dk wr p p F C C.length 1048576
  row : OwnL wr w.heap.size 22 F a c V vs
  frm : Frm [] w wr
  is : recs C = V ∨ (0 < k ∧ recs C = V ++ [(ts.getD (k - 1) default).y])
  few : (recs C).length ≤ 2 * k
  small : ∀ b ∈ recs C, b.length ≤ 300
def GoRel (w : World) (p : Nat) (ts : List Bp) (u9 u23 : Value) (wr : World) : Prop :=
  ∃ k F a c vs V C, k ≤ ts.length ∧ k ≤ 16 ∧ u9 = .slice a V.length c ∧ u23 = .int .i64 (k : Nat) ∧ GoIn w wr p k ts F a c vs V C

set_option maxRecDepth 100000 in
set_option maxHeartbeats 4000000 in
theorem journalGoes_walk (a0 : Option Addr) (n c0 : Nat) (ts : List Bp) (keep bit : Int) (w : World) (h0 : Bps w a0 ts) (e0 : n = ts.length) (_f0 : n ≤ 9223372036854775807) (_k : (Lit.int .i64 keep).wf = true) (_b : (Lit.int .i64 bit).wf = true) :
    Calls Try.prog 7 #[.slice a0 n c0, .int .i64 keep, .int .i64 bit] w fun e w' => e = .returned (.bool true) ∧ Below w.heap.size w w' := by
  obtain ⟨i0, hi, hz0, hz1, hz2⟩ := info_parts Try.info22
  have HI := Lib.hid hi; clear hi
  have HZ0 := Lib.hid hz0; clear hz0
  have HZ1 := Lib.hid hz1; clear hz1
  have HZ2 := Lib.hid hz2; clear hz2
  have H0 := Lib.hid h0; clear h0
  have E0 := Lib.hid e0; clear e0
  clear _k _b
  go_enter Try.func7, Try.ntmps7
  go_wp2_with fail
  refine (awake5_any w).mono ?_
  rintro e w1 ⟨rfl, hb⟩
  have HF1 := Lib.hid (Frm.ofBelow hb); clear hb
  go_wp2_with fail
  refine (new_ok 1048576 _ (by omega)).mono ?_
  rintro e w2 ⟨rfl, hd, hf, hz⟩
  have hsz := HF1.out.size
  obtain ⟨p, hp⟩ : ∃ p, p = w1.heap.size := ⟨_, rfl⟩
  rw [← hp] at hd hsz ⊢
  have C0 : GoIn w w2 p 0 ts [p] none 0 [] [] [] := ⟨hd, OwnL.nil _ _ _ _, HF1.out.trans hf (U := []) (by simp) (by simp), .inl recs_nil.1, by rw [recs_nil.1]; simp, by rw [recs_nil.1]; simp⟩
  have HC0 := Lib.hid (show GoRel w p ts (.slice none 0 0) (.int .i64 0) w2 from ⟨0, [p], none, 0, [], [], [], Nat.zero_le _, by omega, rfl, rfl, C0⟩)
  clear hd hf hz hp HF1 C0
  go_wp2_with fail
  go_loopw [9, 23] (fun u9 u23 wr => GoRel w p ts u9 u23 wr) (fun _ u23 _ => n - (intOf u23).toNat)
  case atStart => exact HC0.out
  case round =>
    obtain ⟨k, F, a, c, vs, V, C, hk, hk16, rfl, rfl, G⟩ := hrel
    have HG := Lib.hid G; clear G
    have HFR := Lib.hid HG.out.frm
    by_cases hlt : k < n
    · obtain ⟨b, off, rfl, hi⟩ := H0.out (by have := E0.out; omega)
      have hbk := hi k (by have := E0.out; omega)
      have hbp := fun (h : 0 < k) => hi (k - 1) (by have := E0.out; omega)
      obtain ⟨t, ht⟩ : ∃ t, t = ts.getD k default := ⟨_, rfl⟩
      rw [← ht] at hbk
      have HT := Lib.hid ht; clear ht
      obtain ⟨xA, xC, x, yA, yC, y⟩ := t
      have hbr := hbk.keep HFR.out
      have q0 := hbr.c0
      have q1 := hbr.c1
      obtain ⟨_, _, bx, byy, nx, ny⟩ := hbk
      clear hbr
      simp only at q0 q1 bx byy nx ny
      obtain ⟨x', hx'⟩ : ∃ x', x' = x.length := ⟨_, rfl⟩
      obtain ⟨y', hy'⟩ : ∃ y', y' = y.length := ⟨_, rfl⟩
      rw [← hx'] at q0
      rw [← hy'] at q1
      have hx63 : x' ≤ 9223372036854775807 := by rw [hx']; exact bx.2.1
      have hy63 : y' ≤ 9223372036854775807 := by rw [hy']; exact byy.2.1
      have BX := Lib.hid bx
      have BY := Lib.hid byy
      have NX := Lib.hid nx
      have NY := Lib.hid ny
      have LX := Lib.hid hx'
      have LY := Lib.hid hy'
      have HBP := Lib.hid hbp
      clear hi hbp bx byy nx ny hx' hy' hk
      by_cases h15 : 15 < k
      · go_wp2
        go_ret
        exact ⟨rfl, (HFR.out.alloc _).new⟩
      by_cases hxb : 300 < x'
      · go_wp2
        go_ret
        exact ⟨rfl, (HFR.out.alloc _).new⟩
      by_cases hyb : 300 < y'
      · go_wp2
        go_ret
        exact ⟨rfl, (HFR.out.alloc _).new⟩
      obtain ⟨wq, hwq⟩ : ∃ wq, wq = wr.alloc (.cells #[.slice xA x' xC, .slice yA y' yC] 47) := ⟨_, rfl⟩
      obtain ⟨g, hg⟩ : ∃ g, g = wr.heap.size := ⟨_, rfl⟩
      have HA : Hid (Frm [] wr wq) := Lib.hid (by rw [hwq]; exact (Frm.refl _ _).alloc _)
      have HWg : Hid (Whole wq g 47 #[.slice xA x' xC, .slice yA y' yC]) := Lib.hid (by rw [hwq, hg]; exact Whole.made _ _ _)
      have HDq := Lib.hid (HG.out.dk.keep HA.out (by simp))
      have HRq := Lib.hid (HG.out.row.keep (F' := F) HA.out (by simp) (fun x h => .inl h))
      have HWQ := Lib.hid hwq
      have HGG := Lib.hid hg
      clear hwq hg
      obtain ⟨m, hm⟩ : ∃ m, m = V.length := ⟨_, rfl⟩
      rw [← hm]
      have HM := Lib.hid hm; clear hm
      obtain ⟨L, hL⟩ : ∃ L, L = recs C := ⟨_, rfl⟩
      have his := HG.out.is
      have hfew := HG.out.few
      have hsmall := HG.out.small
      rw [← hL] at his hfew hsmall
      obtain ⟨l, hl⟩ : ∃ l, l = L.length := ⟨_, rfl⟩
      rw [← hl] at hfew
      have hml : m ≤ l ∧ l ≤ m + 1 := by
        rw [HM.out, hl]
        rcases his with h | ⟨_, h⟩
        · rw [h]; omega
        · rw [h, List.length_append]; simp
      have htake : L.take m = V := by
        rcases his with h | ⟨_, h⟩
        · rw [h, HM.out, List.take_length]
        · rw [h, HM.out, List.take_left' rfl]
      have HLL := Lib.hid hL
      have HIS := Lib.hid his
      have HSM := Lib.hid hsmall
      have HL := Lib.hid hl
      have HTK := Lib.hid htake
      obtain ⟨hml1, hml2⟩ := hml
      clear hL his hsmall hl htake
      go_wp2_with fail
      rw [← HWQ.out]
      refine (jopen_any HDq.out).mono ?_
      rintro e w2 ⟨q, F2, a2, c2, v2, rfl, op⟩
      have hd2 := op.dk
      obtain ⟨hw1, hw2, hw3, hw4⟩ := recs_whole C HDq.out.1.1
      have hown := op.own
      rw [hw1, hw3, ← HLL.out] at hd2
      rw [← HLL.out] at hown hw2 ⊢
      rw [← HL.out]
      have HD2 := Lib.hid hd2
      have HJ2 := Lib.hid op.jn
      have HO2 := Lib.hid (show OwnL w2 w.heap.size 22 F2 a2 c2 L v2 from ⟨own_base hown.own (Nat.le_trans HFR.out.size HA.out.size), hown.ents, hown.away⟩)
      have HF2 := Lib.hid ((HFR.out.trans HA.out (U := []) (by simp) (by simp)).dk hsz HDq.out op.frm)
      have HW2 := Lib.hid (op.frm.whole HWg.out (HDq.out.notin HWg.out (by decide) (by decide) (by decide)))
      have HR2 := Lib.hid (HRq.out.keep (F' := F2) op.frm (fun x h => .inl h) op.new)
      have HFT := Lib.hid hw2
      have hcap : l ≤ c2 := by rw [HL.out]; exact HO2.out.caps.1
      have hcut := fun w => run_head_h Try.underlying31 sizeL w a2 l c2 m (by omega)
      have S1 := Lib.hid (HO2.out.ll.take m)
      rw [HTK.out] at S1
      have S2 := Lib.hid HR2.out.ll
      clear op hd2 hown hw1 hw2 hw3 hw4 HA HWg HDq HRq HWQ
      go_wp2_with fail
      refine (same_true _ _ _ _ _ _ _ _ _ S1.out S2.out HM.out (by omega)).mono ?_
      rintro e w3 ⟨rfl, d, rfl⟩
      have hxs : x.length ≤ 300 := by have := LX.out; omega
      have hys : y.length ≤ 300 := by have := LY.out; omega
      have hal : (allF L).length ≤ 308 * l := by rw [HL.out]; exact allF_len HSM.out
      have hal2 : (allF L ++ fr x).length ≤ 308 * l + 308 := by rw [List.length_append, fr_length]; omega
      have hjc1 : jc (allF L) x 1048576 = 0 := by unfold jc; rw [if_neg (by omega), if_neg (by omega)]
      have hjc2 : jc (allF L ++ fr x) y 1048576 = 0 := by unfold jc; rw [if_neg (by omega), if_neg (by omega)]
      have JC1 := Lib.hid hjc1
      have JC2 := Lib.hid hjc2
      have JL1 : Hid (jl (allF L) x 1048576 = allF L ++ fr x) := Lib.hid (by unfold jl; rw [if_pos hjc1])
      have JS1 : Hid (js (allF L) x (allF L).length 1048576 = (allF L ++ fr x).length) := Lib.hid (by unfold js; rw [if_pos hjc1])
      have JL2 : Hid (jl (allF L ++ fr x) y 1048576 = allF L ++ fr x ++ fr y) := Lib.hid (by unfold jl; rw [if_pos hjc2])
      have NEXT : Hid ((recs (crashed (allF L ++ fr x ++ fr y) (allF L ++ fr x).length keep bit) = L ++ [x] ∨ (0 < k + 1 ∧ recs (crashed (allF L ++ fr x ++ fr y) (allF L ++ fr x).length keep bit) = L ++ [x] ++ [(ts.getD (k + 1 - 1) default).y])) ∧
          (recs (crashed (allF L ++ fr x ++ fr y) (allF L ++ fr x).length keep bit)).length ≤ 2 * (k + 1) ∧ ∀ b ∈ recs (crashed (allF L ++ fr x ++ fr y) (allF L ++ fr x).length keep bit), b.length ≤ 300) := Lib.hid (by
        have e1 : allF L ++ fr x = allF (L ++ [x]) := by rw [allF_append, allF_one]
        have e2 : allF L ++ fr x ++ fr y = allF ((L ++ [x]) ++ [y]) := by rw [allF_append, allF_one, e1]
        obtain ⟨j, hj, hr⟩ := recs_crashed (L ++ [x]) [y] keep bit (HFT.out.append (Fit.one (by omega) BX.out.1)) (Fit.one (by omega) BY.out.1)
        rw [e2, e1, hr]
        have hy : (ts.getD (k + 1 - 1) default).y = y := by rw [Nat.add_sub_cancel, ← HT.out]
        rw [hy]
        have hl2 := HL.out
        have h300 : ∀ b ∈ L ++ [x], b.length ≤ 300 := fun b hb => by
          rcases List.mem_append.1 hb with h | h
          · exact HSM.out b h
          · simp at h; rw [h]; exact hxs
        have hj' : j = 0 ∨ j = 1 := by simp at hj; omega
        rcases hj' with rfl | rfl
        · rw [List.take_zero, List.append_nil]
          exact ⟨.inl rfl, by simp; omega, h300⟩
        · refine ⟨.inr ⟨by omega, rfl⟩, by simp; omega, fun b hb => ?_⟩
          rcases List.mem_append.1 hb with h | h
          · exact h300 b h
          · simp at h; rw [h]; exact hys)
      have k0 := HW2.out.cell 0
      have k1 := HW2.out.cell 1
      rw [HGG.out] at k0 k1
      simp at k0 k1
      clear hxs hys hal hal2 hjc1 hjc2
      rcases (show l = m ∨ l = m + 1 by omega) with hlm | hlm
      · subst hlm
        go_wp2_with fail
        go_quiet (fail)
        go_wp2_with fail
        refine (jwrite_any xA x' xC x (HD2.out.keep ((Frm.refl [] w2).drewN _) (by simp)) (HJ2.out.keep ((Frm.refl [] w2).drewN _) (by simp)) (((Frm.refl [] w2).drewN _).bytes (HF2.out.bytes BX.out (by simp)) (by simp)) LX.out NX.out).mono ?_
        rintro e w4 ⟨rfl, hd4⟩
        rw [JC1.out]
        rw [JL1.out, JS1.out] at hd4
        obtain ⟨F4, hd4, hf4, hx4⟩ := hd4.early ((Frm.refl [] w2).drewN _)
        have HD4 := Lib.hid hd4
        have HJ4 := Lib.hid (HJ2.out.keep hf4 (HJ2.out.notin HD2.out))
        have HW4 := Lib.hid (hf4.whole HW2.out (HD2.out.notin HW2.out (by decide) (by decide) (by decide)))
        have HF4 := Lib.hid (HF2.out.dk hsz HD2.out hf4)
        have HO4 := Lib.hid (HO2.out.keep (F' := F4) hf4 (fun x h => .inl h) hx4)
        clear hd4 hf4 hx4 HD2 HJ2 HW2 HO2 k0 k1
        have k1 := HW4.out.cell 1
        rw [HGG.out] at k1
        simp at k1
        go_wp2_with fail
        refine (jlay_any yA y' yC y HD4.out HJ4.out (HF4.out.bytes BY.out (by simp)) LY.out NY.out).mono ?_
        rintro e w5 ⟨rfl, F5, hd5, hf5, hx5⟩
        rw [JC2.out]
        rw [JL2.out] at hd5
        have HD5 := Lib.hid hd5
        have HW5 := Lib.hid (hf5.whole HW4.out (HD4.out.notin HW4.out (by decide) (by decide) (by decide)))
        have HF5 := Lib.hid (HF4.out.dk hsz HD4.out hf5)
        have HO5 := Lib.hid (HO4.out.keep (F' := F5) hf5 (fun x h => .inl h) hx5)
        clear hd5 hf5 hx5 HD4 HJ4 HW4 HF4 HO4 k1
        have k0 := HW5.out.cell 0
        rw [HGG.out] at k0
        simp at k0
        obtain ⟨w6, hw6⟩ : ∃ w6, w6 = w5.alloc (.cells #[.slice xA x' xC] 22) := ⟨_, rfl⟩
        have hf6 : Frm [] w5 w6 := by rw [hw6]; exact (Frm.refl _ _).alloc _
        have ho6 := HO5.out.keep (F' := F5) hf6 (by simp) (fun x h => .inl h)
        have he6 : Ents w6 (blk a2 ++ F5) [.slice xA x' xC] [x] := by
          refine Ents.sole ((HF5.out.trans hf6 (U := []) (by simp) (by simp)).bytes BX.out (by simp)) LX.out NX.out (fun hne z hz hm => ?_)
          have h1 := bytes_lt BX.out hne z hz
          rcases List.mem_append.1 hm with h | h
          · have := (HO5.out.blk_lt _ h).1; omega
          · have := (HD5.out.lt _ h).1; omega
        have hv6 : ValsAt w6 (some ⟨w5.heap.size, 0, none⟩) [.slice xA x' xC] := by rw [hw6]; exact ValsAt.one _ _ _
        have ho6' := ho6.own
        rw [← HL.out] at ho6'
        have HO6 := Lib.hid ho6
        have HOW := Lib.hid ho6'
        have HE6 := Lib.hid he6
        have HV6 := Lib.hid hv6
        have HD6 := Lib.hid (HD5.out.keep hf6 (by simp))
        have HF6 := Lib.hid (HF5.out.trans hf6 (U := []) (by simp) (by simp))
        have HW6 := Lib.hid hw6
        have hfit : l + 1 ≤ 1000000000 := by omega
        clear hw6 hf6 ho6 he6 hv6 ho6' HO5 HF5
        go_wp2_with (at_builtin; rw [← HW6.out]; refine wpList_appV rfl (.tmp 108) (.tmp 111) 31 rfl w.heap.size 22 i0 (.slice none 0 0) 24 Try.underlying31 HI.out HZ0.out rfl HZ1.out HZ2.out (by decide) (.slice a2 l c2) l v2 rfl HOW.out _ 1 1 _ rfl HV6.out rfl HE6.out.one' (fun h => by cases h) hfit HF6.out.size ?_)
        intro a7 c7 w7 happ
        obtain ⟨g1, g2, g3, g4⟩ := HO6.out.app HL.out HE6.out rfl (fun x hx => (HD6.out.lt x hx).2) happ
        have HD7 := Lib.hid (HD6.out.keep g2 (fun x hx hm => HO6.out.away x hm hx))
        have HO7 := Lib.hid g1
        have HF7 := Lib.hid (HF6.out.trans g2 (U := []) (by simp) (fun x hx => .inr (HO6.out.blk_lt x hx).1))
        have HL7 := Lib.hid g4
        clear happ g1 g2 g3 g4 HO6 HOW HE6 HV6 HD6 HF6 HW6 HD5 HW5 k0
        go_wp2_with fail
        refine (crash_any keep bit HD7.out).mono ?_
        rintro e w8 ⟨rfl, F8, hd8, hf8, hx8⟩
        have HFIN : Hid (GoIn w w8 p (k + 1) ts F8 a7 c7 _ (L ++ [x]) _) := Lib.hid ⟨hd8, HO7.out.keep hf8 (fun x h => .inl h) hx8, HF7.out.dk hsz HD7.out hf8, NEXT.out.1, NEXT.out.2.1, NEXT.out.2.2⟩
        clear hd8 hf8 hx8 HD7 HO7 HF7
        go_wp2
        go_round
        case rel => exact ⟨k + 1, F8, a7, c7, _, L ++ [x], _, by have := E0.out; omega, by omega, by rw [← HL7.out]; rfl, by go_num, HFIN.out⟩
        case measure => simp [intOf]; omega
      · obtain ⟨kp, hk1⟩ : ∃ kp, k = kp + 1 := by
          rcases HIS.out with h | ⟨h, _⟩
          · exfalso
            have h1 := HL.out
            have h2 := HM.out
            rw [h] at h1
            omega
          · exact ⟨k - 1, by omega⟩
        have hLV : L = V ++ [(ts.getD (k - 1) default).y] := by
          rcases HIS.out with h | ⟨_, h⟩
          · exfalso
            have h1 := HL.out
            have h2 := HM.out
            rw [h] at h1
            omega
          · exact h
        have hbq := HBP.out (by omega)
        rw [show k - 1 = kp by omega] at hLV hbq
        obtain ⟨z1, hz1⟩ : ∃ z1, z1 = ts.getD kp default := ⟨_, rfl⟩
        rw [← hz1] at hLV hbq
        have hgd : L.getD m [] = z1.y := by rw [hLV, HM.out]; simp [List.getD]
        obtain ⟨b2, o2, rfl, ai, ci, d1, d2, _⟩ := HO2.out.ll.at (i := m) (by have := HL.out; omega)
        rw [hgd] at d1 d2
        have d3 := (hbq.keep HF2.out).c1
        have d4 := (hbq.keep HF2.out).byy
        obtain ⟨zl, hzl⟩ : ∃ zl, zl = z1.y.length := ⟨_, rfl⟩
        obtain ⟨zA, hzA⟩ : ∃ zA, zA = z1.yA := ⟨_, rfl⟩
        obtain ⟨zC, hzC⟩ : ∃ zC, zC = z1.yC := ⟨_, rfl⟩
        rw [← hzl] at d1
        rw [← hzl, ← hzA, ← hzC] at d3
        rw [← hzA] at d4
        have v1 : ∀ q, (convert 22 9 (.slice ai zl ci)).run Try.prog (w2.drewN q) = .ok (.string (strOf z1.y)) (w2.drewN q) := fun q =>
          run_to_string Try.underlying22 Try.underlying5 Try.underlying9 (((Frm.refl [] w2).drewN q).bytes d2 (by simp)) hzl
        have v2 : ∀ q, (convert 22 9 (.slice zA zl zC)).run Try.prog (w2.drewN q) = .ok (.string (strOf z1.y)) (w2.drewN q) := fun q =>
          run_to_string Try.underlying22 Try.underlying5 Try.underlying9 (((Frm.refl [] w2).drewN q).bytes d4 (by simp)) hzl
        obtain ⟨Z, hZ⟩ : ∃ Z, Z = strOf z1.y := ⟨_, rfl⟩
        rw [← hZ] at v1 v2
        have hdm : decide (m < l) = true := by simp; omega
        have hsub : IntKind.i64.wrap ((k : Int) - 1) = (kp : Int) := by
          have := IntWalk.i64_in ((k : Int) - 1) (by omega)
          omega
        have hkpn : kp < n := by omega
        have hml3 : m < l := by omega
        have HK1 := Lib.hid hk1
        have HLM := Lib.hid hlm
        clear hLV hbq hz1 hgd d2 d4 hzl hzA hzC hZ hlm hk1
        go_wp2_with fail
        go_quiet (fail)
        clear d1 d3 v1 v2 hdm hsub
        go_wp2_with fail
        refine (jwrite_any xA x' xC x (HD2.out.keep ((Frm.refl [] w2).drewN _) (by simp)) (HJ2.out.keep ((Frm.refl [] w2).drewN _) (by simp)) (((Frm.refl [] w2).drewN _).bytes (HF2.out.bytes BX.out (by simp)) (by simp)) LX.out NX.out).mono ?_
        rintro e w4 ⟨rfl, hd4⟩
        rw [JC1.out]
        rw [JL1.out, JS1.out] at hd4
        obtain ⟨F4, hd4, hf4, hx4⟩ := hd4.early ((Frm.refl [] w2).drewN _)
        have HD4 := Lib.hid hd4
        have HJ4 := Lib.hid (HJ2.out.keep hf4 (HJ2.out.notin HD2.out))
        have HW4 := Lib.hid (hf4.whole HW2.out (HD2.out.notin HW2.out (by decide) (by decide) (by decide)))
        have HF4 := Lib.hid (HF2.out.dk hsz HD2.out hf4)
        have HO4 := Lib.hid (HO2.out.keep (F' := F4) hf4 (fun x h => .inl h) hx4)
        clear hd4 hf4 hx4 HD2 HJ2 HW2 HO2 k0 k1
        have k1 := HW4.out.cell 1
        rw [HGG.out] at k1
        simp at k1
        go_wp2_with fail
        refine (jlay_any yA y' yC y HD4.out HJ4.out (HF4.out.bytes BY.out (by simp)) LY.out NY.out).mono ?_
        rintro e w5 ⟨rfl, F5, hd5, hf5, hx5⟩
        rw [JC2.out]
        rw [JL2.out] at hd5
        have HD5 := Lib.hid hd5
        have HW5 := Lib.hid (hf5.whole HW4.out (HD4.out.notin HW4.out (by decide) (by decide) (by decide)))
        have HF5 := Lib.hid (HF4.out.dk hsz HD4.out hf5)
        have HO5 := Lib.hid (HO4.out.keep (F' := F5) hf5 (fun x h => .inl h) hx5)
        clear hd5 hf5 hx5 HD4 HJ4 HW4 HF4 HO4 k1
        have k0 := HW5.out.cell 0
        rw [HGG.out] at k0
        simp at k0
        obtain ⟨w6, hw6⟩ : ∃ w6, w6 = w5.alloc (.cells #[.slice xA x' xC] 22) := ⟨_, rfl⟩
        have hf6 : Frm [] w5 w6 := by rw [hw6]; exact (Frm.refl _ _).alloc _
        have ho6 := HO5.out.keep (F' := F5) hf6 (by simp) (fun x h => .inl h)
        have he6 : Ents w6 (blk (some ⟨b2, o2, none⟩) ++ F5) [.slice xA x' xC] [x] := by
          refine Ents.sole ((HF5.out.trans hf6 (U := []) (by simp) (by simp)).bytes BX.out (by simp)) LX.out NX.out (fun hne z hz hm => ?_)
          have h1 := bytes_lt BX.out hne z hz
          rcases List.mem_append.1 hm with h | h
          · have := (HO5.out.blk_lt _ h).1; omega
          · have := (HD5.out.lt _ h).1; omega
        have hv6 : ValsAt w6 (some ⟨w5.heap.size, 0, none⟩) [.slice xA x' xC] := by rw [hw6]; exact ValsAt.one _ _ _
        have ho6' := ho6.own
        rw [← HL.out] at ho6'
        have HO6 := Lib.hid ho6
        have HOW := Lib.hid ho6'
        have HE6 := Lib.hid he6
        have HV6 := Lib.hid hv6
        have HD6 := Lib.hid (HD5.out.keep hf6 (by simp))
        have HF6 := Lib.hid (HF5.out.trans hf6 (U := []) (by simp) (by simp))
        have HW6 := Lib.hid hw6
        have hfit : l + 1 ≤ 1000000000 := by omega
        clear hw6 hf6 ho6 he6 hv6 ho6' HO5 HF5
        go_wp2_with (at_builtin; rw [← HW6.out]; refine wpList_appV rfl (.tmp 108) (.tmp 111) 31 rfl w.heap.size 22 i0 (.slice none 0 0) 24 Try.underlying31 HI.out HZ0.out rfl HZ1.out HZ2.out (by decide) (.slice (some ⟨b2, o2, none⟩) l c2) l v2 rfl HOW.out _ 1 1 _ rfl HV6.out rfl HE6.out.one' (fun h => by cases h) hfit HF6.out.size ?_)
        intro a7 c7 w7 happ
        obtain ⟨g1, g2, g3, g4⟩ := HO6.out.app HL.out HE6.out rfl (fun x hx => (HD6.out.lt x hx).2) happ
        have HD7 := Lib.hid (HD6.out.keep g2 (fun x hx hm => HO6.out.away x hm hx))
        have HO7 := Lib.hid g1
        have HF7 := Lib.hid (HF6.out.trans g2 (U := []) (by simp) (fun x hx => .inr (HO6.out.blk_lt x hx).1))
        have HL7 := Lib.hid g4
        clear happ g1 g2 g3 g4 HO6 HOW HE6 HV6 HD6 HF6 HW6 HD5 HW5 k0
        go_wp2_with fail
        refine (crash_any keep bit HD7.out).mono ?_
        rintro e w8 ⟨rfl, F8, hd8, hf8, hx8⟩
        have HFIN : Hid (GoIn w w8 p (k + 1) ts F8 a7 c7 _ (L ++ [x]) _) := Lib.hid ⟨hd8, HO7.out.keep hf8 (fun x h => .inl h) hx8, HF7.out.dk hsz HD7.out hf8, NEXT.out.1, NEXT.out.2.1, NEXT.out.2.2⟩
        clear hd8 hf8 hx8 HD7 HO7 HF7
        go_wp2
        go_round
        case rel => exact ⟨k + 1, F8, a7, c7, _, L ++ [x], _, by have := E0.out; omega, by omega, by rw [← HL7.out]; rfl, by go_num, HFIN.out⟩
        case measure => simp [intOf]; omega
    · go_wp2
      go_ret
      exact ⟨rfl, HFR.out.new⟩
end Go.Proofs.Yteidfplenleogaa
